import Derived.Test.YtahnliehdjncdabGreatDoorXBL
import Derived.Test.YtahnliehdjncdabGreatDoorXBI
import Derived.Test.YtahnliehdjncdabGreatDoorXBK
set_option maxRecDepth 100000
set_option maxHeartbeats 16000000
namespace Go.Proofs.YtahnliehdjncdabGreatDoor
section
open Go.RowKit
theorem qZw{w2 w3:World}{O:Obj}{e:Nat}{v nv:Value}{clock:Int}{ps:List (SB×Ser)}{b2:SB}{x:Ser}{gg m cap':Nat}(hE:ERep w2 e v clock ps)(hm:ps.length=m)(hnv:nv=.slice (some ⟨gg,0,none⟩) (m+1) cap')(hs2:SRep w2 b2 x)(hap:∀i,b2.foot x.k i->¬EFoot e v ps i)(hown:w3.ownsRow 0 74 1 nv (m+1) (ptrs ps++[.pointer (some ⟨b2.s,0,none⟩)]))(hgrow:(w2.alloc O).grownBy w3 v.ownBlock)(hat:v.ownBlock=some gg\/gg=w2.heap.size+1):
  ERep (w3.setCell ⟨e,1,none⟩ nv) e nv clock (ps++[(b2,x)])/\Keeps (EFoot e v ps) w2 (w3.setCell ⟨e,1,none⟩ nv)/\(∀i,EFoot e nv (ps++[(b2,x)]) i->EFoot e v ps i\/b2.foot x.k i\/w2.heap.size<=i):=by
 have hnb:nv.ownBlock=some gg:=by rw[hnv];rfl
 have hk3:Keeps (λi=>v.ownBlock=some i) w2 w3:=((Keeps.refl (λi=>v.ownBlock=some i) w2).alloc O).grown hgrow (λk hk=>Or.inl hk)
 have hk4:Keeps (λi=>i=e) w3 (w3.setCell ⟨e,1,none⟩ nv):=(Keeps.refl (λi=>i=e) w3).setCell (p:=⟨e,1,none⟩) (Or.inl rfl) _
 have hele:=hE.blk.lt
 have hge:gg≠e:=by
  rcases hat with h | h
  ·intro he;exact hE.ev (by rw[h,he])
  ·omega
 have hsnew:SRep w3 b2 x:=hs2.keeps hk3 (λi hi h=>hap i hi (.inr (.inl h)))
 refine⟨⟨?_,?_,?_,?_,?_,?_⟩,?_,?_⟩
 ·exact(hE.blk.keeps hk3 (λh=>hE.ev h)).setCell 1 nv
 ·have:=qAz hown hk4 (λi hi h=>by rw[hnb]at hi;injection hi with hi;omega)
  rw[qKf,List.length_append,hm]
  exact this
 ·intro p hp
  rcases List.mem_append.1 hp with hp | hp
  ·exact((hE.reps p hp).keeps hk3 (λi hi h=>(hE.ef p hp i hi).2 h)).keeps hk4 (λi hi h=>(hE.ef p hp i hi).1 h)
  ·rw[List.mem_singleton]at hp;subst hp
   exact hsnew.keeps hk4 (λi hi h=>hap i hi (.inl h))
 ·refine List.pairwise_append.2 ⟨hE.apart,List.pairwise_singleton _ _,?_⟩
  intro p hp q hq i hi hqi
  rw[List.mem_singleton]at hq;subst hq
  exact hap i hqi (.inr (.inr ⟨p,hp,hi⟩))
 ·rw[hnb];intro h;injection h with h;exact hge h
 ·intro p hp i hi
  rw[hnb]
  rcases List.mem_append.1 hp with hp | hp
  ·refine⟨(hE.ef p hp i hi).1,λh=>?_⟩
   injection h with h
   have h1:=(hE.reps p hp).lt i hi
   rcases hat with h2 | h2
   ·exact(hE.ef p hp i hi).2 (by rw[h2,h])
   ·omega
  ·rw[List.mem_singleton]at hp;subst hp
   have h2:=hs2.lt i hi
   refine⟨λh=>hap i hi (.inl h),λh=>?_⟩
   injection h with h
   rcases hat with h3 | h3
   ·exact hap i hi (.inr (.inl (by rw[h3,h])))
   ·omega
 ·exact(hk3.mono (M':=EFoot e v ps) (λi _ h=>.inr (.inl h))).trans hk4 (λi hi _=>.inl hi)
 ·intro i hi
  rcases hi with hi | hi | ⟨p,hp,hi⟩
  ·exact .inl (.inl hi)
  ·rw[hnb]at hi;injection hi with hi
   rcases hat with h | h
   ·exact .inl (.inr (.inl (by rw[h,hi])))
   ·exact .inr (.inr (by omega))
  ·rcases List.mem_append.1 hp with hp | hp
   ·exact .inl (.inr (.inr ⟨p,hp,hi⟩))
   ·rw[List.mem_singleton]at hp;subst hp
    exact .inr (.inl hi)
structure LdAll (xs:List Ser) (can:Ser->Ser) (clock:Int):Prop where
 six:xs.length<=6
 c0:0<=clock
 c1:clock<=4611686018427387904
 ids:(xs.map (·.id)).Nodup
 cid:∀x,x∈xs->(can x).id=x.id
 nums:∀x,x∈xs->qCz clock (can x)=qCz clock x
 ok:∀x,x∈xs->SerOk (can x)
 len:(qGw clock xs).length<=140737488355328
 sum:0<=qJy (qGc clock xs)/\qJy (qGc clock xs)<=9223372036854775807
 ld:∀x,x∈xs->∀(r:Nat) (tl:List Nat) (w:World),RdRep w r (qB2 (qCz clock x)++tl)->Calls Tryz.prog 89 #[.pointer (some ⟨r,0,none⟩),.int .i64 clock] w λe w'=>∃sb:SB,e=.returned (.pointer (some ⟨sb.s,0,none⟩))/\SRep w' sb (can x)/\RdRep w' r tl/\(∀i,sb.foot (can x).k i->w.heap.size<=i)/\Keeps (λi=>i=r) w w'
theorem qVy{xs:List Ser}{can:Ser->Ser}{clock:Int}(h:∀x,x∈xs->qCz clock (can x)=qCz clock x): qD2 clock (xs.map can)=qD2 clock xs:=by
 have h1:qDg clock (xs.map can)=qDg clock xs:=by
  unfold qDg
  rw[List.flatMap_map]
  induction xs with
  | nil=>rfl
  | cons x l ih =>
   rw[List.flatMap_cons,List.flatMap_cons,h x (by simp),ih (λy hy=>h y (by simp[hy]))]
 unfold qD2 qGw qGc qCv
 rw[h1,List.length_map]
attribute [local go_sem ↓ 2000] qJi
theorem qUe(xs:List Ser)(can:Ser->Ser)(clock:Int)(w:World)(h:LdAll xs can clock):
  Calls Tryz.prog 61 #[.string (qD2 clock xs)] w λres w'=>∃(e:Nat) (v:Value) (ps:List (SB×Ser)),res=.returned (.pointer (some ⟨e,0,none⟩))/\ERep w' e v clock ps/\ps.map (·.2)=xs.map can/\(∀i,EFoot e v ps i->w.heap.size<=i)/\Keeps (λ_=>False) w w':=by
 have HH:=hide h
 have c0:=h.c0
 have c1:=h.c1
 have six:=h.six
 obtain⟨sm,hsm⟩:∃sm,enc (qJy (qGc clock xs))=sm:=⟨_,rfl⟩
 have hsv:qGw clock xs=qCs++(enc clock++(enc (xs.length:Int)++(qB2 (qDg clock xs)++sm))):=by
  unfold qGw
  rw[hsm]
  unfold qGc qCv
  rw[qBk,qBk]
  simp only[List.append_assoc]
 have hlen:=h.len
 rw[hsv]at hlen
 have hB:qD2 clock xs=qEn (qCs++(enc clock++(enc (xs.length:Int)++(qB2 (qDg clock xs)++sm)))):=by unfold qD2;rw[hsv]
 have HB:=hide hB
 have HNR:=hide (qOh (enc clock++(enc (xs.length:Int)++(qB2 (qDg clock xs)++sm))) w (by rw[List.length_append]at hlen;omega))
 rw[<-hB]at HNR
 clear h hsm hsv hlen hB
 generalize hst:qD2 clock xs=st at *
 have HST:=hide hst
 clear hst
 generalize hn:xs.length=n at *
 have HN:=hide hn
 clear hn
 go_enter Tryz.func61,Tryz.ntmps61
 go_wp2_with fail
 refine(uh HNR).mono ?_
 rintro res w1 ⟨r,rfl,hrw,hr1,hk1⟩
 have HK1:=hide hk1
 have hr1l:=hr1.blk.lt
 have HR1:=hide hr1
 clear hr1 hk1 HNR
 go_wp2_with fail
 refine(qDq r clock 0 4611686018427387904 _ w1 (uh HR1) c0 (by omega) c0 c1).mono ?_
 rintro res w2 ⟨rfl,hr2,hk2⟩
 have hs2:=hk2.size
 have HE3:=hide (show ERep (w2.alloc (.cells #[.int .i64 clock,.slice none 0 0] 60)) w2.heap.size (.slice none 0 0) clock [] from⟨Blk.new w2 [_,_] _,World.ownsRow_nil _ _ _ _,λp hp=>by simp at hp,List.Pairwise.nil,by simp[Value.ownBlock],λp hp=>by simp at hp⟩)
 have HR3:=hide (hr2.keeps ((Keeps.refl (λ_=>False) w2).alloc (.cells #[.int .i64 clock,.slice none 0 0] 60)) (λh=>h))
 have HK3:=hide (show Keeps (λ_=>False) w (w2.alloc (.cells #[.int .i64 clock,.slice none 0 0] 60)) from((uh HK1).trans hk2 (λi hi hlt=>by have h2:i=r:=hi;omega)).alloc _)
 have her:w2.heap.size≠r:=by omega
 have hwe:w.heap.size<=w2.heap.size:=by have:=(uh HK1).size;omega
 clear hr2 hk2 HR1 HK1
 go_wp2_with fail
 generalize w2.alloc (.cells #[.int .i64 clock,.slice none 0 0] 60)=w3 at *
 generalize w2.heap.size=e at *
 refine(qDq r (n:Int) 0 6 _ w3 (uh HR3) (by omega) (by omega) (by omega) (by omega)).mono ?_
 rintro res w4 ⟨rfl,hr4,hk4⟩
 have HE4:=hide ((uh HE3).keepsM hk4 (λi hi=>by
      rcases hi with h | h | ⟨p,hp,_⟩
      ·intro h2;have h3:i=r:=h2;omega
      ·simp[Value.ownBlock]at h
      ·simp at hp))
 have HR4:=hide hr4
 have HK4:=hide (show Keeps (λ_=>False) w w4 from(uh HK3).trans hk4 (λi hi hlt=>by have h2:i=r:=hi;omega))
 clear hr4 hk4 HE3 HR3 HK3
 go_wp2_with fail
 go_loopw [14] (λiv wr=>∃(i:Nat) (v:Value) (ps:List (SB×Ser)),i<=n/\iv=.int .i64 i/\Hid (ERep wr e v clock ps)/\Hid (ps.map (·.2)=(xs.take i).map can)/\Hid (RdRep wr r (qB2 (qDg clock (xs.drop i))++sm))/\Hid (∀j,EFoot e v ps j->w.heap.size<=j/\j≠r)/\Hid (Keeps (λ_=>False) w wr)) (λiv _=>n-(intOf iv).toNat)
 case atStart=>exact⟨0,.slice none 0 0,[],by omega,rfl,HE4,rfl,HR4,(λj hj=>by
      rcases hj with h | h | ⟨p,hp,_⟩
      ·exact⟨by omega,by omega⟩
      ·simp[Value.ownBlock]at h
      ·simp at hp),HK4⟩
 case round =>
  clear HE4 HR4 HK4
  obtain⟨i,v,ps,hi,rfl,HE,HPS,HR,HF,HK⟩:=hrel
  have HPL:=hide (show ps.length=i by
     have:=congrArg List.length (uh HPS)
     rw[List.length_map,List.length_map,List.length_take,uh HN]at this
     omega)
  by_cases hin:i<n
  ·have hix:i<xs.length:=by rw[uh HN];exact hin
   obtain⟨x,hx⟩:∃x,xs[i]?=some x:=⟨_,List.getElem?_eq_getElem hix⟩
   have hxm:=List.mem_of_getElem? hx
   have HLD:=hide ((uh HH).ld x hxm r (qB2 (qDg clock (xs.drop (i+1)))++sm) wr (by
        have h1:qDg clock (xs.drop i)=qCz clock x++qDg clock (xs.drop (i+1)):=by
         rw[List.drop_eq_getElem_cons hix]
         rw[List.getElem?_eq_getElem hix]at hx
         injection hx with hx
         rw[hx];simp[qDg]
        have h2:=uh HR
        rw[h1,qAr,List.append_assoc]at h2
        exact h2))
   have HTK:=hide (show(xs.take (i+1)).map can=(xs.take i).map can++[can x] by
      rw[List.take_add_one,hx,List.map_append];rfl)
   have HFN:=hide (show qDx ps (can x).id=none by
      unfold qDx
      rw[List.find?_eq_none]
      intro p hp hpe
      have hid:p.2.id=(can x).id:=by simpa using hpe
      have hpm:p.2∈(xs.take i).map can:=by rw[<-uh HPS];exact List.mem_map_of_mem hp
      obtain⟨y,hy,hyp⟩:=List.mem_map.1 hpm
      rw[<-hyp,(uh HH).cid y (List.mem_of_mem_take hy),(uh HH).cid x hxm]at hid
      obtain⟨j,hj,hjy⟩:=List.mem_iff_getElem.1 hy
      rw[List.length_take]at hj
      rw[List.getElem_take]at hjy
      rw[List.getElem?_eq_getElem hix]at hx
      injection hx with hx
      have hnd:=List.pairwise_iff_getElem.1 (uh HH).ids j i (by rw[List.length_map];omega) (by rw[List.length_map];exact hix) (by omega)
      rw[List.getElem_map,List.getElem_map,hjy,hx]at hnd
      exact hnd hid)
   have hcl:wr.cell? ⟨e,0,none⟩=some (.int .i64 clock):=(uh HE).blk.cell rfl
   have hii:(i:Int)<(n:Int):=by omega
   go_wp2_with fail
   refine(uh HLD).mono ?_
   rintro res w5 ⟨sb,rfl,hs5,hr5,hn5,hk5⟩
   have HE5:=hide ((uh HE).keepsM hk5 (λj hj=>(uh HF j hj).2))
   have HS5:=hide hs5
   have HR5:=hide hr5
   have hid5:w5.cell? ⟨sb.s,0,none⟩=some (.int .i64 (can x).id):=hs5.blk.cell rfl
   have HAP:=hide (show ∀j,sb.foot (can x).k j->¬EFoot e v ps j from λj hj hE=>by
      have h1:=hn5 j hj
      have h2:=(uh HE).lt j hE
      omega)
   have HNW:=hide (show ∀j,sb.foot (can x).k j->w.heap.size<=j/\j≠r from λj hj=>by
      have h1:=hn5 j hj
      have h2:=(uh HK).size
      have h3:=(uh HR).blk.lt
      omega)
   have HK5:=hide (show Keeps (λ_=>False) w w5 from(uh HK).trans hk5 (λj hj hlt=>by have h2:j=r:=hj;omega))
   have HFA:=hide (qDl e v clock (can x).id ps w5 (uh HE5) (by rw[uh HPL];omega))
   rw[uh HFN]at HFA
   clear hs5 hr5 hn5 hk5 hcl HLD HE HR HK hx
   go_wp2_with fail
   refine(uh HFA).mono ?_
   rintro res w6 ⟨rfl,hw6⟩
   rw[hw6]
   clear hw6 w6 HFA
   obtain⟨va,vcap,hv,hva⟩:=qB4 (uh HE5).row
   rw[uh HPL]at hv
   subst hv
   have hv5:w5.cell? ⟨e,1,none⟩=some (.slice va i vcap):=(uh HE5).blk.cell rfl
   have hfe:=(uh HE5).blk.frozen
   obtain⟨gg,cap',w7,hrun7,hown7,hgrow,hat,hlt7⟩:=qJa w5 va i vcap (ptrs ps) (.pointer (some ⟨sb.s,0,none⟩)) rfl (by have:=(uh HE5).row;rw[uh HPL]at this;exact this) (by omega)
   have hel:=(uh HE5).blk.lt
   have hc7:w7.cell? ⟨e,1,none⟩=some (.slice va i vcap):=by
    rw[hgrow.cell_far ⟨e,1,none⟩ (by simp;omega) (λh=>(uh HE5).ev h.symm),World.cell?_alloc_lt _ _ _ hel];exact hv5
   have hf7:∀j,w7.frozen? ⟨e,j,none⟩=false:=λj=>by
    rw[hgrow.frozen_far ⟨e,j,none⟩ (by simp;omega) (λh=>(uh HE5).ev h.symm),World.frozen?_alloc_old _ _ _ (by show e≠_;omega)];exact hfe j
   have HPU:=hide (qZw (nv:=.slice (some ⟨gg,0,none⟩) (i+1) cap') (uh HE5) (uh HPL) rfl (uh HS5) (uh HAP) hown7 hgrow hat)
   have hs57:=hgrow.size
   clear hown7 hgrow hat
   unfold qI0
   go_wp2
   go_roundw
   case rel =>
    obtain⟨p1,p2,p3⟩:=uh HPU
    refine⟨i+1,_,ps++[(sb,can x)],by omega,by go_num,hide p1,hide (by rw[List.map_append,uh HPS,uh HTK];rfl),hide ((uh HR5).keeps p2 (λh=>(uh HF r h).2 rfl)),hide (λj hj=>?_),hide ((uh HK5).trans p2 (λj hj hlt=>by have:=(uh HF j hj).1;omega))⟩
    rcases p3 j hj with h | h | h
    ·exact uh HF j h
    ·exact uh HNW j h
    ·have h1:=(uh HK5).size
     have h2:=(uh HR5).blk.lt
     omega
   case measure=>simp[intOf];omega
  ·have hie:i=n:=by omega
   subst hie
   have hff:decide ((i:Int)<(i:Int))=false:=by simp
   have HPX:=hide (show ps.map (·.2)=xs.map can by
      have:=uh HPS
      rw[List.take_of_length_le (by rw[uh HN];exact Nat.le_refl _)]at this
      exact this)
   have HSV:=hide (show Calls Tryz.prog 36 #[.pointer (some ⟨e,0,none⟩)] wr λr w'=>r=.returned (.string st)/\Keeps (λ_=>False) wr w' by
      have:=qPg e v clock ps wr (uh HE) (λy hy=>by
         rw[uh HPX]at hy
         obtain⟨x,hx,rfl⟩:=List.mem_map.1 hy
         exact(uh HH).ok x hx) (by rw[uh HPL];omega) c0 c1
      rw[uh HPX,qVy (uh HH).nums,uh HST]at this
      exact this)
   go_wp2_with fail
   refine(qPy r _ wr (uh HR)).mono ?_
   rintro res w5 ⟨rfl,hw5⟩
   rw[hw5]
   clear hw5 w5
   go_wp2_with fail
   refine(uh HSV).mono ?_
   rintro res w5 ⟨rfl,hk5⟩
   have HE5:=hide ((uh HE).still hk5)
   have HK5:=hide ((uh HK).then hk5)
   clear hk5 HSV
   go_wp2
   go_ret
   exact⟨e,v,ps,rfl,uh HE5,uh HPX,λj hj=>(uh HF j hj).1,uh HK5⟩
end
section
open Go.RowKit
attribute [local go_sem ↓] qAb qAe
attribute [local go_sem] qAg qAl qAd qAc qAo qAn qAj qAk
theorem zAs(e:Nat)(v:Value)(clock:Int)(ps:List (SB×Ser))(o:OpM)(w:World)(h:ERep w e v clock ps)(hkind:o.kind=7)(clock':Int)(xs':List Ser)(code:Int)(nums:List Int)(hc:∀w0,ERep w0 e v clock ps->Calls Tryz.prog 37 #[.pointer (some ⟨e,0,none⟩),o.val] w0 λr w'=>StepPost w0 e v ps clock' xs' code nums r w'):
  Calls Tryz.prog 23 #[.pointer (some ⟨e,0,none⟩),o.val] w λr w'=>StepPost w e v ps clock' xs' code nums r w':=by
 have h0:o.cells[0]?=some (.int .i64 o.kind):=rfl
 have hv0:qAp (w.alloc (.cells o.cells.toArray 34)) w.heap.size 0 26=.agg o.cells.toArray:=qAf w o.cells 34 26 rfl
 have hh0:qAw (w.alloc (.cells o.cells.toArray 34)) w.heap.size 0 26=true:=qB7 w o.cells 34 26 rfl
 have hn1:(o.kind==1)=false:=by simp[hkind]
 have hn2:(o.kind==2)=false:=by simp[hkind]
 have hn3:(o.kind==3)=false:=by simp[hkind]
 have hn4:(o.kind==4)=false:=by simp[hkind]
 have hn5:(o.kind==5)=false:=by simp[hkind]
 have hn6:(o.kind==6)=false:=by simp[hkind]
 have hn7:(o.kind==7)=true:=by simp[hkind]
 have HE:=hide h
 have HC:=hide hc
 clear h hc hkind
 unfold OpM.val
 go_enter Tryz.func23,Tryz.ntmps23
 go_wp2_with fail
 have hk0:Keeps (λ_=>False) w ((w.alloc (.cells o.cells.toArray 34)).alloc (.cells #[.int .i64 0,.slice none 0 0,.string ⟨#[]⟩] 38)):=((Keeps.refl (λ_=>False) w).alloc _).alloc _
 have HO0:=hide (show Blk ((w.alloc (.cells o.cells.toArray 34)).alloc (.cells #[.int .i64 0,.slice none 0 0,.string ⟨#[]⟩] 38)) w.heap.size o.cells 34 from(Blk.new w o.cells 34).alloc _)
 have HR0:=hide (show Blk ((w.alloc (.cells o.cells.toArray 34)).alloc (.cells #[.int .i64 0,.slice none 0 0,.string ⟨#[]⟩] 38)) (w.heap.size+1) [.int .i64 0,.slice none 0 0,.string qAa] 38 from Blk.newAt (by simp) [_,_,_] 38)
 have HE0:=hide ((uh HE).still hk0)
 have HK0:=hide hk0
 clear hk0
 generalize(w.alloc (.cells o.cells.toArray 34)).alloc (.cells #[.int .i64 0,.slice none 0 0,.string ⟨#[]⟩] 38)=w0 at *
 have HLT:=hide (show ∀i,EFoot e v ps i->i<w.heap.size from(uh HE).lt)
 generalize hob:w.heap.size=ob at *
 have HOB:=hide hob
 clear hob
 have hsz0:ob+1<w0.heap.size:=(uh HR0).lt
 refine(uh HC w0 (uh HE0)).mono ?_
 rintro r w1 ⟨nv,v',ps',rfl,hE1,hx1,hn1,hk1,hf1,hd1⟩
 obtain⟨na,ncap,hnv⟩:=qGm hn1
 subst hnv
 unfold qCh
 have HR1:=hide ((uh HR0).keeps hk1 (λh=>by have:=uh HLT _ h;omega))
 have HW:=hide (show ∀w9,Keeps (λi=>i=ob+1) w1 w9->StepPost w e v ps clock' xs' code nums (.returned (qCh code (.slice na nums.length ncap))) w9 from λw9 hkf=>qFd (uh HK0) (uh HOB) (uh HLT) hsz0 hE1 hx1 hn1 hk1 hf1 hd1 hkf)
 clear hE1 hx1 hn1 hk1 hf1 hd1
 have r0:w1.cell? ⟨ob+1,0,none⟩=some (.int .i64 0):=(uh HR1).cell rfl
 have r1:w1.cell? ⟨ob+1,1,none⟩=some (.slice none 0 0):=(uh HR1).cell rfl
 have r2:w1.cell? ⟨ob+1,2,none⟩=some (.string qAa):=(uh HR1).cell rfl
 have rf:=(uh HR1).frozen
 go_wp2
 have hbf:=(((uh HR1).setCell 0 (.int .i64 code)).setCell 1 (.slice na nums.length ncap)).setCell 2 (.string qAa)
 have HKF:=hide ((((Keeps.refl (λi=>i=ob+1) w1).setCell (p:=⟨ob+1,0,none⟩) (Or.inl rfl) (.int .i64 code)).setCell (p:=⟨ob+1,1,none⟩) (Or.inl rfl) (.slice na nums.length ncap)).setCell (p:=⟨ob+1,2,none⟩) (Or.inl rfl) (.string qAa))
 have e9:(((w1.setCell ⟨ob+1,0,none⟩ (.int .i64 code)).setCell ⟨ob+1,1,none⟩ (.slice na nums.length ncap)).setCell ⟨ob+1,2,none⟩ (.string ⟨#[]⟩))=(((w1.setCell ⟨ob+1,0,none⟩ (.int .i64 code)).setCell ⟨ob+1,1,none⟩ (.slice na nums.length ncap)).setCell ⟨ob+1,2,none⟩ (.string qAa)):=rfl
 first | rw[e9] | skip
 generalize(((w1.setCell ⟨ob+1,0,none⟩ (.int .i64 code)).setCell ⟨ob+1,1,none⟩ (.slice na nums.length ncap)).setCell ⟨ob+1,2,none⟩ (.string qAa))=w9 at *
 have q0:w9.cell? ⟨ob+1,0,none⟩=some (.int .i64 code):=hbf.cell rfl
 have q1:w9.cell? ⟨ob+1,1,none⟩=some (.slice na nums.length ncap):=hbf.cell rfl
 have q2:w9.cell? ⟨ob+1,2,none⟩=some (.string qAa):=hbf.cell rfl
 refine bodyPost_ret (v:=qCh code (.slice na nums.length ncap)) (by simp[results,Tryz.results23,go_sem,q0,q1,q2,qCh]) rfl ?_
 have hkf:=uh HKF
 exact uh HW w9 hkf
theorem zAb(e:Nat)(v:Value)(clock clock':Int)(ps:List (SB×Ser))(o:OpM)(xs:List Ser)(can:Ser->Ser)(w:World)(h:ERep w e v clock ps)(hb:o.bytes=qD2 clock' xs)(hA:LdAll xs can clock'):
  Calls Tryz.prog 37 #[.pointer (some ⟨e,0,none⟩),o.val] w λr w'=>StepPost w e v ps clock' (xs.map can) 0 [] r w':=by
 have HE:=hide h
 have HA:=hide hA
 have hele:=h.blk.lt
 have hk0:Keeps (λ_=>False) w ((w.alloc (.cells o.cells.toArray 34)).alloc (.cells #[.int .i64 0,.slice none 0 0,.string ⟨#[]⟩] 38)):=((Keeps.refl (λ_=>False) w).alloc _).alloc _
 have HO0:=hide (show Blk ((w.alloc (.cells o.cells.toArray 34)).alloc (.cells #[.int .i64 0,.slice none 0 0,.string ⟨#[]⟩] 38)) w.heap.size o.cells 34 from(Blk.new w o.cells 34).alloc _)
 have HR0:=hide (show Blk ((w.alloc (.cells o.cells.toArray 34)).alloc (.cells #[.int .i64 0,.slice none 0 0,.string ⟨#[]⟩] 38)) (w.heap.size+1) [.int .i64 0,.slice none 0 0,.string qAa] 38 from Blk.newAt (by simp) [_,_,_] 38)
 have h25:((w.alloc (.cells o.cells.toArray 34)).alloc (.cells #[.int .i64 0,.slice none 0 0,.string ⟨#[]⟩] 38)).cell? ⟨w.heap.size,25,none⟩=some (.string (qD2 clock' xs)):=by rw[<-hb];exact(uh HO0).cell rfl
 have HK0:=hide hk0
 clear h hA hb hk0
 unfold OpM.val
 go_enter Tryz.func37,Tryz.ntmps37
 go_wp2_with fail
 generalize(w.alloc (.cells o.cells.toArray 34)).alloc (.cells #[.int .i64 0,.slice none 0 0,.string ⟨#[]⟩] 38)=w0 at *
 refine(qUe xs can clock' w0 (uh HA)).mono ?_
 rintro r w1 ⟨e2,v2,p2,rfl,hE2,hx2,hf2,hk1⟩
 obtain⟨va,vcap,hv2,_⟩:=qB4 hE2.row
 obtain⟨m2,hm2⟩:∃m2,p2.length=m2:=⟨_,rfl⟩
 rw[hm2]at hv2
 clear hm2
 subst hv2
 obtain⟨v2,hv2⟩:∃v2,v2=Value.slice va m2 vcap:=⟨_,rfl⟩
 have hz0:=(uh HK0).size
 have hzr:=(uh HR0).lt
 have HR1:=hide ((uh HR0).keeps hk1 (λh=>h))
 have HK1:=hide ((uh HK0).then hk1)
 have HE1:=hide ((uh HE).still (uh HK1))
 have HE2:=hide hE2
 have HX2:=hide hx2
 have HF2:=hide hf2
 have a0:w1.cell? ⟨e2,0,none⟩=some (.int .i64 clock'):=hE2.blk.cell rfl
 have a1:w1.cell? ⟨e2,1,none⟩=some (.slice va m2 vcap):=hE2.blk.cell rfl
 have b0:w1.cell? ⟨e,0,none⟩=some (.int .i64 clock):=(uh HE1).blk.cell rfl
 have b1:w1.cell? ⟨e,1,none⟩=some v:=(uh HE1).blk.cell rfl
 have bf:=(uh HE1).blk.frozen
 have HBE:=hide (((uh HE1).blk.setCell 0 (.int .i64 clock')).setCell 1 (.slice va m2 vcap))
 have HKE:=hide (show Keeps (λi=>i=e) w1 _ from((Keeps.refl (λi=>i=e) w1).setCell (p:=⟨e,0,none⟩) (Or.inl rfl) (.int .i64 clock')).setCell (p:=⟨e,1,none⟩) (Or.inl rfl) (.slice va m2 vcap))
 have HR2:=hide (((uh HR1).setCell_far (p:=⟨e,0,none⟩) (show e≠w.heap.size+1 by omega) (.int .i64 clock')).setCell_far (p:=⟨e,1,none⟩) (show e≠w.heap.size+1 by omega) (.slice va m2 vcap))
 have r0:=(uh HR2).cell (i:=0) rfl
 have r1:=(uh HR2).cell (i:=1) rfl
 have r2:=(uh HR2).cell (i:=2) rfl
 have rf:=(uh HR2).frozen
 clear hE2 hx2 hf2 hk1 h25
 have HF1:=hide ((((uh HR2).setCell 0 (.int .i64 0)).setCell 1 (.slice none 0 0)).setCell 2 (.string qAa))
 have HKF:=hide (show Keeps (λi=>i=w.heap.size+1) ((w1.setCell ⟨e,0,none⟩ (.int .i64 clock')).setCell ⟨e,1,none⟩ (.slice va m2 vcap)) _ from(((Keeps.refl (λi=>i=w.heap.size+1) ((w1.setCell ⟨e,0,none⟩ (.int .i64 clock')).setCell ⟨e,1,none⟩ (.slice va m2 vcap))).setCell (p:=⟨w.heap.size+1,0,none⟩) (Or.inl rfl) (.int .i64 0)).setCell (p:=⟨w.heap.size+1,1,none⟩) (Or.inl rfl) (.slice none 0 0)).setCell (p:=⟨w.heap.size+1,2,none⟩) (Or.inl rfl) (.string qAa))
 clear hv2 v2
 go_wp2
 have e9:((((w1.setCell ⟨e,0,none⟩ (.int .i64 clock')).setCell ⟨e,1,none⟩ (.slice va m2 vcap)).setCell ⟨w.heap.size+1,0,none⟩ (.int .i64 0)).setCell ⟨w.heap.size+1,1,none⟩ (.slice none 0 0)).setCell ⟨w.heap.size+1,2,none⟩ (.string ⟨#[]⟩)=((((w1.setCell ⟨e,0,none⟩ (.int .i64 clock')).setCell ⟨e,1,none⟩ (.slice va m2 vcap)).setCell ⟨w.heap.size+1,0,none⟩ (.int .i64 0)).setCell ⟨w.heap.size+1,1,none⟩ (.slice none 0 0)).setCell ⟨w.heap.size+1,2,none⟩ (.string qAa):=rfl
 first | rw[e9] | skip
 clear e9
 have HKT:=hide (((uh HKE).mono (M':=λi=>i=e\/i=w.heap.size+1) (λ_ _ h=>.inl h)).trans (uh HKF) (λi hi _=>.inr hi))
 have hBK:=(uh HBE).keeps (uh HKF) (show ¬(e=w.heap.size+1) by omega)
 have HBK:=hide hBK
 clear hBK HBE HKE HKF HR2 r0 r1 r2 rf
 generalize((((w1.setCell ⟨e,0,none⟩ (.int .i64 clock')).setCell ⟨e,1,none⟩ (.slice va m2 vcap)).setCell ⟨w.heap.size+1,0,none⟩ (.int .i64 0)).setCell ⟨w.heap.size+1,1,none⟩ (.slice none 0 0)).setCell ⟨w.heap.size+1,2,none⟩ (.string qAa)=w9 at *
 have q0:w9.cell? ⟨w.heap.size+1,0,none⟩=some (.int .i64 0):=(uh HF1).cell rfl
 have q1:w9.cell? ⟨w.heap.size+1,1,none⟩=some (.slice none 0 0):=(uh HF1).cell rfl
 have q2:w9.cell? ⟨w.heap.size+1,2,none⟩=some (.string qAa):=(uh HF1).cell rfl
 refine bodyPost_ret (v:=qCh 0 (.slice none 0 0)) (by simp[results,Tryz.results37,go_sem,q0,q1,q2,qCh]) rfl ?_
 have hE:=uh HE2
 have hF:∀i,EFoot e2 (.slice va m2 vcap) p2 i->¬(i=e\/i=w.heap.size+1):=λi hi h=>by
  have h1:=uh HF2 i hi
  rcases h with h | h <;> omega
 have hne:∀i,EFoot e2 (.slice va m2 vcap) p2 i->i≠e:=λi hi h=>hF i hi (.inl h)
 refine⟨.slice none 0 0,.slice va m2 vcap,p2,rfl,⟨uh HBK,qPq hE.row (uh HKT) (λi hi=>hF i (.inr (.inl hi))),λp hp=>(hE.reps p hp).keeps (uh HKT) (λi hi=>hF i (.inr (.inr ⟨p,hp,hi⟩))),hE.apart,λh=>hne e (.inr (.inl h)) rfl,λp hp i hi=>⟨hne i (.inr (.inr ⟨p,hp,hi⟩)),(hE.ef p hp i hi).2⟩⟩,uh HX2,World.ownsRow_nil _ _ _ _,?_,?_,λi hi=>by cases hi⟩
 ·exact(uh HK1).mono (M':=EFoot e v ps) (λ_ _ h=>h.elim) |>.trans (uh HKT) (λi hi hlt=>by
     rcases hi with h | h
     ·exact .inl h
     ·omega)
 ·intro i hi
  rcases hi with h | h | ⟨p,hp,h⟩
  ·exact .inl (.inl h)
  ·have:=uh HF2 i (.inr (.inl h));exact .inr (by omega)
  ·have:=uh HF2 i (.inr (.inr ⟨p,hp,h⟩));exact .inr (by omega)
end
section
open Go.RowKit
theorem qLn(w:World)(ty:TypeId)(b:Nat): (Builtin.copy_ #[136,9] ty #[.slice (some ⟨b,0,none⟩) 8 8,.string qAa]).run Tryz.prog w=.ok (goInt 0) w:=by
 have:=qJb w ty b 8 8 qAa [] (by kernel_rfl) (λj hj=>by simp at hj) (λj hj=>by simp at hj)
 exact this
def qN8: List Value:=[.int .u8 0,.int .u8 0,.int .u8 0,.int .u8 0,.int .u8 0,.int .u8 0,.int .u8 0,.int .u8 0]
theorem qPn(w:World): Calls Tryz.prog 133 #[.string qAa] w λe w'=>e=.returned (.agg qN8.toArray)/\Keeps (λ_=>False) w w':=by
 have HW0:=hide (show Blk ((w.alloc (.cells #[.int .u8 0,.int .u8 0,.int .u8 0,.int .u8 0,.int .u8 0,.int .u8 0,.int .u8 0,.int .u8 0] 173)).alloc (.cells #[.int .u8 0,.int .u8 0,.int .u8 0,.int .u8 0,.int .u8 0,.int .u8 0,.int .u8 0,.int .u8 0] 173)) (w.heap.size+1) qN8 173 from Blk.newAt (by simp) qN8 _)
 have HR0:=hide (show Blk ((w.alloc (.cells #[.int .u8 0,.int .u8 0,.int .u8 0,.int .u8 0,.int .u8 0,.int .u8 0,.int .u8 0,.int .u8 0] 173)).alloc (.cells #[.int .u8 0,.int .u8 0,.int .u8 0,.int .u8 0,.int .u8 0,.int .u8 0,.int .u8 0,.int .u8 0] 173)) w.heap.size qN8 173 from(Blk.new w qN8 _).alloc _)
 have HK0:=hide (show Keeps (λ_=>False) w ((w.alloc (.cells #[.int .u8 0,.int .u8 0,.int .u8 0,.int .u8 0,.int .u8 0,.int .u8 0,.int .u8 0,.int .u8 0] 173)).alloc (.cells #[.int .u8 0,.int .u8 0,.int .u8 0,.int .u8 0,.int .u8 0,.int .u8 0,.int .u8 0,.int .u8 0] 173)) from((Keeps.refl _ _).alloc _).alloc _)
 have hcp:=qLn ((w.alloc (.cells #[.int .u8 0,.int .u8 0,.int .u8 0,.int .u8 0,.int .u8 0,.int .u8 0,.int .u8 0,.int .u8 0] 173)).alloc (.cells #[.int .u8 0,.int .u8 0,.int .u8 0,.int .u8 0,.int .u8 0,.int .u8 0,.int .u8 0,.int .u8 0] 173)) 3 (w.heap.size+1)
 obtain⟨nb,hnb⟩:∃nb,qAa=nb:=⟨_,rfl⟩
 rw[hnb]at hcp ⊢
 clear hnb
 go_enter Tryz.func133,Tryz.ntmps133
 go_wp2
 clear hcp
 generalize((w.alloc (.cells #[.int .u8 0,.int .u8 0,.int .u8 0,.int .u8 0,.int .u8 0,.int .u8 0,.int .u8 0,.int .u8 0] 173)).alloc (.cells #[.int .u8 0,.int .u8 0,.int .u8 0,.int .u8 0,.int .u8 0,.int .u8 0,.int .u8 0,.int .u8 0] 173))=W2 at *
 have HLV:=hide (show(loadVar 173 ⟨w.heap.size,0,none⟩).run Tryz.prog W2=.ok (.agg qN8.toArray) W2 from run_loadVar_mid W2 w.heap.size 0 173 qN8 _ (λj v hv=>by rw[Nat.zero_add];exact(uh HR0).cell hv) Tryz.underlying173 rfl (by rw[qTy];rfl))
 refine bodyPost_ret (v:=.agg qN8.toArray) (by simp[results,Tryz.results133,asAddr,uh HLV]) rfl ?_
 exact⟨rfl,uh HK0⟩
theorem qO8(w:World): (Op.equalIn 10000 173 (.agg qN8.toArray) (.agg (qBy qCs).toArray)).run Tryz.prog w=.ok false w:=by kernel_rfl
def qNy(w:World)(r:Nat): Prop:=Blk w r [.string qAa,.bool true] 176
theorem qKt(w:World): Calls Tryz.prog 87 #[.string qAa] w λe w'=>∃r,e=.returned (.pointer (some ⟨r,0,none⟩))/\w.heap.size<=r/\qNy w' r/\Keeps (λ_=>False) w w':=by
 have HH:=hide (qPn w)
 obtain⟨nb,hnb⟩:∃nb,qAa=nb:=⟨_,rfl⟩
 have HNB:=hide hnb
 rw[hnb]at HH ⊢
 clear hnb
 go_enter Tryz.func87,Tryz.ntmps87
 go_wp2_with fail
 refine(uh HH).mono ?_
 rintro e w1 ⟨rfl,hk1⟩
 have HK1:=hide hk1
 clear hk1
 go_wp2_with fail
 have hF:(Value.string ⟨#[115,107,101,116,99,104,32,49]⟩)=.string (qEn (qCs++[])):=by kernel_rfl
 rw[hF]
 refine(qHr [] w1).mono ?_
 rintro e w2 ⟨rfl,hk2⟩
 have HK2:=hide ((uh HK1).then hk2)
 have hs:=qO8 w2
 clear hk2 HK1 hF
 have HRB:=hide (Blk.new w2 [.string qAa,.bool true] 176)
 have HK3:=hide ((uh HK2).alloc (.cells #[.string qAa,.bool true] 176))
 have hle:=(uh HK2).size
 go_wp2
 go_ret
 exact⟨_,rfl,hle,uh HRB,uh HK3⟩
theorem qVc(r:Nat)(w:World)(h:qNy w r): Calls Tryz.prog 134 #[.pointer (some ⟨r,0,none⟩)] w λe w'=>e=.returned (.tuple #[.int .i64 0,.bool false])/\w'=w:=by
 have c0:w.cell? ⟨r,0,none⟩=some (.string qAa):=h.cell rfl
 have hsz:qAa.size=0:=rfl
 clear h
 go_enter Tryz.func134,Tryz.ntmps134
 go_wp2
 go_loopw [13] (λiv wr=>iv=.int .i64 0/\wr=w) (λ_ _=>0)
 case atStart=>exact⟨rfl,rfl⟩
 case round =>
  obtain⟨rfl,rfl⟩:=hrel
  go_wp2
  refine bodyPost_ret (v:=.tuple #[.int .i64 0,.bool false]) (by simp[results,Tryz.results134,go_sem]) rfl ?_
  exact⟨rfl,rfl⟩
theorem qYs(r:Nat)(w:World)(h:qNy w r): Calls Tryz.prog 135 #[.pointer (some ⟨r,0,none⟩),.bool false] w λe w'=>e=.returned (.tuple #[])/\qNy w' r/\Keeps (λi=>i=r) w w':=by
 have c1:w.cell? ⟨r,1,none⟩=some (.bool true):=h.cell rfl
 have hf:=h.frozen
 have HB:=hide (show qNy (w.setCell ⟨r,1,none⟩ (.bool true)) r from h.setCell 1 (.bool true))
 have HK:=hide ((Keeps.refl (λi=>i=r) w).setCell (p:=⟨r,1,none⟩) (Or.inl rfl) (.bool true))
 clear h
 go_enter Tryz.func135,Tryz.ntmps135
 go_wp2
 go_end0
 exact⟨rfl,uh HB,uh HK⟩
theorem qMn(r:Nat)(lo hi:Int)(w:World)(h:qNy w r): Calls Tryz.prog 88 #[.pointer (some ⟨r,0,none⟩),.int .i64 lo,.int .i64 hi] w λe w'=>e=.returned (.int .i64 lo)/\qNy w' r/\Keeps (λi=>i=r) w w':=by
 have HR:=hide h
 clear h
 go_enter Tryz.func88,Tryz.ntmps88
 go_wp2_with fail
 refine(qVc r w (uh HR)).mono ?_
 rintro e w1 ⟨rfl,hw1⟩
 rw[hw1]
 clear hw1 w1
 go_wp2_with fail
 refine(qYs r w (uh HR)).mono ?_
 rintro e w1 ⟨rfl,hr1,hk1⟩
 have c1:w1.cell? ⟨r,1,none⟩=some (.bool true):=hr1.cell rfl
 have HR1:=hide hr1
 have HK1:=hide hk1
 clear hr1 hk1 HR
 go_wp2
 go_ret
 exact⟨rfl,uh HR1,uh HK1⟩
theorem qYl(r:Nat)(w:World)(h:qNy w r): Calls Tryz.prog 90 #[.pointer (some ⟨r,0,none⟩)] w λe w'=>e=.returned (.bool true)/\w'=w:=by
 have hc:w.cell? ⟨r,1,none⟩=some (.bool true):=h.cell rfl
 clear h
 go_enter Tryz.func90,Tryz.ntmps90
 go_wp2
 go_ret
 exact⟨rfl,rfl⟩
theorem qQi(w:World): Calls Tryz.prog 61 #[.string qAa] w λres w'=>res=.returned (.pointer none)/\Keeps (λ_=>False) w w':=by
 have HN:=hide (qKt w)
 obtain⟨nb,hnb⟩:∃nb,qAa=nb:=⟨_,rfl⟩
 rw[hnb]at HN ⊢
 clear hnb
 go_enter Tryz.func61,Tryz.ntmps61
 go_wp2_with fail
 refine(uh HN).mono ?_
 rintro res w1 ⟨r,rfl,hrw,hr1,hk1⟩
 have HK1:=hide hk1
 have HR1:=hide hr1
 clear hr1 hk1 HN
 go_wp2_with fail
 refine(qMn r 0 4611686018427387904 w1 (uh HR1)).mono ?_
 rintro res w2 ⟨rfl,hr2,hk2⟩
 have HR2:=hide (show qNy (w2.alloc (.cells #[.int .i64 0,.slice none 0 0] 60)) r from Blk.alloc hr2 _)
 have HK2:=hide (show Keeps (λ_=>False) w (w2.alloc (.cells #[.int .i64 0,.slice none 0 0] 60)) from((uh HK1).trans hk2 (λi hi hlt=>by have h2:i=r:=hi;omega)).alloc _)
 clear hr2 hk2 HR1 HK1
 go_wp2_with fail
 generalize w2.alloc (.cells #[.int .i64 0,.slice none 0 0] 60)=w3 at *
 refine(qMn r 0 6 w3 (uh HR2)).mono ?_
 rintro res w4 ⟨rfl,hr4,hk4⟩
 have HR4:=hide hr4
 have HK4:=hide (show Keeps (λ_=>False) w w4 from(uh HK2).trans hk4 (λi hi hlt=>by have h2:i=r:=hi;omega))
 clear hr4 hk4 HR2 HK2
 go_wp2_with fail
 go_loopw [14] (λiv wr=>iv=.int .i64 0/\wr=w4) (λ_ _=>0)
 case atStart=>exact⟨rfl,rfl⟩
 case round =>
  obtain⟨rfl,rfl⟩:=hrel
  go_wp2_with fail
  refine(qYl r wr (uh HR4)).mono ?_
  rintro res w5 ⟨rfl,hw5⟩
  rw[hw5]
  clear hw5 w5
  go_wp2
  go_ret
  exact⟨rfl,uh HK4⟩
end
section
open Go.RowKit
attribute [local go_sem ↓] qAb qAe qDj
attribute [local go_sem] qAg qAl qAd qAc qAo qAn qAj qAk
def stepG(ld:ByteArray->Option WS)(s:WS)(o:OpM): WS×Int×List Int :=
 if o.kind=7 then(match ld o.bytes with | none=>(s,14,[]) | some s'=>(s',0,[])) else qA5 s o
def qRh(ld:ByteArray->Option WS)(n:Int)(o:OpM): Prop:=o.kind=7->∀s',ld o.bytes=some s'->EInv n s'.clock s'.xs
theorem qWd(ld:ByteArray->Option WS){n:Int}{s:WS}(o:OpM)(h:EInv n s.clock s.xs)(hn:0<=n)(hL:qRh ld (n+1) o): EInv (n+1) (stepG ld s o).1.clock (stepG ld s o).1.xs:=by
 unfold stepG
 split
 ·rename_i h7
  split
  ·exact h.mono (by omega)
  ·rename_i s' hs'
   exact hL h7 s' hs'
 ·rename_i h7
  exact qGi o h hn (qD9 h7)
def qV1(ld:ByteArray->Option WS): WS->List OpM->List (Int×List Int)
 | _,[]=>[]
 | s,o::r=>(stepG ld s o).2::qV1 ld (stepG ld s o).1 r
def qK0(ld:ByteArray->Option WS): WS->List OpM->WS
 | s,[]=>s
 | s,o::r=>qK0 ld (stepG ld s o).1 r
theorem qXg(ld:ByteArray->Option WS)(s:WS)(l:List OpM)(o:OpM): qK0 ld s (l++[o])=(stepG ld (qK0 ld s l) o).1:=by
 induction l generalizing s with
 | nil=>rfl
 | cons a l ih=>exact ih _
theorem qWm(ld:ByteArray->Option WS)(s:WS)(l:List OpM)(o:OpM): qV1 ld s (l++[o])=qV1 ld s l++[(stepG ld (qK0 ld s l) o).2]:=by
 induction l generalizing s with
 | nil=>rfl
 | cons a l ih=>simp only[List.cons_append,qV1,qK0,ih]
theorem qRo(ld:ByteArray->Option WS)(s:WS)(l:List OpM): (qV1 ld s l).length=l.length:=by
 induction l generalizing s with
 | nil=>rfl
 | cons a l ih=>simp[qV1,ih]
theorem qZn(ld:ByteArray->Option WS){n:Int}{s:WS}(l:List OpM)(h:EInv n s.clock s.xs)(hn:0<=n)(hL:∀(i:Nat) o,l[i]?=some o->qRh ld (n+i+1) o): EInv (n+l.length) (qK0 ld s l).clock (qK0 ld s l).xs:=by
 induction l generalizing s n with
 | nil=>simpa[qK0] using h
 | cons a l ih =>
  have:=ih (qWd ld a h hn (by have:=hL 0 a rfl;simpa using this)) (by omega) (λi o ho=>by
     have:=hL (i+1) o (by simpa using ho)
     rw[show n+1+(i:Int)+1=n+((i+1:Nat):Int)+1 by omega]
     exact this)
  rw[List.length_cons,show n+((l.length+1:Nat):Int)=n+1+(l.length:Int) by omega]
  exact this
def qP3(ld:ByteArray->Option WS): WS->List OpM->List ByteArray
 | _,[]=>[]
 | s,o::r=>qD7 s o::qP3 ld (stepG ld s o).1 r
theorem qUk(ld:ByteArray->Option WS)(s:WS)(l:List OpM)(o:OpM): qP3 ld s (l++[o])=qP3 ld s l++[qD7 (qK0 ld s l) o]:=by
 induction l generalizing s with
 | nil=>rfl
 | cons a l ih=>simp only[List.cons_append,qP3,qK0,ih]
theorem qZb(ld:ByteArray->Option WS)(sb so cap:Nat)(ops:List OpM)(w:World)(hsc:ScriptAt w sb so ops)(hlt:sb<w.heap.size)(hlen:ops.length<=651562446090)(hT:Tab w)(hL:∀(i:Nat) o,ops[i]?=some o->qRh ld (i+1) o)(hstep:∀(i:Nat) (e:Nat) (v:Value) (clock:Int) (ps:List (SB×Ser)) (o:OpM) (w:World),ops[i]?=some o->(⟨clock,ps.map (·.2)⟩:WS)=qK0 ld ws0 (ops.take i)->ERep w e v clock ps->EInv i clock (ps.map (·.2))->(i:Int)<=651562446200->Tab w->¬EFoot e v ps 2 ->
     Calls Tryz.prog 23 #[.pointer (some ⟨e,0,none⟩),o.val] w λr w'=>qFc w e v ps (stepG ld ⟨clock,ps.map (·.2)⟩ o).1.clock (stepG ld ⟨clock,ps.map (·.2)⟩ o).1.xs (stepG ld ⟨clock,ps.map (·.2)⟩ o).2.1 (stepG ld ⟨clock,ps.map (·.2)⟩ o).2.2 (qD7 ⟨clock,ps.map (·.2)⟩ o) r w'):
  Calls Tryz.prog 11 #[.slice (some ⟨sb,so,none⟩) ops.length cap] w λr w'=>∃v l,r=.returned v/\ARep w' w.heap.size v l/\l.map (λx=>(x.code,x.nums))=qV1 ld ws0 ops/\l.map (·.bs)=qP3 ld ws0 ops/\Keeps (λ_=>False) w w':=by
 have HSC:=hide hsc
 have HST:=hide hstep
 have HTW:=hide hT
 have HLO:=hide hL
 have hw0:=hT.lt
 clear hsc hstep hT hL
 obtain⟨i0,hi0,hz0,hz1,hz2⟩:=info_parts qW7
 go_enter Tryz.func11,Tryz.ntmps11
 generalize hn:ops.length=n at *
 have HN:=hide hn
 clear hn
 go_wp2_with (at_make;refine wpList_make_own _ rfl _ _ _ rfl w.heap.size 38 i0 _ 3 Tryz.underlying26 hi0 hz0 hz1 _ _ _ n rfl rfl rfl (by rw[hz2];omega) (by unfold maxLen;omega) (by simp) ?_;intro w1 ho1 hg1)
 rw[World.size_alloc]at ho1
 have hkw1:Keeps (λ_=>False) w w1:=((Keeps.refl (λ_=>False) w).alloc _).grown hg1 (λk hk=>by cases hk)
 have hbe:Blk w1 w.heap.size [.int .i64 0,.slice none 0 0] 60:=by
  unfold Blk
  rw[hg1.block w.heap.size (by simp) (by simp)]
  exact Blk.new w [.int .i64 0,.slice none 0 0] 60
 have HE1:=hide (show ERep w1 w.heap.size (.slice none 0 0) 0 [] from⟨hbe,World.ownsRow_nil _ _ _ _,λp hp=>by simp at hp,List.Pairwise.nil,by simp[Value.ownBlock],λp hp=>by simp at hp⟩)
 have HA1:=hide (show ARep w1 w.heap.size (.slice (some ⟨w.heap.size+1,0,none⟩) 0 n) [] from⟨ho1,λx hx=>by simp at hx,λx hx=>by simp at hx⟩)
 have HK1:=hide hkw1
 clear hg1 ho1 hkw1 hbe
 generalize hen:w.heap.size=e at *
 have HEN:=hide hen
 clear hen
 go_loopw [4,12] (λav i wr=>∃(k:Nat) (v:Value) (ps:List (SB×Ser)) (l:List Ans),k<=n/\i=.int .i64 k/\Hid (ERep wr e v (qK0 ld ws0 (ops.take k)).clock ps)/\Hid (ps.map (·.2)=(qK0 ld ws0 (ops.take k)).xs)/\Hid (ARep wr w.heap.size av l)/\Hid (l.map (λx=>(x.code,x.nums))=qV1 ld ws0 (ops.take k))/\Hid (l.map (·.bs)=qP3 ld ws0 (ops.take k))/\Hid (Keeps (λ_=>False) w wr)/\Hid (∀i,EFoot e v ps i->w.heap.size<=i)/\Hid (∀i,qU6 av l i->¬EFoot e v ps i)) (λ_ i _=>n-(intOf i).toNat)
 case atStart =>
  have hen:=uh HEN
  refine⟨0,.slice none 0 0,[],[],by omega,rfl,HE1,rfl,by show ARep _ _ _ _;rw[hen];exact uh HA1,rfl,rfl,HK1,λi hi=>?_,λi hi hf=>?_⟩
  ·rcases hi with hi | hi | ⟨p,hp,_⟩
   ·omega
   ·simp[Value.ownBlock]at hi
   ·simp at hp
  ·have hie:i=e:=by
    rcases hf with hf | hf | ⟨p,hp,_⟩
    ·exact hf
    ·simp[Value.ownBlock]at hf
    ·simp at hp
   rcases hi with hi | ⟨x,hx,_⟩
   ·have:e+1=i:=by simpa[Value.ownBlock] using hi
    omega
   ·simp at hx
 case round =>
  obtain⟨k,v,ps,l,hk,rfl,HEr,HXr,HAr,HMr,HBr,HKr,HLr,HDr⟩:=hrel
  generalize u4=av at *
  by_cases hkn:k<n
  ·obtain⟨o,ho⟩:∃o,ops[k]?=some o:=⟨ops[k]'(by rw[uh HN];exact hkn),List.getElem?_eq_getElem _⟩
   have HO:=hide ho
   have hsb:=qAm (uh HSC k o ho)
   have hkp:=qCj (o:=so+k*26) (n:=26) (uh HKr) (λh=>h) (by rw[uh HEN];exact hlt)
   have hv0:qAp wr sb (so+k*26) 26=.agg o.cells.toArray:=by
    rw[hkp.1];unfold qAp
    have:=hsb.1
    rw[show o.cells.length=26 from rfl]at this
    rw[this]
   have hh0:qAw wr sb (so+k*26) 26=true:=by rw[hkp.2];exact hsb.2
   have hst:∀zs:List Value,zs.length=26->(qCp 34 (.pointer (some ⟨wr.heap.size,0,none⟩)) (.agg o.cells.toArray)).run Tryz.prog (wr.alloc (.cells zs.toArray 34))=.ok .skip (wr.alloc (.cells o.cells.toArray 34)):=λzs hz=>qHt wr zs o.cells hz rfl (qG5 o)
   have hv1:qAp (wr.alloc (.cells o.cells.toArray 34)) wr.heap.size 0 26=.agg o.cells.toArray:=qAf wr o.cells 34 26 rfl
   have hh1:qAw (wr.alloc (.cells o.cells.toArray 34)) wr.heap.size 0 26=true:=qB7 wr o.cells 34 26 rfl
   have hk0:(0:Int)<=(k:Int):=by omega
   have hkn':(k:Int)<(n:Int):=by omega
   clear ho hsb hkp
   go_wp2_with fail
   have hkl:(ops.take k).length=k:=by rw[List.length_take,uh HN];omega
   have hinv:EInv (k:Int) (qK0 ld ws0 (ops.take k)).clock (ps.map (·.2)):=by
    have:=qZn ld (ops.take k) inv0 (by omega) (λi o ho=>by
       have h1:=uh HLO i o (by rw[List.getElem?_take]at ho;split at ho;exact ho;cases ho)
       rw[show(0:Int)+(i:Int)+1=(i:Int)+1 by omega]
       exact h1)
    rw[hkl]at this
    rw[uh HXr]
    simpa using this
   have hws:(⟨(qK0 ld ws0 (ops.take k)).clock,ps.map (·.2)⟩:WS)=qK0 ld ws0 (ops.take k):=by rw[uh HXr]
   have hst2:=uh HST k e v (qK0 ld ws0 (ops.take k)).clock ps o (wr.alloc (.cells o.cells.toArray 34)) (uh HO) hws ((uh HEr).still ((Keeps.refl (λ_=>False) wr).alloc _)) hinv (by omega) (((uh HTW).keeps (uh HKr) (λh=>h)).keeps ((Keeps.refl (λ_=>False) wr).alloc _) (λh=>h)) (λh=>by have h1:=uh HLr 2 h;have h2:=uh HEN;omega)
   rw[hws]at hst2
   refine hst2.mono ?_
   clear hst2 hinv hws
   have htk:ops.take (k+1)=ops.take k++[o]:=by
    have ho:=uh HO
    rw[List.take_add_one,ho];rfl
   have HSN:=hide (show qK0 ld ws0 (ops.take (k+1))=(stepG ld (qK0 ld ws0 (ops.take k)) o).1 by rw[htk,qXg ld])
   have HRN:=hide (show qV1 ld ws0 (ops.take (k+1))=qV1 ld ws0 (ops.take k)++[(stepG ld (qK0 ld ws0 (ops.take k)) o).2] by rw[htk,qWm ld])
   have HBN:=hide (show qP3 ld ws0 (ops.take (k+1))=qP3 ld ws0 (ops.take k)++[qD7 (qK0 ld ws0 (ops.take k)) o] by rw[htk,qUk ld])
   clear htk hv0 hh0 hst hv1 hh1
   generalize hbm:qD7 (qK0 ld ws0 (ops.take k)) o=bm at *
   generalize hsm:stepG ld (qK0 ld ws0 (ops.take k)) o=sm at *
   obtain⟨s',code,nums⟩:=sm
   rintro r w2 ⟨nv,v',ps',rfl,hE2,hx2,hn2,hk2,hf2,hd2⟩
   obtain⟨na,ncap,hnv⟩:=qGm hn2
   subst hnv
   unfold zDl
   have hlk:l.length=k:=by
    have:=congrArg List.length (uh HMr)
    rw[List.length_map,qRo ld,hkl]at this
    exact this
   have HLK:=hide hlk
   have HOW:=hide (show w2.ownsRow w.heap.size 38 3 av k (qDp l) by
      have h1:=(uh HAr).row
      rw[hlk]at h1
      exact qAz h1 (((Keeps.refl (EFoot e v ps) wr).alloc _).then hk2) (λi hi=>uh HDr i (.inl hi)))
   have HE2:=hide hE2
   have HX2:=hide hx2
   have HN2:=hide hn2
   have HK2:=hide hk2
   have HF2:=hide hf2
   have HD2:=hide hd2
   have hb2:w.heap.size<=w2.heap.size:=by have h1:=(uh HKr).size;have h2:=hk2.size;rw[World.size_alloc]at h2;omega
   clear hE2 hx2 hn2 hk2 hf2 hd2 hlk hkl hsm hbm
   go_wp2_with (at_builtin;refine wpList_append_lies _ rfl _ _ _ rfl w.heap.size 38 i0 _ 3 48 Tryz.underlying26 hi0 hz0 hz1 hz2 rfl (by omega) av k (qDp l) rfl ((uh HOW).alloc _) ⟨w2.heap.size,0,none⟩ 1 1 [.int .i64 code,.slice na nums.length ncap,.string bm] rfl rfl (World.news_of_block (cs:=#[.int .i64 code,.slice na nums.length ncap,.string bm]) (t:=38) (fr:=(0,0)) (heap_alloc_new w2 _)) (by simp[Value.oneCell']) (by omega) (by unfold maxLen;omega) (by omega) (by simp;omega) (w2.heap.size+1) (by simp) ?_;intro gg cap' w3 hown3 hgrow hat hl3)
   go_roundw
   case rel =>
    have hlk:=uh HLK
    have hrr:=qPf (code:=code) (bs:=bm) (av':=.slice (some ⟨gg,0,none⟩) (k+1) cap') (uh HKr) (uh HAr) (uh HLr) (uh HDr) (uh HE2) (uh HN2) (uh HK2) (uh HF2) (uh HD2) (by rw[hlk]) (by rw[hlk];exact hown3) hgrow hat
    obtain⟨g1,g2,g3,g4,g5⟩:=hrr
    have hsn:=uh HSN
    have hrn:=uh HRN
    have hbn:=uh HBN
    refine⟨k+1,v',ps',l++[(⟨code,.slice na nums.length ncap,nums,bm⟩:Ans)],by omega,by go_num,?_,?_,hide g2,?_,?_,hide g3,hide g4,hide g5⟩
    ·show ERep _ _ _ _ _;rw[hsn];exact g1
    ·show _=_;rw[hsn];exact uh HX2
    ·show _=_;rw[hrn,List.map_append,uh HMr];rfl
    ·show _=_;rw[hbn,List.map_append,uh HBr];rfl
   case measure=>simp[intOf];omega
  ·have hkk:k=n:=by omega
   subst hkk
   go_wp2
   go_ret
   refine⟨av,l,rfl,uh HAr,?_,?_,uh HKr⟩
   ·have:=uh HMr
    rwa [List.take_of_length_le (by rw[uh HN];omega)]at this
   ·have:=uh HBr
    rwa [List.take_of_length_le (by rw[uh HN];omega)]at this
end
section
open Go.RowKit
theorem Dr.swapL_all{P:Dr.It->Prop}(h0:P ⟨0,0,0,0,0⟩){l:List Dr.It}(h:∀y,y∈l->P y)(i j:Nat): ∀y,y∈Dr.swapL l i j->P y:=by
 have hat:∀i,P (Dr.itAt l i):=by
  intro i
  unfold Dr.itAt
  rw[List.getD_eq_getElem?_getD]
  cases hi:l[i]? with
  | none=>exact h0
  | some v=>exact h v (List.mem_of_getElem? hi)
 intro y hy
 unfold Dr.swapL at hy
 rcases List.mem_or_eq_of_mem_set hy with hy | hy
 ·rcases List.mem_or_eq_of_mem_set hy with hy | hy
  ·exact h y hy
  ·subst hy;exact hat j
 ·subst hy;exact hat i
theorem Dr.itAt_all{P:Dr.It->Prop}(h0:P ⟨0,0,0,0,0⟩){l:List Dr.It}(h:∀y,y∈l->P y)(i:Nat): P (Dr.itAt l i):=by
 unfold Dr.itAt
 rw[List.getD_eq_getElem?_getD]
 cases hi:l[i]? with
 | none=>exact h0
 | some v=>exact h v (List.mem_of_getElem? hi)
theorem Dr.riseL_all{P:Dr.It->Prop}(h0:P ⟨0,0,0,0,0⟩)(f:Nat)(l:List Dr.It)(i:Nat)(h:∀y,y∈l->P y): ∀y,y∈Dr.riseL f l i->P y:=by
 induction f generalizing l i with
 | zero=>exact h
 | succ f ih =>
  unfold Dr.riseL
  split
  ·exact h
  ·split
   ·exact ih _ _ (Dr.swapL_all h0 h _ _)
   ·exact h
theorem Dr.sinkL_all{P:Dr.It->Prop}(h0:P ⟨0,0,0,0,0⟩)(f:Nat)(l:List Dr.It)(i:Nat)(h:∀y,y∈l->P y): ∀y,y∈Dr.sinkL f l i->P y:=by
 induction f generalizing l i with
 | zero=>exact h
 | succ f ih =>
  unfold Dr.sinkL
  split
  ·exact h
  ·split
   ·exact ih _ _ (Dr.swapL_all h0 h _ _)
   ·exact h
theorem Dr.takeL_all{P:Dr.It->Prop}(h0:P ⟨0,0,0,0,0⟩)(l:List Dr.It)(h:∀y,y∈l->P y): ∀y,y∈Dr.takeL l->P y:=by
 unfold Dr.takeL
 refine Dr.sinkL_all h0 _ _ _ (λy hy=>?_)
 have hy:=List.mem_of_mem_take hy
 rcases List.mem_or_eq_of_mem_set hy with hy | hy
 ·exact h y hy
 ·subst hy;exact Dr.itAt_all h0 h _
theorem Dr.allL_all{P:Dr.It->Prop}(h0:P ⟨0,0,0,0,0⟩): ∀(f:Nat) (l:List Dr.It),(∀y,y∈l->P y)->∀y,y∈Dr.allL f l->P y
 | 0,_,_=>λy hy=>by simp[Dr.allL]at hy
 | f+1,l,h=>λy hy=>by
  unfold Dr.allL at hy
  split at hy
  ·cases hy
  ·rcases List.mem_cons.1 hy with e | e
   ·rw[e];exact Dr.itAt_all h0 h 0
   ·exact Dr.allL_all h0 f _ (Dr.takeL_all h0 l h) y e
theorem Qi.allL_all{P:It->Prop}(h0:P ⟨0,0,0,0⟩): ∀(f:Nat) (l:List It),(∀y,y∈l->P y)->∀y,y∈Qi.allL f l->P y
 | 0,_,_=>λy hy=>by simp[Qi.allL]at hy
 | f+1,l,h=>λy hy=>by
  unfold Qi.allL at hy
  split at hy
  ·cases hy
  ·rcases List.mem_cons.1 hy with e | e
   ·rw[e];exact itAt_all h0 h 0
   ·exact Qi.allL_all h0 f _ (takeL_all h0 l h) y e
def Fall(l:List Bk): Prop:=l.Pairwise (λa b=>b.t<a.t)
theorem Fall.take{l:List Bk}(h:Fall l)(k:Nat): Fall (l.take k):=List.Pairwise.sublist (List.take_sublist k l) h
theorem Fall.drop{l:List Bk}(h:Fall l)(k:Nat): Fall (l.drop k):=List.Pairwise.sublist (List.drop_sublist k l) h
theorem qTi(r:Int): ∀(n:Nat) (l:List Bk),l.length=n->Fall l->∀b,b∈qFb r l->r<b.t
 | 0,l,hn,_=>λb hb=>by
  have:l=[]:=List.length_eq_zero_iff.1 hn
  subst this
  rw[qWw]at hb
  cases hb
 | n+1,l,hn,hf=>λb hb=>by
  have hp:0<l.length:=by omega
  by_cases hc:(qBi l (l.length-1)).t<=r
  ·rw[qMs hp hc]at hb
   exact qTi r n (l.take (l.length-1)) (by rw[List.length_take];omega) (hf.take _) b hb
  ·rw[qMy hp hc]at hb
   rw[qG3 l hp]at hb hf
   rcases List.mem_append.1 hb with h1 | h1
   ·have:=(List.pairwise_append.1 hf).2.2 b h1 _ (List.mem_singleton.2 rfl)
    omega
   ·rw[List.mem_singleton]at h1;rw[h1];omega
theorem qVb{l:List Bk}(x:Bk)(h:Fall l): Fall (qHe l x):=by
 obtain⟨k,hk,_⟩:=qKk x.t l
 unfold qHe
 split
 ·rw[hk];exact h.take k
 ·refine List.pairwise_append.2 ⟨by rw[hk];exact h.take k,List.pairwise_singleton _ _,λa ha b hb=>?_⟩
  rw[List.mem_singleton]at hb
  rw[hb]
  exact qTi x.t l.length l rfl h a ha
theorem qKu: ∀(l:List Bk) (m:Int),Fall l->(∀b∈l,1<=b.t/\b.t<=m)->(l.length:Int)<=max m 0
 | [],m,_,_=>by simp;omega
 | a::l,m,h,hb=>by
  have h1:=hb a (by simp)
  have h2:=List.pairwise_cons.1 h
  have h3:=qKu l (a.t-1) h2.2 (λb hb'=>⟨(hb b (by simp[hb'])).1,by have:=h2.1 b hb';omega⟩)
  rw[List.length_cons]
  omega
def zC8(z:Dr.It): Prop:=(0<=z.t/\z.t<=4611686018427387904)/\(0<=z.k/\z.k<=4611686018427387904)/\(0<=z.d/\z.d<=4611686018427387904)/\(0<=z.n/\z.n<=4611686018427387904)
structure NX (k:Nat) (nt:Note):Prop where
 bt:∀b∈nt.bs,0<=b.t/\b.t<=4611686018427387904
 rt:∀i,∀b∈nt.rg i,0<=b.sz/\b.sz<=4611686018427387904
 rf:∀i,Fall (nt.rg i)
 tt:k=5->∀z∈nt.tk,zC8 z
theorem qXk{P:Int->Prop}(h0:P 0)(K:Int)(f:Nat)(l:List Bk)(sz:Int)(e:Nat)(h:∀b∈l,P b.t): ∀b∈joinL K f l sz e,P b.t:=by
 induction f generalizing l sz e with
 | zero=>exact h
 | succ f ih =>
  unfold joinL
  split
  ·exact h
  ·refine ih _ _ _ (qIr (P:=λb=>P b.t) l _ _ h ?_)
   show P (qBi l _).t
   unfold qBi
   rw[List.getD_eq_getElem?_getD]
   cases hi:l[qBb l sz e+1]? with
   | none=>exact h0
   | some b=>exact h b (List.mem_of_getElem? hi)
theorem zCz{k:Nat}{c:Cfg}{nt:Note}(h:NX k nt)(y:It)(m:Int)(t0:0<=y.t)(t1:y.t<=4611686018427387904)(hy:k=5->(0<=y.k/\y.k<=4611686018427387904)/\(0<=y.d/\y.d<=4611686018427387904)/\(0<=y.n/\y.n<=4611686018427387904)): NX k (qV2 k c nt y m):=by
 unfold qV2
 split
 ·exact⟨h.bt,h.rt,h.rf,h.tt⟩
 ·split
  ·refine⟨?_,h.rt,h.rf,h.tt⟩
   refine qXk (P:=λt=>0<=t/\t<=4611686018427387904) (by omega) _ _ _ _ _ (λb hb=>?_)
   unfold qQk at hb
   rcases List.mem_append.1 hb with hb | hb
   ·exact h.bt b (List.mem_of_mem_drop hb)
   ·rw[List.mem_singleton]at hb;rw[hb];exact⟨t0,t1⟩
  ·split
   ·refine⟨h.bt,λi b hb=>?_,λi=>?_,h.tt⟩
    ·have hb':b∈qV0 c (qXj c) nt.rg y m i:=hb
     unfold qV0 at hb'
     split at hb'
     ·rcases qQu hb' with hb' | hb'
      ·exact h.rt i b (List.mem_of_mem_drop hb')
      ·rw[hb'];exact⟨t0,t1⟩
     ·exact h.rt i b hb'
    ·show Fall (qV0 c (qXj c) nt.rg y m i)
     unfold qV0
     split
     ·exact qVb _ ((h.rf i).drop _)
     ·exact h.rf i
   ·split
    ·exact⟨h.bt,h.rt,h.rf,h.tt⟩
    ·split
     ·rename_i h5
      refine⟨h.bt,h.rt,h.rf,λ_=>?_⟩
      have hz:zC8 ⟨0,0,0,0,0⟩:=⟨⟨by simp,by simp⟩,⟨by simp,by simp⟩,⟨by simp,by simp⟩,⟨by simp,by simp⟩⟩
      have h1:∀z,z∈Dr.riseL (nt.tk.length+1) (nt.tk++[tick c y]) nt.tk.length->zC8 z:=Dr.riseL_all hz _ _ _ (λz hz'=>by
         rcases List.mem_append.1 hz' with hz' | hz'
         ·exact h.tt h5 z hz'
         ·rw[List.mem_singleton]at hz';rw[hz'];exact⟨⟨t0,t1⟩,hy h5⟩)
      show ∀z∈zAu c nt.tk y,zC8 z
      unfold zAu
      split
      ·exact Dr.takeL_all hz _ h1
      ·exact h1
     ·exact h
structure SX (x:Ser):Prop where
 id0:0<=x.id/\x.id<=99
 accm:x.acc<=4611686018427387904
 nums:∀y,y∈x.l->0<=y.n/\y.n<=4611686018427387904
 refm:∀v,v∈x.ref->v<=4611686018427387904
 note:NX x.k x.nt
theorem qIp{c:Cfg}{k:Nat}{y:It}(h:qF8 c k y=0)(hk:k=5): (0<=y.k/\y.k<=4611686018427387904)/\(0<=y.d/\y.d<=4611686018427387904):=by
 subst hk
 have h2:qMj c y=0:=h
 unfold qMj at h2
 split at h2
 ·split at h2
  ·rename_i h3
   split at h2
   ·rename_i h4
    have a:=qD0 h3
    have b:=qD0 h4
    omega
   ·omega
  ·omega
 ·omega
theorem qWg{n:Int}{x:Ser}(h:SX x)(hi:SInv n x)(hl:x.l≠[])(m:Int): SX (qDs x m):=by
 have hmem:=qOt hl
 have ht:=hi.times _ hmem
 refine⟨h.id0,h.accm,λy hy=>h.nums y (qIk hi.heap hl hy),h.refm,?_⟩
 exact zCz h.note _ _ ht.1 ht.2 (λe=>by
    have hk:=qIp (hi.fits _ hmem) e
    exact⟨hk.1,hk.2,h.nums _ hmem⟩)
theorem zCd(f:Nat){n:Int}{x:Ser}(h:SX x)(hi:SInv n x)(m:Int): SX (qF7 f x m):=by
 induction f generalizing x with
 | zero=>exact h
 | succ f ih =>
  unfold qF7
  split
  ·exact h
  ·rename_i he
   have hl:x.l≠[]:=by simpa using he
   split
   ·exact h
   ·rename_i hm
    exact ih (qWg h hi hl m) (qIu hi hl m hm)
theorem zB0{x:Ser}(clock b:Int)(h:SX x): SX (qOv clock b x):=by
 refine⟨h.id0,h.accm,h.nums,h.refm,?_⟩
 show NX x.k (qL3 x.k x.c x.nt (clock-x.c.lag) b).1
 unfold qL3
 split
 ·exact⟨λz hz=>h.note.bt z (List.mem_of_mem_drop hz),h.note.rt,h.note.rf,h.note.tt⟩
 ·exact h.note
theorem zB8{n:Int}{x:Ser}(h:SX x)(hi:SInv n x)(y:It)(ha:x.acc<4611686018427387904): SX (qMw x y):=by
 have h0:=hi.acc0
 have hp:=qJu x.l (numbered y (x.acc+1)) hi.heap
 refine⟨h.id0,by show x.acc+1<=_;omega,λz hz=>?_,h.refm,h.note⟩
 rcases List.mem_cons.1 (hp.2.subset hz) with e | e
 ·rw[e];show 0<=x.acc+1/\x.acc+1<=_;omega
 ·exact h.nums z e
theorem zBs{x:Ser}(h:SX x)(c:Nat): SX (qQ7 x c):=by
 refine⟨h.id0,h.accm,h.nums,λv hv=>?_,h.note⟩
 rcases List.mem_or_eq_of_mem_set hv with hv | hv
 ·exact h.refm v hv
 ·rw[hv];unfold zCp;split <;> omega
theorem qXi(id:Int)(c:Cfg)(k:Nat)(h:0<=id/\id<=99): SX (qAy id c k):=by
 refine⟨h,by show(0:Int)<=_;omega,λy hy=>(by cases hy),λv hv=>?_,⟨λb hb=>(by cases hb),λi b hb=>(by cases hb),λi=>List.Pairwise.nil,λ_ z hz=>(by cases hz)⟩⟩
 have:v=0:=by simpa[qAy] using hv
 omega
def EX(s:WS): Prop:=∀x,x∈s.xs->SX x
def LoadX(o:OpM): Prop:=o.kind=7->∀s',zCc o.bytes=some s'->EX s'
theorem qTk{n:Int}{s:WS}(o:OpM)(h:EX s)(hi:EInv n s.clock s.xs)(hL:LoadX o): EX (qA5 s o).1:=by
 unfold qA5
 split
 ·unfold qCb
  split
  ·rename_i hc
   split
   ·split
    ·intro x hx
     rcases List.mem_append.1 hx with hx | hx
     ·exact h x hx
     ·rw[List.mem_singleton]at hx;rw[hx];exact qXi _ _ _ (qD0 hc.1)
    ·exact h
   ·exact h
  ·exact h
 ·split
  ·unfold qH2
   split
   ·exact h
   ·rename_i x hf
    have hx:x∈s.xs:=List.mem_of_find?_eq_some hf
    split
    ·rename_i hr
     obtain⟨_,_,_,_,_,_,ha⟩:=qKj hr
     intro z hz
     rcases qHa hz with hz | hz
     ·exact h z hz
     ·rw[hz];exact zB8 (h x hx) (hi.sers x hx) _ ha
    ·intro z hz
     rcases qHa hz with hz | hz
     ·exact h z hz
     ·rw[hz];exact zBs (h x hx) _
  ·split
   ·unfold qFv
    split
    ·split
     ·refine qIq (P:=SX) _ (λb x hx=>zB0 _ b hx) _ _ (λz hz=>?_)
      obtain⟨x,hx,rfl⟩:=List.mem_map.1 hz
      exact zCd _ (h x hx) (hi.sers x hx) _
     ·exact h
    ·exact h
   ·split
    ·unfold qF5
     split <;> exact h
    ·split
     ·unfold qF6
      split <;> exact h
     ·split
      ·exact h
      ·split
       ·rename_i h7
        unfold zCi
        split
        ·exact h
        ·rename_i s' hs'
         exact hL h7 s' hs'
       ·exact h
theorem qU2{c:Cfg}{k:Nat}(hv:qA6 c=true)(hk:c.kind=k)(k1:1<=k)(k5:k<=5): (∀n,n∈qBu k c->0<=n/\n<=9223372036854775807)/\0<=qBp k c/\qBp k c<=3:=by
 have hcm:0<=c.lag/\c.lag<=100/\0<=c.skew/\c.skew<=100/\1<=c.cap/\c.cap<=8:=by
  have:=hv
  simp only[qA6,qEi,inB,Bool.and_eq_true,decide_eq_true_eq]at this
  omega
 have hkn:c.kind.toNat=k:=by omega
 have hfit:qE0 c k=true:=by
  have:=hv
  simp only[qA6,Bool.and_eq_true]at this
  rw[<-hkn];exact this.2.2
 rcases five k1 k5 with e | e | e | e | e <;> subst e
 ·obtain⟨a1,a2,a3,a4⟩:=qD8 hv hk rfl
  refine⟨λn hn=>?_,by simp[qBp],by simp[qBp]⟩
  simp[qBu,qCd,qBp,qBt,Cfg.num,Cfg.nums]at hn
  omega
 ·obtain⟨⟨p1,p2,p3,p4⟩,a2,a3,a4,a5⟩:=qCx hv hk rfl
  refine⟨λn hn=>?_,by simp[qBp],by simp[qBp]⟩
  simp[qBu,qCd,qBp,qBt,Cfg.num,Cfg.nums,List.range_succ]at hn
  omega
 ·obtain⟨hp,hr,_⟩:=qC5 hv hk rfl
  obtain⟨r0,r1,w0,w1,sd⟩:=hr
  have q0:=hp.w0;have q1:=hp.w1;have q2:=hp.p0;have q3:=hp.p1
  refine⟨λn hn=>?_,by simp[qBp];omega,by simp[qBp];omega⟩
  have hr3:c.rows=1\/c.rows=2\/c.rows=3:=by omega
  rcases hr3 with e | e | e
  ·have s0:=sd 0 (by omega)
   simp[qBu,qCd,qBp,qBt,Cfg.num,Cfg.nums,e,List.range_succ]at hn
   simp[sdA,sdB]at s0
   omega
  ·have s0:=sd 0 (by omega)
   have s1:=sd 1 (by omega)
   simp[qBu,qCd,qBp,qBt,Cfg.num,Cfg.nums,e,List.range_succ]at hn
   simp[sdA,sdB]at s0 s1
   omega
  ·have s0:=sd 0 (by omega)
   have s1:=sd 1 (by omega)
   have s2:=sd 2 (by omega)
   simp[qBu,qCd,qBp,qBt,Cfg.num,Cfg.nums,e,List.range_succ]at hn
   simp[sdA,sdB]at s0 s1 s2
   omega
 ·have hd:qHm c=true:=hfit
  simp only[qHm,inB,Bool.and_eq_true,decide_eq_true_eq]at hd
  refine⟨λn hn=>?_,by simp[qBp],by simp[qBp]⟩
  simp[qBu,qCd,qBp,qBt,Cfg.num,Cfg.nums]at hn
  omega
 ·have hd:qI8 c=true:=hfit
  simp only[qI8,qHm,inB,Bool.and_eq_true,decide_eq_true_eq]at hd
  refine⟨λn hn=>?_,by simp[qBp],by simp[qBp]⟩
  simp[qBu,qCd,qBp,qBt,Cfg.num,Cfg.nums]at hn
  omega
theorem qTo{n:Int}{x:Ser}(h:SX x)(hi:SInv n x)(hn:x.rel<=1000000000000): SerOk x:=by
 obtain⟨a1,a2,a3⟩:=qU2 hi.valid hi.kind hi.k1 hi.k5
 have hcm:=hi.common
 have hcap:=hi.cap
 have hlen:x.l.length<=8:=by omega
 have hni:=hi.note
 have hr0:=hi.rel0
 have hone:=qHi hni.one
 have hsum:=hni.sum
 refine⟨by have:=h.id0;omega,a1,a2,a3,hi.reflen,λv hv=>by have h1:=hi.refn v hv;have h2:=h.refm v hv;omega,by omega,hlen,?_,?_,hi.valid,hi.kind,hi.k1,hi.k5⟩
 ·intro m hm
  unfold qLb at hm
  obtain⟨y,hy,hmy⟩:=List.mem_flatMap.1 hm
  have hP:=Qi.allL_all (P:=λy=>(0<=y.n/\y.n<=4611686018427387904)/\(0<=y.t/\y.t<=4611686018427387904)/\(x.k=2\/x.k=3\/x.k=5->0<=y.k/\y.k<=4611686018427387904)/\(x.k=5->0<=y.d/\y.d<=4611686018427387904)) (by simp) (x.l.length+1) x.l (λy hy=>⟨h.nums y hy,hi.times y hy,λhk=>by
       rcases hk with e | e | e
       ·have:=qKd (hi.fits y hy) (.inl e);omega
       ·have:=qKd (hi.fits y hy) (.inr e);omega
       ·exact(qIp (hi.fits y hy) e).1,λe=>(qIp (hi.fits y hy) e).2⟩) y hy
  obtain⟨p1,p2,p3,p4⟩:=hP
  unfold qM9 at hmy
  rcases List.mem_cons.1 hmy with e | e
  ·rw[e];omega
  ·obtain⟨j,hj,rfl⟩:=List.mem_map.1 e
   have hk1:=hi.k1;have hk5:=hi.k5
   have hj':j=0\/(j=1/\(x.k=2\/x.k=3\/x.k=5))\/(j=2/\x.k=5):=by
    have hk:x.k=1\/x.k=2\/x.k=3\/x.k=4\/x.k=5:=by omega
    rcases hk with e | e | e | e | e <;> rw[e]at hj <;> simp[qE3]at hj <;> omega
   rcases hj' with e | ⟨e,hk⟩ | ⟨e,hk⟩
   ·subst e;show 0<=y.t/\y.t<=_;omega
   ·subst e;have:=p3 hk;show 0<=y.k/\y.k<=_;omega
   ·subst e;have:=p4 hk;show 0<=y.d/\y.d<=_;omega
 ·refine⟨by have:=hni.q0;have:=hni.qn;omega,by have:=hni.r0;have:=hni.r1;omega,by omega,λb hb=>⟨hni.one b hb,?_⟩,λb hb=>by have:=h.note.bt b hb;omega,λi=>?_,λi b hb=>by have h1:=h.note.rt i b hb;have h2:=hni.rk i b hb;omega,λe=>?_,λe=>?_,λe m hm=>?_⟩
  ·have:b.sz<=qCm x.nt.bs:=by
    have h1:=List.append_of_mem hb
    obtain⟨s,t,hst⟩:=h1
    rw[hst,qCt]
    have h2:=qC1 (l:=s) (λz hz=>hni.one z (by rw[hst];simp[hz]))
    have h3:=qC1 (l:=t) (λz hz=>hni.one z (by rw[hst];simp[hz]))
    simp only[qCm];omega
   omega
  ·have:=qKu (x.nt.rg i) 40 (h.note.rf i) (hni.rk i)
   omega
  ·obtain⟨b1,b2,b3,b4,b5⟩:=qC5 hi.valid hi.kind e
   have ho:=hni.oi e
   have hcl:x.nt.cl.length<=8:=by have:=ho.len;have:=b1.p1;omega
   exact⟨by omega,ho.okC hi.lastn b3 b4,ho.okO hi.lastn b3 b4,λz hz=>by have:=ho.ocs z hz;omega,λp hp z hz=>by have:=ho.ccs p hp z hz;omega⟩
  ·have h1:=hni.tl e
   have h2:=(qF0 hi.valid hi.kind e).2
   omega
  ·unfold qL0 at hm
   obtain⟨z,hz,hmz⟩:=List.mem_flatMap.1 hm
   have hP:zC8 z:=Dr.allL_all (P:=zC8) ⟨⟨by simp,by simp⟩,⟨by simp,by simp⟩,⟨by simp,by simp⟩,⟨by simp,by simp⟩⟩ _ _ (h.note.tt e) z hz
   obtain⟨z1,z2,z3,z4⟩:=hP
   simp at hmz
   rcases hmz with e | e | e | e <;> rw[e] <;> omega
theorem qXs(e:Nat)(v:Value)(clock:Int)(ps:List (SB×Ser))(o:OpM)(w:World)(h:ERep w e v clock ps)(hb:o.bytes=qAa):
  Calls Tryz.prog 37 #[.pointer (some ⟨e,0,none⟩),o.val] w λr w'=>StepPost w e v ps clock (ps.map (·.2)) 14 [] r w':=by
 have HE:=hide h
 have hk0:Keeps (λ_=>False) w ((w.alloc (.cells o.cells.toArray 34)).alloc (.cells #[.int .i64 0,.slice none 0 0,.string ⟨#[]⟩] 38)):=((Keeps.refl (λ_=>False) w).alloc _).alloc _
 have HO0:=hide (show Blk ((w.alloc (.cells o.cells.toArray 34)).alloc (.cells #[.int .i64 0,.slice none 0 0,.string ⟨#[]⟩] 38)) w.heap.size o.cells 34 from(Blk.new w o.cells 34).alloc _)
 have HR0:=hide (show Blk ((w.alloc (.cells o.cells.toArray 34)).alloc (.cells #[.int .i64 0,.slice none 0 0,.string ⟨#[]⟩] 38)) (w.heap.size+1) [.int .i64 0,.slice none 0 0,.string qAa] 38 from Blk.newAt (by simp) [_,_,_] 38)
 obtain⟨nb,hnb⟩:∃nb,qAa=nb:=⟨_,rfl⟩
 have h25:((w.alloc (.cells o.cells.toArray 34)).alloc (.cells #[.int .i64 0,.slice none 0 0,.string ⟨#[]⟩] 38)).cell? ⟨w.heap.size,25,none⟩=some (.string nb):=by rw[<-hnb,<-hb];exact(uh HO0).cell rfl
 have HLE:=hide (show ∀w0,Calls Tryz.prog 61 #[.string nb] w0 λres w'=>res=.returned (.pointer none)/\Keeps (λ_=>False) w0 w' by rw[<-hnb];exact qQi)
 have HK0:=hide hk0
 clear h hb hk0 hnb
 unfold OpM.val
 go_enter Tryz.func37,Tryz.ntmps37
 go_wp2_with fail
 generalize(w.alloc (.cells o.cells.toArray 34)).alloc (.cells #[.int .i64 0,.slice none 0 0,.string ⟨#[]⟩] 38)=w0 at *
 refine(uh HLE w0).mono ?_
 rintro r w1 ⟨rfl,hk1⟩
 have HR1:=hide ((uh HR0).keeps hk1 (λh=>h))
 have HK1:=hide ((uh HK0).then hk1)
 clear hk1 h25
 go_wp2_with fail
 refine(qFk 14 w1).mono ?_
 rintro r w2 ⟨rfl,hk2⟩
 have HR2:=hide ((uh HR1).keeps hk2 (λh=>h))
 have HK2:=hide ((uh HK1).then hk2)
 clear hk2
 unfold qCh
 have r0:=(uh HR2).cell (i:=0) rfl
 have r1:=(uh HR2).cell (i:=1) rfl
 have r2:=(uh HR2).cell (i:=2) rfl
 have rf:=(uh HR2).frozen
 have HF1:=hide ((((uh HR2).setCell 0 (.int .i64 14)).setCell 1 (.slice none 0 0)).setCell 2 (.string qAa))
 have HKF:=hide (show Keeps (λi=>i=w.heap.size+1) w2 _ from(((Keeps.refl (λi=>i=w.heap.size+1) w2).setCell (p:=⟨w.heap.size+1,0,none⟩) (Or.inl rfl) (.int .i64 14)).setCell (p:=⟨w.heap.size+1,1,none⟩) (Or.inl rfl) (.slice none 0 0)).setCell (p:=⟨w.heap.size+1,2,none⟩) (Or.inl rfl) (.string qAa))
 go_wp2
 clear r0 r1 r2 rf HR2
 generalize((w2.setCell ⟨w.heap.size+1,0,none⟩ (.int .i64 14)).setCell ⟨w.heap.size+1,1,none⟩ (.slice none 0 0)).setCell ⟨w.heap.size+1,2,none⟩ (.string qAa)=w9 at *
 have q0:w9.cell? ⟨w.heap.size+1,0,none⟩=some (.int .i64 14):=(uh HF1).cell rfl
 have q1:w9.cell? ⟨w.heap.size+1,1,none⟩=some (.slice none 0 0):=(uh HF1).cell rfl
 have q2:w9.cell? ⟨w.heap.size+1,2,none⟩=some (.string qAa):=(uh HF1).cell rfl
 refine bodyPost_ret (v:=qCh 14 (.slice none 0 0)) (by simp[results,Tryz.results37,go_sem,q0,q1,q2,qCh]) rfl ?_
 exact qBz (uh HE) ((uh HK2).trans (uh HKF) (λi hi hlt=>by have h2:i=w.heap.size+1:=hi;omega)) (World.ownsRow_nil _ _ _ _)
def qXn(ld:ByteArray->Option WS)(b:ByteArray): Prop:=(ld b=none/\b=qAa)\/∃(xs:List Ser) (can:Ser->Ser) (clock':Int),ld b=some ⟨clock',xs.map can⟩/\b=qD2 clock' xs/\LdAll xs can clock'
theorem qXb(ld:ByteArray->Option WS)(n:Int)(e:Nat)(v:Value)(clock:Int)(ps:List (SB×Ser))(o:OpM)(w:World)(h:ERep w e v clock ps)(hi:EInv n clock (ps.map (·.2)))(hn:n<=651562446200)(hT:Tab w)(hT0:¬EFoot e v ps 2)(h6:o.kind=6->∀x,x∈ps.map (·.2)->SerOk x)(h7:o.kind=7->qXn ld o.bytes):
  Calls Tryz.prog 23 #[.pointer (some ⟨e,0,none⟩),o.val] w λr w' =>
   qFc w e v ps (stepG ld ⟨clock,ps.map (·.2)⟩ o).1.clock (stepG ld ⟨clock,ps.map (·.2)⟩ o).1.xs (stepG ld ⟨clock,ps.map (·.2)⟩ o).2.1 (stepG ld ⟨clock,ps.map (·.2)⟩ o).2.2 (qD7 ⟨clock,ps.map (·.2)⟩ o) r w':=by
 by_cases h7':o.kind=7
 ·have hby:qD7 ⟨clock,ps.map (·.2)⟩ o=qAa:=by unfold qD7;rw[if_neg (by omega)]
  rw[hby]
  rcases h7 h7' with ⟨h8,h9⟩ | ⟨xs,can,clock',h8,h9,h10⟩
  ·have hM:stepG ld ⟨clock,ps.map (·.2)⟩ o=(⟨clock,ps.map (·.2)⟩,14,[]):=by unfold stepG;rw[if_pos h7',h8]
   rw[hM]
   exact(zAs e v clock ps o w h h7' _ _ _ _ (λw0 h0=>qXs e v clock ps o w0 h0 h9)).mono (λ_ _ h=>h.b)
  ·have hM:stepG ld ⟨clock,ps.map (·.2)⟩ o=(⟨clock',xs.map can⟩,0,[]):=by unfold stepG;rw[if_pos h7',h8]
   rw[hM]
   exact(zAs e v clock ps o w h h7' _ _ _ _ (λw0 h0=>zAb e v clock clock' ps o xs can w0 h0 h9 h10)).mono (λ_ _ h=>h.b)
 ·have hM:stepG ld ⟨clock,ps.map (·.2)⟩ o=qA5 ⟨clock,ps.map (·.2)⟩ o:=by unfold stepG;rw[if_neg h7']
  rw[hM]
  exact qT1 n e v clock ps o w h hi hn hT hT0 h7' h6
def qJp(ops:List OpM): Prop:=∀o,o∈ops->o.kind≠7
theorem zB7{n:Int}{s:WS}(l:List OpM)(h:EX s)(hi:EInv n s.clock s.xs)(hn:0<=n)(hok:qJp l): EX (qE6 s l):=by
 induction l generalizing s n with
 | nil=>exact h
 | cons a l ih =>
  have ha:=hok a (by simp)
  exact ih (qTk a h hi (λe=>(ha e).elim)) (qGi a hi hn (qD9 ha)) (by omega) (λo ho=>hok o (by simp[ho]))
theorem qRg(sb so cap:Nat)(ops:List OpM)(w:World)(hsc:ScriptAt w sb so ops)(hlt:sb<w.heap.size)(hlen:ops.length<=651562446090)(hT:Tab w)(hok:qJp ops):
  Calls Tryz.prog 11 #[.slice (some ⟨sb,so,none⟩) ops.length cap] w λr w'=>∃v l,r=.returned v/\ARep w' w.heap.size v l/\l.map (λx=>(x.code,x.nums))=qLc ws0 ops/\l.map (·.bs)=qSg ws0 ops/\Keeps (λ_=>False) w w' :=
 zCe sb so cap ops w hsc hlt hlen hT (λ_ o ho=>qD9 (hok o (List.mem_of_getElem? ho))) (λi e v clock ps o w ho hs h hi hn hT hT0=>qT1 i e v clock ps o w h hi hn hT hT0 (hok o (List.mem_of_getElem? ho)) (λ_ x hx=>by
      have hex:EX (qE6 ws0 (ops.take i)):=zB7 (ops.take i) (λx hx=>by simp[ws0]at hx) inv0 (by omega) (λo ho=>hok o (List.mem_of_mem_take ho))
      rw[<-hs]at hex
      have hsi:=hi.sers x hx
      exact qTo (hex x hx) hsi (by have h1:=hsi.rela;have h2:=hsi.accn;omega)))
theorem qNq{w:World}{base:Nat}{v:Value}{l:List Ans}(h:ARep w base v l)(hl:l≠[]): ∃g cap,v=.slice (some ⟨g,0,none⟩) l.length cap/\∀i u,(qDp l)[i]?=some u->w.cell? ⟨g,i,none⟩=some u:=by
 rcases h.row.2 with ⟨_,h2⟩ | ⟨g,cap,cur,h1,_,h3,h4,h5,h6,h7⟩
 ·exact absurd (List.length_eq_zero_iff.1 h2) hl
 ·refine⟨g,cap,h1,λi u hu=>?_⟩
  have hi:i<l.length*3:=by have:=(List.getElem?_eq_some_iff.1 hu).1;have:=h.row.1;omega
  have:cur[i]?=some u:=by
   rw[<-h7,List.getElem?_take,if_pos hi]at hu
   simpa using hu
  simp[World.cell?,h3,this]
def qHf: Ser:=qAy 7 c0 4
theorem qS8: qA6 c0=true:=by decide
theorem qTq: SInv 0 qHf:=qI1 7 c0 qS8 (by omega)
theorem qSa: SerOk qHf :=
 qTo (n:=0) ⟨by decide,by decide,λy hy=>by simp[qHf,qAy]at hy,λv hv=>by
    have:v=0:=by simpa[qHf,qAy] using hv
    omega,by
    have:=qTk (n:=0) (s:=ws0) o1 (λx hx=>by simp[ws0]at hx) inv0 (λe=>by cases e) qHf (by
       have h:(qA5 ws0 o1).1.xs=[qHf]:=by kernel_rfl
       rw[h];simp)
    exact this.note⟩ qTq (by decide)
theorem zA4: LdOk qHf 0 where
 id0:=by decide
 cfg:=λn hn=>qSa.cfg n hn
 p0:=by decide
 p3:=by decide
 kind:=rfl
 k1:=by decide
 k5:=by decide
 valid:=qS8
 ref:=λj=>by
  have h:∀v,v∈qHf.ref->0<=v/\v<=0:=λv hv=>by
   have:v=0:=by simpa[qHf,qAy] using hv
   omega
  unfold qAs
  rw[List.getD_eq_getElem?_getD]
  cases hj:qHf.ref[j]? with
  | none=>simp
  | some v=>have:=h v (List.mem_of_getElem? hj);simp;omega
 rel0:=by decide
 rel1:=by decide
 rel2:=by decide
 c0:=by decide
 c1:=by decide
 lag:=by decide
 cap:=by decide
theorem zAk: LdAll [qHf] id 0 where
 six:=by decide
 c0:=by decide
 c1:=by decide
 ids:=by simp
 cid:=λ_ _=>rfl
 nums:=λ_ _=>rfl
 ok:=λx hx=>by
  rw[List.mem_singleton]at hx;subst hx;exact qSa
 len:=by
  have h1:=qHn qSa 0
  have h2:=qAv (qCv 0 [qHf])
  have h3:=qBd (qJy (qGc 0 [qHf]))
  have h4:(qCv 0 [qHf]).length=2+(qCz 0 qHf).length:=by simp[qCv,qDg];omega
  have h5:qHf.nt.bs.length=0:=rfl
  have h6:qCs.length=8:=rfl
  unfold qGw
  rw[List.length_append]
  have h7:(qGc 0 [qHf]).length=8+(qB2 (qCv 0 [qHf])).length:=by unfold qGc;rw[List.length_append,h6]
  omega
 sum:=by have:=qR1 (qGc 0 [qHf]);omega
 ld:=λx hx r tl w hr=>by
  rw[List.mem_singleton]at hx;subst hx
  have hn:qCz 0 qHf=qGo qHf++[0,0]:=rfl
  rw[hn,qAr,List.append_assoc]at hr
  refine(qQj r qHf 0 qVr (qB2 [0,0]) tl w hr zA4 rfl ?_).mono ?_
  ·intro nb kn w1 hN hR hK h1 h2 h3
   have hd:nb.d≠r:=λe=>h1 (.inr (.inl ⟨rfl,e.symm⟩))
   have hkd:kn≠nb.d:=λe=>h2 (.inr (.inl ⟨rfl,e⟩))
   refine(qSf nb.d r kn c0 0 0 _ _ 0 _ tl w1 (hN.dec rfl) hR hK hd h3 hkd (by omega) (by omega) (by omega) (by omega) (by omega) (.inr rfl) (.inr (by omega))).mono ?_
   rintro e w2 ⟨rfl,hb,hr2,hk2⟩
   exact⟨rfl,nb,rfl,⟨λ_=>hb,λe=>(by cases e),λe=>(by cases e),λe=>(by cases e),λe=>(by cases e)⟩,λi hi=>.inl hi,hr2,hk2.mono (λi _ h=>by
        rcases h with h | h
        ·exact .inl h
        ·exact .inr (.inr (.inr (.inl ⟨rfl,h⟩))))⟩
  ·rintro e w' ⟨sb,rfl,hs,hr2,hf,hk⟩
   exact⟨sb,rfl,hs,hr2,hf,hk⟩
def B7: ByteArray:=qD2 0 [qHf]
theorem zDa: (B7.toList==qAa.toList)=false:=by
 have h:B7.size≠0:=by
  unfold B7 qD2
  rw[qFi]
  unfold qGw qGc
  simp[qCs]
 cases hb:(B7.toList==qAa.toList) with
 | false=>rfl
 | true =>
  have h2:B7.toList=qAa.toList:=by simpa using hb
  rw[ByteArray.toList_eq,ByteArray.toList_eq]at h2
  exfalso
  apply h
  have h3:=congrArg List.length h2
  exact h3
theorem zDy: B7≠qAa:=λe=>by have:=zDa;rw[e]at this;simp at this
def ld7(b:ByteArray): Option WS:=if b=B7 then some ⟨0,[qHf]⟩ else none
theorem qXh: ld7 B7=some ⟨0,[qHf]⟩:=by unfold ld7;rw[if_pos rfl]
theorem zAo: ld7 qAa=none:=by unfold ld7;rw[if_neg (λe=>zDy e.symm)]
def l7(b:ByteArray): OpM:=⟨7,0,0,0,0,cz,b⟩
def o6: OpM:=⟨6,0,0,0,0,cz,qAa⟩
def qIg: List OpM:=[l7 B7,o5,l7 qAa]
theorem zBv: qLc ws0 [o1,o6]=[(0,[]),(0,[])]:=by kernel_rfl
theorem two_bytes: qSg ws0 [o1,o6]=[qAa,B7]:=rfl
theorem qUj: qV1 ld7 ws0 qIg=[(0,[]),(0,[0,0,1]),(14,[])]:=by
 have h1:stepG ld7 ws0 (l7 B7)=(⟨0,[qHf]⟩,0,[]):=by unfold stepG;rw[if_pos (show(l7 B7).kind=7 from rfl),show ld7 (l7 B7).bytes=some ⟨0,[qHf]⟩ from qXh]
 have h2:stepG ld7 ⟨0,[qHf]⟩ o5=(⟨0,[qHf]⟩,0,[0,0,1]):=by unfold stepG;rw[if_neg (by decide)];kernel_rfl
 have h3:stepG ld7 ⟨0,[qHf]⟩ (l7 qAa)=(⟨0,[qHf]⟩,14,[]):=by unfold stepG;rw[if_pos (show(l7 qAa).kind=7 from rfl),show ld7 (l7 qAa).bytes=none from zAo]
 unfold qIg
 simp only[qV1,h1,h2,h3]
theorem qM2(b cap:Nat)(w:World)(hsc:ScriptAt w b 0 qIg)(hlt:b<w.heap.size)(hT:Tab w):
  Calls Tryz.prog 11 #[.slice (some ⟨b,0,none⟩) 3 cap] w λr w'=>∃v l,r=.returned v/\ARep w' w.heap.size v l/\l.map (λx=>(x.code,x.nums))=[(0,[]),(0,[0,0,1]),(14,[])]/\Keeps (λ_=>False) w w':=by
 have hkn:∀o,o∈qIg->o.kind=7->qXn ld7 o.bytes:=λo ho h7=>by
  simp[qIg]at ho
  rcases ho with e | e | e
  ·subst e;exact .inr ⟨[qHf],id,0,by rw[List.map_id];exact qXh,rfl,zAk⟩
  ·subst e;cases h7
  ·subst e;exact .inl ⟨zAo,rfl⟩
 have h6:∀o,o∈qIg->o.kind≠6:=λo ho=>by
  simp[qIg]at ho
  rcases ho with e | e | e <;> subst e <;> decide
 refine(qZb ld7 b 0 cap qIg w hsc hlt (by decide) hT (λi o ho h7 s' hs'=>?_) (λi e v clock ps o w0 ho _ hE hi hn hT0 hT1=>qXb ld7 i e v clock ps o w0 hE hi hn hT0 hT1 (λh=>absurd h (h6 o (List.mem_of_getElem? ho))) (hkn o (List.mem_of_getElem? ho)))).mono ?_
 ·have:s'=⟨0,[qHf]⟩:=by
   unfold ld7 at hs'
   split at hs'
   ·exact(Option.some.inj hs').symm
   ·cases hs'
  subst this
  refine⟨by decide,by decide,by decide,λx hx=>?_,λx hx=>?_⟩
  ·rw[List.mem_singleton]at hx;subst hx;exact qTq.mono (by omega)
  ·rw[List.mem_singleton]at hx;subst hx;exact .inl rfl
 ·rintro r w' ⟨v,l,rfl,hA,hl,_,hk⟩
  rw[qUj]at hl
  exact⟨v,l,rfl,hA,hl,hk⟩
end
end Go.Proofs.YtahnliehdjncdabGreatDoor
