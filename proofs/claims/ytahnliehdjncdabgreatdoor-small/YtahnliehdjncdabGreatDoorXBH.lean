import Derived.Deep.LoopGhost
import Derived.Test.YtahnliehdjncdabGreatDoorXAC
import Derived.Test.YtahnliehdjncdabGreatDoorXBG
import Derived.Test.YtahnliehdjncdabGreatDoorXBC
import Derived.Test.YtahnliehdjncdabGreatDoorXBF
set_option maxRecDepth 100000
set_option maxHeartbeats 16000000
namespace Go.Proofs.YtahnliehdjncdabGreatDoor.Qi
open Go.RowKit
theorem qEt(q:Nat)(og:Option Nat)(l:List It)(n:Int)(w:World)(h:QRep w q og l)(hn:(l.length:Int)=n):
  Calls Tryz.prog 78 #[.pointer (some ⟨q,0,none⟩)] w λe w'=>e=.returned (.int .i64 n)/\w'=w :=
 (len_any q og l w h).mono λ_ _ ⟨he,hw⟩=>⟨by rw[he,hn],hw⟩
theorem qSw(q g:Nat)(l:List It)(x:It)(w:World)(h:QRep w q (some g) l)(hl:l.length<=900)(hl0:0<l.length)(hx:itAt l 0=x):
  Calls Tryz.prog 81 #[.pointer (some ⟨q,0,none⟩)] w λe w'=>e=.returned (.tuple #[.agg #[.int .i64 x.t,.int .i64 x.k,.int .i64 x.d,.int .i64 x.n],.bool true])/\QRep w' q (some g) (takeL l)/\Keeps (λk=>k=q\/k=g) w w' :=
 (qW6 q g l w h hl hl0).mono λ_ _ ⟨he,hw⟩=>⟨by rw[he,hx];rfl,hw⟩
theorem all_some(q g:Nat)(l:List It)(w:World)(h:QRep w q (some g) l)(hl:l.length<=900):
  Calls Tryz.prog 84 #[.pointer (some ⟨q,0,none⟩)] w λe w'=>∃g cp,e=.returned (.slice (some ⟨g,0,none⟩) l.length cp)/\w.heap.size<=g/\IRow w' g cp (allL (l.length+1) l)/\(allL (l.length+1) l).length=l.length/\Keeps (λ_=>False) w w':=by
 obtain⟨n,hn⟩:∃n,n=l.length:=⟨_,rfl⟩
 obtain⟨i0,hi0,hz0,hz1,hz2⟩:=info_parts qGs
 have HN:=hide hn
 have HQ:=hide h
 rw[<-hn]at hl ⊢
 obtain⟨hne,cap,hb,hr⟩:=h
 have hq0:w.cell? ⟨q,0,none⟩=some (.func (.func 77) #[] #[]):=hb.cell rfl
 have hq1:w.cell? ⟨q,1,none⟩=some (.slice (some ⟨g,0,none⟩) n cap):=by rw[hn];exact hb.cell rfl
 have HCL:=hide (show ∀W,Keeps (λ_=>False) w W->Calls Tryz.prog 131 #[.slice (some ⟨g,0,none⟩) n cap] W λe w'=>∃g1 c1,e=.returned (.slice (some ⟨g1,0,none⟩) n c1)/\W.heap.size<=g1/\IRow w' g1 c1 l/\Keeps (λ_=>False) W w' from λW hW=>by
    rw[hn];exact qK5 g cap l W (hr.keeps hW (λh=>h)) (by omega))
 clear hb hr hn
 go_enter Tryz.func84,Tryz.ntmps84
 go_wp2_with fail
 go_region_held3 (λw'=>w'.cell? ⟨q,0,none⟩=some (.func (.func 77) #[] #[])/\w'.cell? ⟨q,1,none⟩=some (.slice (some ⟨g,0,none⟩) n cap))
  (first | (go_split_ands;exact⟨by assumption,by assumption⟩) | (go_split_ands;exact⟨((Keeps.refl (λ_=>False) _).alloc _).cell (by assumption) (λh=>h),((Keeps.refl (λ_=>False) _).alloc _).cell (by assumption) (λh=>h)⟩) | (go_split_ands;exact⟨hka.cell (by assumption) (λh=>h),hka.cell (by assumption) (λh=>h)⟩))
  (first | (go_at_call 131;refine(uh HCL _ (by exact(Keeps.refl _ _).drew)).mono ?_;rintro e W1 ⟨g1,c1,rfl,hg1,hrow,hka⟩))
 have HK1:=hide (((Keeps.refl (λ_=>False) w).drew).then hka)
 have HG1:=hide (show w.heap.size<=g1 from hg1)
 have HZ1:=hide (uh HK1).size
 have HGL:=hide hrow.lt
 have HROW:=hide hrow
 clear hrow hka HCL hg1
 obtain⟨W2,hW2⟩:∃W2,W2=W1.alloc (.cells #[.func (.func 77) #[] #[],.slice (some ⟨g1,0,none⟩) n c1] 166):=⟨_,rfl⟩
 have HB2:=hide (show Blk W2 W1.heap.size [qCf,.slice (some ⟨g1,0,none⟩) n c1] 166 by rw[hW2];exact Blk.new W1 _ _)
 have HA2:=hide (show Keeps (λ_=>False) W1 W2 by rw[hW2];exact(Keeps.refl (λ_=>False) W1).alloc _)
 have HW2:=hide hW2
 clear hW2
 have HQR:=hide (show QRep W2 W1.heap.size (some g1) l from⟨by have:=uh HGL;omega,c1,by rw[<-uh HN];exact uh HB2,(uh HROW).keeps (uh HA2) (λh=>h)⟩)
 have HK2:=hide ((uh HK1).then (uh HA2))
 obtain⟨wm,hmk,hown,hgr⟩:=run_make_own (P:=Tryz.prog) W2 w.heap.size 141 88 i0 _ 4 Tryz.underlying141 hi0 hz0 hz1 .i64 .i64 n (by rw[hz2];omega) (by unfold maxLen;omega) (uh HK2).size
 have HKM:=hide (show Keeps (λ_=>False) W2 wm from(Keeps.refl (λ_=>False) W2).grown hgr (λk hk=>by cases hk))
 have HOM:=hide (show Own wm w.heap.size (.slice (some ⟨W2.heap.size,0,none⟩) 0 n) [] from hown)
 clear hown hgr
 go_wp2_with fail
 rw[show W1.alloc (.cells #[.func (.func 77) #[] #[],.slice (some ⟨g1,0,none⟩) n c1] 166)=W2 from(uh HW2).symm]
 refine(qEt q (some g) l n W2 ((uh HQ).keeps (uh HK2) (λh=>h) (λ_ _ h=>h)) (by rw[uh HN])).mono ?_
 rintro e w' ⟨rfl,hw'⟩
 rw[hw']
 clear hw' w'
 have HRB:=hide (show W1.heap.size<W2.heap.size from(uh HB2).lt)
 have HGB:=hide (show g1<W2.heap.size from((uh HQR).lt.2 g1 rfl).1)
 have HRG:=hide (show W1.heap.size≠g1 from((uh HQR).lt.2 g1 rfl).2)
 have HRBW:=hide (show w.heap.size<=W1.heap.size from uh HZ1)
 generalize hrb:W1.heap.size=rb at *
 generalize hga:W2.heap.size=ga0 at *
 go_wp2_with fail
 go_loopg [4] (n) (λgk v wr=>∃(m dn:List It) (ga cp:Nat),v=.slice (some ⟨ga,0,none⟩) dn.length cp/\Hid (m.length=gk)/\Hid (dn.length+gk=n)/\Hid (ga≠rb/\ga≠g1)/\Hid (Own wr w.heap.size (.slice (some ⟨ga,0,none⟩) dn.length cp) dn)/\Hid (QRep wr rb (some g1) m)/\Hid (Keeps (λ_=>False) w wr)/\Hid (allL (n+1) l=dn++allL (gk+1) m))
 case atStart=>exact⟨l,[],ga0,n,rfl,(uh HN).symm,by show _=_;simp,⟨by have:=uh HRB;omega,by have:=uh HGB;omega⟩,HOM,(uh HQR).keeps (uh HKM) (λh=>h) (λ_ _ h=>h),(uh HK2).then (uh HKM),rfl⟩
 case round =>
  obtain⟨m,dn,ga,cp,rfl,HM,HDN,HGA,HO,HQr,HKr,HE⟩:=hrel
  obtain⟨k,hk⟩:∃k,dn.length=k:=⟨_,rfl⟩
  rw[hk]
  have HKE:=hide hk
  clear hk
  by_cases h0:gk=0
  ·go_wp2_with (go_at_call 78;refine(qEt rb (some g1) m 0 _ (uh HQr) (by have:=uh HM;omega)).mono ?_;rintro e w' ⟨rfl,hw'⟩;rw[hw'];clear hw' w')
   go_ret
   have hkn:k=n:=by have:=uh HDN;have:=uh HKE;omega
   subst hkn
   have ho:=Own.row rfl (uh HO)
   have hall:allL (k+1) l=dn:=by
    rw[uh HE,h0]
    unfold allL
    rw[if_pos (by have:=uh HM;omega),List.append_nil]
   refine⟨ga,cp,rfl,ho.2,?_,?_,uh HKr⟩
   ·rw[hall];exact ho.1
   ·rw[hall];exact uh HKE
  ·have hgt:(0:Int)<(gk:Int):=by omega
   have hgN:0<gk:=by omega
   obtain⟨x,hx⟩:∃x,itAt m 0=x:=⟨_,rfl⟩
   have HTK:=hide (qSw rb g1 m x wr (uh HQr) (by have:=uh HM;have:=uh HDN;omega) (by have:=uh HM;omega) hx)
   have HX:=hide hx
   clear hx
   go_wp2_with (first | (go_at_call 78;refine(qEt rb (some g1) m gk _ (uh HQr) (by have:=uh HM;omega)).mono ?_;rintro e w' ⟨rfl,hw'⟩;rw[hw'];clear hw' w') | (go_at_call 81;refine(uh HTK).mono ?_;rintro e W3 ⟨rfl,hq3,hk3⟩;have HQ3:=hide hq3;have HK3:=hide hk3;clear hq3 hk3;have HO3:=hide (show Own W3 w.heap.size (.slice (some ⟨ga,0,none⟩) k cp) dn by rw[<-uh HKE];exact(uh HO).keeps (uh HK3) (λi hi h=>by
             have hi':ga=i:=by simpa[Value.ownBlock] using hi
             rcases h with h | h
             ·exact(uh HGA).1 (by omega)
             ·exact(uh HGA).2 (by omega)))) | (at_builtin;refine qCg rfl _ _ rfl w.heap.size _ dn k (uh HKE) rfl (by exact(uh HO3).keeps (((Keeps.refl (λ_=>False) W3).alloc _).alloc _) (λ_ _ h=>h)) (W3.heap.size+1) 1 1 [x] rfl rfl (by exact λj u hu=>(Blk.newAt (by simp) (flat [x]) 88).cell hu) (by omega) (by have:=uh HDN;have:=uh HKE;omega) (by have h1:=(uh HKr).size;have h2:=(uh HK3).size;simp;omega) ?_;intro g2 c2 W4 hown4 hk4 hat4))
   have HBND:=hide (show W3.heap.size<=W4.heap.size/\wr.heap.size<=W3.heap.size/\w.heap.size<=wr.heap.size from⟨by have:=hk4.size;simp at this;omega,(uh HK3).size,(uh HKr).size⟩)
   have hq3:=uh HQ3
   have hlt3:=hq3.lt
   have HK4:=hide (((Keeps.refl (λi=>i=ga) W3).alloc (.cells #[.int .i64 x.t,.int .i64 x.k,.int .i64 x.d,.int .i64 x.n] 88)).alloc (.cells #[.int .i64 x.t,.int .i64 x.k,.int .i64 x.d,.int .i64 x.n] 88) |>.trans hk4 (λi hi hlt=>by
         have hi':(Value.slice (some ⟨ga,0,none⟩) k cp).ownBlock=some i:=hi
         have:ga=i:=by simpa[Value.ownBlock] using hi'
         exact this.symm))
   have HO4:=hide hown4
   have HAT:=hide (show g2=ga\/W3.heap.size<=g2 from by
      rcases hat4 with h | h
      ·have h':(Value.slice (some ⟨ga,0,none⟩) k cp).ownBlock=some g2:=h
       exact .inl (by have:ga=g2:=(by simpa[Value.ownBlock] using h');exact this.symm)
      ·exact .inr (by simp at h;omega))
   clear hown4 hk4 hat4
   have HGN:=hide (show w.heap.size<=ga from(uh HO).base ga (by simp[Value.ownBlock]))
   go_wp2
   go_roundg (gk-1)
   case measure=>omega
   case rel =>
    have hgl:=(hlt3.2 g1 rfl).1
    have hgr:=hlt3.1
    have hGA:=uh HGA
    refine⟨takeL m,dn++[x],g2,c2,?_,?_,?_,?_,?_,?_,?_,?_⟩
    ·rw[List.length_append,uh HKE];rfl
    ·show _=_;rw[takeL_length];have:=uh HM;omega
    ·show _=_;rw[List.length_append];have:=uh HDN;simp;omega
    ·show _/\_
     rcases uh HAT with h | h
     ·rw[h];exact hGA
     ·exact⟨by omega,by omega⟩
    ·show Own _ _ _ _
     rw[List.length_append,uh HKE];exact uh HO4
    ·exact hq3.keeps (uh HK4) (λh=>hGA.1 h.symm) (λg hg h=>by injection hg with hg;exact hGA.2 (by rw[hg];exact h.symm))
    ·have hK3:Keeps (λ_=>False) w W3:=(uh HKr).trans (uh HK3) (λi hi hlt=>by
        rcases hi with hi | hi
        ·have:=uh HRBW;omega
        ·have:=uh HG1;omega)
     exact hK3.trans (uh HK4) (λi hi hlt=>by have:=uh HGN;omega)
    ·show _=_
     rw[uh HE]
     conv=>lhs;unfold allL
     rw[if_neg (by have:=uh HM;omega),uh HX,show gk-1+1=gk by omega]
     simp
end Go.Proofs.YtahnliehdjncdabGreatDoor.Qi
namespace Go.Proofs.YtahnliehdjncdabGreatDoor.Qi
open Go.RowKit
theorem all_none(q:Nat)(w:World)(h:QRep w q none []):
  Calls Tryz.prog 84 #[.pointer (some ⟨q,0,none⟩)] w λe w'=>∃g cp,e=.returned (.slice (some ⟨g,0,none⟩) 0 cp)/\w.heap.size<=g/\IRow w' g cp []/\Keeps (λ_=>False) w w':=by
 obtain⟨i0,hi0,hz0,hz1,hz2⟩:=info_parts qGs
 have HQ:=hide h
 have hb:=h.2
 have hq0:w.cell? ⟨q,0,none⟩=some (.func (.func 77) #[] #[]):=hb.cell rfl
 have hq1:w.cell? ⟨q,1,none⟩=some (.slice none 0 0):=hb.cell rfl
 clear hb h
 go_enter Tryz.func84,Tryz.ntmps84
 go_wp2_with fail
 go_region_held3 (λw'=>w'.cell? ⟨q,0,none⟩=some (.func (.func 77) #[] #[])/\w'.cell? ⟨q,1,none⟩=some (.slice none 0 0))
  (first | (go_split_ands;exact⟨by assumption,by assumption⟩) | (go_split_ands;exact⟨((Keeps.refl (λ_=>False) _).alloc _).cell (by assumption) (λh=>h),((Keeps.refl (λ_=>False) _).alloc _).cell (by assumption) (λh=>h)⟩))
  (first | (go_at_call 131;refine(qGk _).mono ?_;rintro e w' ⟨rfl,rfl⟩))
 obtain⟨W2,hW2⟩:∃W2,W2=(w.alloc (.cells #[.func (.func 77) #[] #[],.slice none 0 0] 166)).drew:=⟨_,rfl⟩
 have HB2:=hide (show Blk W2 w.heap.size [qCf,.slice none 0 0] 166 by rw[hW2];exact(Blk.new w _ _).drew)
 have HK2:=hide (show Keeps (λ_=>False) w W2 by rw[hW2];exact((Keeps.refl (λ_=>False) w).alloc _).drew)
 have HW2:=hide hW2
 clear hW2
 have HQR:=hide (show QRep W2 w.heap.size none [] from⟨rfl,uh HB2⟩)
 obtain⟨wm,hmk,hown,hgr⟩:=run_make_own (P:=Tryz.prog) W2 w.heap.size 141 88 i0 _ 4 Tryz.underlying141 hi0 hz0 hz1 .i64 .i64 0 (by rw[hz2];omega) (by unfold maxLen;omega) (uh HK2).size
 have HKM:=hide (show Keeps (λ_=>False) W2 wm from(Keeps.refl (λ_=>False) W2).grown hgr (λk hk=>by cases hk))
 have HOM:=hide (show Own wm w.heap.size (.slice (some ⟨W2.heap.size,0,none⟩) 0 0) [] from hown)
 have hmk2:(Instr.makeSlice 141 (.int .i64 0) (.int .i64 0)).run Tryz.prog W2=.ok (.slice (some ⟨W2.heap.size,0,none⟩) 0 0) wm:=hmk
 clear hown hgr hmk
 go_wp2_with fail
 rw[show(w.alloc (.cells #[.func (.func 77) #[] #[],.slice none 0 0] 166)).drew=W2 from(uh HW2).symm]
 refine(qEt q none [] 0 W2 ((uh HQ).keeps (uh HK2) (λh=>h) (λ_ h=>by cases h)) rfl).mono ?_
 rintro e w' ⟨rfl,hw'⟩
 rw[hw']
 clear hw' w'
 generalize hrb:w.heap.size=rb at *
 go_wp2_with fail
 go_loopg [4] (0) (λgk v wr=>v=.slice (some ⟨W2.heap.size,0,none⟩) 0 0/\wr=wm)
 case atStart=>exact⟨rfl,rfl⟩
 case round =>
  obtain⟨rfl,hwr⟩:=hrel
  rw[hwr]
  clear hwr wr
  go_wp2_with (go_at_call 78;refine(qEt rb none [] 0 _ ((uh HQR).keeps (uh HKM) (λh=>h) (λ_ h=>by cases h)) rfl).mono ?_;rintro e w' ⟨rfl,hw'⟩;rw[hw'];clear hw' w')
  go_ret
  have ho:=Own.row rfl (uh HOM)
  exact⟨W2.heap.size,0,rfl,by rw[hrb];exact ho.2,ho.1,(uh HK2).then (uh HKM)⟩
end Go.Proofs.YtahnliehdjncdabGreatDoor.Qi
namespace Go.Proofs.YtahnliehdjncdabGreatDoor
section
open Go.RowKit
def qM9(k:Nat)(y:It): List Int:=y.n::(qE3 k).map (λj=>[y.t,y.k,y.d].getD j 0)
def qLb(k:Nat)(l:List It): List Int:=l.flatMap (qM9 k)
def qGo(x:Ser): List Int:=x.id::(qBu x.k x.c++(qCc.map (qAs x.ref)++[x.rel,(x.l.length:Int)]))
def qCz(clock:Int)(x:Ser): List Int:=qGo x++(qLb x.k (Qi.allL (x.l.length+1) x.l)++zAq x.k x.c x.nt (clock-x.c.lag))
theorem qO5(k:Nat): (qE3 k).length<=3:=by unfold qE3;split <;> simp
theorem qQp(k:Nat)(y:It): (qM9 k y).length<=4:=by have:=qO5 k;simp[qM9];omega
theorem qJ3(k:Nat)(l:List It): (qLb k l).length<=4*l.length:=by
 induction l with
 | nil=>simp[qLb]
 | cons y l ih=>have:=qQp k y;simp[qLb]at ih ⊢;omega
theorem qKr(k:Nat)(a b:List It): qLb k (a++b)=qLb k a++qLb k b:=by simp[qLb]
theorem qQ1(k:Nat)(r:List It)(i:Nat)(h:i<r.length): qLb k (r.take (i+1))=qLb k (r.take i)++qM9 k (itAt r i):=by
 rw[List.take_add_one,qKr,List.getElem?_eq_getElem h]
 simp[qLb,itAt,List.getD_eq_getElem?_getD,List.getElem?_eq_getElem h]
theorem qU8{w:World}{cb k:Nat}{y:It}{T:Nat}(h:Blk w cb [.int .i64 y.t,.int .i64 y.k,.int .i64 y.d,.int .i64 y.n] T): PartsAt w (at' cb (qE3 k)) ((qE3 k).map (λj=>[y.t,y.k,y.d].getD j 0)):=by
 refine⟨by simp[at'],λi p n hp hn=>?_⟩
 have hall:∀j,j∈qE3 k->w.cell? ⟨cb,j,none⟩=some (.int .i64 ([y.t,y.k,y.d].getD j 0)):=by
  intro j hj
  have:j=0\/j=1\/j=2:=by unfold qE3 at hj;split at hj <;> simp at hj <;> omega
  rcases this with e | e | e <;> subst e <;> exact h.cell rfl
 unfold at' at hp
 rw[List.getElem?_map]at hp hn
 cases ho:(qE3 k)[i]? with
 | none=>rw[ho]at hp;cases hp
 | some o =>
  rw[ho]at hp hn
  simp only[Option.map_some,Option.some.injEq]at hp hn
  subst hp hn
  exact hall o (List.mem_of_getElem? ho)
theorem zAf(q:Nat)(og:Option Nat)(l:List It)(w:World)(h:QRep w q og l)(hl:l.length<=900):
  Calls Tryz.prog 84 #[.pointer (some ⟨q,0,none⟩)] w λe w'=>∃g cp,e=.returned (.slice (some ⟨g,0,none⟩) l.length cp)/\w.heap.size<=g/\IRow w' g cp (Qi.allL (l.length+1) l)/\(Qi.allL (l.length+1) l).length=l.length/\Keeps (λ_=>False) w w':=by
 cases og with
 | none =>
  obtain⟨rfl,hb⟩:=h
  refine(Qi.all_none q w ⟨rfl,hb⟩).mono ?_
  rintro e w' ⟨g,cp,rfl,hg,hr,hk⟩
  exact⟨g,cp,rfl,hg,hr,rfl,hk⟩
 | some g=>exact Qi.all_some q g l w h hl
structure SerOk (x:Ser):Prop where
 id0:0<=x.id/\x.id<=9223372036854775807
 cfg:∀n,n∈qBu x.k x.c->0<=n/\n<=9223372036854775807
 p0:0<=qBp x.k x.c
 p3:qBp x.k x.c<=3
 refl:x.ref.length=12
 ref:∀v,v∈x.ref->0<=v/\v<=9223372036854775807
 rel:0<=x.rel/\x.rel<=9223372036854775807
 len:x.l.length<=8
 buf:∀n,n∈qLb x.k (Qi.allL (x.l.length+1) x.l)->0<=n/\n<=9223372036854775807
 note:SavOk x.k x.c x.nt
 valid:qA6 x.c=true
 kind:x.c.kind=x.k
 k1:1<=x.k
 k5:x.k<=5
theorem qFx{l:List Int}(h:∀v,v∈l->0<=v/\v<=9223372036854775807)(j:Nat): 0<=qAs l j/\qAs l j<=9223372036854775807:=by
 unfold qAs
 rw[List.getD_eq_getElem?_getD]
 cases hj:l[j]? with
 | none=>simp
 | some v=>exact h v (List.mem_of_getElem? hj)
theorem qEr(f:Nat->Int)(k j:Nat)(h:qCc[k]?=some j): (qCc.map f).take (k+1)=(qCc.map f).take k++[f j]:=by
 rw[List.take_add_one,List.getElem?_map,h]
 rfl
end
section
open Go.RowKit
attribute [local go_sem ↓] qAb qAe
attribute [local go_sem] qAg qAl qAd qAc qAo qAn qAj qAk qAf qAi ix0 ix1 ix2 ix3 ix4 ix5 ix6
theorem qHh(k:Nat)(c:Cfg)(p3:qBp k c<=3): (qBu k c).length<=14:=by
 have h1:(qCd k).length<=4:=by unfold qCd;split <;> simp
 have h2:(qBt (qBp k c).toNat).length<=6:=by simp[qBt];omega
 simp[qBu];omega
theorem qSz(sb:SB)(x:Ser)(clock:Int)(b:Nat)(v:Value)(bs:List Nat)(w:World)(hs:SRep w sb x)(hi:SerOk x)(hw:WRep w b v bs)(hf:∀i,qB3 b v i->¬sb.foot x.k i)(c0:0<=clock)(c1:clock<=4611686018427387904)(hbl:bs.length+10*x.nt.bs.length<=140737479000000):
  Calls Tryz.prog 59 #[.pointer (some ⟨sb.s,0,none⟩),.pointer (some ⟨b,0,none⟩),.int .i64 clock] w λe w'=>e=.returned (.tuple #[])/\Wrote w b v (bs++qB2 (qCz clock x)) w':=by
 have HS:=hide (show ∀w',Keeps (qB3 b v) w w'->SRep w' sb x from λw' hk=>hs.keeps hk (λi hi' hm=>hf i hm hi'))
 have HF:=hide hf
 have HI:=hide hi
 have HLS:=hide (show ∀i,sb.foot x.k i->i<w.heap.size from hs.lt)
 have HW:=hide (Wrote.refl hw)
 have d0:w.cell? ⟨sb.s,0,none⟩=some (.int .i64 x.id):=hs.blk.cell rfl
 obtain⟨i0,i1⟩:=hi.id0
 clear hs hi hw hf
 go_enter Tryz.func59,Tryz.ntmps59
 go_wp2_with fail
 refine(qBw b v bs x.id w w (uh HW) i0 i1 (by omega)).mono ?_
 rintro e w1 ⟨rfl,hw1⟩
 have HO1:=hide hw1
 clear hw1 d0
 obtain⟨hv1,hh1⟩:=qBl (uh HS w1 (uh HO1).kp).blk 1 20 x.c.cells rfl rfl
 go_wp2_with fail
 have HCL:=hide (qHh x.k x.c (uh HI).p3)
 obtain⟨v1,a1,a2,a3⟩:=uh HO1
 refine(qLk b v1 (bs++enc x.id) x.c x.k w1 a1 (uh HI).kind (uh HI).k1 (uh HI).k5 (uh HI).p0 (uh HI).p3 (uh HI).cfg (by have:=qBd x.id;rw[List.length_append];omega)).mono ?_
 rintro e w2 ⟨rfl,hw2⟩
 have HO2:=hide (Wrote.then a2 a3 hw2)
 clear hw2 a1 a2 a3 v1 hv1 hh1 HO1
 go_wp2_with fail
 refine(qN4 w2).mono ?_
 rintro e w3 ⟨rfl,hk3⟩
 have HO3:=hide ((uh HO2).still hk3)
 clear hk3 HO2
 have hl1:(bs++enc x.id++qB2 (qBu x.k x.c)).length+10*x.nt.bs.length<=140737479000150:=by
  have h1:=qBd x.id
  have h2:=qAv (qBu x.k x.c)
  have h3:=uh HCL
  rw[List.length_append,List.length_append];omega
 obtain⟨b1,hb1⟩:∃b1,bs++enc x.id++qB2 (qBu x.k x.c)=b1:=⟨_,rfl⟩
 rw[hb1]at HO3 hl1
 have HB1:=hide hb1
 clear hb1
 go_wp2_with fail
 go_loopw [23] (λi wr=>∃k:Nat,k<=7/\i=.int .i64 k/\Hid (Wrote w b v (b1++qB2 ((qCc.map (qAs x.ref)).take k)) wr)) (λi _=>7-(intOf i).toNat)
 case atStart=>exact⟨0,by omega,rfl,by show Wrote _ _ _ _ _;rw[List.take_zero,qC8,List.append_nil];exact uh HO3⟩
 case round =>
  obtain⟨k,hk,rfl,HOr⟩:=hrel
  by_cases hlt7:k<7
  ·have hk7:k=0\/k=1\/k=2\/k=3\/k=4\/k=5\/k=6:=by omega
   rcases hk7 with hk7 | hk7 | hk7 | hk7 | hk7 | hk7 | hk7
   all_goals subst hk7
   ·have hc:wr.cell? ⟨sb.s,40,none⟩=some (.int .i64 (qAs x.ref 5)):=(uh HS wr (uh HOr).kp).blk.cell (qDf sb x (uh HI).refl 5 (by omega))
    obtain⟨n0,n1⟩:=qFx (uh HI).ref 5
    have HTK:=hide (qEr (qAs x.ref) 0 5 rfl)
    go_wp2_with fail
    refine(qBw b v _ (qAs x.ref 5) w wr (uh HOr) n0 n1 (by have h1:=qAv ((qCc.map (qAs x.ref)).take 0);have h2:((qCc.map (qAs x.ref)).take 0).length<=7:=(by rw[List.length_take];omega);rw[List.length_append];omega)).mono ?_
    rintro e w4 ⟨rfl,hw4⟩
    have HO4:=hide hw4
    clear hw4 hc
    go_wp2
    go_roundw
    case rel =>
     refine⟨1,by omega,rfl,?_⟩
     show Wrote _ _ _ _ _
     have:=uh HO4
     rw[uh HTK,qAr,qCo,<-List.append_assoc]
     exact this
    case measure=>simp[intOf]
   ·have hc:wr.cell? ⟨sb.s,41,none⟩=some (.int .i64 (qAs x.ref 6)):=(uh HS wr (uh HOr).kp).blk.cell (qDf sb x (uh HI).refl 6 (by omega))
    obtain⟨n0,n1⟩:=qFx (uh HI).ref 6
    have HTK:=hide (qEr (qAs x.ref) 1 6 rfl)
    go_wp2_with fail
    refine(qBw b v _ (qAs x.ref 6) w wr (uh HOr) n0 n1 (by have h1:=qAv ((qCc.map (qAs x.ref)).take 1);have h2:((qCc.map (qAs x.ref)).take 1).length<=7:=(by rw[List.length_take];omega);rw[List.length_append];omega)).mono ?_
    rintro e w4 ⟨rfl,hw4⟩
    have HO4:=hide hw4
    clear hw4 hc
    go_wp2
    go_roundw
    case rel =>
     refine⟨2,by omega,rfl,?_⟩
     show Wrote _ _ _ _ _
     have:=uh HO4
     rw[uh HTK,qAr,qCo,<-List.append_assoc]
     exact this
    case measure=>simp[intOf]
   ·have hc:wr.cell? ⟨sb.s,42,none⟩=some (.int .i64 (qAs x.ref 7)):=(uh HS wr (uh HOr).kp).blk.cell (qDf sb x (uh HI).refl 7 (by omega))
    obtain⟨n0,n1⟩:=qFx (uh HI).ref 7
    have HTK:=hide (qEr (qAs x.ref) 2 7 rfl)
    go_wp2_with fail
    refine(qBw b v _ (qAs x.ref 7) w wr (uh HOr) n0 n1 (by have h1:=qAv ((qCc.map (qAs x.ref)).take 2);have h2:((qCc.map (qAs x.ref)).take 2).length<=7:=(by rw[List.length_take];omega);rw[List.length_append];omega)).mono ?_
    rintro e w4 ⟨rfl,hw4⟩
    have HO4:=hide hw4
    clear hw4 hc
    go_wp2
    go_roundw
    case rel =>
     refine⟨3,by omega,rfl,?_⟩
     show Wrote _ _ _ _ _
     have:=uh HO4
     rw[uh HTK,qAr,qCo,<-List.append_assoc]
     exact this
    case measure=>simp[intOf]
   ·have hc:wr.cell? ⟨sb.s,43,none⟩=some (.int .i64 (qAs x.ref 8)):=(uh HS wr (uh HOr).kp).blk.cell (qDf sb x (uh HI).refl 8 (by omega))
    obtain⟨n0,n1⟩:=qFx (uh HI).ref 8
    have HTK:=hide (qEr (qAs x.ref) 3 8 rfl)
    go_wp2_with fail
    refine(qBw b v _ (qAs x.ref 8) w wr (uh HOr) n0 n1 (by have h1:=qAv ((qCc.map (qAs x.ref)).take 3);have h2:((qCc.map (qAs x.ref)).take 3).length<=7:=(by rw[List.length_take];omega);rw[List.length_append];omega)).mono ?_
    rintro e w4 ⟨rfl,hw4⟩
    have HO4:=hide hw4
    clear hw4 hc
    go_wp2
    go_roundw
    case rel =>
     refine⟨4,by omega,rfl,?_⟩
     show Wrote _ _ _ _ _
     have:=uh HO4
     rw[uh HTK,qAr,qCo,<-List.append_assoc]
     exact this
    case measure=>simp[intOf]
   ·have hc:wr.cell? ⟨sb.s,45,none⟩=some (.int .i64 (qAs x.ref 10)):=(uh HS wr (uh HOr).kp).blk.cell (qDf sb x (uh HI).refl 10 (by omega))
    obtain⟨n0,n1⟩:=qFx (uh HI).ref 10
    have HTK:=hide (qEr (qAs x.ref) 4 10 rfl)
    go_wp2_with fail
    refine(qBw b v _ (qAs x.ref 10) w wr (uh HOr) n0 n1 (by have h1:=qAv ((qCc.map (qAs x.ref)).take 4);have h2:((qCc.map (qAs x.ref)).take 4).length<=7:=(by rw[List.length_take];omega);rw[List.length_append];omega)).mono ?_
    rintro e w4 ⟨rfl,hw4⟩
    have HO4:=hide hw4
    clear hw4 hc
    go_wp2
    go_roundw
    case rel =>
     refine⟨5,by omega,rfl,?_⟩
     show Wrote _ _ _ _ _
     have:=uh HO4
     rw[uh HTK,qAr,qCo,<-List.append_assoc]
     exact this
    case measure=>simp[intOf]
   ·have hc:wr.cell? ⟨sb.s,44,none⟩=some (.int .i64 (qAs x.ref 9)):=(uh HS wr (uh HOr).kp).blk.cell (qDf sb x (uh HI).refl 9 (by omega))
    obtain⟨n0,n1⟩:=qFx (uh HI).ref 9
    have HTK:=hide (qEr (qAs x.ref) 5 9 rfl)
    go_wp2_with fail
    refine(qBw b v _ (qAs x.ref 9) w wr (uh HOr) n0 n1 (by have h1:=qAv ((qCc.map (qAs x.ref)).take 5);have h2:((qCc.map (qAs x.ref)).take 5).length<=7:=(by rw[List.length_take];omega);rw[List.length_append];omega)).mono ?_
    rintro e w4 ⟨rfl,hw4⟩
    have HO4:=hide hw4
    clear hw4 hc
    go_wp2
    go_roundw
    case rel =>
     refine⟨6,by omega,rfl,?_⟩
     show Wrote _ _ _ _ _
     have:=uh HO4
     rw[uh HTK,qAr,qCo,<-List.append_assoc]
     exact this
    case measure=>simp[intOf]
   ·have hc:wr.cell? ⟨sb.s,46,none⟩=some (.int .i64 (qAs x.ref 11)):=(uh HS wr (uh HOr).kp).blk.cell (qDf sb x (uh HI).refl 11 (by omega))
    obtain⟨n0,n1⟩:=qFx (uh HI).ref 11
    have HTK:=hide (qEr (qAs x.ref) 6 11 rfl)
    go_wp2_with fail
    refine(qBw b v _ (qAs x.ref 11) w wr (uh HOr) n0 n1 (by have h1:=qAv ((qCc.map (qAs x.ref)).take 6);have h2:((qCc.map (qAs x.ref)).take 6).length<=7:=(by rw[List.length_take];omega);rw[List.length_append];omega)).mono ?_
    rintro e w4 ⟨rfl,hw4⟩
    have HO4:=hide hw4
    clear hw4 hc
    go_wp2
    go_roundw
    case rel =>
     refine⟨7,by omega,rfl,?_⟩
     show Wrote _ _ _ _ _
     have:=uh HO4
     rw[uh HTK,qAr,qCo,<-List.append_assoc]
     exact this
    case measure=>simp[intOf]
  ·have hk7:k=7:=by omega
   subst hk7
   have htk:(qCc.map (qAs x.ref)).take 7=qCc.map (qAs x.ref):=rfl
   rw[htk]at HOr
   have hl2:(b1++qB2 (qCc.map (qAs x.ref))).length+10*x.nt.bs.length<=140737479000250:=by
    have h2:=qAv (qCc.map (qAs x.ref))
    have h3:(qCc.map (qAs x.ref)).length=7:=rfl
    rw[List.length_append];omega
   obtain⟨b2,hb2⟩:∃b2,b1++qB2 (qCc.map (qAs x.ref))=b2:=⟨_,rfl⟩
   rw[hb2]at HOr hl2
   have HB2:=hide hb2
   clear hb2 htk
   have d34:wr.cell? ⟨sb.s,34,none⟩=some (.int .i64 x.rel):=(uh HS wr (uh HOr).kp).blk.cell rfl
   obtain⟨r0,r1⟩:=(uh HI).rel
   go_wp2_with fail
   refine(qBw b v b2 x.rel w wr (uh HOr) r0 r1 (by omega)).mono ?_
   rintro e w4 ⟨rfl,hw4⟩
   have HO4:=hide hw4
   clear hw4 d34 HOr
   have HS4:=hide (uh HS w4 (uh HO4).kp)
   have d32:w4.cell? ⟨sb.s,32,none⟩=some (.pointer (some ⟨sb.q,0,none⟩)):=(uh HS4).blk.cell rfl
   have HLen:=hide (len_any sb.q sb.g x.l w4 (uh HS4).que)
   have hl8:=(uh HI).len
   have HQA:=hide (show ∀w',Keeps (qB3 b v) w w'->_ from λw' hk'=>zAf sb.q sb.g x.l w' (uh HS w' hk').que (by omega))
   have HBN:=hide (uh HI).buf
   have HNUM:=hide (show qCz clock x=(x.id::(qBu x.k x.c++(qCc.map (qAs x.ref)++[x.rel,(x.l.length:Int)])))++(qLb x.k (Qi.allL (x.l.length+1) x.l)++zAq x.k x.c x.nt (clock-x.c.lag)) from rfl)
   generalize Qi.allL (x.l.length+1) x.l=R at *
   generalize x.l.length=n at *
   go_wp2_with fail
   refine(uh HLen).mono ?_
   rintro e w5 ⟨rfl,hw5⟩
   rw[hw5]
   clear hw5 w5 HLen
   go_wp2_with fail
   refine(qBw b v _ n w w4 (uh HO4) (by omega) (by omega) (by have:=qBd x.rel;rw[List.length_append];omega)).mono ?_
   rintro e w5 ⟨rfl,hw5⟩
   have HO5:=hide hw5
   clear hw5 d32 HS4 HO4
   have d32:w5.cell? ⟨sb.s,32,none⟩=some (.pointer (some ⟨sb.q,0,none⟩)):=(uh HS w5 (uh HO5).kp).blk.cell rfl
   go_wp2_with fail
   obtain⟨v6,q1,q2,q3⟩:=uh HO5
   have HNF:=hide (show ∀i,sb.foot x.k i->¬qB3 b v6 i from λi hi=>qEz (λh=>uh HF i h hi) q2 (uh HLS i hi))
   have HQ2:=hide q2
   have HQ3:=hide q3
   have HLT:=hide q1.lt
   refine(uh HQA w5 (uh HO5).kp).mono ?_
   rintro e w6 ⟨g,cp,rfl,hg,hr6,hlen,hk6⟩
   have HS6:=hide (show ∀w',Keeps (qB3 b v6) w6 w'->SRep w' sb x from λw' hk'=>((uh HS w5 (uh HO5).kp).still hk6).keeps hk' (uh HNF))
   have HG:=hide (show ¬qB3 b v6 g from λh=>by have:=uh HLT g h;omega)
   have HR6:=hide hr6
   have HLN:=hide hlen
   have HW6:=hide (Wrote.refl (q1.still hk6))
   have HK6:=hide hk6
   have hl3:(b2++enc x.rel++enc (n:Int)).length+10*x.nt.bs.length<=140737479000300:=by
    have h1:=qBd x.rel
    have h2:=qBd (n:Int)
    rw[List.length_append,List.length_append];omega
   obtain⟨b3,hb3⟩:∃b3,b2++enc x.rel++enc (n:Int)=b3:=⟨_,rfl⟩
   rw[hb3]at HW6 hl3
   have HB3:=hide hb3
   clear hb3 hk6 hr6 hlen q1 q2 q3 hg HO5 HQA d32 HLT
   go_wp2_with fail
   go_loopw [54] (λi wr=>∃k:Nat,i=.int .i64 k/\k<=n/\Hid (Wrote w6 b v6 (b3++qB2 (qLb x.k (R.take k))) wr)) (λi _=>n-(intOf i).toNat)
   case atStart=>exact⟨0,rfl,Nat.zero_le _,by show Wrote _ _ _ _ _;simp only[List.take_zero,qLb,List.flatMap_nil,qC8,List.append_nil];exact uh HW6⟩
   case round =>
    obtain⟨k,rfl,hk2,HOr⟩:=hrel
    have hk0:(0:Int)<=(k:Int):=by omega
    have HSr:=hide (uh HS6 wr (uh HOr).kp)
    have hlb:(b3++qB2 (qLb x.k (R.take k))).length+10*x.nt.bs.length<=140737479000620:=by
     have h1:=qAv (qLb x.k (R.take k))
     have h2:=qJ3 x.k (R.take k)
     rw[List.length_take,uh HLN]at h2
     rw[List.length_append];omega
    by_cases hlk:k<n
    ·obtain⟨v',hwr,hvr,hkr⟩:=uh HOr
     have hkn:k<R.length:=by rw[uh HLN];exact hlk
     obtain⟨x0,x1,x2,x3⟩:=((uh HR6).keeps hkr (uh HG)).cells k hkn
     have HTK:=hide (qQ1 x.k R k hkn)
     have HNX:=hide (show ∀n,n∈qM9 x.k (itAt R k)->0<=n/\n<=9223372036854775807 from λn hn=>uh HBN n (by
          have e:qLb x.k (R.take (k+1)++R.drop (k+1))=qLb x.k R:=by rw[List.take_append_drop]
          rw[<-e,qKr,qQ1 x.k R k hkn]
          simp only[List.mem_append]
          exact .inl (.inr hn)))
     have HLT2:=hide hwr.lt
     have HWr:=hide hwr
     have HVr:=hide hvr
     have HKr:=hide hkr
     have hkE:(k:Int)<(n:Int):=by omega
     generalize itAt R k=y at *
     clear hwr hvr hkr
     obtain⟨wa,hwa⟩:∃wa,wa=wr.alloc (.cells #[.int .i64 y.t,.int .i64 y.k,.int .i64 y.d,.int .i64 y.n] 88):=⟨_,rfl⟩
     have HBa:=hide (show Blk wa wr.heap.size [.int .i64 y.t,.int .i64 y.k,.int .i64 y.d,.int .i64 y.n] 88 by rw[hwa];exact Blk.new wr _ _)
     have HKa:=hide (show Keeps (λ_=>False) wr wa by rw[hwa];exact(Keeps.refl _ _).alloc _)
     have HWa:=hide ((uh HWr).still (uh HKa))
     have HNF1:=hide (show ¬qB3 b v' wr.heap.size from λhf=>by have:=uh HLT2 _ hf;omega)
     obtain⟨n0,n1⟩:=uh HNX y.n (by simp[qM9])
     have hc3:wa.cell? ⟨wr.heap.size,3,none⟩=some (.int .i64 y.n):=(uh HBa).cell rfl
     have HEQ:=hide hwa.symm
     have HSa:=hide (show ∀w',Keeps (qB3 b v') wa w'->w'.cell? ⟨sb.s,25,none⟩=some (.func (.func (qA1 x.k)) #[] #[]) from λw' hk'=>hk'.cell (((uh HSr).still (uh HKa)).blk.cell rfl) (qEz (uh HNF sb.s (.inl rfl)) (uh HVr) (Nat.lt_of_lt_of_le (uh HLS sb.s (.inl rfl)) (Nat.le_trans (uh HQ3).size (uh HK6).size))))
     clear hwa
     go_wp2_with fail
     rw[uh HEQ]
     refine(qDa b v' _ y.n wa (uh HWa) n0 n1 (by omega)).mono ?_
     rintro e w2' ⟨rfl,v2,hw2,hv2,hk2'⟩
     have hlt2:wr.heap.size<wa.heap.size:=(uh HBa).lt
     have HB2':=hide ((uh HBa).keeps hk2' (uh HNF1))
     have HNF2:=hide (qEz (uh HNF1) hv2 hlt2)
     have HW2':=hide hw2
     have HV2:=hide hv2
     have HK2:=hide hk2'
     have HL2:=hide hw2.lt
     have d25:w2'.cell? ⟨sb.s,25,none⟩=some (.func (.func (qA1 x.k)) #[] #[]):=uh HSa w2' hk2'
     have hown:=qX3 x.k (uh HI).k1 (uh HI).k5
     clear hw2 hv2 hk2' hc3 HBa
     go_wp2_with fail
     refine(qW1 x.k wr.heap.size w2' (uh HI).k1 (uh HI).k5).mono ?_
     rintro e w3' ⟨pv,rfl,hown3,hk3⟩
     obtain⟨pa,pcap,hpv,_⟩:=qB4 hown3
     subst hpv
     have HW3:=hide ((uh HW2').still hk3)
     have HB3':=hide ((uh HB2').keeps hk3 (λh=>h))
     have HO3':=hide hown3
     have HK3:=hide hk3
     have HAL:=hide (show((qE3 x.k).map (λj=>[y.t,y.k,y.d].getD j 0)).length<=3 by rw[List.length_map];exact qO5 x.k)
     clear hown3 hk3 hown d25
     go_wp2_with fail
     refine(qEq b v2 _ _ w2'.heap.size wr.heap.size (qE3 x.k) ((qE3 x.k).map (λj=>[y.t,y.k,y.d].getD j 0)) w3' (uh HW3) (uh HO3') (qU8 (uh HB3')) (uh HNF2) (λi hi h=>by have:=uh HL2 i h;omega) (λn hn=>uh HNX n (by unfold qM9;exact List.mem_cons_of_mem _ hn)) (by have:=qBd y.n;have:=uh HAL;rw[List.length_append];omega) (by have:=uh HAL;omega)).mono ?_
     rintro e w4' ⟨rfl,hw4⟩
     have HF4:=hide (show Wrote w6 b v6 (b3++qB2 (qLb x.k (R.take (k+1)))) w4' by
        have hA:=Wrote.then (uh HVr) (uh HKr) (Wrote.pre (uh HKa) (Wrote.then (uh HV2) (uh HK2) (Wrote.pre (uh HK3) hw4)))
        rw[uh HTK,qAr]
        have e:qB2 (qM9 x.k y)=enc y.n++qB2 ((qE3 x.k).map (λj=>[y.t,y.k,y.d].getD j 0)):=qBk _ _
        rw[e]
        simp only[List.append_assoc]at hA ⊢
        exact hA)
     clear hw4
     go_wp2
     go_roundw
     case rel=>exact⟨k+1,by go_num,by omega,HF4⟩
     case measure=>simp[intOf];omega
    ·have hkE:k=n:=by omega
     subst hkE
     have htk:R.take k=R:=List.take_of_length_le (by rw[uh HLN];omega)
     rw[htk]at HOr hlb
     have hcm:0<=x.c.lag/\x.c.lag<=100:=by
      have:=(uh HI).valid
      simp only[qA6,qEi,inB,Bool.and_eq_true,decide_eq_true_eq]at this
      omega
     obtain⟨l0,l1⟩:=hcm
     have d30:wr.cell? ⟨sb.s,30,none⟩=some (.func (.func (zC5 x.k)) (qIc sb.n.d) #[]):=(uh HSr).blk.cell rfl
     have d2:wr.cell? ⟨sb.s,2,none⟩=some (.int .i64 x.c.lag):=(uh HSr).blk.cell rfl
     have hown:=zB9 x.k (uh HI).k1 (uh HI).k5
     obtain⟨v7,p1,p2,p3⟩:=uh HOr
     have HP1:=hide p1
     have HP2:=hide p2
     have HP3:=hide p3
     have HNF7:=hide (show ∀i,sb.foot x.k i->¬qB3 b v7 i from λi hi=>qEz (uh HNF i hi) p2 (Nat.lt_of_lt_of_le (uh HLS i hi) (Nat.le_trans (uh HQ3).size (uh HK6).size)))
     clear p1 p2 p3 HOr
     go_wp2_with fail
     go_region_held3 (λw'=>w'.cell? ⟨sb.s,30,none⟩=some (.func (.func (zC5 x.k)) (qIc sb.n.d) #[])/\w'.cell? ⟨sb.s,2,none⟩=some (.int .i64 x.c.lag))
      (first | (simp[*];done) | (go_split_ands;exact⟨hw1.kp.cell (by assumption) (uh HNF7 sb.s (.inl rfl)),hw1.kp.cell (by assumption) (uh HNF7 sb.s (.inl rfl))⟩))
      (first | (go_at_call 54;refine(qKh sb.s x.c.lag clock _ (by go_keep) l0 l1 c0 c1).mono ?_;rintro e w' ⟨rfl,rfl⟩) | (refine(zBq x.k sb.n x.c x.nt b v7 _ (clock-x.c.lag) _ _ (by first | rfl | simp) (by exact(uh HSr).note.still (Keeps.refl _ _).drew) (by exact(uh HP1).still (Keeps.refl _ _).drew) (λi h hn=>uh HNF7 i (.inr (.inr (.inr hn))) h) (uh HI).note (uh HI).valid (uh HI).kind (uh HI).k1 (uh HI).k5 (by omega) (by omega) (by omega)).mono ?_;rintro e w1 ⟨rfl,hw1⟩))
     go_wp2
     go_end0
     refine⟨rfl,?_⟩
     have h9:=Wrote.then (uh HQ2) (uh HQ3) (Wrote.pre (uh HK6) (Wrote.then (uh HP2) (uh HP3) (Wrote.pre ((Keeps.refl (λ_=>False) wr).drew) hw1)))
     rw[uh HNUM]
     rw[<-uh HB3,<-uh HB2,<-uh HB1]at h9
     rw[qAr,qAr,qBk,qAr,qAr,qBk,qCo]
     simp only[List.append_assoc]at h9 ⊢
     exact h9
end
end Go.Proofs.YtahnliehdjncdabGreatDoor
