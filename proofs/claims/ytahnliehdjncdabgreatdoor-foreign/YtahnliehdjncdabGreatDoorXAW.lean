import Derived.Deep.LoopGhost
import Derived.Test.YtahnliehdjncdabGreatDoorXAV
set_option maxRecDepth 100000
set_option maxHeartbeats 16000000
namespace Go.Proofs.YtahnliehdjncdabGreatDoor
section
open Go.RowKit
attribute [local go_sem ↓] qAd qAe
attribute [local go_sem] qAf qAl qAc qAb qAm qAn qAi qAj qAh qAk
theorem zFs{w:World}{g n cap:Nat}{xs:List Value}(h:w.ownsRow 0 74 1 (.slice (some ⟨g,0,none⟩) n cap) n xs)(i:Nat)(u:Value)(hu:xs[i]?=some u): w.cell? ⟨g,i,none⟩=some u:=by
 rcases qM9 h with ⟨h0,_⟩ | ⟨g',cap',hv,hc⟩
 ·have:=(List.getElem?_eq_some_iff.1 hu).1;have:=h.1;omega
 ·cases hv;exact hc i u hu
theorem qWw(qs:List (SB×Ser))(k:Nat)(h:k<qs.length): ∃l1 p l2,qs=l1++p::l2/\l1.length=k:=by
 refine⟨qs.take k,qs[k],qs.drop (k+1),?_,by simp;omega⟩;rw[<-List.drop_eq_getElem_cons h,List.take_append_drop]
def zCn(clock b:Int)(x:Ser): Ser:={ x with nt:=(qP8 x.k x.c x.nt (clock-x.c.lag) b).1 }
def zG6(clock b:Int)(x:Ser): Int:=(qP8 x.k x.c x.nt (clock-x.c.lag) b).2.1
def qXo(clock b:Int)(x:Ser): Int:=(qP8 x.k x.c x.nt (clock-x.c.lag) b).2.2
def qC8(clock:Int): Int->List Ser->List Ser×Int
 | _,[]=>([],0)
 | b,x::xs=>(zCn clock b x::(qC8 clock (b-zG6 clock b x) xs).1,qXo clock b x+(qC8 clock (b-zG6 clock b x) xs).2)
theorem zHh{n:Int}{x:Ser}(clock b:Int)(h:SInv n x)(hn:n<=4611686018427387904)(b0:0<=b): 0<=zG6 clock b x/\zG6 clock b x<=b/\0<=qXo clock b x/\qXo clock b x<=4398046511104:=by
 unfold zG6 qXo qP8
 split
 ·have h1:=pastN_le x.nt.bs (clock-x.c.lag-x.c.window)
  have h2:=(h.note.binv (by have h1:=h.rela;have h2:=h.accn;omega)).len;show 0<=qD7 _ _ _ _/\qD7 _ _ _ _<=b/\0<=_-qD7 _ _ _ _/\_-qD7 _ _ _ _<=_;unfold qD7;omega
 ·show 0<=(0:Int)/\(0:Int)<=b/\0<=(0:Int)/\(0:Int)<=_
  omega
theorem qQa{n:Int}{x:Ser}(clock b:Int)(h:SInv n x): SInv n (zCn clock b x) :=
 ⟨h.valid,h.kind,h.k1,h.k5,h.acc0,h.accn,h.rel0,h.rela,h.reflen,h.refn,h.cap,h.times,zC4 h.note _ _,h.heap,h.last0,h.lastn,h.lastl,h.fits⟩
theorem zDo{w w':World}{b:SB}{x:Ser}(clock bu:Int)(h:SRep w b x)(hn:NRep w' x.k b.n x.c (qP8 x.k x.c x.nt (clock-x.c.lag) bu).1)(hk:Keeps (qEn x.k b.n) w w'): SRep w' b (zCn clock bu x) :=
 ⟨h.blk.keeps hk (λhh=>(h.sn _ hh).1 rfl),h.que.keeps hk (λhh=>(h.sn _ hh).2.1 rfl) (λ_ hg hh=>(h.sn _ hh).2.2 hg),hn,h.sq,h.sg,h.sn⟩
theorem qTs(xs:List Ser)(clock bu:Int)(done:List Ser)(l1 l2:List (SB×Ser))(p:SB×Ser)(k:Nat)(hk:l1.length=k)(hd:done.length=k)(hx:k<xs.length)(h:(l1++p::l2).map (·.2)=done++xs.drop k):
  (l1++(p.1,zCn clock bu p.2)::l2).map (·.2)=(done++[zCn clock bu p.2])++xs.drop (k+1)/\xs.drop k=p.2::xs.drop (k+1):=by
 have hl:(l1.map (·.2)).length=done.length:=by simp;omega
 rw[List.map_append]at h;obtain⟨h1,h2⟩:=List.append_inj h hl;rw[List.drop_eq_getElem_cons hx,List.map_cons]at h2;injection h2 with h3 h4;refine⟨?_,?_⟩
 ·rw[List.map_append,List.map_cons,h1,h4]
  simp
 ·rw[List.drop_eq_getElem_cons hx,h3]
theorem zA9(n:Int)(e:Nat)(v:Value)(nc bu:Int)(ps:List (SB×Ser))(w:World)(h:ERep w e v nc ps)(hs:∀x,x∈ps.map (·.2)->SInv n x)(h6:ps.length<=6)(hn:n<=4611686018427387904)(nc0:0<=nc)(nc1:nc<=4611686018427387904)(b0:0<=bu)(b1:bu<=100):
  Calls Tryz.prog 55 #[.pointer (some ⟨e,0,none⟩),.int .i64 bu] w λr w'=>r=.returned (.int .i64 (qC8 nc bu (ps.map (·.2))).2)/\∃ps',ERep w' e v nc ps'/\ps'.map (·.2)=(qC8 nc bu (ps.map (·.2))).1/\Keeps (EFoot e v ps) w w'/\(∀i,EFoot e v ps' i->EFoot e v ps i)/\(∀x,x∈ps'.map (·.2)->SInv n x):=by
 have HE:=hide h;have HS:=hide hs;have hc1:w.cell? ⟨e,1,none⟩=some v:=h.blk.cell rfl;have hlv:∃a cap,v=.slice a ps.length cap:=by
  rcases h.row.2 with ⟨h1,h2⟩ | ⟨g,cap,cur,h1,_⟩
  ·exact⟨none,0,by rw[h1,h2]⟩
  ·exact⟨some ⟨g,0,none⟩,cap,h1⟩
 obtain⟨va,vcap,hv⟩:=hlv;generalize hm:ps.length=m at *;have HM:=hide hm;have HXL:=hide (show(ps.map (·.2)).length=m by rw[List.length_map];exact hm);clear hm h hs;subst hv;go_enter Tryz.func55,Tryz.ntmps55
 go_wp2_with fail
 go_loopg [1,5,7,8,9,15] (m) (λgg a b _ _ _ i wr=>∃(k:Nat) (qs:List (SB×Ser)) (bud all:Int) (done:List Ser),k<=m/\m-k=gg/\a=.int .i64 bud/\b=.int .i64 all/\i=.int .i64 k/\0<=bud/\bud<=100/\0<=all/\all<=k*4398046511104/\Hid (ERep wr e (.slice va m vcap) nc qs)/\Hid (done.length=k)/\Hid (qs.map (·.2)=done++(ps.map (·.2)).drop k)/\Hid (qC8 nc bu (ps.map (·.2))=(done++(qC8 nc bud ((ps.map (·.2)).drop k)).1,all+(qC8 nc bud ((ps.map (·.2)).drop k)).2))/\Hid (Keeps (EFoot e (.slice va m vcap) ps) w wr)/\Hid (∀i,EFoot e (.slice va m vcap) qs i->EFoot e (.slice va m vcap) ps i)/\Hid (∀x,x∈qs.map (·.2)->SInv n x))
 case atStart=>exact⟨0,ps,bu,0,[],by omega,rfl,rfl,rfl,rfl,b0,b1,by omega,by omega,HE,rfl,rfl,by show _=_;simp,Keeps.refl _ _,λ_ h=>h,HS⟩
 case round =>
  obtain⟨k,qs,bud,all,done,hk,hgg,rfl,rfl,rfl,d0,d1,a0,a1,HEr,HDL,HX,HSW,HKr,HFr,HSr⟩:=hrel;have HGG:=hide hgg;clear hc1 hgg;have hql:qs.length=m:=by
   have h1:=congrArg List.length (uh HX);have h2:=uh HXL;have h3:=uh HDL;rw[List.length_append,List.length_map,List.length_drop,h2,h3]at h1;omega
  have HQL:=hide hql;clear hql
  by_cases hlt:k<m
  ·obtain⟨l1,q,l2,hqs,hl1⟩:=qWw qs k (by rw[uh HQL];exact hlt)
   have HQS:=hide hqs;have HL1:=hide hl1;have hqm:q∈qs:=by rw[hqs];simp
   have HQM:=hide hqm;have HSq:=hide ((uh HEr).reps q hqm);have HIq:=hide (uh HSr q.2 (List.mem_map_of_mem hqm));obtain⟨la0,la1,_,_,_,_⟩:=(uh HIq).common;obtain⟨t0,t1,t2,t3⟩:=zHh nc bud (uh HIq) hn d0;obtain⟨g,hg⟩:∃g,va=some ⟨g,0,none⟩:=by
    rcases(uh HEr).row.2 with ⟨h1,_⟩ | ⟨g,cap,cur,h1,_⟩
    ·have hm0:m=0:=by injection h1
     omega
    ·injection h1 with h2 _ _
     exact⟨g,h2⟩
   subst hg;have hck:wr.cell? ⟨g,k,none⟩=some (.pointer (some ⟨q.1.s,0,none⟩)):=by
    have hrow:=(uh HEr).row;rw[uh HQL]at hrow;refine zFs hrow k _ ?_;unfold ptrs;rw[hqs,List.map_append,List.getElem?_append_right (by simp[hl1])];simp[hl1]
   have HNE:=hide (show ¬qEn q.2.k q.1.n e from λh=>((uh HEr).ef q hqm e (.inr (.inr (.inr h)))).1 rfl);have HNS:=hide (show ¬qEn q.2.k q.1.n q.1.s from λh=>((uh HSq).sn _ h).1 rfl);clear hqs hl1 hqm;have hce:wr.cell? ⟨e,0,none⟩=some (.int .i64 nc):=(uh HEr).blk.cell rfl;have hc2:wr.cell? ⟨q.1.s,2,none⟩=some (.int .i64 q.2.c.lag):=(uh HSq).blk.cell rfl;have hc26:wr.cell? ⟨q.1.s,29,none⟩=some (.func (.func (zIg q.2.k)) (zDq q.2.k q.1.n.d) #[]):=(uh HSq).blk.cell rfl;have hown:=zGn q.2.k (uh HIq).k1 (uh HIq).k5;have HRL:=hide (show q.2.rel<=4611686018427387904 by have h1:=(uh HIq).rela;have h2:=(uh HIq).accn;omega);have hk0:(0:Int)<=(k:Int):=by omega
   have hkm:(k:Int)<(m:Int):=by omega
   go_wp2_with fail
   go_region_held3 (λw'=>w'.cell? ⟨q.1.s,29,none⟩=some (.func (.func (zIg q.2.k)) (zDq q.2.k q.1.n.d) #[])/\w'.cell? ⟨q.1.s,2,none⟩=some (.int .i64 q.2.c.lag)/\w'.cell? ⟨e,0,none⟩=some (.int .i64 nc))
    (first | (simp[*];done) | (go_split_ands;exact⟨hk1.cell (by assumption) (uh HNS),hk1.cell (by assumption) (uh HNS),hk1.cell (by assumption) (uh HNE)⟩))
    (first | (go_at_call 54;refine(qK8 q.1.s q.2.c.lag nc _ (by go_keep) la0 la1 nc0 nc1).mono ?_;rintro e w' ⟨rfl,rfl⟩) | (refine(zH9 (rel:=q.2.rel) q.2.k q.1.n q.2.c q.2.nt (nc-q.2.c.lag) bud _ _ (by first | rfl | simp) (by exact(uh HSq).note.still (Keeps.refl _ _).drew) (uh HIq).note (uh HRL) (uh HIq).valid (uh HIq).kind (uh HIq).k1 (uh HIq).k5 (by omega) (by omega) d0 d1).mono ?_;rintro e w1 ⟨rfl,hn1,hk1⟩))
   have HK1:=hide (((Keeps.refl (qEn q.2.k q.1.n) wr).drew).then hk1);have HN1:=hide hn1;clear hn1 hk1 hck hce hc2 hc26 hown;have ht:(qP8 q.2.k q.2.c q.2.nt (nc-q.2.c.lag) bud).2.1=zG6 nc bud q.2:=rfl;have hlf:(qP8 q.2.k q.2.c q.2.nt (nc-q.2.c.lag) bud).2.2=qXo nc bud q.2:=rfl;rw[ht,hlf];clear ht hlf;generalize hth:zG6 nc bud q.2=th at *;generalize hle:qXo nc bud q.2=le at *;have HTH:=hide hth;have HLE:=hide hle;clear hth hle;have hw1:IntKind.i64.wrap (bud-th)=bud-th:=by rw[IntKind.wrap_i64];omega
   have hw2:IntKind.i64.wrap (all+le)=all+le:=by rw[IntKind.wrap_i64];omega
   go_wp2
   go_roundg (m-(k+1))
   case measure=>have:=uh HGG;omega
   case rel =>
    have hEr:=uh HEr;have hFr:=uh HFr;have hX:=uh HX;have hSr:=uh HSr;have hQS:=uh HQS;subst hQS;obtain⟨hx1,hx2⟩:=qTs (ps.map (·.2)) nc bud done l1 l2 q k (uh HL1) (uh HDL) (by rw[uh HXL];exact hlt) hX;have hsr:=zDo nc bud (uh HSq) (uh HN1) (uh HK1);have hnx:q.1.next q.1 q.2.k wr.heap.size:=⟨rfl,λ_ h=>.inl h⟩;have hkf:Keeps (q.1.foot q.2.k) wr w1:=(uh HK1).mono (λi _ h=>.inr (.inr (.inr h)));have hE2:=hEr.one hkf hsr rfl hnx;refine⟨k+1,l1++(q.1,zCn nc bud q.2)::l2,bud-th,all+le,done++[zCn nc bud q.2],by omega,rfl,rfl,rfl,by go_num,by omega,by omega,by omega,by omega,hE2,by show _=_;rw[List.length_append,uh HDL];rfl,hx1,?_,?_,?_,?_⟩
    ·show _=_
     rw[uh HSW,hx2];simp only[qC8];rw[uh HTH,uh HLE,List.append_assoc,List.singleton_append,Int.add_assoc]
    ·exact(uh HKr).trans hkf (λi hi _=>hFr i (.inr (.inr ⟨q,by simp,hi⟩)))
    ·rintro i (hi | hi | ⟨p,hp,hi⟩)
     ·exact hFr i (.inl hi)
     ·exact hFr i (.inr (.inl hi))
     ·rcases List.mem_append.1 hp with hp | hp
      ·exact hFr i (.inr (.inr ⟨p,by simp[hp],hi⟩))
      ·rcases List.mem_cons.1 hp with hp | hp
       ·subst hp;exact hFr i (.inr (.inr ⟨q,by simp,hi⟩))
       ·exact hFr i (.inr (.inr ⟨p,by simp[hp],hi⟩))
    ·intro x hx
     rw[List.map_append,List.map_cons]at hx;rcases List.mem_append.1 hx with hx | hx
     ·exact hSr x (by rw[List.map_append];exact List.mem_append.2 (.inl hx))
     ·rcases List.mem_cons.1 hx with hx | hx
      ·rw[hx];exact qQa _ _ (uh HIq)
      ·exact hSr x (by rw[List.map_append,List.map_cons];exact List.mem_append.2 (.inr (List.mem_cons.2 (.inr hx))))
  ·have HKM:=hide (show k=m by omega)
   go_wp2
   go_ret
   have hdn:(ps.map (·.2)).drop k=[]:=List.drop_eq_nil_of_le (by rw[uh HXL,uh HKM];exact Nat.le_refl _);have hsw:=uh HSW;have hX:=uh HX;rw[hdn]at hsw hX;simp only[qC8,List.append_nil,Int.add_zero]at hsw hX;rw[hsw];exact⟨rfl,qs,uh HEr,hX,uh HKr,uh HFr,by first | exact uh HSr | (intro x b hb;exact uh HSr x (List.mem_map_of_mem (f:=(·.2)) hb))⟩
theorem qW4(f:Nat)(x:Ser)(m:Int): (qGz f x m).k=x.k/\(qGz f x m).c=x.c/\(qGz f x m).id=x.id:=by
 induction f generalizing x with
 | zero=>exact⟨rfl,rfl,rfl⟩
 | succ f ih =>
  unfold qGz
  split
  ·exact⟨rfl,rfl,rfl⟩
  ·split
   ·exact⟨rfl,rfl,rfl⟩
   ·exact ih (qFu x m)
theorem qLq{n:Int}(f:Nat){x:Ser}(h:SInv n x)(m:Int): SInv n (qGz f x m):=by
 induction f generalizing x with
 | zero=>exact h
 | succ f ih =>
  unfold qGz
  split
  ·exact h
  ·split
   ·exact h
   ·rename_i h1 h2
    exact ih (qHz h (by intro e;rw[e]at h1;exact h1 rfl) m h2)
theorem zBm(f:Nat)(x:Ser)(m:Int): (qGz f x m).last=x.last\/(qGz f x m).last<=m:=by
 induction f generalizing x with
 | zero=>exact .inl rfl
 | succ f ih =>
  unfold qGz
  split
  ·exact .inl rfl
  ·split
   ·exact .inl rfl
   ·rename_i h1 h2
    rcases ih (qFu x m) with h | h
    ·refine .inr ?_
     rw[h];show(itAt x.l 0).t<=m;omega
    ·exact .inr h
def qIf(c a:Int): Int:=if c<a then a else c
theorem qXz(f:Ser->Ser)(xs:List Ser)(l1 l2:List (SB×Ser))(p:SB×Ser)(k:Nat)(hk:l1.length=k)(hx:k<xs.length)(h:(l1++p::l2).map (·.2)=(xs.take k).map f++xs.drop k)(b':SB):
  (l1++(b',f p.2)::l2).map (·.2)=(xs.take (k+1)).map f++xs.drop (k+1):=by
 have hl:(l1.map (·.2)).length=((xs.take k).map f).length:=by simp;omega
 rw[List.map_append]at h;obtain⟨h1,h2⟩:=List.append_inj h hl;rw[List.drop_eq_getElem_cons hx,List.map_cons]at h2;injection h2 with h3 h4;rw[List.map_append,List.map_cons,h1,h4];simp only;rw[h3,List.take_succ_eq_append_getElem hx];simp only[List.map_append,List.map_cons,List.map_nil,List.append_assoc,List.singleton_append]
def qDb(clock:Int)(x:Ser): Ser:=qGz (x.l.length+1) x (clock-x.c.lag)
theorem qZw(n:Int)(e:Nat)(v:Value)(clock:Int)(ps:List (SB×Ser))(o:OpM)(w:World)(h:ERep w e v clock ps)(hi:EInv n clock (ps.map (·.2)))(hf:inB o.a 0 4611686018427387904=false):
  Calls Tryz.prog 33 #[.pointer (some ⟨e,0,none⟩),o.val] w λr w'=>StepPost w e v ps clock (ps.map (·.2)) 5 [] r w':=by
 have h1:o.cells[2]?=some (.int .i64 o.a):=rfl;have h1':o.cells[3]?=some (.int .i64 o.b):=rfl;have HE:=hide h;have HI:=hide hi;have hl:ps.length<=1000:=by have:=hi.six;rw[List.length_map]at this;omega
 clear h hi;unfold OpM.val;go_enter Tryz.func33,Tryz.ntmps33
 go_wp2_with fail
 have hk0:Keeps (λ_=>False) w ((w.alloc (.cells o.cells.toArray 34)).alloc (.cells #[.int .i64 0,.slice none 0 0,.string ⟨#[]⟩] 38)):=((Keeps.refl (λ_=>False) w).alloc _).alloc _;have HO0:=hide (show Blk ((w.alloc (.cells o.cells.toArray 34)).alloc (.cells #[.int .i64 0,.slice none 0 0,.string ⟨#[]⟩] 38)) w.heap.size o.cells 34 from(Blk.new w o.cells 34).alloc _);have HR0:=hide (show Blk ((w.alloc (.cells o.cells.toArray 34)).alloc (.cells #[.int .i64 0,.slice none 0 0,.string ⟨#[]⟩] 38)) (w.heap.size+1) [.int .i64 0,.slice none 0 0,.string qAa] 38 from Blk.newAt (by simp) [_,_,_] 38);have HE0:=hide ((uh HE).still hk0);have HK0:=hide hk0;clear hk0;generalize(w.alloc (.cells o.cells.toArray 34)).alloc (.cells #[.int .i64 0,.slice none 0 0,.string ⟨#[]⟩] 38)=w0 at *;have HLT:=hide (show ∀i,EFoot e v ps i->i<w.heap.size from(uh HE).lt);generalize hob:w.heap.size=ob at *;have HOB:=hide hob;clear hob;have hsz0:ob+1<w0.heap.size:=(uh HR0).lt;refine(qFs _ w0).mono ?_;rintro r w1 ⟨rfl,hw1⟩;rw[hw1,hf];clear hw1 w1;go_wp2_with fail
 refine(qGg 5 w0).mono ?_;rintro r w1 ⟨rfl,hk1⟩;unfold qC0;have HR1:=hide ((uh HR0).keeps hk1 (λh=>h));have HK1:=hide ((uh HK0).then hk1);clear hk1;have r0:w1.cell? ⟨ob+1,0,none⟩=some (.int .i64 0):=(uh HR1).cell rfl;have r1:w1.cell? ⟨ob+1,1,none⟩=some (.slice none 0 0):=(uh HR1).cell rfl;have r2:w1.cell? ⟨ob+1,2,none⟩=some (.string qAa):=(uh HR1).cell rfl;have rf:=(uh HR1).frozen;go_wp2
 have hbf:=(((uh HR1).setCell 0 (.int .i64 5)).setCell 1 (.slice none 0 0)).setCell 2 (.string qAa);have HKF:=hide ((((Keeps.refl (λi=>i=ob+1) w1).setCell (p:=⟨ob+1,0,none⟩) (Or.inl rfl) (.int .i64 5)).setCell (p:=⟨ob+1,1,none⟩) (Or.inl rfl) (.slice none 0 0)).setCell (p:=⟨ob+1,2,none⟩) (Or.inl rfl) (.string qAa));have e9:(((w1.setCell ⟨ob+1,0,none⟩ (.int .i64 5)).setCell ⟨ob+1,1,none⟩ (.slice none 0 0)).setCell ⟨ob+1,2,none⟩ (.string ⟨#[]⟩))=(((w1.setCell ⟨ob+1,0,none⟩ (.int .i64 5)).setCell ⟨ob+1,1,none⟩ (.slice none 0 0)).setCell ⟨ob+1,2,none⟩ (.string qAa)):=rfl
 first | rw[e9] | skip
 generalize(((w1.setCell ⟨ob+1,0,none⟩ (.int .i64 5)).setCell ⟨ob+1,1,none⟩ (.slice none 0 0)).setCell ⟨ob+1,2,none⟩ (.string qAa))=w9 at *;have q0:w9.cell? ⟨ob+1,0,none⟩=some (.int .i64 5):=hbf.cell rfl;have q1:w9.cell? ⟨ob+1,1,none⟩=some (.slice none 0 0):=hbf.cell rfl;have q2:w9.cell? ⟨ob+1,2,none⟩=some (.string qAa):=hbf.cell rfl;refine bodyPost_ret (v:=qC0 5 (.slice none 0 0)) (by simp[results,Tryz.results33,go_sem,q0,q1,q2,qC0]) rfl ?_;have hkf:=uh HKF;have hob:=uh HOB;have hkk:Keeps (λ_=>False) w w9:=(uh HK1).trans hkf (λi hi hlt=>by omega);exact qB8 (uh HE) hkk (World.ownsRow_nil _ _ _ _)
theorem qUq(n:Int)(e:Nat)(v:Value)(clock:Int)(ps:List (SB×Ser))(o:OpM)(w:World)(h:ERep w e v clock ps)(hi:EInv n clock (ps.map (·.2)))(hf:inB o.a 0 4611686018427387904=true)(hf2:inB o.b 0 100=false):
  Calls Tryz.prog 33 #[.pointer (some ⟨e,0,none⟩),o.val] w λr w'=>StepPost w e v ps clock (ps.map (·.2)) 12 [] r w':=by
 have h1:o.cells[2]?=some (.int .i64 o.a):=rfl;have h1':o.cells[3]?=some (.int .i64 o.b):=rfl;have HE:=hide h;have HI:=hide hi;have hl:ps.length<=1000:=by have:=hi.six;rw[List.length_map]at this;omega
 clear h hi;unfold OpM.val;go_enter Tryz.func33,Tryz.ntmps33
 go_wp2_with fail
 have hk0:Keeps (λ_=>False) w ((w.alloc (.cells o.cells.toArray 34)).alloc (.cells #[.int .i64 0,.slice none 0 0,.string ⟨#[]⟩] 38)):=((Keeps.refl (λ_=>False) w).alloc _).alloc _;have HO0:=hide (show Blk ((w.alloc (.cells o.cells.toArray 34)).alloc (.cells #[.int .i64 0,.slice none 0 0,.string ⟨#[]⟩] 38)) w.heap.size o.cells 34 from(Blk.new w o.cells 34).alloc _);have HR0:=hide (show Blk ((w.alloc (.cells o.cells.toArray 34)).alloc (.cells #[.int .i64 0,.slice none 0 0,.string ⟨#[]⟩] 38)) (w.heap.size+1) [.int .i64 0,.slice none 0 0,.string qAa] 38 from Blk.newAt (by simp) [_,_,_] 38);have HE0:=hide ((uh HE).still hk0);have HK0:=hide hk0;clear hk0;generalize(w.alloc (.cells o.cells.toArray 34)).alloc (.cells #[.int .i64 0,.slice none 0 0,.string ⟨#[]⟩] 38)=w0 at *;have HLT:=hide (show ∀i,EFoot e v ps i->i<w.heap.size from(uh HE).lt);generalize hob:w.heap.size=ob at *;have HOB:=hide hob;clear hob;have hsz0:ob+1<w0.heap.size:=(uh HR0).lt;refine(qFs _ w0).mono ?_;rintro r w1 ⟨rfl,hw1⟩;rw[hw1,hf];clear hw1 w1;have hob3:w0.cell? ⟨ob,3,none⟩=some (.int .i64 o.b):=(uh HO0).cell rfl;go_wp2_with fail
 refine(qAg _ _ _ w0).mono ?_;rintro r w1 ⟨rfl,hw1⟩;rw[hw1,hf2];clear hw1 w1;go_wp2_with fail
 refine(qGg 12 w0).mono ?_;rintro r w1 ⟨rfl,hk1⟩;unfold qC0;have HR1:=hide ((uh HR0).keeps hk1 (λh=>h));have HK1:=hide ((uh HK0).then hk1);clear hk1;have r0:w1.cell? ⟨ob+1,0,none⟩=some (.int .i64 0):=(uh HR1).cell rfl;have r1:w1.cell? ⟨ob+1,1,none⟩=some (.slice none 0 0):=(uh HR1).cell rfl;have r2:w1.cell? ⟨ob+1,2,none⟩=some (.string qAa):=(uh HR1).cell rfl;have rf:=(uh HR1).frozen;go_wp2
 have hbf:=(((uh HR1).setCell 0 (.int .i64 12)).setCell 1 (.slice none 0 0)).setCell 2 (.string qAa);have HKF:=hide ((((Keeps.refl (λi=>i=ob+1) w1).setCell (p:=⟨ob+1,0,none⟩) (Or.inl rfl) (.int .i64 12)).setCell (p:=⟨ob+1,1,none⟩) (Or.inl rfl) (.slice none 0 0)).setCell (p:=⟨ob+1,2,none⟩) (Or.inl rfl) (.string qAa));have e9:(((w1.setCell ⟨ob+1,0,none⟩ (.int .i64 12)).setCell ⟨ob+1,1,none⟩ (.slice none 0 0)).setCell ⟨ob+1,2,none⟩ (.string ⟨#[]⟩))=(((w1.setCell ⟨ob+1,0,none⟩ (.int .i64 12)).setCell ⟨ob+1,1,none⟩ (.slice none 0 0)).setCell ⟨ob+1,2,none⟩ (.string qAa)):=rfl
 first | rw[e9] | skip
 generalize(((w1.setCell ⟨ob+1,0,none⟩ (.int .i64 12)).setCell ⟨ob+1,1,none⟩ (.slice none 0 0)).setCell ⟨ob+1,2,none⟩ (.string qAa))=w9 at *;have q0:w9.cell? ⟨ob+1,0,none⟩=some (.int .i64 12):=hbf.cell rfl;have q1:w9.cell? ⟨ob+1,1,none⟩=some (.slice none 0 0):=hbf.cell rfl;have q2:w9.cell? ⟨ob+1,2,none⟩=some (.string qAa):=hbf.cell rfl;refine bodyPost_ret (v:=qC0 12 (.slice none 0 0)) (by simp[results,Tryz.results33,go_sem,q0,q1,q2,qC0]) rfl ?_;have hkf:=uh HKF;have hob:=uh HOB;have hkk:Keeps (λ_=>False) w w9:=(uh HK1).trans hkf (λi hi hlt=>by omega);exact qB8 (uh HE) hkk (World.ownsRow_nil _ _ _ _)
theorem zEr(n:Int)(e:Nat)(v:Value)(clock:Int)(ps:List (SB×Ser))(o:OpM)(w:World)(h:ERep w e v clock ps)(hi:EInv n clock (ps.map (·.2)))(hf:inB o.a 0 4611686018427387904=true)(hf2:inB o.b 0 100=true)(hn:n<=4611686018427387904)(hT:Tab w)(hT0:¬EFoot e v ps 2):
  Calls Tryz.prog 33 #[.pointer (some ⟨e,0,none⟩),o.val] w λr w'=>StepPost w e v ps (qIf clock o.a) (qC8 (qIf clock o.a) o.b ((ps.map (·.2)).map (qDb (qIf clock o.a)))).1 0 [(qC8 (qIf clock o.a) o.b ((ps.map (·.2)).map (qDb (qIf clock o.a)))).2] r w':=by
 have h1:o.cells[2]?=some (.int .i64 o.a):=rfl;have h1':o.cells[3]?=some (.int .i64 o.b):=rfl;have HE:=hide h;have HI:=hide hi;have HTW:=hide hT;have HTZ:=hide hT0;clear hT hT0;have hl:ps.length<=1000:=by have:=hi.six;rw[List.length_map]at this;omega
 clear h hi;unfold OpM.val;go_enter Tryz.func33,Tryz.ntmps33
 go_wp2_with fail
 have hk0:Keeps (λ_=>False) w ((w.alloc (.cells o.cells.toArray 34)).alloc (.cells #[.int .i64 0,.slice none 0 0,.string ⟨#[]⟩] 38)):=((Keeps.refl (λ_=>False) w).alloc _).alloc _;have HO0:=hide (show Blk ((w.alloc (.cells o.cells.toArray 34)).alloc (.cells #[.int .i64 0,.slice none 0 0,.string ⟨#[]⟩] 38)) w.heap.size o.cells 34 from(Blk.new w o.cells 34).alloc _);have HR0:=hide (show Blk ((w.alloc (.cells o.cells.toArray 34)).alloc (.cells #[.int .i64 0,.slice none 0 0,.string ⟨#[]⟩] 38)) (w.heap.size+1) [.int .i64 0,.slice none 0 0,.string qAa] 38 from Blk.newAt (by simp) [_,_,_] 38);have HE0:=hide ((uh HE).still hk0);have HK0:=hide hk0;clear hk0;generalize(w.alloc (.cells o.cells.toArray 34)).alloc (.cells #[.int .i64 0,.slice none 0 0,.string ⟨#[]⟩] 38)=w0 at *;have HLT:=hide (show ∀i,EFoot e v ps i->i<w.heap.size from(uh HE).lt);generalize hob:w.heap.size=ob at *;have HOB:=hide hob;clear hob;have hsz0:ob+1<w0.heap.size:=(uh HR0).lt;refine(qFs _ w0).mono ?_;rintro r w1 ⟨rfl,hw1⟩;rw[hw1,hf];clear hw1 w1;have hob3:w0.cell? ⟨ob,3,none⟩=some (.int .i64 o.b):=(uh HO0).cell rfl;have hob2:w0.cell? ⟨ob,2,none⟩=some (.int .i64 o.a):=(uh HO0).cell rfl;have hce:w0.cell? ⟨e,0,none⟩=some (.int .i64 clock):=(uh HE0).blk.cell rfl;have hfe:=(uh HE0).blk.frozen;go_wp2_with fail
 refine(qAg _ _ _ w0).mono ?_;rintro r w1 ⟨rfl,hw1⟩;rw[hw1,hf2];clear hw1 w1;go_wp2_with fail
 go_region
 have HNC:=hide (show qIf clock o.a=if clock<o.a then o.a else clock from rfl);rw[<-uh HNC];clear HNC;obtain⟨ha0,ha1⟩:=qCq hf;have hnc:0<=qIf clock o.a/\qIf clock o.a<=4611686018427387904:=by
  have h1:=(uh HI).c0;have h2:=(uh HI).c1;unfold qIf
  split <;> omega
 obtain⟨nc0,nc1⟩:=hnc;generalize hncd:qIf clock o.a=nc at *;have HNC:=hide hncd;clear hncd;have hk1:Keeps (λi=>i=e) w0 (w0.setCell ⟨e,0,none⟩ (.int .i64 nc)).drew:=((Keeps.refl (λi=>i=e) w0).setCell (p:=⟨e,0,none⟩) (Or.inl rfl) _).drew;have hE0:=uh HE0
 have HE1:=hide (show ERep (w0.setCell ⟨e,0,none⟩ (.int .i64 nc)).drew e v nc ps from
    ⟨(hE0.blk.setCell 0 (.int .i64 nc)).drew,qBk hE0.row hk1 (λi hi h=>hE0.ev (by rw[<-h];exact hi)),λq hq=>(hE0.reps q hq).keeps hk1 (λi hi h=>(hE0.ef q hq i hi).1 h),hE0.apart,hE0.ev,hE0.ef⟩)
 have hlte:e<ob:=uh HLT e (.inl rfl);have HR1:=hide ((uh HR0).keeps hk1 (λh=>by omega));have HO1:=hide ((uh HO0).keeps hk1 (λh=>by omega));have HK1:=hide (((uh HK0).mono (M':=EFoot e v ps) (λ_ _ h=>h.elim)).trans hk1 (λi hi _=>.inl hi));clear hE0 hk1 HE0 HR0 HK0 HO0 hob3 hob2 hce hfe;generalize(w0.setCell ⟨e,0,none⟩ (.int .i64 nc)).drew=w1 at *;have HQ:=hide (show ∃(qs:List (SB×Ser)),True from⟨ps,trivial⟩);have hc1:w1.cell? ⟨e,1,none⟩=some v:=(uh HE1).blk.cell rfl;have hlv:∃a cap,v=.slice a ps.length cap/\∀g,a=some g->g=⟨g.block,0,none⟩:=by
  rcases(uh HE1).row.2 with ⟨h1,h2⟩ | ⟨g,cap,cur,h1,_⟩
  ·exact⟨none,0,by rw[h1,h2],λg hg=>by cases hg⟩
  ·exact⟨some ⟨g,0,none⟩,cap,h1,λg' hg=>by cases hg;rfl⟩
 obtain⟨va,vcap,hv,hva⟩:=hlv;generalize hm:ps.length=m at *;have HM:=hide hm;have HVA:=hide hva;have HXL:=hide (show(ps.map (·.2)).length=m by rw[List.length_map];exact hm);clear hm hva HQ;subst hv;go_wp2_with fail
 go_loopw [32] (λi wr=>∃(k:Nat) (qs:List (SB×Ser)),k<=m/\i=.int .i64 k/\Hid (ERep wr e (.slice va m vcap) nc qs)/\Hid (qs.map (·.2)=((ps.map (·.2)).take k).map (qDb nc)++(ps.map (·.2)).drop k)/\Hid (Keeps (EFoot e (.slice va m vcap) ps) w wr)/\Hid (∀i,EFoot e (.slice va m vcap) qs i->EFoot e (.slice va m vcap) ps i\/ob+1<i)/\Hid (∀x,x∈qs.map (·.2)->SInv n x)/\Hid (Blk wr (ob+1) [.int .i64 0,.slice none 0 0,.string qAa] 38)/\Hid (Blk wr ob o.cells 34)) (λi _=>m-(intOf i).toNat)
 case atStart=>exact⟨0,ps,by omega,rfl,HE1,rfl,HK1,λi hi=>.inl hi,(uh HI).sers,HR1,HO1⟩
 case round =>
  obtain⟨k,qs,hk,rfl,HEr,HX,HKr,HFr,HSr,HRr,HOr⟩:=hrel;clear hc1;have hql:qs.length=m:=by
   have h1:=congrArg List.length (uh HX);have h2:=uh HXL;rw[List.length_append,List.length_map,List.length_map,List.length_take,List.length_drop,h2]at h1;omega
  have HQL:=hide hql;clear hql
  by_cases hlt:k<m
  ·obtain⟨l1,q,l2,hqs,hl1⟩:=qWw qs k (by rw[uh HQL];exact hlt)
   have HQS:=hide hqs;have HL1:=hide hl1;have hqm:q∈qs:=by rw[hqs];simp
   have HQM:=hide hqm;have HSq:=hide ((uh HEr).reps q hqm);have HIq:=hide (uh HSr q.2 (List.mem_map_of_mem hqm));obtain⟨la0,la1,_,_,_,_⟩:=(uh HIq).common;obtain⟨g,hg⟩:∃g,va=some ⟨g,0,none⟩:=by
    rcases(uh HEr).row.2 with ⟨h1,_⟩ | ⟨g,cap,cur,h1,_⟩
    ·have hm0:m=0:=by injection h1
     omega
    ·injection h1 with h2 _ _
     exact⟨g,h2⟩
   subst hg;have hck:wr.cell? ⟨g,k,none⟩=some (.pointer (some ⟨q.1.s,0,none⟩)):=by
    have hrow:=(uh HEr).row;rw[uh HQL]at hrow;refine zFs hrow k _ ?_;unfold ptrs;rw[hqs,List.map_append,List.getElem?_append_right (by simp[hl1])];simp[hl1]
   clear hqs hl1 hqm;have hce:wr.cell? ⟨e,0,none⟩=some (.int .i64 nc):=(uh HEr).blk.cell rfl;have hc2:wr.cell? ⟨q.1.s,2,none⟩=some (.int .i64 q.2.c.lag):=(uh HSq).blk.cell rfl;have hk0:(0:Int)<=(k:Int):=by omega
   have hkm:(k:Int)<(m:Int):=by omega
   go_wp2_with fail
   refine(qK8 q.1.s q.2.c.lag nc wr hc2 la0 la1 nc0 nc1).mono ?_;rintro r w2 ⟨rfl,hw2⟩;rw[hw2];clear hw2 w2;go_wp2_with fail
   refine(qTj n q.1 q.2 (nc-q.2.c.lag) wr (uh HSq) (uh HIq) hn ((uh HTW).keeps (uh HKr) (uh HTZ)) (λh=>by
        rcases uh HFr 2 (.inr (.inr ⟨q,uh HQM,h⟩)) with h1 | h1
        ·exact uh HTZ h1
        ·omega) (by omega) (by omega)).mono ?_
   rintro r w2 ⟨rfl,b',hs2,hn2,hk2⟩;have HS2:=hide hs2;have HN2:=hide hn2;have HK2:=hide hk2;clear hs2 hn2 hk2 hck hce hc2;go_wp2
   go_roundw
   case rel =>
    have hEr:=uh HEr;have hFr:=uh HFr;have hKr:=uh HKr;have hX:=uh HX;have hSr:=uh HSr;have hQS:=uh HQS;subst hQS;have hrk:=qW4 (q.2.l.length+1) q.2 (nc-q.2.c.lag);have hE2:ERep w2 e (.slice (some ⟨g,0,none⟩) m vcap) nc (l1++(b',qDb nc q.2)::l2):=hEr.one (uh HK2) (uh HS2) hrk.1 (uh HN2);have hszr:ob+1<wr.heap.size:=(uh HRr).lt;have hqf:∀i,q.1.foot q.2.k i->EFoot e (.slice (some ⟨g,0,none⟩) m vcap) ps i\/ob+1<i:=λi hi=>hFr i (.inr (.inr ⟨q,by simp,hi⟩))
    refine⟨k+1,l1++(b',qDb nc q.2)::l2,by omega,by go_num,hE2,qXz (qDb nc) _ l1 l2 q k (uh HL1) (by rw[uh HXL];exact hlt) hX b',?_,?_,?_,?_,?_⟩
    ·refine hKr.trans (uh HK2) (λi hi hlti=>?_)
     rcases hqf i hi with h | h
     ·exact h
     ·have:=uh HOB;omega
    ·intro i hi
     rcases EFoot.one (w:=wr) (x':=qDb nc q.2) hrk.1 (uh HN2) i hi with h | h
     ·exact hFr i h
     ·exact .inr (by omega)
    ·intro x hx
     rw[List.map_append,List.map_cons]at hx;rcases List.mem_append.1 hx with hx | hx
     ·exact hSr x (by rw[List.map_append];exact List.mem_append.2 (.inl hx))
     ·rcases List.mem_cons.1 hx with hx | hx
      ·subst hx;exact qLq _ (uh HIq) _
      ·exact hSr x (by rw[List.map_append,List.map_cons];exact List.mem_append.2 (.inr (List.mem_cons.2 (.inr hx))))
    ·refine(uh HRr).keeps (uh HK2) (λh=>?_)
     rcases hqf _ h with h1 | h1
     ·have:=uh HLT _ h1;omega
     ·omega
    ·refine(uh HOr).keeps (uh HK2) (λh=>?_)
     rcases hqf _ h with h1 | h1
     ·have:=uh HLT _ h1;omega
     ·omega
   case measure=>simp[intOf];omega
  ·have HKM:=hide (show k=m by omega)
   have hob3:wr.cell? ⟨ob,3,none⟩=some (.int .i64 o.b):=(uh HOr).cell rfl;obtain⟨b0,b1⟩:=qCq hf2;go_wp2_with fail
   refine(zA9 n e _ nc o.b qs wr (uh HEr) (uh HSr) (by have h1:=uh HQL;have h2:=(uh HI).six;have h3:=uh HXL;omega) (by omega) nc0 nc1 b0 b1).mono ?_;rintro r w2 ⟨rfl,qs',hE2,hX2,hK2,hF2,hS2⟩;have HE2:=hide hE2;have HX2:=hide hX2;have HK2:=hide hK2;have HF2:=hide hF2
   have HNF:=hide (show ¬EFoot e (.slice va m vcap) qs (ob+1) from λh=>by
      rcases uh HFr _ h with h1 | h1
      ·have:=uh HLT _ h1;omega
      ·omega)
   have HR2:=hide ((uh HRr).keeps hK2 (uh HNF));have HSZ:=hide hK2.size;have HLR:=hide (uh HRr).lt;clear hE2 hX2 hK2 hF2 hS2 hob3;generalize hsl:(qC8 nc o.b (qs.map (·.2))).2=left at *;have HSL:=hide hsl;clear hsl;have r0:w2.cell? ⟨ob+1,0,none⟩=some (.int .i64 0):=(uh HR2).cell rfl;have r1:w2.cell? ⟨ob+1,1,none⟩=some (.slice none 0 0):=(uh HR2).cell rfl;have r2:w2.cell? ⟨ob+1,2,none⟩=some (.string qAa):=(uh HR2).cell rfl;have rf:=(uh HR2).frozen;have hszr:ob+1<w2.heap.size:=(uh HR2).lt;have hrn:ob+1≠w2.heap.size:=by omega
   go_wp2
   have hbf:=((((uh HR2).setCell 0 (.int .i64 0)).setCell 1 (.slice (some ⟨w2.heap.size,0,none⟩) 1 1)).setCell 2 (.string qAa)).alloc (.cells #[.int .i64 left] 3);have hkF:Keeps (λi=>i=ob+1) w2 ((((w2.setCell ⟨ob+1,0,none⟩ (.int .i64 0)).setCell ⟨ob+1,1,none⟩ (.slice (some ⟨w2.heap.size,0,none⟩) 1 1)).setCell ⟨ob+1,2,none⟩ (.string qAa)).alloc (.cells #[.int .i64 left] 3)) :=
    ((((Keeps.refl (λi=>i=ob+1) w2).setCell (p:=⟨ob+1,0,none⟩) (Or.inl rfl) _).setCell (p:=⟨ob+1,1,none⟩) (Or.inl rfl) _).setCell (p:=⟨ob+1,2,none⟩) (Or.inl rfl) _).alloc _
   have hbn:Blk ((((w2.setCell ⟨ob+1,0,none⟩ (.int .i64 0)).setCell ⟨ob+1,1,none⟩ (.slice (some ⟨w2.heap.size,0,none⟩) 1 1)).setCell ⟨ob+1,2,none⟩ (.string qAa)).alloc (.cells #[.int .i64 left] 3)) w2.heap.size [.int .i64 left] 3:=Blk.newAt (by simp) [_] 3;have e9:((((w2.setCell ⟨ob+1,0,none⟩ (.int .i64 0)).setCell ⟨ob+1,1,none⟩ (.slice (some ⟨w2.heap.size,0,none⟩) 1 1)).setCell ⟨ob+1,2,none⟩ (.string ⟨#[]⟩)).alloc (.cells #[.int .i64 left] 3))=((((w2.setCell ⟨ob+1,0,none⟩ (.int .i64 0)).setCell ⟨ob+1,1,none⟩ (.slice (some ⟨w2.heap.size,0,none⟩) 1 1)).setCell ⟨ob+1,2,none⟩ (.string qAa)).alloc (.cells #[.int .i64 left] 3)):=rfl;rw[e9];clear e9;generalize((((w2.setCell ⟨ob+1,0,none⟩ (.int .i64 0)).setCell ⟨ob+1,1,none⟩ (.slice (some ⟨w2.heap.size,0,none⟩) 1 1)).setCell ⟨ob+1,2,none⟩ (.string qAa)).alloc (.cells #[.int .i64 left] 3))=w9 at *;have q0:w9.cell? ⟨ob+1,0,none⟩=some (.int .i64 0):=hbf.cell rfl;have q1:w9.cell? ⟨ob+1,1,none⟩=some (.slice (some ⟨w2.heap.size,0,none⟩) 1 1):=hbf.cell rfl;have q2:w9.cell? ⟨ob+1,2,none⟩=some (.string qAa):=hbf.cell rfl;refine bodyPost_ret (v:=qC0 0 (.slice (some ⟨w2.heap.size,0,none⟩) 1 1)) (by simp[results,Tryz.results33,go_sem,q0,q1,q2,qC0]) rfl ?_;have hob:=uh HOB;have hE2:=uh HE2;have hFr:=uh HFr;have hLT:=uh HLT;have hX:=uh HX;have hXL:=uh HXL;have hkm:=uh HKM;have hsz:=uh HSZ;rw[List.take_of_length_le (by omega),List.drop_eq_nil_of_le (by omega),List.append_nil]at hX;have hX2:=uh HX2;have hSL:=uh HSL;rw[hX]at hX2 hSL;rw[uh HNC,hSL,<-hX2];have hFF:∀i,EFoot e (.slice va m vcap) qs' i->EFoot e (.slice va m vcap) ps i\/ob+1<i:=λi hi=>hFr i (uh HF2 i hi)
   refine⟨.slice (some ⟨w2.heap.size,0,none⟩) 1 1,.slice va m vcap,qs',rfl,hE2.keeps hkF (λi hi h=>?_),rfl,⟨rfl,.inr ⟨w2.heap.size,1,_,rfl,by omega,hbn,by simp,by unfold maxLen;omega,rfl,rfl⟩⟩,?_,?_,?_⟩
   ·rcases hFF i hi with h1 | h1
    ·have:=hLT i h1;omega
    ·omega
   ·refine((uh HKr).trans (uh HK2) (λi hi hlt=>?_)).trans hkF (λi hi hlt=>by omega)
    rcases hFr i hi with h1 | h1
    ·exact h1
    ·omega
   ·intro i hi
    rcases hFF i hi with h1 | h1
    ·exact .inl h1
    ·exact .inr (by omega)
   ·intro i hi hf
    have h1:w2.heap.size=i:=by simpa[Value.ownBlock] using hi
    have h2:=hE2.lt i hf;omega
theorem qFh{c:Cfg}(h:qA5 c=true): ∃k:Nat,c.kind=k/\1<=k/\k<=5/\qDm c=true/\qFn c k=true:=by
 simp only[qA5,Bool.and_eq_true]at h;obtain⟨h1,h2,h3⟩:=h;obtain⟨a,b⟩:=qCq h1;refine⟨c.kind.toNat,by omega,by omega,by omega,h2,h3⟩
theorem qOu(c:Cfg)(w:World)(h:qA5 c=false):
  Calls Tryz.prog 47 #[c.val] w λe w'=>e=.returned (.tuple #[.agg #[.nilFunc,.nilFunc,.nilFunc,.nilFunc,.nilFunc,.nilFunc],.bool false])/\Keeps (λ_=>False) w w':=by
 cases h1:inB c.kind 1 5
 ·exact qUr c w h1
 ·obtain⟨a,b⟩:=qCq h1
  have hk:c.kind=(c.kind.toNat:Int):=by omega
  cases h2:qDm c
  ·exact qVv c c.kind.toNat w hk (by omega) (by omega) h2
  ·cases h3:qFn c c.kind.toNat
   ·exact qVp c c.kind.toNat w hk (by omega) (by omega) h2 h3
   ·simp[qA5,h1,h2,h3]at h
theorem qZn(n:Int)(e:Nat)(v:Value)(clock:Int)(ps:List (SB×Ser))(o:OpM)(w:World)(h:ERep w e v clock ps)(hi:EInv n clock (ps.map (·.2)))(hid:inB o.id 0 99=false):
  Calls Tryz.prog 31 #[.pointer (some ⟨e,0,none⟩),o.val] w λr w'=>StepPost w e v ps clock (ps.map (·.2)) 2 [] r w':=by
 have h1:o.cells[1]?=some (.int .i64 o.id):=rfl;have HE:=hide h;have HI:=hide hi;have hl:ps.length<=1000:=by have:=hi.six;rw[List.length_map]at this;omega
 clear h hi;unfold OpM.val;go_enter Tryz.func31,Tryz.ntmps31
 go_wp2_with fail
 have hk0:Keeps (λ_=>False) w ((w.alloc (.cells o.cells.toArray 34)).alloc (.cells #[.int .i64 0,.slice none 0 0,.string ⟨#[]⟩] 38)):=((Keeps.refl (λ_=>False) w).alloc _).alloc _;have HO0:=hide (show Blk ((w.alloc (.cells o.cells.toArray 34)).alloc (.cells #[.int .i64 0,.slice none 0 0,.string ⟨#[]⟩] 38)) w.heap.size o.cells 34 from(Blk.new w o.cells 34).alloc _);have HR0:=hide (show Blk ((w.alloc (.cells o.cells.toArray 34)).alloc (.cells #[.int .i64 0,.slice none 0 0,.string ⟨#[]⟩] 38)) (w.heap.size+1) [.int .i64 0,.slice none 0 0,.string qAa] 38 from Blk.newAt (by simp) [_,_,_] 38);have HE0:=hide ((uh HE).still hk0);have HK0:=hide hk0;clear hk0;generalize(w.alloc (.cells o.cells.toArray 34)).alloc (.cells #[.int .i64 0,.slice none 0 0,.string ⟨#[]⟩] 38)=w0 at *;have HLT:=hide (show ∀i,EFoot e v ps i->i<w.heap.size from(uh HE).lt);generalize hob:w.heap.size=ob at *;have HOB:=hide hob;clear hob;have hsz0:ob+1<w0.heap.size:=(uh HR0).lt;refine(qAg _ _ _ w0).mono ?_;rintro r w1 ⟨rfl,hw1⟩;rw[hw1,hid];clear hw1 w1;go_wp2_with fail
 refine(qGg 2 w0).mono ?_;rintro r w1 ⟨rfl,hk1⟩;unfold qC0;have HR1:=hide ((uh HR0).keeps hk1 (λh=>h));have HK1:=hide ((uh HK0).then hk1);clear hk1;have r0:w1.cell? ⟨ob+1,0,none⟩=some (.int .i64 0):=(uh HR1).cell rfl;have r1:w1.cell? ⟨ob+1,1,none⟩=some (.slice none 0 0):=(uh HR1).cell rfl;have r2:w1.cell? ⟨ob+1,2,none⟩=some (.string qAa):=(uh HR1).cell rfl;have rf:=(uh HR1).frozen;go_wp2
 have hbf:=(((uh HR1).setCell 0 (.int .i64 2)).setCell 1 (.slice none 0 0)).setCell 2 (.string qAa);have HKF:=hide ((((Keeps.refl (λi=>i=ob+1) w1).setCell (p:=⟨ob+1,0,none⟩) (Or.inl rfl) (.int .i64 2)).setCell (p:=⟨ob+1,1,none⟩) (Or.inl rfl) (.slice none 0 0)).setCell (p:=⟨ob+1,2,none⟩) (Or.inl rfl) (.string qAa));have e9:(((w1.setCell ⟨ob+1,0,none⟩ (.int .i64 2)).setCell ⟨ob+1,1,none⟩ (.slice none 0 0)).setCell ⟨ob+1,2,none⟩ (.string ⟨#[]⟩))=(((w1.setCell ⟨ob+1,0,none⟩ (.int .i64 2)).setCell ⟨ob+1,1,none⟩ (.slice none 0 0)).setCell ⟨ob+1,2,none⟩ (.string qAa)):=rfl
 first | rw[e9] | skip
 generalize(((w1.setCell ⟨ob+1,0,none⟩ (.int .i64 2)).setCell ⟨ob+1,1,none⟩ (.slice none 0 0)).setCell ⟨ob+1,2,none⟩ (.string qAa))=w9 at *;have q0:w9.cell? ⟨ob+1,0,none⟩=some (.int .i64 2):=hbf.cell rfl;have q1:w9.cell? ⟨ob+1,1,none⟩=some (.slice none 0 0):=hbf.cell rfl;have q2:w9.cell? ⟨ob+1,2,none⟩=some (.string qAa):=hbf.cell rfl;refine bodyPost_ret (v:=qC0 2 (.slice none 0 0)) (by simp[results,Tryz.results31,go_sem,q0,q1,q2,qC0]) rfl ?_;have hkf:=uh HKF;have hob:=uh HOB;have hkk:Keeps (λ_=>False) w w9:=(uh HK1).trans hkf (λi hi hlt=>by omega);exact qB8 (uh HE) hkk (World.ownsRow_nil _ _ _ _)
theorem qR0(n:Int)(e:Nat)(v:Value)(clock:Int)(ps:List (SB×Ser))(o:OpM)(w:World)(h:ERep w e v clock ps)(hi:EInv n clock (ps.map (·.2)))(hid:inB o.id 0 99=true)(p:SB×Ser)(hf:qD9 ps o.id=some p):
  Calls Tryz.prog 31 #[.pointer (some ⟨e,0,none⟩),o.val] w λr w'=>StepPost w e v ps clock (ps.map (·.2)) 2 [] r w':=by
 have h1:o.cells[1]?=some (.int .i64 o.id):=rfl;have HE:=hide h;have HI:=hide hi;have hl:ps.length<=1000:=by have:=hi.six;rw[List.length_map]at this;omega
 have HF:=hide hf;clear h hi hf;unfold OpM.val;go_enter Tryz.func31,Tryz.ntmps31
 go_wp2_with fail
 have hk0:Keeps (λ_=>False) w ((w.alloc (.cells o.cells.toArray 34)).alloc (.cells #[.int .i64 0,.slice none 0 0,.string ⟨#[]⟩] 38)):=((Keeps.refl (λ_=>False) w).alloc _).alloc _;have HO0:=hide (show Blk ((w.alloc (.cells o.cells.toArray 34)).alloc (.cells #[.int .i64 0,.slice none 0 0,.string ⟨#[]⟩] 38)) w.heap.size o.cells 34 from(Blk.new w o.cells 34).alloc _);have HR0:=hide (show Blk ((w.alloc (.cells o.cells.toArray 34)).alloc (.cells #[.int .i64 0,.slice none 0 0,.string ⟨#[]⟩] 38)) (w.heap.size+1) [.int .i64 0,.slice none 0 0,.string qAa] 38 from Blk.newAt (by simp) [_,_,_] 38);have HE0:=hide ((uh HE).still hk0);have HK0:=hide hk0;clear hk0;generalize(w.alloc (.cells o.cells.toArray 34)).alloc (.cells #[.int .i64 0,.slice none 0 0,.string ⟨#[]⟩] 38)=w0 at *;have HLT:=hide (show ∀i,EFoot e v ps i->i<w.heap.size from(uh HE).lt);generalize hob:w.heap.size=ob at *;have HOB:=hide hob;clear hob;have hsz0:ob+1<w0.heap.size:=(uh HR0).lt;refine(qAg _ _ _ w0).mono ?_;rintro r w1 ⟨rfl,hw1⟩;rw[hw1,hid];clear hw1 w1;have hoi:w0.cell? ⟨ob,1,none⟩=some (.int .i64 o.id):=(uh HO0).cell rfl;go_wp2_with fail
 refine(qD2 e v clock o.id ps w0 (uh HE0) hl).mono ?_;rintro r w1 ⟨rfl,hw1⟩;rw[hw1,uh HF];clear hw1 w1;unfold qI7;go_wp2_with fail
 refine(qGg 2 w0).mono ?_;rintro r w1 ⟨rfl,hk1⟩;unfold qC0;have HR1:=hide ((uh HR0).keeps hk1 (λh=>h));have HK1:=hide ((uh HK0).then hk1);clear hk1;have r0:w1.cell? ⟨ob+1,0,none⟩=some (.int .i64 0):=(uh HR1).cell rfl;have r1:w1.cell? ⟨ob+1,1,none⟩=some (.slice none 0 0):=(uh HR1).cell rfl;have r2:w1.cell? ⟨ob+1,2,none⟩=some (.string qAa):=(uh HR1).cell rfl;have rf:=(uh HR1).frozen;go_wp2
 have hbf:=(((uh HR1).setCell 0 (.int .i64 2)).setCell 1 (.slice none 0 0)).setCell 2 (.string qAa);have HKF:=hide ((((Keeps.refl (λi=>i=ob+1) w1).setCell (p:=⟨ob+1,0,none⟩) (Or.inl rfl) (.int .i64 2)).setCell (p:=⟨ob+1,1,none⟩) (Or.inl rfl) (.slice none 0 0)).setCell (p:=⟨ob+1,2,none⟩) (Or.inl rfl) (.string qAa));have e9:(((w1.setCell ⟨ob+1,0,none⟩ (.int .i64 2)).setCell ⟨ob+1,1,none⟩ (.slice none 0 0)).setCell ⟨ob+1,2,none⟩ (.string ⟨#[]⟩))=(((w1.setCell ⟨ob+1,0,none⟩ (.int .i64 2)).setCell ⟨ob+1,1,none⟩ (.slice none 0 0)).setCell ⟨ob+1,2,none⟩ (.string qAa)):=rfl
 first | rw[e9] | skip
 generalize(((w1.setCell ⟨ob+1,0,none⟩ (.int .i64 2)).setCell ⟨ob+1,1,none⟩ (.slice none 0 0)).setCell ⟨ob+1,2,none⟩ (.string qAa))=w9 at *;have q0:w9.cell? ⟨ob+1,0,none⟩=some (.int .i64 2):=hbf.cell rfl;have q1:w9.cell? ⟨ob+1,1,none⟩=some (.slice none 0 0):=hbf.cell rfl;have q2:w9.cell? ⟨ob+1,2,none⟩=some (.string qAa):=hbf.cell rfl;refine bodyPost_ret (v:=qC0 2 (.slice none 0 0)) (by simp[results,Tryz.results31,go_sem,q0,q1,q2,qC0]) rfl ?_;have hkf:=uh HKF;have hob:=uh HOB;have hkk:Keeps (λ_=>False) w w9:=(uh HK1).trans hkf (λi hi hlt=>by omega);exact qB8 (uh HE) hkk (World.ownsRow_nil _ _ _ _)
theorem qQr(n:Int)(e:Nat)(v:Value)(clock:Int)(ps:List (SB×Ser))(o:OpM)(w:World)(h:ERep w e v clock ps)(hi:EInv n clock (ps.map (·.2)))(hid:inB o.id 0 99=true)(hf:qD9 ps o.id=none)(hv:qA5 o.cfg=false):
  Calls Tryz.prog 31 #[.pointer (some ⟨e,0,none⟩),o.val] w λr w'=>StepPost w e v ps clock (ps.map (·.2)) 3 [] r w':=by
 have h1:o.cells[1]?=some (.int .i64 o.id):=rfl;have HE:=hide h;have HI:=hide hi;have hl:ps.length<=1000:=by have:=hi.six;rw[List.length_map]at this;omega
 have HF:=hide hf;clear h hi hf;unfold OpM.val;go_enter Tryz.func31,Tryz.ntmps31
 go_wp2_with fail
 have hk0:Keeps (λ_=>False) w ((w.alloc (.cells o.cells.toArray 34)).alloc (.cells #[.int .i64 0,.slice none 0 0,.string ⟨#[]⟩] 38)):=((Keeps.refl (λ_=>False) w).alloc _).alloc _;have HO0:=hide (show Blk ((w.alloc (.cells o.cells.toArray 34)).alloc (.cells #[.int .i64 0,.slice none 0 0,.string ⟨#[]⟩] 38)) w.heap.size o.cells 34 from(Blk.new w o.cells 34).alloc _);have HR0:=hide (show Blk ((w.alloc (.cells o.cells.toArray 34)).alloc (.cells #[.int .i64 0,.slice none 0 0,.string ⟨#[]⟩] 38)) (w.heap.size+1) [.int .i64 0,.slice none 0 0,.string qAa] 38 from Blk.newAt (by simp) [_,_,_] 38);have HE0:=hide ((uh HE).still hk0);have HK0:=hide hk0;clear hk0;generalize(w.alloc (.cells o.cells.toArray 34)).alloc (.cells #[.int .i64 0,.slice none 0 0,.string ⟨#[]⟩] 38)=w0 at *;have HLT:=hide (show ∀i,EFoot e v ps i->i<w.heap.size from(uh HE).lt);generalize hob:w.heap.size=ob at *;have HOB:=hide hob;clear hob;have hsz0:ob+1<w0.heap.size:=(uh HR0).lt;refine(qAg _ _ _ w0).mono ?_;rintro r w1 ⟨rfl,hw1⟩;rw[hw1,hid];clear hw1 w1;have hoi:w0.cell? ⟨ob,1,none⟩=some (.int .i64 o.id):=(uh HO0).cell rfl;go_wp2_with fail
 refine(qD2 e v clock o.id ps w0 (uh HE0) hl).mono ?_;rintro r w1 ⟨rfl,hw1⟩;rw[hw1,uh HF];clear hw1 w1;unfold qI7;obtain⟨hv0,hh0⟩:=qBh (uh HO0) 5 20 o.cfg.cells rfl rfl;go_wp2_with fail
 refine(qOu o.cfg w0 hv).mono ?_;rintro r w1 ⟨rfl,hk1⟩;have hka:Keeps (λ_=>False) w0 (w1.alloc (.cells #[.nilFunc,.nilFunc,.nilFunc,.nilFunc,.nilFunc,.nilFunc] 83)):=hk1.alloc _;have HRa:=hide ((uh HR0).keeps hka (λh=>h));have HKa:=hide ((uh HK0).then hka);clear hk1 hka hv0 hh0 hoi;go_wp2_with fail
 refine(qGg 3 (w1.alloc (.cells #[.nilFunc,.nilFunc,.nilFunc,.nilFunc,.nilFunc,.nilFunc] 83))).mono ?_;rintro r w2 ⟨rfl,hk1⟩;unfold qC0;have HR1:=hide ((uh HRa).keeps hk1 (λh=>h));have HK1:=hide ((uh HKa).then hk1);clear hk1;have r0:w2.cell? ⟨ob+1,0,none⟩=some (.int .i64 0):=(uh HR1).cell rfl;have r1:w2.cell? ⟨ob+1,1,none⟩=some (.slice none 0 0):=(uh HR1).cell rfl;have r2:w2.cell? ⟨ob+1,2,none⟩=some (.string qAa):=(uh HR1).cell rfl;have rf:=(uh HR1).frozen;go_wp2
 have hbf:=(((uh HR1).setCell 0 (.int .i64 3)).setCell 1 (.slice none 0 0)).setCell 2 (.string qAa);have HKF:=hide ((((Keeps.refl (λi=>i=ob+1) w2).setCell (p:=⟨ob+1,0,none⟩) (Or.inl rfl) (.int .i64 3)).setCell (p:=⟨ob+1,1,none⟩) (Or.inl rfl) (.slice none 0 0)).setCell (p:=⟨ob+1,2,none⟩) (Or.inl rfl) (.string qAa));have e9:(((w2.setCell ⟨ob+1,0,none⟩ (.int .i64 3)).setCell ⟨ob+1,1,none⟩ (.slice none 0 0)).setCell ⟨ob+1,2,none⟩ (.string ⟨#[]⟩))=(((w2.setCell ⟨ob+1,0,none⟩ (.int .i64 3)).setCell ⟨ob+1,1,none⟩ (.slice none 0 0)).setCell ⟨ob+1,2,none⟩ (.string qAa)):=rfl
 first | rw[e9] | skip
 generalize(((w2.setCell ⟨ob+1,0,none⟩ (.int .i64 3)).setCell ⟨ob+1,1,none⟩ (.slice none 0 0)).setCell ⟨ob+1,2,none⟩ (.string qAa))=w9 at *;have q0:w9.cell? ⟨ob+1,0,none⟩=some (.int .i64 3):=hbf.cell rfl;have q1:w9.cell? ⟨ob+1,1,none⟩=some (.slice none 0 0):=hbf.cell rfl;have q2:w9.cell? ⟨ob+1,2,none⟩=some (.string qAa):=hbf.cell rfl;refine bodyPost_ret (v:=qC0 3 (.slice none 0 0)) (by simp[results,Tryz.results31,go_sem,q0,q1,q2,qC0]) rfl ?_;have hkf:=uh HKF;have hob:=uh HOB;have hkk:Keeps (λ_=>False) w w9:=(uh HK1).trans hkf (λi hi hlt=>by omega);exact qB8 (uh HE) hkk (World.ownsRow_nil _ _ _ _)
theorem qVf(n:Int)(e:Nat)(v:Value)(clock:Int)(ps:List (SB×Ser))(o:OpM)(w:World)(h:ERep w e v clock ps)(hi:EInv n clock (ps.map (·.2)))(hid:inB o.id 0 99=true)(hf:qD9 ps o.id=none)(hv:qA5 o.cfg=true)(h6:ps.length=6):
  Calls Tryz.prog 31 #[.pointer (some ⟨e,0,none⟩),o.val] w λr w'=>StepPost w e v ps clock (ps.map (·.2)) 4 [] r w':=by
 obtain⟨k,hk,hk1,hk5,hcm,hft⟩:=qFh hv;have HKD:=hide hk;clear hk;have h1:o.cells[1]?=some (.int .i64 o.id):=rfl;have HE:=hide h;have HI:=hide hi;have hl:ps.length<=1000:=by have:=hi.six;rw[List.length_map]at this;omega
 have HF:=hide hf;clear h hi hf;unfold OpM.val;go_enter Tryz.func31,Tryz.ntmps31
 go_wp2_with fail
 have hk0:Keeps (λ_=>False) w ((w.alloc (.cells o.cells.toArray 34)).alloc (.cells #[.int .i64 0,.slice none 0 0,.string ⟨#[]⟩] 38)):=((Keeps.refl (λ_=>False) w).alloc _).alloc _;have HO0:=hide (show Blk ((w.alloc (.cells o.cells.toArray 34)).alloc (.cells #[.int .i64 0,.slice none 0 0,.string ⟨#[]⟩] 38)) w.heap.size o.cells 34 from(Blk.new w o.cells 34).alloc _);have HR0:=hide (show Blk ((w.alloc (.cells o.cells.toArray 34)).alloc (.cells #[.int .i64 0,.slice none 0 0,.string ⟨#[]⟩] 38)) (w.heap.size+1) [.int .i64 0,.slice none 0 0,.string qAa] 38 from Blk.newAt (by simp) [_,_,_] 38);have HE0:=hide ((uh HE).still hk0);have HK0:=hide hk0;clear hk0;generalize(w.alloc (.cells o.cells.toArray 34)).alloc (.cells #[.int .i64 0,.slice none 0 0,.string ⟨#[]⟩] 38)=w0 at *;have HLT:=hide (show ∀i,EFoot e v ps i->i<w.heap.size from(uh HE).lt);generalize hob:w.heap.size=ob at *;have HOB:=hide hob;clear hob;have hsz0:ob+1<w0.heap.size:=(uh HR0).lt;refine(qAg _ _ _ w0).mono ?_;rintro r w1 ⟨rfl,hw1⟩;rw[hw1,hid];clear hw1 w1;have hoi:w0.cell? ⟨ob,1,none⟩=some (.int .i64 o.id):=(uh HO0).cell rfl;go_wp2_with fail
 refine(qD2 e v clock o.id ps w0 (uh HE0) hl).mono ?_;rintro r w1 ⟨rfl,hw1⟩;rw[hw1,uh HF];clear hw1 w1;unfold qI7;obtain⟨hv0,hh0⟩:=qBh (uh HO0) 5 20 o.cfg.cells rfl rfl;go_wp2_with fail
 refine(qI1 o.cfg k w0 (uh HKD) hk1 hk5 hcm hft).mono ?_;rintro r w1 ⟨rfl,hw1⟩;unfold qBc fn;have hlv:∃a cap,v=.slice a 6 cap:=by
  rcases(uh HE0).row.2 with ⟨h1,h2⟩ | ⟨g,cap,cur,h1,_⟩
  ·omega
  ·exact⟨some ⟨g,0,none⟩,cap,by rw[h1,h6]⟩
 obtain⟨va,vcap,hvv⟩:=hlv;have hka:Keeps (λ_=>False) w0 (w1.alloc (.cells #[.func (.func (qBw k)) #[] #[],.func (.func (qA7 k)) #[] #[],.func (.func (qA8 k)) #[] #[],.func (.func (qAr k)) #[] #[],.func (.func (qA6 k)) #[] #[],.func (.func (qA9 k)) #[] #[]] 83)):=hw1.alloc _;have HRa:=hide ((uh HR0).keeps hka (λh=>h));have HKa:=hide ((uh HK0).then hka);have hc1:w1.cell? ⟨e,1,none⟩=some (.slice va 6 vcap):=by rw[<-hvv];exact((uh HE0).still hw1).blk.cell rfl
 have hle:e<w1.heap.size:=((uh HE0).still hw1).blk.lt;clear hw1 hka hv0 hh0 hoi hvv;go_wp2_with fail
 generalize w1.alloc (.cells #[.func (.func (qBw k)) #[] #[],.func (.func (qA7 k)) #[] #[],.func (.func (qA8 k)) #[] #[],.func (.func (qAr k)) #[] #[],.func (.func (qA6 k)) #[] #[],.func (.func (qA9 k)) #[] #[]] 83)=wa at *;refine(qGg 4 wa).mono ?_;rintro r w2 ⟨rfl,hk1⟩;unfold qC0;have HR1:=hide ((uh HRa).keeps hk1 (λh=>h));have HK1:=hide ((uh HKa).then hk1);clear hk1;have r0:w2.cell? ⟨ob+1,0,none⟩=some (.int .i64 0):=(uh HR1).cell rfl;have r1:w2.cell? ⟨ob+1,1,none⟩=some (.slice none 0 0):=(uh HR1).cell rfl;have r2:w2.cell? ⟨ob+1,2,none⟩=some (.string qAa):=(uh HR1).cell rfl;have rf:=(uh HR1).frozen;go_wp2
 have hbf:=(((uh HR1).setCell 0 (.int .i64 4)).setCell 1 (.slice none 0 0)).setCell 2 (.string qAa);have HKF:=hide ((((Keeps.refl (λi=>i=ob+1) w2).setCell (p:=⟨ob+1,0,none⟩) (Or.inl rfl) (.int .i64 4)).setCell (p:=⟨ob+1,1,none⟩) (Or.inl rfl) (.slice none 0 0)).setCell (p:=⟨ob+1,2,none⟩) (Or.inl rfl) (.string qAa));have e9:(((w2.setCell ⟨ob+1,0,none⟩ (.int .i64 4)).setCell ⟨ob+1,1,none⟩ (.slice none 0 0)).setCell ⟨ob+1,2,none⟩ (.string ⟨#[]⟩))=(((w2.setCell ⟨ob+1,0,none⟩ (.int .i64 4)).setCell ⟨ob+1,1,none⟩ (.slice none 0 0)).setCell ⟨ob+1,2,none⟩ (.string qAa)):=rfl
 first | rw[e9] | skip
 generalize(((w2.setCell ⟨ob+1,0,none⟩ (.int .i64 4)).setCell ⟨ob+1,1,none⟩ (.slice none 0 0)).setCell ⟨ob+1,2,none⟩ (.string qAa))=w9 at *;have q0:w9.cell? ⟨ob+1,0,none⟩=some (.int .i64 4):=hbf.cell rfl;have q1:w9.cell? ⟨ob+1,1,none⟩=some (.slice none 0 0):=hbf.cell rfl;have q2:w9.cell? ⟨ob+1,2,none⟩=some (.string qAa):=hbf.cell rfl;refine bodyPost_ret (v:=qC0 4 (.slice none 0 0)) (by simp[results,Tryz.results31,go_sem,q0,q1,q2,qC0]) rfl ?_;have hkf:=uh HKF;have hob:=uh HOB;have hkk:Keeps (λ_=>False) w w9:=(uh HK1).trans hkf (λi hi hlt=>by omega);exact qB8 (uh HE) hkk (World.ownsRow_nil _ _ _ _)
end
end Go.Proofs.YtahnliehdjncdabGreatDoor
