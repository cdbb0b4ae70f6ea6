import Derived.Test.YtahnliehdjncdabGreatDoorXBB
import Derived.Test.YtahnliehdjncdabGreatDoorXBF
import Derived.Test.YtahnliehdjncdabGreatDoorXBO
import Derived.Test.YtahnliehdjncdabGreatDoorXBL
import Derived.Test.YtahnliehdjncdabGreatDoorXAQ
import Derived.Test.YtahnliehdjncdabGreatDoorXBJ
import Derived.Test.YtahnliehdjncdabGreatDoorXAY
set_option maxRecDepth 100000
set_option maxHeartbeats 16000000
namespace Go.Proofs.YtahnliehdjncdabGreatDoor
section
open Go.RowKit
structure SZ (clock:Int) (x:Ser):Prop where
 ref5:∀j,j<5->qAx x.ref j=0
 due:∀y,y∈x.l->clock-x.c.lag<y.t/\y.t<=clock+x.c.skew
 num:∀y,y∈x.l->1<=y.n/\y.n<=x.acc
 tkn:∀z,z∈x.nt.tk->1<=z.n/\z.n<=x.acc
 nod:(x.l.map (·.n)++x.nt.tk.map (·.n)).Nodup
 most:x.rel<=qEg x.c clock
 mark:0<x.rel->x.last<=clock-x.c.lag
 note:NZ x.k x.c x.rel x.last x.nt
theorem zDe{c:Cfg}(clock:Int)(hc:1<=c.cap): 0<=qEg c clock:=by
 have h0:∀t:Int,0<=t->0<=(if 4611686018427387904/c.cap<t then 4611686018427387904 else c.cap*t):=λt ht=>by
  split
  ·omega
  ·exact Int.mul_nonneg (by omega) ht
 unfold qEg;refine h0 _ ?_
 split <;> omega
theorem zC2{c:Cfg}{clock nc rel r':Int}(hc1:1<=c.cap)(c0:0<=clock)(h:rel<=qEg c clock)(hcn:clock<=nc)(hr:r'=rel\/(r'<=rel+c.cap/\clock<nc/\c.lag<=nc))(hm:r'<=4611686018427387904): r'<=qEg c nc:=by
 have key:∀cl:Int,qEg c cl=(if 4611686018427387904/c.cap<(if 0<(if cl-c.lag+1<cl then cl-c.lag+1 else cl) then(if cl-c.lag+1<cl then cl-c.lag+1 else cl) else 0) then 4611686018427387904 else c.cap*(if 0<(if cl-c.lag+1<cl then cl-c.lag+1 else cl) then(if cl-c.lag+1<cl then cl-c.lag+1 else cl) else 0)):=λ_=>rfl
 rw[key]at h ⊢;obtain⟨a,ha,ha0⟩:∃a:Int,(if 0<(if clock-c.lag+1<clock then clock-c.lag+1 else clock) then(if clock-c.lag+1<clock then clock-c.lag+1 else clock) else 0)=a/\0<=a:=⟨_,rfl,by split <;> omega⟩;obtain⟨b,hb,hab,hab2⟩:∃b:Int,(if 0<(if nc-c.lag+1<nc then nc-c.lag+1 else nc) then(if nc-c.lag+1<nc then nc-c.lag+1 else nc) else 0)=b/\a<=b/\(clock<nc/\c.lag<=nc->a+1<=b):=by
  refine⟨_,rfl,?_,?_⟩ <;> rw[<-ha] <;> (repeat' split) <;> omega
 rw[ha]at h;rw[hb]
 split
 ·exact hm
 ·rename_i h1
  split at h
  ·rename_i h2;omega
  ·have m1:=Int.mul_le_mul_of_nonneg_left hab (show 0<=c.cap by omega)
   rcases hr with e | ⟨e1,e2,e3⟩
   ·omega
   ·have m2:=Int.mul_le_mul_of_nonneg_left (hab2 ⟨e2,e3⟩) (show 0<=c.cap by omega)
    rw[Int.mul_add,Int.mul_one]at m2;omega
theorem SZ.new{clock id:Int}{c:Cfg}(hv:qA5 c=true): SZ clock (qCe id c c.kind.toNat):=by
 obtain⟨k,hk,h1,h5,hc,_⟩:=qFh hv;have hkn:c.kind.toNat=k:=by omega
 simp only[qDm,inB,Bool.and_eq_true,decide_eq_true_eq]at hc;refine⟨λj hj=>?_,λy hy=>(by cases hy),λy hy=>(by cases hy),λz hz=>(by cases hz),List.Pairwise.nil,zDe clock (by show 1<=c.cap;omega),λh=>absurd h (Int.lt_irrefl 0),?_⟩
 ·have:j=0\/j=1\/j=2\/j=3\/j=4:=by omega
  rcases this with e | e | e | e | e <;> subst e <;> rfl
 ·rw[hkn]
  exact NZ.zero k c (λe=>(qC4 hv hk e).1)
theorem zAd(l:List Int)(i j:Nat)(v:Int)(h:j≠i): qAx (l.set i v) j=qAx l j:=by
 unfold qAx;rw[List.getD_eq_getElem?_getD,List.getD_eq_getElem?_getD,List.getElem?_set_ne (Ne.symm h)]
theorem SZ.ref{clock:Int}{x:Ser}(h:SZ clock x)(code:Nat)(hc:5<=code): SZ clock (qVe x code) :=
 ⟨λj hj=>by show qAx (x.ref.set code _) j=0;rw[zAd _ _ _ _ (by omega)];exact h.ref5 j hj,h.due,h.num,h.tkn,h.nod,h.most,h.mark,h.note⟩
theorem SZ.acc{n clock:Int}{x:Ser}(h:SZ clock x)(hi:SInv n x)(y:It)(hr:qIw x clock y=0): SZ clock (qTc x y):=by
 obtain⟨t0,t1,hc,hl,hs,hk,_⟩:=qJo hr;have hp:=(put_heap x.l (numbered y (x.acc+1)) hi.heap).2;have hmem:∀z,z∈(qTc x y).l->z=numbered y (x.acc+1)\/z∈x.l:=λz hz=>List.mem_cons.1 (hp.subset hz)
 have ha0:=hi.acc0;refine⟨h.ref5,λz hz=>?_,λz hz=>?_,λz hz=>?_,?_,h.most,h.mark,h.note⟩
 ·rcases hmem z hz with e | e
  ·subst e;exact⟨hl,hs⟩
  ·exact h.due z e
 ·show 1<=z.n/\z.n<=x.acc+1
  rcases hmem z hz with e | e
  ·subst e;show 1<=x.acc+1/\x.acc+1<=x.acc+1;omega
  ·have:=h.num z e;omega
 ·have:=h.tkn z hz;show 1<=z.n/\z.n<=x.acc+1;omega
 ·have h1:((qTc x y).l.map (·.n)++x.nt.tk.map (·.n)).Perm ((x.acc+1)::(x.l.map (·.n)++x.nt.tk.map (·.n))):=List.Perm.append_right _ (hp.map (·.n))
  refine h1.nodup_iff.2 (List.nodup_cons.2 ⟨λhm=>?_,h.nod⟩);rcases List.mem_append.1 hm with hm | hm
  ·obtain⟨z,hz,e⟩:=List.mem_map.1 hm;have:=h.num z hz;omega
  ·obtain⟨z,hz,e⟩:=List.mem_map.1 hm;have:=h.tkn z hz;omega
theorem SZ.swp{n clock:Int}{x:Ser}(h:SZ clock x)(hi:SInv n x)(b:Int): SZ clock (zCn clock b x):=by
 have ht:(qP8 x.k x.c x.nt (clock-x.c.lag) b).1.tk=x.nt.tk:=by unfold qP8;split <;> rfl
 refine⟨h.ref5,h.due,h.num,λz hz=>?_,?_,h.most,h.mark,h.note.swp hi.valid hi.kind _ _⟩
 ·exact h.tkn z (by rw[<-ht];exact hz)
 ·show(x.l.map (·.n)++(qP8 x.k x.c x.nt (clock-x.c.lag) b).1.tk.map (·.n)).Nodup
  rw[ht];exact h.nod
structure SY (m:Int) (x:Ser):Prop where
 ref5:∀j,j<5->qAx x.ref j=0
 num:∀y,y∈x.l->1<=y.n/\y.n<=x.acc
 tkn:∀z,z∈x.nt.tk->1<=z.n/\z.n<=x.acc
 nod:(x.l.map (·.n)++x.nt.tk.map (·.n)).Nodup
 mark:0<x.rel->x.last<=m
 note:NZ x.k x.c x.rel x.last x.nt
theorem zFl(k:Nat)(c:Cfg)(nt:Note)(y:It)(m:Int)(h5:k≠5): (qWf k c nt y m).tk=nt.tk:=by
 unfold qWf
 split
 ·rfl
 ·split
  ·rfl
  ·split
   ·rfl
   ·split
    ·rfl
    ·first | rfl | rw[if_neg h5]
theorem SY.one{n m:Int}{x:Ser}(h:SY m x)(hi:SInv n x)(hl:x.l≠[])(hm:¬m<(itAt x.l 0).t): SY m (qFu x m):=by
 have hp:=(take_heap x.l hi.heap hl).2;have h0:=qGl hl;have hE:=hi.fits _ h0;have hN:=h.note.rel hi.note hi.valid hi.kind (itAt x.l 0) m (hi.times _ h0).1 (hi.lastl _ h0) hE;have hpn:((itAt x.l 0).n::((takeL x.l).map (·.n)++x.nt.tk.map (·.n))).Perm (x.l.map (·.n)++x.nt.tk.map (·.n)):=List.Perm.append_right _ (hp.map (·.n));have hnd:=hpn.nodup_iff.2 h.nod;refine⟨h.ref5,λy hy=>h.num y (hp.subset (List.mem_cons_of_mem _ hy)),λz hz=>?_,?_,λ_=>by show(itAt x.l 0).t<=m;omega,hN⟩
 ·show 1<=z.n/\z.n<=x.acc
  have hz':z∈(qWf x.k x.c x.nt (itAt x.l 0) m).tk:=hz
  by_cases e:x.k=5
  ·have e2:(qWf x.k x.c x.nt (itAt x.l 0) m).tk=qG1 x.c x.nt.tk (itAt x.l 0):=by rw[e];rfl
   rw[e2]at hz';obtain⟨_,D,g2,_⟩:=qJi x.c (itAt x.l 0) (h.note.drw e).1 (qLo (by rw[e]at hE;exact hE));rcases List.mem_cons.1 (g2.subset (List.mem_append_right _ hz')) with e3 | e3
   ·subst e3;exact h.num _ h0
   ·exact h.tkn z e3
  ·rw[zFl _ _ _ _ _ e]at hz'
   exact h.tkn z hz'
 ·show((takeL x.l).map (·.n)++(qWf x.k x.c x.nt (itAt x.l 0) m).tk.map (·.n)).Nodup
  by_cases e:x.k=5
  ·have e2:(qWf x.k x.c x.nt (itAt x.l 0) m).tk=qG1 x.c x.nt.tk (itAt x.l 0):=by rw[e];rfl
   rw[e2];obtain⟨_,D,g2,_⟩:=qJi x.c (itAt x.l 0) (h.note.drw e).1 (qLo (by rw[e]at hE;exact hE));have h3:((takeL x.l).map (·.n)++(D.map (·.n)++(qG1 x.c x.nt.tk (itAt x.l 0)).map (·.n))).Perm ((itAt x.l 0).n::((takeL x.l).map (·.n)++x.nt.tk.map (·.n))):=by
    have h4:=g2.map (·.n);rw[List.map_append,List.map_cons]at h4;refine(List.Perm.append_left _ h4).trans ?_;exact List.perm_middle
   have h5:=h3.nodup_iff.2 hnd;refine h5.sublist ?_;exact List.Sublist.append_left (List.sublist_append_right _ _) _
  ·rw[zFl _ _ _ _ _ e]
   exact(List.nodup_cons.1 hnd).2
theorem zGf{n m:Int}(f:Nat): ∀ {x:Ser},SY m x->SInv n x->SY m (qGz f x m):=by
 induction f with
 | zero=>intro x h _;exact h
 | succ f ih =>
  intro x h hi;unfold qGz
  split
  ·exact h
  ·rename_i he
   have hl:x.l≠[]:=λe=>he (by rw[e];rfl)
   split
   ·exact h
   ·rename_i hm
    exact ih (h.one hi hl hm) (qHz hi hl m hm)
theorem zDs{m:Int}(f:Nat): ∀ {x:Ser},x.l.length<f->HeapL x.l->∀y,y∈(qGz f x m).l->m<y.t/\y∈x.l:=by
 induction f with
 | zero=>intro x h;omega
 | succ f ih =>
  intro x hf hh y hy;unfold qGz at hy
  split at hy
  ·rename_i he
   rw[List.isEmpty_iff.1 he]at hy;cases hy
  ·rename_i he
   have hl:x.l≠[]:=λe=>he (by rw[e];rfl)
   split at hy
   ·rename_i hm
    have:=hh.first_mem hy;exact⟨by omega,hy⟩
   ·have ht:=take_heap x.l hh hl
    have:=ih (x:=qFu x m) (by have:=List.length_pos_iff.2 hl;show(takeL x.l).length<f;rw[takeL_length];omega) ht.1 y hy;exact⟨this.1,ht.2.subset (List.mem_cons_of_mem _ this.2)⟩
theorem zA2(f:Nat)(x:Ser)(m:Int): (qGz f x m).rel=x.rel\/∃y,y∈x.l/\y.t<=m:=by
 cases f with
 | zero=>exact .inl rfl
 | succ f =>
  unfold qGz
  split
  ·exact .inl rfl
  ·rename_i he
   have hl:x.l≠[]:=λe=>he (by rw[e];rfl)
   split
   ·exact .inl rfl
   ·exact .inr ⟨_,qGl hl,by omega⟩
theorem qZ7(f:Nat): ∀(x:Ser) (m:Int),(qGz f x m).acc=x.acc/\(qGz f x m).ref=x.ref:=by
 induction f with
 | zero=>intro x m;exact⟨rfl,rfl⟩
 | succ f ih =>
  intro x m;unfold qGz
  split
  ·exact⟨rfl,rfl⟩
  ·split
   ·exact⟨rfl,rfl⟩
   ·exact ih (qFu x m) m
theorem SZ.tick{n clock nc:Int}{x:Ser}(h:SZ clock x)(hi:SInv n x)(hcn:clock<=nc)(c0:0<=clock)(hn:n<=4611686018427387904): SZ nc (qDb nc x):=by
 have hk:=qW4 (x.l.length+1) x (nc-x.c.lag);have hy:=zGf (x.l.length+1) (x:=x) (m:=nc-x.c.lag) ⟨h.ref5,h.num,h.tkn,h.nod,λhr=>by have:=h.mark hr;omega,h.note⟩ hi;have hd:=zDs (m:=nc-x.c.lag) (x.l.length+1) (x:=x) (by omega) hi.heap;have hi':=qLq (x.l.length+1) hi (nc-x.c.lag);have ha:=(qZ7 (x.l.length+1) x (nc-x.c.lag)).1;have hcm:=hi.common;refine⟨hy.ref5,λy hm=>?_,hy.num,hy.tkn,hy.nod,?_,?_,hy.note⟩
 ·have h1:=hd y hm
  have h2:=h.due y h1.2;show nc-(qGz _ x _).c.lag<y.t/\y.t<=nc+(qGz _ x _).c.skew;rw[hk.2.1];exact⟨h1.1,by omega⟩
 ·show(qGz _ x _).rel<=qEg (qGz _ x _).c nc
  rw[hk.2.1];have h1:=hi'.rela;have h2:=hi.rela;have h3:=hi.cap;have h4:=hi'.accn;rw[ha]at h1 h4;refine zC2 (by omega) c0 h.most hcn ?_ (by omega);rcases zA2 (x.l.length+1) x (nc-x.c.lag) with e | ⟨y,hym,hyt⟩
  ·exact .inl e
  ·have h5:=h.due y hym
   have h6:=hi.times y hym;exact .inr ⟨by omega,by omega,by omega⟩
 ·show 0<(qGz _ x _).rel->(qGz _ x _).last<=nc-(qGz _ x _).c.lag
  rw[hk.2.1];exact hy.mark
def EZ(s:WS): Prop:=∀x,x∈s.xs->SZ s.clock x
theorem zC5{n:Int}{s:WS}(o:OpM)(h:EZ s)(hi:EInv n s.clock s.xs)(hn:n<=4611686018427387904)(h7:o.kind≠7): EZ (qCk s o).1:=by
 unfold qCk
 split
 ·unfold qDj
  split
  ·split
   ·split
    ·rename_i h2 _
     intro x hx;rcases List.mem_append.1 hx with hx | hx
     ·exact h x hx
     ·rw[List.mem_singleton]at hx;subst hx;exact SZ.new h2
    ·exact h
   ·exact h
  ·exact h
 ·split
  ·unfold qTg
   split
   ·exact h
   ·rename_i x hf
    have hx:x∈s.xs:=List.mem_of_find?_eq_some hf
    split
    ·rename_i hr
     intro z hz;rcases qFr hz with hz | hz
     ·exact h z hz
     ·subst hz;exact(h x hx).acc (hi.sers x hx) o.item hr
    ·rename_i hr
     intro z hz;rcases qFr hz with hz | hz
     ·exact h z hz
     ·subst hz
      refine(h x hx).ref _ ?_;have:qIw x s.clock o.item=0\/5<=qIw x s.clock o.item:=by
       unfold qIw
       (repeat' split) <;> first | omega | skip
       rename_i hk _;unfold qCy qY6 qFb qJg
       (repeat' split) <;> omega
      omega
  ·split
   ·unfold qJn
    split
    ·rename_i ha
     obtain⟨a0,a1⟩:=qCq ha;have hmx:s.clock<=qIf s.clock o.a:=by unfold qIf;split <;> omega
     split
     ·have key:=qH8 (P:=λz=>SZ (qIf s.clock o.a) z/\SInv n z) (qIf s.clock o.a) (λb x hx=>⟨hx.1.swp hx.2 b,qQa _ b hx.2⟩) o.b (s.xs.map (qDb (qIf s.clock o.a))) (λz hz=>by
         obtain⟨x,hx,rfl⟩:=List.mem_map.1 hz
         exact⟨(h x hx).tick (hi.sers x hx) hmx hi.c0 hn,qLq _ (hi.sers x hx) _⟩)
      exact λz hz=>(key z hz).1
     ·exact h
    ·exact h
   ·split
    ·unfold qHh
     split <;> exact h
    ·split
     ·unfold qHk
      split <;> exact h
     ·split
      ·exact h
      ·exact h
structure Sim (clock:Int) (x y:Ser):Prop where
 id:y.id=x.id
 k:y.k=x.k
 c:qDd x.k y.c=qDd x.k x.c
 acc:y.acc=x.acc
 rel:y.rel=x.rel
 ref:y.ref=x.ref
 last:y.last=x.last
 buf:(x.l.map (itK x.k)).Perm (y.l.map (itK x.k))
 note:NSim x.k (qDd x.k x.c) (clock-x.c.lag) x.nt y.nt
theorem Sim.head{n clock:Int}{x y:Ser}(h:Sim clock x y)(hi:SInv n x): y.c.lag=x.c.lag/\y.c.skew=x.c.skew/\y.c.cap=x.c.cap:=by
 have a:=qJl x.k x.c hi.k1 hi.k5;have b:=qJl x.k y.c hi.k1 hi.k5;rw[h.c]at b;exact⟨by rw[<-b.2.1,a.2.1],by rw[<-b.2.2.1,a.2.2.1],by rw[<-b.2.2.2,a.2.2.2]⟩
theorem Sim.len{clock:Int}{x y:Ser}(h:Sim clock x y): y.l.length=x.l.length:=by
 have:=h.buf.length_eq;rw[List.length_map,List.length_map]at this;exact this.symm
structure Both (k:Nat) (ck:Cfg) (rel last:Int) (a b:Note):Prop where
 ia:NInv k ck rel last a
 ib:NInv k ck rel last b
 za:NZ k ck rel last a
 zb:NZ k ck rel last b
 v:qA5 ck=true
 kd:ck.kind=k
theorem Sim.both{n1 n2 clock:Int}{x y:Ser}(h:Sim clock x y)(hi:SInv n1 x)(hj:SInv n2 y)(zx:NZ x.k x.c x.rel x.last x.nt)(zy:NZ y.k y.c y.rel y.last y.nt): Both x.k (qDd x.k x.c) x.rel x.last x.nt y.nt:=by
 have a:=hj.note.K;have b:=zy.K;rw[h.k,h.c,h.rel,h.last]at a b;exact⟨hi.note.K,a,zx.K,b,qUf x.k x.c hi.k1 hi.k5 hi.valid hi.kind,by rw[(qJl x.k x.c hi.k1 hi.k5).1];exact hi.kind⟩
theorem Sim.nums{n1 n2 clock:Int}{x y:Ser}(h:Sim clock x y)(hi:SInv n1 x)(hj:SInv n2 y)(zx:SZ clock x)(zy:SZ clock y): qC2 clock y=qC2 clock x:=by
 have hh:=h.head hi;have hb:=h.both hi hj zx.note zy.note;have e1:qBt y.k y.c=qBt x.k x.c:=by
  rw[h.k,<-zFn x.k x.c hi.k1 hi.k5 hi.valid hi.kind,<-h.c,zFn x.k y.c hi.k1 hi.k5 hj.valid (by rw[hj.kind,h.k])]
 have e2:qG4 y.k y.c y.nt (clock-y.c.lag)=qG4 x.k x.c x.nt (clock-x.c.lag):=by
  rw[hh.1,h.k,<-zIw x.k x.c x.nt _ hi.k1 hi.k5,<-zIw x.k y.c y.nt _ hi.k1 hi.k5,h.c];exact(h.note.sav hi.k1 hi.k5 hb.za hb.zb (List.nodup_append.1 zx.nod).2.1).symm
 have e3:qG2 y.k (Qi.allL (y.l.length+1) y.l)=qG2 x.k (Qi.allL (x.l.length+1) x.l):=by
  rw[h.k,h.len,<-zFj x.k _ hi.k1 hi.k5,<-zEy (x.l.length+1) hi.heap hj.heap (List.nodup_append.1 zx.nod).1 h.buf,zFj x.k _ hi.k1 hi.k5]
 unfold qC2 qIv;rw[e1,e2,e3,h.id,h.ref,h.rel,h.len]
def zFt(k:Nat)(c:Cfg)(m:Int)(nt:Note): Note :=
 if k=1 then { qC9 with bs:=nt.bs }
 else if k=2 then { qC9 with rg:=λj=>qD3 c m (nt.rg j) }
 else if k=3 then { qC9 with op:=(qUd (qBb c nt.op nt.cl (m-c.window))).1,cl:=(qUd (qBb c nt.op nt.cl (m-c.window))).2 }
 else if k=4 then { qC9 with q:=nt.q,r:=nt.r }
 else { qC9 with tk:=((Dr.allL (nt.tk.length+1) nt.tk).map unT).foldl (qG1 c) [] }
def zEe(clock:Int)(x:Ser): Ser:=⟨x.id,qDd x.k x.c,x.k,x.rel+(x.l.length:Int),x.rel,qIe x.ref 7,qI5 x.k (Qi.allL (x.l.length+1) x.l),zFt x.k (qDd x.k x.c) (clock-x.c.lag) x.nt,x.last⟩
theorem foldT(c:Cfg): ∀(ys:List It) (l:List Dr.It),Dr.HeapT l->(∀y,y∈ys->Dr.dpos (tick c y))->(l.length:Int)+ys.length<=c.size+1->Dr.HeapT (ys.foldl (qG1 c) l)/\(ys.foldl (qG1 c) l).Perm (ys.map (tick c)++l):=by
 intro ys
 induction ys with
 | nil=>intro l h _ _;exact⟨h,List.Perm.refl _⟩
 | cons y ys ih =>
  intro l h hd hl;rw[List.length_cons]at hl;obtain⟨g1,D,g2,g3⟩:=qJi c y h (hd y (by simp));rw[if_neg (by omega)]at g3;have hD:D=[]:=List.length_eq_zero_iff.1 (by omega);subst hD;have hlen:=g2.length_eq;rw[List.nil_append,List.length_cons]at hlen;obtain⟨i1,i2⟩:=ih (qG1 c l y) g1 (λz hz=>hd z (by simp[hz])) (by omega);refine⟨i1,i2.trans ?_⟩;refine(List.Perm.append_left _ g2).trans ?_;rw[List.map_cons,List.cons_append];exact List.perm_middle
theorem qWo{c:Cfg}{rel last:Int}{nt:Note}(h:NZ 5 c rel last nt):
  Dr.HeapT (((Dr.allL (nt.tk.length+1) nt.tk).map unT).foldl (qG1 c) [])/\(((Dr.allL (nt.tk.length+1) nt.tk).map unT).foldl (qG1 c) []).Perm nt.tk:=by
 obtain⟨h1,h2,h3⟩:=h.drw rfl;have hp:=(Dr.allL_spec (nt.tk.length+1) nt.tk (by omega) h1).1
 have:=foldT c ((Dr.allL (nt.tk.length+1) nt.tk).map unT) [] ⟨λj hj=>by simp at hj,λi _ hi=>by simp at hi⟩ (λy hy=>by
    obtain⟨z,hz,rfl⟩:=List.mem_map.1 hy;exact qLo (h3 z (hp.subset hz)).2.1) (by
    rw[List.length_map,hp.length_eq];show((0:Nat):Int)+_<=_
    split at h2 <;> omega)
 refine⟨this.1,this.2.trans ?_⟩;rw[List.append_nil,List.map_map];have e:(Dr.allL (nt.tk.length+1) nt.tk).map (tick c ∘ unT)=Dr.allL (nt.tk.length+1) nt.tk:=by
  conv=>rhs;rw[<-List.map_id (Dr.allL (nt.tk.length+1) nt.tk)]
  exact List.map_congr_left (λz hz=>(h3 z (hp.subset hz)).1.symm)
 rw[e];exact hp
theorem zGx{k:Nat}{c:Cfg}{rel last:Int}{nt:Note}(m:Int)(hi:NInv k c rel last nt)(hz:NZ k c rel last nt)(k1:1<=k)(k5:k<=5)(hv:qA5 c=true)(hk:c.kind=k)(hl:0<=last):
  NInv k c rel last (zFt k c m nt)/\NZ k c rel last (zFt k c m nt)/\NSim k c m nt (zFt k c m nt):=by
 have hr:=hi.rel0;rcases five k1 k5 with e | e | e | e | e <;> subst e
 ·refine⟨⟨Int.le_refl _,hr,Int.le_refl _,(show(0:Int)<2305843009213693952 by decide),hi.one,hi.sum,λi b hb=>(by cases hb),λi=>hr,λe=>by omega,λe=>by omega,λ_=>hi.lw rfl,λe=>absurd rfl e,λ_=>List.Pairwise.nil⟩,⟨λe=>by omega,λ_=>hz.cnt rfl,λe=>by omega,λe=>by omega,λe=>by omega⟩,⟨λe=>by omega,λ_=>rfl,λe=>by omega,λe=>by omega,λe=>by omega⟩⟩
 ·obtain⟨z1,z2,z3⟩:=hz.dis rfl
  have hmem:∀i b,b∈qD3 c m (nt.rg i)->b∈nt.rg i:=λi b hb=>List.mem_of_mem_drop hb
  have hlen:∀i,(qD3 c m (nt.rg i)).length<=(nt.rg i).length:=λi=>by unfold qD3;rw[List.length_drop];omega
  refine⟨⟨Int.le_refl _,hr,Int.le_refl _,(show(0:Int)<2305843009213693952 by decide),λb hb=>(by cases hb),hr,λi b hb=>hi.rk i b (hmem i b hb),λi=>by have:=hi.rl i;have:=hlen i;show((qD3 c m (nt.rg i)).length:Int)<=rel;omega,λe=>by omega,λe=>by omega,λe=>by omega,λ_=>rfl,λi=>(hi.rf i).drop _⟩,⟨λe=>by omega,λe=>by omega,λ_=>⟨λj=>(z1 j).drop _,λj b hb=>z2 j b (hmem j b hb),?_⟩,λe=>by omega,λe=>by omega⟩,⟨λe=>by omega,λe=>by omega,λ_ j _=>?_,λe=>by omega,λe=>by omega⟩⟩
  ·have:=qSl (a:=λj=>qD3 c m (nt.rg j)) (b:=nt.rg) hlen (qFx c) 0
   show((qQ3 (λj=>qD3 c m (nt.rg j)) (qFx c) 0:Nat):Int)<=rel;omega
  ·show qD3 c m (nt.rg j)=qD3 c m (qD3 c m (nt.rg j))
   rw[qW1 c m (qD3 c m (nt.rg j)),qW1,zIq (λ_ h=>h)]
 ·have hL:=(qBr hv hk rfl).2.2.1
  have hp1:=(qBr hv hk rfl).1.p0;have h1:=zCz (t:=m-c.window) (hz.oft rfl) (hi.oi rfl) (by omega) hl hp1;obtain⟨f1,f2,_⟩:=qI2 (t:=m-c.window) (hz.oft rfl) (hi.oi rfl) (by omega);refine⟨⟨Int.le_refl _,hr,Int.le_refl _,(show(0:Int)<2305843009213693952 by decide),λb hb=>(by cases hb),hr,λi b hb=>(by cases hb),λi=>hr,λ_=>h1.1,λe=>by omega,λe=>by omega,λ_=>rfl,λ_=>List.Pairwise.nil⟩,⟨λe=>by omega,λe=>by omega,λe=>by omega,λ_=>h1.2,λe=>by omega⟩,⟨λe=>by omega,λe=>by omega,λe=>by omega,λ_=>?_,λe=>by omega⟩⟩;exact(qW8 _ f1 (λq hq=>(f2 q hq).1) (λq hq=>(f2 q hq).2.1)).symm
 ·refine⟨⟨hi.q0,hi.qn,hi.r0,hi.r1,λb hb=>(by cases hb),hr,λi b hb=>(by cases hb),λi=>hr,λe=>by omega,λe=>by omega,λe=>by omega,λ_=>rfl,λ_=>List.Pairwise.nil⟩,⟨λ_=>hz.dec rfl,λe=>by omega,λe=>by omega,λe=>by omega,λe=>by omega⟩,⟨λ_=>⟨rfl,rfl⟩,λe=>by omega,λe=>by omega,λe=>by omega,λe=>by omega⟩⟩
 ·obtain⟨g1,g2⟩:=qWo hz
  obtain⟨z1,z2,z3⟩:=hz.drw rfl;refine⟨⟨Int.le_refl _,hr,Int.le_refl _,(show(0:Int)<2305843009213693952 by decide),λb hb=>(by cases hb),hr,λi b hb=>(by cases hb),λi=>hr,λe=>by omega,λ_=>?_,λe=>by omega,λ_=>rfl,λ_=>List.Pairwise.nil⟩,⟨λe=>by omega,λe=>by omega,λe=>by omega,λe=>by omega,λ_=>⟨g1,?_,λz hz=>z3 z (g2.subset hz)⟩⟩,⟨λe=>by omega,λe=>by omega,λe=>by omega,λe=>by omega,λ_=>g2.symm⟩⟩
  ·show((((Dr.allL (nt.tk.length+1) nt.tk).map unT).foldl (qG1 c) []).length:Int)<=_
   rw[g2.length_eq];exact hi.tl rfl
  ·show((((Dr.allL (nt.tk.length+1) nt.tk).map unT).foldl (qG1 c) []).length:Int)=_
   rw[g2.length_eq];exact z2
theorem zI3{k:Nat}{c:Cfg}{rel last:Int}{nt:Note}(m:Int)(h:NX k nt)(hz:NZ k c rel last nt)(k1:1<=k)(k5:k<=5): NX k (zFt k c m nt):=by
 rcases five k1 k5 with e | e | e | e | e <;> subst e
 ·exact⟨h.bt,λi b hb=>(by cases hb),λi=>List.Pairwise.nil,λe=>by omega⟩
 ·exact⟨λb hb=>(by cases hb),λi b hb=>h.rt i b (List.mem_of_mem_drop hb),λi=>(h.rf i).drop _,λe=>by omega⟩
 ·exact⟨λb hb=>(by cases hb),λi b hb=>(by cases hb),λi=>List.Pairwise.nil,λe=>by omega⟩
 ·exact⟨λb hb=>(by cases hb),λi b hb=>(by cases hb),λi=>List.Pairwise.nil,λe=>by omega⟩
 ·exact⟨λb hb=>(by cases hb),λi b hb=>(by cases hb),λi=>List.Pairwise.nil,λ_ z hzm=>h.tt rfl z ((qWo hz).2.subset hzm)⟩
theorem qY1{l:List Int}(hl:l.length=12)(h:∀j,j<5->qAx l j=0): qIe l 7=l:=by
 match l,hl with
 | [a0,a1,a2,a3,a4,a5,a6,a7,a8,a9,a10,a11],_ =>
  have e0:a0=0:=h 0 (by omega);have e1:a1=0:=h 1 (by omega);have e2:a2=0:=h 2 (by omega);have e3:a3=0:=h 3 (by omega);have e4:a4=0:=h 4 (by omega);subst e0;subst e1;subst e2;subst e3;subst e4;rfl
theorem zG1{x:Ser}(hh:HeapL x.l): (qI5 x.k (Qi.allL (x.l.length+1) x.l)).Perm (x.l.map (itK x.k)):=(qMs x.k _).2.trans ((qG6 _ x.l (by omega) hh).map _)
theorem zBz{k:Nat}{c:Cfg}{m:Int}{nt:Note}(k1:1<=k)(k5:k<=5)(h5:k≠5): (zFt k c m nt).tk=[]:=by
 rcases five k1 k5 with e | e | e | e | e <;> subst e
 ·rfl
 ·rfl
 ·rfl
 ·rfl
 ·exact absurd rfl h5
theorem zDw{n clock:Int}{x:Ser}(hi:SInv n x)(hx:SX x)(hz:SZ clock x): SInv n (zEe clock x)/\SX (zEe clock x)/\SZ clock (zEe clock x)/\Sim clock x (zEe clock x):=by
 have hb:=zG1 hi.heap;have hh:=qJl x.k x.c hi.k1 hi.k5;have hv:=qUf x.k x.c hi.k1 hi.k5 hi.valid hi.kind;have hkk:(qDd x.k x.c).kind=x.k:=by rw[hh.1];exact hi.kind
 obtain⟨c1,c2,c3⟩:=zGx (clock-x.c.lag) hi.note.K hz.note.K hi.k1 hi.k5 hv hkk hi.last0;have hnx:=zI3 (c:=qDd x.k x.c) (clock-x.c.lag) hx.note hz.note.K hi.k1 hi.k5;have href:qIe x.ref 7=x.ref:=qY1 hi.reflen hz.ref5;have hlen:(qI5 x.k (Qi.allL (x.l.length+1) x.l)).length=x.l.length:=by rw[hb.length_eq,List.length_map]
 have hacc:x.rel+(x.l.length:Int)=x.acc:=hi.rela;have hmem:∀y,y∈(zEe clock x).l->∃z,z∈x.l/\itK x.k z=y:=λy hy=>List.mem_map.1 (hb.subset hy)
 have hnum:((zEe clock x).l.map (·.n)).Perm (x.l.map (·.n)):=by
  have:=hb.map (·.n);rw[List.map_map]at this;have e:x.l.map ((·.n) ∘ itK x.k)=x.l.map (·.n):=List.map_congr_left (λy _=>qIr x.k y);rw[e]at this;exact this
 have htk:(x.nt.tk.map (·.n)).Perm ((zEe clock x).nt.tk.map (·.n))\/(zEe clock x).nt.tk=[]:=by
  by_cases e:x.k=5
  ·exact .inl ((c3.drw e).map _)
  ·exact .inr (zBz hi.k1 hi.k5 e)
 refine⟨⟨hv,hkk,hi.k1,hi.k5,?_,?_,hi.rel0,?_,qSw _ _,?_,?_,?_,c1,(qMs x.k _).1,hi.last0,hi.lastn,?_,?_⟩,⟨hx.id0,?_,?_,?_,hnx⟩,⟨?_,?_,?_,?_,?_,?_,?_,c2⟩,⟨rfl,rfl,zI9 x.k x.c hi.k1 hi.k5,hacc,rfl,href,rfl,?_,c3⟩⟩
 ·show 0<=x.rel+_;rw[hacc];exact hi.acc0
 ·show x.rel+_<=n;rw[hacc];exact hi.accn
 ·show x.rel+((qI5 x.k (Qi.allL (x.l.length+1) x.l)).length:Int)=x.rel+_;rw[hlen]
 ·show ∀v,v∈qIe x.ref 7->_;rw[href];exact hi.refn
 ·show((qI5 x.k (Qi.allL (x.l.length+1) x.l)).length:Int)<=(qDd x.k x.c).cap;rw[hlen,hh.2.2.2];exact hi.cap
 ·intro y hy;obtain⟨z,h1,h2⟩:=hmem y hy;rw[<-h2,qTa];exact hi.times z h1
 ·intro y hy;obtain⟨z,h1,h2⟩:=hmem y hy;rw[<-h2,qTa];exact hi.lastl z h1
 ·intro y hy;obtain⟨z,h1,h2⟩:=hmem y hy;rw[<-h2];show qCy (qDd x.k x.c) x.k (itK x.k z)=0;rw[zBd x.k x.c z hi.k1 hi.k5];exact hi.fits z h1
 ·show x.rel+_<=_;rw[hacc];exact hx.accm
 ·intro y hy;obtain⟨z,h1,h2⟩:=hmem y hy;rw[<-h2,qIr];exact hx.nums z h1
 ·show ∀v,v∈qIe x.ref 7->_;rw[href];exact hx.refm
 ·show ∀j,j<5->qAx (qIe x.ref 7) j=0;rw[href];exact hz.ref5
 ·intro y hy;obtain⟨z,h1,h2⟩:=hmem y hy;rw[<-h2,qTa];show clock-(qDd x.k x.c).lag<z.t/\z.t<=clock+(qDd x.k x.c).skew;rw[hh.2.1,hh.2.2.1];exact hz.due z h1
 ·intro y hy;obtain⟨z,h1,h2⟩:=hmem y hy;rw[<-h2,qIr];show 1<=z.n/\z.n<=x.rel+_;rw[hacc];exact hz.num z h1
 ·intro z hzm
  show 1<=z.n/\z.n<=x.rel+_;rw[hacc]
  by_cases e:x.k=5
  ·exact hz.tkn z ((c3.drw e).symm.subset hzm)
  ·have e2:(zEe clock x).nt.tk=[]:=zBz hi.k1 hi.k5 e
   rw[e2]at hzm;cases hzm
 ·rcases htk with h | h
  ·exact(hnum.append h.symm).nodup_iff.2 hz.nod
  ·rw[h,List.map_nil,List.append_nil]
   exact hnum.nodup_iff.2 (List.nodup_append.1 hz.nod).1
 ·show x.rel<=qEg (qDd x.k x.c) clock
  have:qEg (qDd x.k x.c) clock=qEg x.c clock:=by unfold qEg;rw[hh.2.1,hh.2.2.2]
  rw[this];exact hz.most
 ·intro h;show x.last<=clock-(qDd x.k x.c).lag;rw[hh.2.1];exact hz.mark h
 ·exact((qMs x.k _).2.trans (by
       refine List.Perm.trans ?_ ((qG6 (x.l.length+1) x.l (by omega) hi.heap).map _)
       exact List.Perm.refl _)).symm.trans (by
     have e:(qI5 x.k (Qi.allL (x.l.length+1) x.l)).map (itK x.k)=qI5 x.k (Qi.allL (x.l.length+1) x.l):=by
      conv=>rhs;rw[<-List.map_id (qI5 x.k (Qi.allL (x.l.length+1) x.l))]
      refine List.map_congr_left (λy hy=>?_);obtain⟨z,_,h2⟩:=hmem y hy;rw[<-h2,zDv];rfl
     show(qI5 x.k _).Perm ((qI5 x.k _).map (itK x.k))
     rw[e])
structure LdIt (x:Ser) (its:List It) (clock:Int):Prop where
 len:its.length=x.l.length
 cap:(its.length:Int)<=(qDd x.k x.c).cap
 num:∀y,y∈its->1<=y.n/\y.n<=x.rel+(its.length:Int)
 nod:(its.map (·.n)).Nodup
 bd:∀n,n∈qG2 x.k its->0<=n/\n<=9223372036854775807
 ref:∀(i:Nat) (y:It),its[i]?=some y->qIw (serB x (qDd x.k x.c) (its.take i)) clock (itK x.k y)=0
def qPp(ys:List It): List Int:=ys.flatMap λy=>[y.n,y.t,y.k,y.d]
structure LdT (c:Cfg) (m acc rel:Int) (ns:List Int) (ys:List It):Prop where
 len:(ys.length:Int)=if c.size+1<rel then c.size+1 else rel
 num:∀y,y∈ys->1<=y.n/\y.n<=acc
 nod:(ns++ys.map (·.n)).Nodup
 rng:∀y,y∈ys->0<=y.t/\y.t<=m/\0<=y.k/\y.k<=9223372036854775807/\0<=y.d/\y.d<=9223372036854775807
 ref:∀y,y∈ys->qCy c 5 y=0
structure Good (n clock:Int) (x:Ser):Prop where
 i:SInv n x
 sx:SX x
 z:SZ clock x
 c0:0<=clock
 c1:clock<=4611686018427387904
 n1:n<=1000000000000
theorem Good.rel{n clock:Int}{x:Ser}(h:Good n clock x): 0<=x.rel/\x.rel<=1000000000000:=by
 have h1:=h.i.rel0;have h2:=h.i.rela;have h3:=h.i.accn;have h4:=h.n1
 omega
theorem Good.ok{n clock:Int}{x:Ser}(h:Good n clock x): SerOk x:=qPz h.sx h.i (by have:=h.rel;omega)
theorem Good.ld{n clock:Int}{x:Ser}(h:Good n clock x): LdOk x clock:=by
 have hh:=qJl x.k x.c h.i.k1 h.i.k5;have hc:=h.i.common;have hr:=h.rel;have hok:=h.ok;refine⟨h.sx.id0,hok.cfg,hok.p0,hok.p3,h.i.kind,h.i.k1,h.i.k5,qUf x.k x.c h.i.k1 h.i.k5 h.i.valid h.i.kind,λj=>?_,hr.1,?_,by omega,h.c0,h.c1,by rw[hh.2.1];omega,by rw[hh.2.2.2];omega⟩
 ·unfold qAx
  rw[List.getD_eq_getElem?_getD];cases hj:x.ref[j]? with
  | none=>simp
  | some v=>exact⟨(h.i.refn v (List.mem_of_getElem? hj)).1,h.sx.refm v (List.mem_of_getElem? hj)⟩
 ·have:qEg (qDd x.k x.c) clock=qEg x.c clock:=by unfold qEg;rw[hh.2.1,hh.2.2.2]
  rw[this];exact h.z.most
theorem Good.its{n clock:Int}{x:Ser}(h:Good n clock x): LdIt x (Qi.allL (x.l.length+1) x.l) clock:=by
 have hh:=qJl x.k x.c h.i.k1 h.i.k5;have hp:=qG6 (x.l.length+1) x.l (by omega) h.i.heap;have hlen:=hp.length_eq;refine⟨hlen,by rw[hlen,hh.2.2.2];exact h.i.cap,λy hy=>?_,(hp.map (·.n)).nodup_iff.2 (List.nodup_append.1 h.z.nod).1,h.ok.buf,λi y hy=>?_⟩
 ·have:=h.z.num y (hp.subset hy)
  rw[hlen,h.i.rela];exact this
 ·have hm:y∈x.l:=hp.subset (List.mem_of_getElem? hy)
  have hi:i<(Qi.allL (x.l.length+1) x.l).length:=(List.getElem?_eq_some_iff.1 hy).1;have hd:=h.z.due y hm;have ht:=h.i.times y hm;have hcap:=h.i.cap;have hbl:(qI5 x.k ((Qi.allL (x.l.length+1) x.l).take i)).length=i:=by rw[qUm,List.length_take];omega
  unfold qIw;show(if inB (itK x.k y).t 0 4611686018427387904=true then if (itK x.k y).t<=clock-(qDd x.k x.c).lag then 6 else if clock+(qDd x.k x.c).skew<(itK x.k y).t then 7 else if qCy (qDd x.k x.c) x.k (itK x.k y)≠0 then qCy (qDd x.k x.c) x.k (itK x.k y) else if (qDd x.k x.c).cap<=((qI5 x.k ((Qi.allL (x.l.length+1) x.l).take i)).length:Int) then 11 else if (4611686018427387904:Int)<=0 then 11 else 0 else 5)=0;rw[qTa,hh.2.1,hh.2.2.1,hh.2.2.2,hbl,zBd x.k x.c y h.i.k1 h.i.k5,h.i.fits y hm];rw[if_pos (by simp only[inB,Bool.and_eq_true,decide_eq_true_eq];exact ht),if_neg (by omega),if_neg (by omega),if_neg (by simp),if_neg (by omega),if_neg (by omega)]
theorem Good.dec{n clock:Int}{x:Ser}(h:Good n clock x)(e:x.k=4): (x.nt.q<x.rel\/x.nt.r=0)/\(0<x.nt.q\/x.rel<=x.nt.r):=by
 have h1:=h.z.note.dec e;have h2:=h.i.note.r0;have h3:=h.i.note.q0;have h4:=h.i.note.qn;omega
theorem Good.cnt{n clock:Int}{x:Ser}(h:Good n clock x)(e:x.k=1): ∃gs,x.nt.bs=qFm gs/\zD0 x.nt.bs=(gs.length:Int)::qIp gs/\LdC x.c.k (clock-x.c.lag) x.rel gs:=by
 obtain⟨⟨gs,hb,hg⟩,h2,h3⟩:=h.z.note.cnt e;rw[qS9]at hb;have hv:=qBy h.i.valid h.i.kind e;have hsum:=h.i.note.sum;have hone:=h.i.note.one;have hr:=h.rel;rw[hb]at hsum hone;have hlen:gs.length<=62:=by
  cases gs with
  | nil=>simp
  | cons g gs =>
   cases g with
   | nil=>exact absurd hg.1 (by simp)
   | cons t g =>
    have h4:qDn (qFm ((t::g)::gs))=2 ^ gs.length+qDn (g.map (λt=>(⟨2 ^ gs.length,t⟩:Bk))++qFm gs):=rfl;have h5:=qCr (l:=g.map (λt=>(⟨2 ^ gs.length,t⟩:Bk))++qFm gs) (λb hb=>hone b (List.mem_cons_of_mem _ hb));have h6:(2:Int) ^ gs.length<=1000000000000:=by omega
    rw[List.length_cons];refine Nat.le_of_not_lt (λhn=>?_);have h7:(2:Nat) ^ 62<=2 ^ gs.length:=Nat.pow_le_pow_right (by omega) (by omega);have h8:(2:Int) ^ gs.length=((2 ^ gs.length:Nat):Int):=by simp
    rw[h8]at h6;have h9:(2:Nat) ^ 62=4611686018427387904:=by decide
    omega
 refine⟨gs,hb,by rw[hb];exact zIc hg,hlen,λg hgm=>?_,λg hgm=>?_,λg hgm=>?_,λb hbm=>?_,?_,hsum,?_⟩
 ·cases gs with
  | nil=>cases hgm
  | cons g0 gs =>
   rcases List.mem_cons.1 hgm with e | e
   ·subst e;have:=hg.2.1;omega
   ·have:=(hg.2.2 g e).2;omega
 ·cases gs with
  | nil=>cases hgm
  | cons g0 gs =>
   have:g0=g:=by simpa using hgm
   subst this;exact hg.1
 ·cases gs with
  | nil=>cases hgm
  | cons g0 gs=>have:=(hg.2.2 g hgm).1;omega
 ·have h4:=h3 b.t (by rw[hb];exact List.mem_map_of_mem hbm)
  have h5:0<x.rel:=by
   obtain⟨a,c,hac⟩:=List.append_of_mem hbm;have h6:=qCr (l:=qFm gs) hone;have h7:1<=qDn (qFm gs):=by
    cases hbk:qFm gs with
    | nil=>rw[hbk]at hbm;cases hbm
    | cons u us =>
     have h8:=qCr (l:=us) (λb hb=>hone b (by rw[hbk];exact List.mem_cons_of_mem _ hb));have h9:=hone u (by rw[hbk];simp);show 1<=u.sz+qDn us;omega
   omega
  have h6:=h.z.mark h5;omega
 ·rw[hb,List.pairwise_map]at h2
  exact h2
 ·have:=zEo gs hg
  have h5:gs.length*(x.c.k.toNat+1)<=62*11:=Nat.mul_le_mul hlen (by omega);omega
theorem zA1(c:Cfg)(m:Int)(ls:Nat->List Bk)(n:Nat): qOr ls n (m-c.window)=qO9 (λj=>qD3 c m (ls j)) n 0:=by
 have h:∀l:List Bk,qXj l (m-c.window)=((qD3 c m l).length:Int)::qDe (qD3 c m l):=λl=>by
  unfold qXj qD3;rw[List.length_drop]
 have:∀n s,(List.range' s n).flatMap (λi=>qXj (ls i) (m-c.window))=qO9 (λj=>qD3 c m (ls j)) n s:=by
  intro n
  induction n with
  | zero=>intro s;rfl
  | succ n ih =>
   intro s;rw[List.range'_succ,List.flatMap_cons,ih (s+1),h];rfl
 unfold qOr;rw[List.range_eq_range'];exact this n 0
theorem Good.dis{n clock:Int}{x:Ser}(h:Good n clock x)(e:x.k=2): LdD (clock-x.c.lag) x.rel (qFx x.c) (λj=>qD3 x.c (clock-x.c.lag) (x.nt.rg j)):=by
 obtain⟨z1,z2,z3⟩:=h.z.note.dis e;have hmem:∀i b,b∈qD3 x.c (clock-x.c.lag) (x.nt.rg i)->b∈x.nt.rg i:=λi b hb=>List.mem_of_mem_drop hb
 have hlen:∀i,(qD3 x.c (clock-x.c.lag) (x.nt.rg i)).length<=(x.nt.rg i).length:=λi=>by unfold qD3;rw[List.length_drop];omega
 refine⟨λi=>?_,λi b hb=>?_,λi=>(z1 i).drop _,?_⟩
 ·have h1:=qGi (x.nt.rg i) 40 (h.sx.note.rf i) (h.i.note.rk i)
  have h2:=hlen i;omega
 ·have h1:=z2 i b (hmem i b hb)
  have h2:=h.i.note.rk i b (hmem i b hb);have h3:0<x.rel:=by
   have h4:=h.i.note.rl i;have h5:=List.length_pos_of_mem (hmem i b hb);omega
  have h4:=h.z.mark h3;omega
 ·have:=qSl (a:=λj=>qD3 x.c (clock-x.c.lag) (x.nt.rg j)) (b:=x.nt.rg) hlen (qFx x.c) 0
  omega
theorem Good.oft{n clock:Int}{x:Ser}(h:Good n clock x)(e:x.k=3): LdO x.c x.c.rows.toNat x.c.width.toNat (clock-x.c.lag) x.rel (qBb x.c x.nt.op x.nt.cl (clock-x.c.lag-x.c.window))/\(0<=clock-x.c.lag\/qBb x.c x.nt.op x.nt.cl (clock-x.c.lag-x.c.window)=[]):=by
 have hL:=(qBr h.i.valid h.i.kind e).2.2.1;have hi:=h.i.note.oi e;obtain⟨f1,f2,f3⟩:=qI2 (t:=clock-x.c.lag-x.c.window) (h.z.note.oft e) hi (by omega);have hpos:∀p,p∈qBb x.c x.nt.op x.nt.cl (clock-x.c.lag-x.c.window)->x.last<=clock-x.c.lag:=λp hp=>by
  refine h.z.mark ?_;have h1:=(f2 p hp).2.2.1.s0;have h2:sP x.c.width.toNat p<=qHx ((qBb x.c x.nt.op x.nt.cl (clock-x.c.lag-x.c.window)).map (sP x.c.width.toNat)):=by
   obtain⟨a,b,hab⟩:=List.append_of_mem hp;have hnn:∀q,q∈a++p::b->0<=sP x.c.width.toNat q:=λq hq=>by have:=(f2 q (by rw[hab];exact hq)).2.2.1.s0;omega
   rw[hab,List.map_append,qFq,List.map_cons,qDz];have g1:=qIt (a.map (sP x.c.width.toNat)) (λv hv=>by obtain⟨q,hq,rfl⟩:=List.mem_map.1 hv;exact hnn q (by simp[hq]));have g2:=qIt (b.map (sP x.c.width.toNat)) (λv hv=>by obtain⟨q,hq,rfl⟩:=List.mem_map.1 hv;exact hnn q (by simp[hq]));omega
  omega
 refine⟨⟨?_,f1,λp hp=>?_,λp hp=>(f2 p hp).2.2.1,f3⟩,?_⟩
 ·have:=hi.len
  unfold qBb;rw[List.length_append,List.length_drop]
  split
  ·simp;omega
  ·simp;omega
 ·have h1:=hpos p hp
  have h2:0<=p.no/\p.no*qBd x.c<=x.last:=by
   rcases(f2 p hp).2.2.2 with e | e
   ·have h3:=hi.lt p e
    have h4:=Int.mul_le_mul_of_nonneg_right (show p.no<=x.nt.op.no by omega) (show 0<=qBd x.c by omega);have h5:=hi.onT;exact⟨h3.1,by omega⟩
   ·rw[e];exact⟨hi.on0,hi.onT⟩
  exact⟨h2.1,Int.le_ediv_of_mul_le (by omega) (by omega)⟩
 ·cases hP:qBb x.c x.nt.op x.nt.cl (clock-x.c.lag-x.c.window) with
  | nil=>exact .inr rfl
  | cons p ps =>
   have h1:=hpos p (by rw[hP];simp);have h2:=h.i.last0;exact .inl (by omega)
theorem qV4(l:List Dr.It): qPp (l.map unT)=qLg l:=by
 unfold qPp qLg;rw[List.flatMap_map];rfl
theorem Good.drw{n clock:Int}{x:Ser}(h:Good n clock x)(e:x.k=5): LdT x.c (clock-x.c.lag) x.acc x.rel ((Qi.allL (x.l.length+1) x.l).map (·.n)) ((Dr.allL (x.nt.tk.length+1) x.nt.tk).map unT):=by
 obtain⟨z1,z2,z3⟩:=h.z.note.drw e;have hp:=(Dr.allL_spec (x.nt.tk.length+1) x.nt.tk (by omega) z1).1;have hq:=qG6 (x.l.length+1) x.l (by omega) h.i.heap;have hn:((Dr.allL (x.nt.tk.length+1) x.nt.tk).map unT).map (·.n)=(Dr.allL (x.nt.tk.length+1) x.nt.tk).map (·.n):=by rw[List.map_map];rfl
 refine⟨by rw[List.length_map,hp.length_eq];exact z2,λy hy=>?_,?_,λy hy=>?_,λy hy=>?_⟩
 ·obtain⟨z,hz,rfl⟩:=List.mem_map.1 hy
  exact h.z.tkn z (hp.subset hz)
 ·rw[hn]
  exact((hq.map _).append (hp.map _)).nodup_iff.2 h.z.nod
 ·obtain⟨z,hz,rfl⟩:=List.mem_map.1 hy
  have h1:=z3 z (hp.subset hz);have h2:=qOi h1.2.1;have h3:0<x.rel:=by
   have h4:=List.length_pos_of_mem (hp.subset hz);have h5:=h.rel
   split at z2 <;> omega
  have h4:=h.z.mark h3;have h5:(unT z).t=z.t:=rfl;refine⟨h1.2.2.1,by rw[h5];omega,h2.1.1,by omega,by omega,by omega⟩
 ·obtain⟨z,hz,rfl⟩:=List.mem_map.1 hy
  exact(z3 z (hp.subset hz)).2.1
end
end Go.Proofs.YtahnliehdjncdabGreatDoor
