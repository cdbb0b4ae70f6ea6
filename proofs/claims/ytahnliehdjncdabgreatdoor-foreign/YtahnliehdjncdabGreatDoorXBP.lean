import Derived.Test.YtahnliehdjncdabGreatDoorXAL
import Derived.Test.YtahnliehdjncdabGreatDoorXBO
import Derived.Test.YtahnliehdjncdabGreatDoorXAN
import Derived.Test.YtahnliehdjncdabGreatDoorXBG
import Derived.Test.YtahnliehdjncdabGreatDoorXAY
import Derived.Test.YtahnliehdjncdabGreatDoorXBN
import Derived.Test.YtahnliehdjncdabGreatDoorXBD
import Derived.Test.YtahnliehdjncdabGreatDoorXBB
import Derived.Test.YtahnliehdjncdabGreatDoorXBF
set_option maxRecDepth 100000
set_option maxHeartbeats 16000000
namespace Go.Proofs.YtahnliehdjncdabGreatDoor
section
open Go.RowKit
theorem qSk: ∀gs,qJ8 0 gs=qFm gs
 | []=>rfl
 | x::xs=>by unfold qJ8 qFm;rw[qSk xs,Nat.zero_add]
theorem zAw{α:Type}{p:α->Bool}(a r:List α)(ha:∀x∈a,p x=true)(hr:∀x,r.head?=some x->p x=false): (a++r).takeWhile p=a:=by
 induction a with
 | nil =>
  cases r with
  | nil=>rfl
  | cons x r=>rw[List.nil_append,List.takeWhile_cons_of_neg (by rw[hr x rfl];simp)]
 | cons x a ih=>rw[List.cons_append,List.takeWhile_cons_of_pos (ha x (by simp)),ih (λy hy=>ha y (by simp[hy]))]
theorem zHp(gs:List (List Int)): ∀(pre:List Bk),qXk (pre++qFm gs) gs.length pre.length=qI3 gs:=by
 induction gs with
 | nil=>intro pre;rfl
 | cons x xs ih =>
  intro pre;have e:(pre++qFm (x::xs)).drop pre.length=qFm (x::xs):=List.drop_left;have e1:qL2 (pre++qFm (x::xs)) (2 ^ xs.length) pre.length=pre.length+x.length:=by
   unfold qL2;rw[e];unfold qFm
   rw[zAw _ _ (λb hb=>by obtain⟨t,_,rfl⟩:=List.mem_map.1 hb;simp) (λb hb=>by
        have hm:b∈qFm xs:=List.mem_of_head? hb;have:∃i,i<xs.length/\b.sz=2 ^ i:=by
         clear ih e hb
         induction xs with
         | nil=>cases hm
         | cons z zs ih2 =>
          unfold qFm at hm;rcases List.mem_append.1 hm with hm | hm
          ·obtain⟨t,_,rfl⟩:=List.mem_map.1 hm;exact⟨zs.length,by simp,rfl⟩
          ·obtain⟨i,h1,h2⟩:=ih2 hm;exact⟨i,by simp;omega,h2⟩
        obtain⟨i,hi,hs⟩:=this;simp only[decide_eq_false_iff_not];rw[hs]
        exact λh=>zFt (g:=i) (i:=xs.length) (by omega) h.symm),List.length_map]
  rw[List.length_cons,qM9,e1,show pre.length+x.length-pre.length=x.length by omega,e];have e2:(qFm (x::xs)).take x.length=x.map (λt=>(⟨2 ^ xs.length,t⟩:Bk)):=by
   unfold qFm;rw[List.take_append_of_le_length (by simp),List.take_of_length_le (by simp)]
  have e3:qXk (pre++qFm (x::xs)) xs.length (pre.length+x.length)=qI3 xs:=by
   have:=ih (pre++x.map (λt=>(⟨2 ^ xs.length,t⟩:Bk)));rw[List.append_assoc,List.length_append,List.length_map]at this;exact this
  rw[e2,e3,List.map_map];show(x.length:Int)::(x.map id++qI3 xs)=(x.length:Int)::(x++qI3 xs);rw[List.map_id]
theorem zG5{K:Nat}{gs:List (List Int)}(h:GsOk K gs): zDx (qFm gs)=(gs.length:Int)::qI3 gs:=by
 have hs:qE1 (qFm gs)=gs.length:=by
  unfold qE1;cases gs with
  | nil=>rfl
  | cons x xs =>
   cases x with
   | nil=>exact absurd h.1 (by simp)
   | cons t x =>
    rw[if_neg (by simp[qFm])];show bitLen ((2:Int) ^ xs.length).toNat=_;have:((2:Int) ^ xs.length).toNat=2 ^ xs.length:=by
     rw[show(2:Int) ^ xs.length=((2 ^ xs.length:Nat):Int) by simp];rfl
    rw[this,qXa];rfl
 unfold zDx;rw[hs]
 congr 1
 exact zHp gs []
theorem zC0{K:Nat}: ∀gs,GsOk K gs->(qFm gs).length<=gs.length*(K+1)
 | [],_=>by simp[qFm]
 | x::xs,h=>by
  have:∀ys:List (List Int),(∀h,h∈ys->h.length<=K+1)->(qFm ys).length<=ys.length*(K+1):=by
   intro ys
   induction ys with
   | nil=>intro _;simp[qFm]
   | cons y ys ih =>
    intro hy;have h1:=ih (λh hh=>hy h (by simp[hh]));have h2:=hy y (by simp);unfold qFm;rw[List.length_append,List.length_map,List.length_cons,Nat.succ_mul];omega
  exact this (x::xs) (λg hg=>by
     rcases List.mem_cons.1 hg with e | e
     ·subst e;exact h.2.1
     ·exact(h.2.2 g e).2)
def qPd(lv:Nat->List Bk): Nat->Nat->List Int
 | 0,_=>[]
 | k+1,s=>((lv s).length:Int)::(qDl (lv s)++qPd lv k (s+1))
def qQ8(lv:Nat->List Bk): Nat->Nat->Nat
 | 0,_=>0
 | k+1,s=>(lv s).length+qQ8 lv k (s+1)
structure LdD (m rel:Int) (n:Nat) (lv:Nat->List Bk):Prop where
 len:∀i,(lv i).length<=40
 tm:∀i b,b∈lv i->0<=b.sz/\b.sz<=m/\1<=b.t/\b.t<=40
 srt:∀i,(lv i).Pairwise (λa b=>a.sz<b.sz/\b.t<a.t)
 sum:(qQ8 lv n 0:Int)<=rel
def unT(z:Dr.It): It:=⟨z.t,z.k,z.d,z.n⟩
structure NZ (k:Nat) (c:Cfg) (rel last:Int) (nt:Note):Prop where
 dec:k=4->rel<=nt.q*2305843009213693952+nt.r/\nt.q*2305843009213693952+nt.r<=rel*2305843009213693952
 cnt:k=1->Lw c.k.toNat 0 nt.bs/\(nt.bs.map (·.t)).Pairwise (·<=·)/\∀t,t∈nt.bs.map (·.t)->0<=t/\t<=last
 dis:k=2->(∀j,SortB (nt.rg j))/\(∀j b,b∈nt.rg j->0<=b.sz/\b.sz<=last)/\(qQ8 nt.rg (qFz c) 0:Int)<=rel
 oft:k=3->OZ c c.rows.toNat c.width.toNat rel nt.op nt.cl
 drw:k=5->Dr.HeapT nt.tk/\(nt.tk.length:Int)=(if c.size+1<rel then c.size+1 else rel)/\∀z,z∈nt.tk->z=tick c (unT z)/\qC0 c 5 (unT z)=0/\0<=z.t/\z.t<=last
theorem NZ.zero(k:Nat)(c:Cfg)(hs:k=5->1<=c.size): NZ k c 0 0 qC8 where
 dec:=λ_=>⟨Int.le_refl _,Int.le_refl _⟩
 cnt:=λ_=>⟨Lw.nil _ _,List.Pairwise.nil,λt ht=>by cases ht⟩
 dis:=λ_=>⟨λ_=>List.Pairwise.nil,λ_ b hb=>(by cases hb),by
    have:∀n s,qQ8 (λ_=>[]) n s=0:=by
     intro n
     induction n with
     | zero=>intro s;rfl
     | succ n ih=>intro s;unfold qQ8;rw[ih];rfl
    show((qQ8 (λ_=>[]) _ 0:Nat):Int)<=0
    rw[this];exact Int.le_refl _⟩
 oft:=λ_=>OZ.zero c _ _
 drw:=λh=>⟨⟨λj hj=>by simp[qC8]at hj,λi _ hi=>by simp[qC8]at hi⟩,by rw[if_neg (by have:=hs h;omega)];rfl,λz hz=>by cases hz⟩
theorem qZm(b:Int)(hb:1<=b)(n:Nat): ∀p,1<=p->(qGm b n p).isSome=true->1<=qCd (qGm b n p):=by
 induction n with
 | zero=>intro p hp _;exact hp
 | succ n ih =>
  intro p hp h;unfold qGm at h ⊢
  split at h
  ·cases h
  ·rename_i h1
   rw[if_neg h1];exact ih _ (zA3 p b hp hb h1).1 h
theorem qY7{c:Cfg}{t:Int}(h:(qBg c t).isSome=true): 1<=qCd (qBg c t):=by
 unfold qBg at h ⊢
 split at h
 ·cases h
 ·rename_i h1
  rw[if_neg h1]
  split at h
  ·rename_i h2
   rw[if_pos h2];exact qZm _ (by omega) _ 1 (by omega) h
  ·rename_i h2
   rw[if_neg h2]
   split at h
   ·cases h
   ·rename_i h3
    rw[if_neg h3];exact zDl _
theorem qXr{c:Cfg}{y:It}(h:qC0 c 4 y=0): (qBg c y.t).isSome=true:=by
 have h1:qFi c y=0:=h;unfold qFi at h1
 split at h1
 ·assumption
 ·omega
theorem qO0{c:Cfg}{y:It}(h:qC0 c 5 y=0): (0<=y.k/\y.k<=2147483648)/\1<=y.d/\y.d<=2147483648:=by
 have h1:qJ3 c y=0:=h;unfold qJ3 at h1
 split at h1
 ·split at h1
  ·rename_i hk
   split at h1
   ·rename_i hd
    exact⟨by simpa[inB] using hk,by simpa[inB] using hd⟩
   ·omega
  ·omega
 ·omega
theorem qLt{c:Cfg}{y:It}(h:qC0 c 5 y=0): Dr.dpos (tick c y):=by
 have:=(qO0 h).2;show 0<y.d%18446744073709551616;omega
theorem zIh{a b:Nat->List Bk}(i:Nat)(h:∀j,j≠i->(a j).length=(b j).length)(hi:(a i).length<=(b i).length+1): ∀n s,qQ8 a n s<=qQ8 b n s+(if s<=i/\i<s+n then 1 else 0):=by
 intro n
 induction n with
 | zero=>intro s;simp[qQ8]
 | succ n ih =>
  intro s;unfold qQ8;have h1:=ih (s+1)
  by_cases e:s=i
  ·subst e
   rw[if_neg (by omega)]at h1;rw[if_pos (by omega)];omega
  ·have h2:=h s e
   by_cases e2:s+1<=i/\i<s+1+n
   ·rw[if_pos e2]at h1
    rw[if_pos (by omega)];omega
   ·rw[if_neg e2]at h1;omega
theorem qSb{a b:Nat->List Bk}(h:∀j,(a j).length<=(b j).length): ∀n s,qQ8 a n s<=qQ8 b n s:=by
 intro n
 induction n with
 | zero=>intro s;exact Nat.le_refl _
 | succ n ih=>intro s;have:=ih (s+1);have:=h s;unfold qQ8;omega
theorem SortB.drop{l:List Bk}(h:SortB l)(n:Nat): SortB (l.drop n):=List.Pairwise.sublist (List.drop_sublist _ _) h
theorem NZ.rel{k:Nat}{c:Cfg}{rel last:Int}{nt:Note}(h:NZ k c rel last nt)(hi:NInv k c rel last nt)(hv:qA6 c=true)(hk:c.kind=k)(y:It)(m:Int)(y0:0<=y.t)(hy:last<=y.t)(hE:qC0 c k y=0): NZ k c (rel+1) y.t (qWg k c nt y m):=by
 refine⟨λe=>?_,λe=>?_,λe=>?_,λe=>?_,λe=>?_⟩
 ·subst e
  obtain⟨h1,h2⟩:=h.dec rfl;have hw1:=qY7 (qXr hE);have hw2:=(qMb c y.t).2;show rel+1<=(nt.q+(nt.r+qCd (qBg c y.t))/2305843009213693952)*2305843009213693952+(nt.r+qCd (qBg c y.t))%2305843009213693952/\(nt.q+(nt.r+qCd (qBg c y.t))/2305843009213693952)*2305843009213693952+(nt.r+qCd (qBg c y.t))%2305843009213693952<=(rel+1)*2305843009213693952;omega
 ·subst e
  obtain⟨h1,h2,h3⟩:=h.cnt rfl;have hc:=qBx hv hk rfl;have hl:=zAr (c:=c) (K:=c.k.toNat) (by omega) (by omega) nt.bs y.t m h1
  have hs:(nt.bs.map (·.t)++[y.t]).Pairwise (·<=·):=List.pairwise_append.2 ⟨h2,List.pairwise_singleton _ _,λa ha b hb=>by
     rw[List.mem_singleton]at hb;subst hb;have:=(h3 a ha).2;omega⟩
  refine⟨hl.1,hs.sublist hl.2,λt ht=>?_⟩;rcases List.mem_append.1 (hl.2.subset ht) with e | e
  ·have:=h3 t e;omega
  ·rw[List.mem_singleton]at e;subst e;omega
 ·subst e
  obtain⟨h1,h2,h3⟩:=h.dis rfl;show(∀j,SortB (qNs c (qFz c) nt.rg y m j))/\(∀j b,b∈qNs c (qFz c) nt.rg y m j->0<=b.sz/\b.sz<=y.t)/\(qQ8 (qNs c (qFz c) nt.rg y m) (qFz c) 0:Int)<=rel+1;refine⟨λj=>?_,λj b hb=>?_,?_⟩
  ·unfold qNs
   split
   ·exact zBw ((h1 j).drop _) (λb hb=>by have:=h2 j b (List.mem_of_mem_drop hb);show b.sz<=y.t;omega)
   ·exact h1 j
  ·unfold qNs at hb
   split at hb
   ·rcases qMg hb with e | e
    ·have:=h2 j b (List.mem_of_mem_drop e);omega
    ·subst e;exact⟨y0,Int.le_refl _⟩
   ·have:=h2 j b hb;omega
  ·have:=zIh (a:=qNs c (qFz c) nt.rg y m) (b:=nt.rg) (regI c (qFz c) y.k) (λj hj=>by unfold qNs;rw[if_neg hj]) (qNg c (qFz c) nt.rg y m _) (qFz c) 0
   split at this <;> omega
 ·subst e
  obtain⟨hp,hr,hL,hL1,hpl⟩:=qBq hv hk rfl;have hr0:=hr.r0;have hw0:=hr.w0;exact(h.oft rfl).rel hr (by omega) (by omega) y m
 ·subst e
  obtain⟨h1,h2,h3⟩:=h.drw rfl;have hs:=qC3 hv hk rfl;obtain⟨g1,D,g2,g3⟩:=qJj c y h1 (qLt hE);refine⟨g1,?_,λz hz=>?_⟩
  ·show((qG4 c nt.tk y).length:Int)=_
   have h4:=g2.length_eq;rw[List.length_append,List.length_cons]at h4;have hr0:=hi.rel0
   split at g3 <;> split at h2 <;> split <;> omega
  ·rcases List.mem_cons.1 (g2.subset (List.mem_append_right _ hz)) with e | e
   ·subst e;exact⟨rfl,hE,y0,Int.le_refl _⟩
   ·have:=h3 z e;exact⟨this.1,this.2.1,this.2.2.1,by have:=this.2.2.2;omega⟩
theorem NZ.swp{k:Nat}{c:Cfg}{rel last:Int}{nt:Note}(h:NZ k c rel last nt)(hv:qA6 c=true)(hk:c.kind=k)(m b:Int): NZ k c rel last (qQg k c nt m b).1:=by
 unfold qQg
 split
 ·rename_i e
  refine⟨h.dec,λ_=>?_,h.dis,h.oft,h.drw⟩;obtain⟨h1,h2,h3⟩:=h.cnt e;have hc:=qBx hv hk e;have hsub:((nt.bs.drop (qEb c nt.bs m b).toNat).map (·.t)).Sublist (nt.bs.map (·.t)):=(List.drop_sublist _ _).map _;exact⟨h1.drop (by omega) _,h2.sublist hsub,λt ht=>h3 t (hsub.subset ht)⟩
 ·exact h
structure NSim (k:Nat) (c:Cfg) (m:Int) (a b:Note):Prop where
 dec:k=4->a.q=b.q/\a.r=b.r
 cnt:k=1->a.bs=b.bs
 dis:k=2->∀j,j<qFz c->qD6 c m (a.rg j)=qD6 c m (b.rg j)
 oft:k=3->qBb c a.op a.cl (m-c.window)=qBb c b.op b.cl (m-c.window)
 drw:k=5->a.tk.Perm b.tk
theorem NInv.K{k:Nat}{c:Cfg}{rel last:Int}{nt:Note}(h:NInv k c rel last nt): NInv k (qDg k c) rel last nt:=by
 refine⟨h.q0,h.qn,h.r0,h.r1,h.one,h.sum,h.rk,h.rl,λe=>?_,λe=>?_,λe=>?_,h.nb,h.rf⟩
 ·subst e
  have:=h.oi rfl;exact⟨this.on0,this.onT,this.asc,this.lt,this.ocs,this.ccs,this.tops,this.len⟩
 ·subst e;exact h.tl rfl
 ·subst e;exact h.lw rfl
theorem NZ.K{k:Nat}{c:Cfg}{rel last:Int}{nt:Note}(h:NZ k c rel last nt): NZ k (qDg k c) rel last nt:=by
 refine⟨h.dec,λe=>?_,λe=>?_,λe=>?_,λe=>?_⟩
 ·subst e;exact h.cnt rfl
 ·subst e;exact h.dis rfl
 ·subst e
  have:=h.oft rfl;exact⟨this.cls,this.opn,this.pos,this.sum⟩
 ·subst e;exact h.drw rfl
theorem NSim.sav{k:Nat}{c:Cfg}{m:Int}{a b:Note}(h:NSim k c m a b)(k1:1<=k)(k5:k<=5){rel last:Int}(za:NZ k c rel last a)(zb:NZ k c rel last b)(hn:(a.tk.map (·.n)).Nodup): qG6 k c a m=qG6 k c b m:=by
 rcases five k1 k5 with e | e | e | e | e <;> subst e
 ·show zDx a.bs=zDx b.bs
  rw[h.cnt rfl]
 ·exact qZx (qFz c) (h.dis rfl)
 ·show zFf c a.op a.cl (m-c.window)=zFf c b.op b.cl (m-c.window)
  unfold zFf;rw[h.oft rfl]
 ·obtain⟨h1,h2⟩:=h.dec rfl
  show[a.q,a.r]=[b.q,b.r];rw[h1,h2]
 ·have hp:=h.drw rfl
  show qLj (Dr.allL (a.tk.length+1) a.tk)=qLj (Dr.allL (b.tk.length+1) b.tk);rw[hp.length_eq,qZy _ (za.drw rfl).1 (zb.drw rfl).1 hn hp]
structure SZ (clock:Int) (x:Ser):Prop where
 ref5:∀j,j<5->qAx x.ref j=0
 due:∀y,y∈x.l->clock-x.c.lag<y.t/\y.t<=clock+x.c.skew
 num:∀y,y∈x.l->1<=y.n/\y.n<=x.acc
 tkn:∀z,z∈x.nt.tk->1<=z.n/\z.n<=x.acc
 nod:(x.l.map (·.n)++x.nt.tk.map (·.n)).Nodup
 most:x.rel<=qEn x.c clock
 mark:0<x.rel->x.last<=clock-x.c.lag
 note:NZ x.k x.c x.rel x.last x.nt
theorem zCw{c:Cfg}(clock:Int)(hc:1<=c.cap): 0<=qEn c clock:=by
 have h0:∀t:Int,0<=t->0<=(if 4611686018427387904/c.cap<t then 4611686018427387904 else c.cap*t):=λt ht=>by
  split
  ·omega
  ·exact Int.mul_nonneg (by omega) ht
 unfold qEn;refine h0 _ ?_
 split <;> omega
theorem zE7{c:Cfg}{clock nc rel r':Int}(hc1:1<=c.cap)(c0:0<=clock)(h:rel<=qEn c clock)(hcn:clock<=nc)(hr:r'=rel\/(r'<=rel+c.cap/\clock<nc/\c.lag<=nc))(hm:r'<=4611686018427387904): r'<=qEn c nc:=by
 have key:∀cl:Int,qEn c cl=(if 4611686018427387904/c.cap<(if 0<(if cl-c.lag+1<cl then cl-c.lag+1 else cl) then(if cl-c.lag+1<cl then cl-c.lag+1 else cl) else 0) then 4611686018427387904 else c.cap*(if 0<(if cl-c.lag+1<cl then cl-c.lag+1 else cl) then(if cl-c.lag+1<cl then cl-c.lag+1 else cl) else 0)):=λ_=>rfl
 rw[key]at h ⊢;obtain⟨a,ha,ha0⟩:∃a:Int,(if 0<(if clock-c.lag+1<clock then clock-c.lag+1 else clock) then(if clock-c.lag+1<clock then clock-c.lag+1 else clock) else 0)=a/\0<=a:=⟨_,rfl,by split <;> omega⟩;obtain⟨b,hb,hab,hab2⟩:∃b:Int,(if 0<(if nc-c.lag+1<nc then nc-c.lag+1 else nc) then(if nc-c.lag+1<nc then nc-c.lag+1 else nc) else 0)=b/\a<=b/\(clock<nc/\c.lag<=nc->a+1<=b):=by
  refine⟨_,rfl,?_,?_⟩ <;> rw[<-ha] <;> (repeat' split) <;> omega
 rw[ha]at h;rw[hb]
 split
 ·exact hm
 ·rename_i h1
  split at h
  ·rename_i h2;omega
  ·have m1:=Int.mul_le_mul_of_nonneg_left hab (show 0<=c.cap by omega)
   rcases hr with e | ⟨e1,e2,e3⟩
   ·omega
   ·have m2:=Int.mul_le_mul_of_nonneg_left (hab2 ⟨e2,e3⟩) (show 0<=c.cap by omega)
    rw[Int.mul_add,Int.mul_one]at m2;omega
theorem SZ.new{clock id:Int}{c:Cfg}(hv:qA6 c=true): SZ clock (qCh id c c.kind.toNat):=by
 obtain⟨k,hk,h1,h5,hc,_⟩:=qE8 hv;have hkn:c.kind.toNat=k:=by omega
 simp only[qDk,inB,Bool.and_eq_true,decide_eq_true_eq]at hc;refine⟨λj hj=>?_,λy hy=>(by cases hy),λy hy=>(by cases hy),λz hz=>(by cases hz),List.Pairwise.nil,zCw clock (by show 1<=c.cap;omega),λh=>absurd h (Int.lt_irrefl 0),?_⟩
 ·have:j=0\/j=1\/j=2\/j=3\/j=4:=by omega
  rcases this with e | e | e | e | e <;> subst e <;> rfl
 ·rw[hkn]
  exact NZ.zero k c (λe=>(qC3 hv hk e).1)
theorem zCd(l:List Int)(i j:Nat)(v:Int)(h:j≠i): qAx (l.set i v) j=qAx l j:=by
 unfold qAx;rw[List.getD_eq_getElem?_getD,List.getD_eq_getElem?_getD,List.getElem?_set_ne (Ne.symm h)]
theorem SZ.ref{clock:Int}{x:Ser}(h:SZ clock x)(code:Nat)(hc:5<=code): SZ clock (qTy x code) :=
 ⟨λj hj=>by show qAx (x.ref.set code _) j=0;rw[zCd _ _ _ _ (by omega)];exact h.ref5 j hj,h.due,h.num,h.tkn,h.nod,h.most,h.mark,h.note⟩
theorem SZ.acc{n clock:Int}{x:Ser}(h:SZ clock x)(hi:SInv n x)(y:It)(hr:qI2 x clock y=0): SZ clock (qTf x y):=by
 obtain⟨t0,t1,hc,hl,hs,hk,_⟩:=qJs hr;have hp:=(put_heap x.l (numbered y (x.acc+1)) hi.heap).2;have hmem:∀z,z∈(qTf x y).l->z=numbered y (x.acc+1)\/z∈x.l:=λz hz=>List.mem_cons.1 (hp.subset hz)
 have ha0:=hi.acc0;refine⟨h.ref5,λz hz=>?_,λz hz=>?_,λz hz=>?_,?_,h.most,h.mark,h.note⟩
 ·rcases hmem z hz with e | e
  ·subst e;exact⟨hl,hs⟩
  ·exact h.due z e
 ·show 1<=z.n/\z.n<=x.acc+1
  rcases hmem z hz with e | e
  ·subst e;show 1<=x.acc+1/\x.acc+1<=x.acc+1;omega
  ·have:=h.num z e;omega
 ·have:=h.tkn z hz;show 1<=z.n/\z.n<=x.acc+1;omega
 ·have h1:((qTf x y).l.map (·.n)++x.nt.tk.map (·.n)).Perm ((x.acc+1)::(x.l.map (·.n)++x.nt.tk.map (·.n))):=List.Perm.append_right _ (hp.map (·.n))
  refine h1.nodup_iff.2 (List.nodup_cons.2 ⟨λhm=>?_,h.nod⟩);rcases List.mem_append.1 hm with hm | hm
  ·obtain⟨z,hz,e⟩:=List.mem_map.1 hm;have:=h.num z hz;omega
  ·obtain⟨z,hz,e⟩:=List.mem_map.1 hm;have:=h.tkn z hz;omega
theorem SZ.swp{n clock:Int}{x:Ser}(h:SZ clock x)(hi:SInv n x)(b:Int): SZ clock (zCt clock b x):=by
 have ht:(qQg x.k x.c x.nt (clock-x.c.lag) b).1.tk=x.nt.tk:=by unfold qQg;split <;> rfl
 refine⟨h.ref5,h.due,h.num,λz hz=>?_,?_,h.most,h.mark,h.note.swp hi.valid hi.kind _ _⟩
 ·exact h.tkn z (by rw[<-ht];exact hz)
 ·show(x.l.map (·.n)++(qQg x.k x.c x.nt (clock-x.c.lag) b).1.tk.map (·.n)).Nodup
  rw[ht];exact h.nod
structure SY (m:Int) (x:Ser):Prop where
 ref5:∀j,j<5->qAx x.ref j=0
 num:∀y,y∈x.l->1<=y.n/\y.n<=x.acc
 tkn:∀z,z∈x.nt.tk->1<=z.n/\z.n<=x.acc
 nod:(x.l.map (·.n)++x.nt.tk.map (·.n)).Nodup
 mark:0<x.rel->x.last<=m
 note:NZ x.k x.c x.rel x.last x.nt
theorem zFq(k:Nat)(c:Cfg)(nt:Note)(y:It)(m:Int)(h5:k≠5): (qWg k c nt y m).tk=nt.tk:=by
 unfold qWg
 split
 ·rfl
 ·split
  ·rfl
  ·split
   ·rfl
   ·split
    ·rfl
    ·first | rfl | rw[if_neg h5]
theorem SY.one{n m:Int}{x:Ser}(h:SY m x)(hi:SInv n x)(hl:x.l≠[])(hm:¬m<(itAt x.l 0).t): SY m (qFs x m):=by
 have hp:=(take_heap x.l hi.heap hl).2;have h0:=qGv hl;have hE:=hi.fits _ h0;have hN:=h.note.rel hi.note hi.valid hi.kind (itAt x.l 0) m (hi.times _ h0).1 (hi.lastl _ h0) hE;have hpn:((itAt x.l 0).n::((takeL x.l).map (·.n)++x.nt.tk.map (·.n))).Perm (x.l.map (·.n)++x.nt.tk.map (·.n)):=List.Perm.append_right _ (hp.map (·.n));have hnd:=hpn.nodup_iff.2 h.nod;refine⟨h.ref5,λy hy=>h.num y (hp.subset (List.mem_cons_of_mem _ hy)),λz hz=>?_,?_,λ_=>by show(itAt x.l 0).t<=m;omega,hN⟩
 ·show 1<=z.n/\z.n<=x.acc
  have hz':z∈(qWg x.k x.c x.nt (itAt x.l 0) m).tk:=hz
  by_cases e:x.k=5
  ·have e2:(qWg x.k x.c x.nt (itAt x.l 0) m).tk=qG4 x.c x.nt.tk (itAt x.l 0):=by rw[e];rfl
   rw[e2]at hz';obtain⟨_,D,g2,_⟩:=qJj x.c (itAt x.l 0) (h.note.drw e).1 (qLt (by rw[e]at hE;exact hE));rcases List.mem_cons.1 (g2.subset (List.mem_append_right _ hz')) with e3 | e3
   ·subst e3;exact h.num _ h0
   ·exact h.tkn z e3
  ·rw[zFq _ _ _ _ _ e]at hz'
   exact h.tkn z hz'
 ·show((takeL x.l).map (·.n)++(qWg x.k x.c x.nt (itAt x.l 0) m).tk.map (·.n)).Nodup
  by_cases e:x.k=5
  ·have e2:(qWg x.k x.c x.nt (itAt x.l 0) m).tk=qG4 x.c x.nt.tk (itAt x.l 0):=by rw[e];rfl
   rw[e2];obtain⟨_,D,g2,_⟩:=qJj x.c (itAt x.l 0) (h.note.drw e).1 (qLt (by rw[e]at hE;exact hE));have h3:((takeL x.l).map (·.n)++(D.map (·.n)++(qG4 x.c x.nt.tk (itAt x.l 0)).map (·.n))).Perm ((itAt x.l 0).n::((takeL x.l).map (·.n)++x.nt.tk.map (·.n))):=by
    have h4:=g2.map (·.n);rw[List.map_append,List.map_cons]at h4;refine(List.Perm.append_left _ h4).trans ?_;exact List.perm_middle
   have h5:=h3.nodup_iff.2 hnd;refine h5.sublist ?_;exact List.Sublist.append_left (List.sublist_append_right _ _) _
  ·rw[zFq _ _ _ _ _ e]
   exact(List.nodup_cons.1 hnd).2
theorem zGs{n m:Int}(f:Nat): ∀ {x:Ser},SY m x->SInv n x->SY m (qG3 f x m):=by
 induction f with
 | zero=>intro x h _;exact h
 | succ f ih =>
  intro x h hi;unfold qG3
  split
  ·exact h
  ·rename_i he
   have hl:x.l≠[]:=λe=>he (by rw[e];rfl)
   split
   ·exact h
   ·rename_i hm
    exact ih (h.one hi hl hm) (qH5 hi hl m hm)
theorem zEz{m:Int}(f:Nat): ∀ {x:Ser},x.l.length<f->HeapL x.l->∀y,y∈(qG3 f x m).l->m<y.t/\y∈x.l:=by
 induction f with
 | zero=>intro x h;omega
 | succ f ih =>
  intro x hf hh y hy;unfold qG3 at hy
  split at hy
  ·rename_i he
   rw[List.isEmpty_iff.1 he]at hy;cases hy
  ·rename_i he
   have hl:x.l≠[]:=λe=>he (by rw[e];rfl)
   split at hy
   ·rename_i hm
    have:=hh.first_mem hy;exact⟨by omega,hy⟩
   ·have ht:=take_heap x.l hh hl
    have:=ih (x:=qFs x m) (by have:=List.length_pos_iff.2 hl;show(takeL x.l).length<f;rw[takeL_length];omega) ht.1 y hy;exact⟨this.1,ht.2.subset (List.mem_cons_of_mem _ this.2)⟩
theorem qZu(f:Nat)(x:Ser)(m:Int): (qG3 f x m).rel=x.rel\/∃y,y∈x.l/\y.t<=m:=by
 cases f with
 | zero=>exact .inl rfl
 | succ f =>
  unfold qG3
  split
  ·exact .inl rfl
  ·rename_i he
   have hl:x.l≠[]:=λe=>he (by rw[e];rfl)
   split
   ·exact .inl rfl
   ·exact .inr ⟨_,qGv hl,by omega⟩
theorem qZ3(f:Nat): ∀(x:Ser) (m:Int),(qG3 f x m).acc=x.acc/\(qG3 f x m).ref=x.ref:=by
 induction f with
 | zero=>intro x m;exact⟨rfl,rfl⟩
 | succ f ih =>
  intro x m;unfold qG3
  split
  ·exact⟨rfl,rfl⟩
  ·split
   ·exact⟨rfl,rfl⟩
   ·exact ih (qFs x m) m
theorem SZ.tick{n clock nc:Int}{x:Ser}(h:SZ clock x)(hi:SInv n x)(hcn:clock<=nc)(c0:0<=clock)(hn:n<=4611686018427387904): SZ nc (qDd nc x):=by
 have hk:=qWt (x.l.length+1) x (nc-x.c.lag);have hy:=zGs (x.l.length+1) (x:=x) (m:=nc-x.c.lag) ⟨h.ref5,h.num,h.tkn,h.nod,λhr=>by have:=h.mark hr;omega,h.note⟩ hi;have hd:=zEz (m:=nc-x.c.lag) (x.l.length+1) (x:=x) (by omega) hi.heap;have hi':=qLu (x.l.length+1) hi (nc-x.c.lag);have ha:=(qZ3 (x.l.length+1) x (nc-x.c.lag)).1;have hcm:=hi.common;refine⟨hy.ref5,λy hm=>?_,hy.num,hy.tkn,hy.nod,?_,?_,hy.note⟩
 ·have h1:=hd y hm
  have h2:=h.due y h1.2;show nc-(qG3 _ x _).c.lag<y.t/\y.t<=nc+(qG3 _ x _).c.skew;rw[hk.2.1];exact⟨h1.1,by omega⟩
 ·show(qG3 _ x _).rel<=qEn (qG3 _ x _).c nc
  rw[hk.2.1];have h1:=hi'.rela;have h2:=hi.rela;have h3:=hi.cap;have h4:=hi'.accn;rw[ha]at h1 h4;refine zE7 (by omega) c0 h.most hcn ?_ (by omega);rcases qZu (x.l.length+1) x (nc-x.c.lag) with e | ⟨y,hym,hyt⟩
  ·exact .inl e
  ·have h5:=h.due y hym
   have h6:=hi.times y hym;exact .inr ⟨by omega,by omega,by omega⟩
 ·show 0<(qG3 _ x _).rel->(qG3 _ x _).last<=nc-(qG3 _ x _).c.lag
  rw[hk.2.1];exact hy.mark
def EZ(s:WS): Prop:=∀x,x∈s.xs->SZ s.clock x
theorem zC1{n:Int}{s:WS}(o:OpM)(h:EZ s)(hi:EInv n s.clock s.xs)(hn:n<=4611686018427387904)(h7:o.kind≠7): EZ (qB7 s o).1:=by
 unfold qB7
 split
 ·unfold qDq
  split
  ·split
   ·split
    ·rename_i h2 _
     intro x hx;rcases List.mem_append.1 hx with hx | hx
     ·exact h x hx
     ·rw[List.mem_singleton]at hx;subst hx;exact SZ.new h2
    ·exact h
   ·exact h
  ·exact h
 ·split
  ·unfold qUj
   split
   ·exact h
   ·rename_i x hf
    have hx:x∈s.xs:=List.mem_of_find?_eq_some hf
    split
    ·rename_i hr
     intro z hz;rcases qFt hz with hz | hz
     ·exact h z hz
     ·subst hz;exact(h x hx).acc (hi.sers x hx) o.item hr
    ·rename_i hr
     intro z hz;rcases qFt hz with hz | hz
     ·exact h z hz
     ·subst hz
      refine(h x hx).ref _ ?_;have:qI2 x s.clock o.item=0\/5<=qI2 x s.clock o.item:=by
       unfold qI2
       (repeat' split) <;> first | omega | skip
       rename_i hk _;unfold qC0 qZa qFi qJ3
       (repeat' split) <;> omega
      omega
  ·split
   ·unfold qJn
    split
    ·rename_i ha
     obtain⟨a0,a1⟩:=qCs ha;have hmx:s.clock<=qIh s.clock o.a:=by unfold qIh;split <;> omega
     split
     ·have key:=qH6 (P:=λz=>SZ (qIh s.clock o.a) z/\SInv n z) (qIh s.clock o.a) (λb x hx=>⟨hx.1.swp hx.2 b,qPy _ b hx.2⟩) o.b (s.xs.map (qDd (qIh s.clock o.a))) (λz hz=>by
         obtain⟨x,hx,rfl⟩:=List.mem_map.1 hz
         exact⟨(h x hx).tick (hi.sers x hx) hmx hi.c0 hn,qLu _ (hi.sers x hx) _⟩)
      exact λz hz=>(key z hz).1
     ·exact h
    ·exact h
   ·split
    ·unfold qHl
     split <;> exact h
    ·split
     ·unfold qHj
      split <;> exact h
     ·split
      ·exact h
      ·exact h
structure Sim (clock:Int) (x y:Ser):Prop where
 id:y.id=x.id
 k:y.k=x.k
 c:qDg x.k y.c=qDg x.k x.c
 acc:y.acc=x.acc
 rel:y.rel=x.rel
 ref:y.ref=x.ref
 last:y.last=x.last
 buf:(x.l.map (itK x.k)).Perm (y.l.map (itK x.k))
 note:NSim x.k (qDg x.k x.c) (clock-x.c.lag) x.nt y.nt
theorem Sim.head{n clock:Int}{x y:Ser}(h:Sim clock x y)(hi:SInv n x): y.c.lag=x.c.lag/\y.c.skew=x.c.skew/\y.c.cap=x.c.cap:=by
 have a:=qJb x.k x.c hi.k1 hi.k5;have b:=qJb x.k y.c hi.k1 hi.k5;rw[h.c]at b;exact⟨by rw[<-b.2.1,a.2.1],by rw[<-b.2.2.1,a.2.2.1],by rw[<-b.2.2.2,a.2.2.2]⟩
theorem Sim.len{clock:Int}{x y:Ser}(h:Sim clock x y): y.l.length=x.l.length:=by
 have:=h.buf.length_eq;rw[List.length_map,List.length_map]at this;exact this.symm
structure Both (k:Nat) (ck:Cfg) (rel last:Int) (a b:Note):Prop where
 ia:NInv k ck rel last a
 ib:NInv k ck rel last b
 za:NZ k ck rel last a
 zb:NZ k ck rel last b
 v:qA6 ck=true
 kd:ck.kind=k
theorem Sim.both{n1 n2 clock:Int}{x y:Ser}(h:Sim clock x y)(hi:SInv n1 x)(hj:SInv n2 y)(zx:NZ x.k x.c x.rel x.last x.nt)(zy:NZ y.k y.c y.rel y.last y.nt): Both x.k (qDg x.k x.c) x.rel x.last x.nt y.nt:=by
 have a:=hj.note.K;have b:=zy.K;rw[h.k,h.c,h.rel,h.last]at a b;exact⟨hi.note.K,a,zx.K,b,qT8 x.k x.c hi.k1 hi.k5 hi.valid hi.kind,by rw[(qJb x.k x.c hi.k1 hi.k5).1];exact hi.kind⟩
theorem Sim.nums{n1 n2 clock:Int}{x y:Ser}(h:Sim clock x y)(hi:SInv n1 x)(hj:SInv n2 y)(zx:SZ clock x)(zy:SZ clock y): qC5 clock y=qC5 clock x:=by
 have hh:=h.head hi;have hb:=h.both hi hj zx.note zy.note;have e1:qBt y.k y.c=qBt x.k x.c:=by
  rw[h.k,<-zFh x.k x.c hi.k1 hi.k5 hi.valid hi.kind,<-h.c,zFh x.k y.c hi.k1 hi.k5 hj.valid (by rw[hj.kind,h.k])]
 have e2:qG6 y.k y.c y.nt (clock-y.c.lag)=qG6 x.k x.c x.nt (clock-x.c.lag):=by
  rw[hh.1,h.k,<-zJw x.k x.c x.nt _ hi.k1 hi.k5,<-zJw x.k y.c y.nt _ hi.k1 hi.k5,h.c];exact(h.note.sav hi.k1 hi.k5 hb.za hb.zb (List.nodup_append.1 zx.nod).2.1).symm
 have e3:qG2 y.k (Qi.allL (y.l.length+1) y.l)=qG2 x.k (Qi.allL (x.l.length+1) x.l):=by
  rw[h.k,h.len,<-zFn x.k _ hi.k1 hi.k5,<-zD3 (x.l.length+1) hi.heap hj.heap (List.nodup_append.1 zx.nod).1 h.buf,zFn x.k _ hi.k1 hi.k5]
 unfold qC5 qI5;rw[e1,e2,e3,h.id,h.ref,h.rel,h.len]
def zFp(k:Nat)(c:Cfg)(m:Int)(nt:Note): Note :=
 if k=1 then { qC8 with bs:=nt.bs }
 else if k=2 then { qC8 with rg:=λj=>qD6 c m (nt.rg j) }
 else if k=3 then { qC8 with op:=(qT5 (qBb c nt.op nt.cl (m-c.window))).1,cl:=(qT5 (qBb c nt.op nt.cl (m-c.window))).2 }
 else if k=4 then { qC8 with q:=nt.q,r:=nt.r }
 else { qC8 with tk:=((Dr.allL (nt.tk.length+1) nt.tk).map unT).foldl (qG4 c) [] }
def zDd(clock:Int)(x:Ser): Ser:=⟨x.id,qDg x.k x.c,x.k,x.rel+(x.l.length:Int),x.rel,qIg x.ref 7,qI6 x.k (Qi.allL (x.l.length+1) x.l),zFp x.k (qDg x.k x.c) (clock-x.c.lag) x.nt,x.last⟩
theorem foldT(c:Cfg): ∀(ys:List It) (l:List Dr.It),Dr.HeapT l->(∀y,y∈ys->Dr.dpos (tick c y))->(l.length:Int)+ys.length<=c.size+1->Dr.HeapT (ys.foldl (qG4 c) l)/\(ys.foldl (qG4 c) l).Perm (ys.map (tick c)++l):=by
 intro ys
 induction ys with
 | nil=>intro l h _ _;exact⟨h,List.Perm.refl _⟩
 | cons y ys ih =>
  intro l h hd hl;rw[List.length_cons]at hl;obtain⟨g1,D,g2,g3⟩:=qJj c y h (hd y (by simp));rw[if_neg (by omega)]at g3;have hD:D=[]:=List.length_eq_zero_iff.1 (by omega);subst hD;have hlen:=g2.length_eq;rw[List.nil_append,List.length_cons]at hlen;obtain⟨i1,i2⟩:=ih (qG4 c l y) g1 (λz hz=>hd z (by simp[hz])) (by omega);refine⟨i1,i2.trans ?_⟩;refine(List.Perm.append_left _ g2).trans ?_;rw[List.map_cons,List.cons_append];exact List.perm_middle
theorem qV6{c:Cfg}{rel last:Int}{nt:Note}(h:NZ 5 c rel last nt):
  Dr.HeapT (((Dr.allL (nt.tk.length+1) nt.tk).map unT).foldl (qG4 c) [])/\(((Dr.allL (nt.tk.length+1) nt.tk).map unT).foldl (qG4 c) []).Perm nt.tk:=by
 obtain⟨h1,h2,h3⟩:=h.drw rfl;have hp:=(Dr.allL_spec (nt.tk.length+1) nt.tk (by omega) h1).1
 have:=foldT c ((Dr.allL (nt.tk.length+1) nt.tk).map unT) [] ⟨λj hj=>by simp at hj,λi _ hi=>by simp at hi⟩ (λy hy=>by
    obtain⟨z,hz,rfl⟩:=List.mem_map.1 hy;exact qLt (h3 z (hp.subset hz)).2.1) (by;rw[List.length_map,hp.length_eq];show((0:Nat):Int)+_<=_
    split at h2 <;> omega)
 refine⟨this.1,this.2.trans ?_⟩;rw[List.append_nil,List.map_map];have e:(Dr.allL (nt.tk.length+1) nt.tk).map (tick c ∘ unT)=Dr.allL (nt.tk.length+1) nt.tk:=by
  conv=>rhs;rw[<-List.map_id (Dr.allL (nt.tk.length+1) nt.tk)]
  exact List.map_congr_left (λz hz=>(h3 z (hp.subset hz)).1.symm)
 rw[e];exact hp
theorem zH3{k:Nat}{c:Cfg}{rel last:Int}{nt:Note}(m:Int)(hi:NInv k c rel last nt)(hz:NZ k c rel last nt)(k1:1<=k)(k5:k<=5)(hv:qA6 c=true)(hk:c.kind=k)(hl:0<=last):
  NInv k c rel last (zFp k c m nt)/\NZ k c rel last (zFp k c m nt)/\NSim k c m nt (zFp k c m nt):=by
 have hr:=hi.rel0;rcases five k1 k5 with e | e | e | e | e <;> subst e
 ·refine⟨⟨Int.le_refl _,hr,Int.le_refl _,(show(0:Int)<2305843009213693952 by decide),hi.one,hi.sum,λi b hb=>(by cases hb),λi=>hr,λe=>by omega,λe=>by omega,λ_=>hi.lw rfl,λe=>absurd rfl e,λ_=>List.Pairwise.nil⟩,⟨λe=>by omega,λ_=>hz.cnt rfl,λe=>by omega,λe=>by omega,λe=>by omega⟩,⟨λe=>by omega,λ_=>rfl,λe=>by omega,λe=>by omega,λe=>by omega⟩⟩
 ·obtain⟨z1,z2,z3⟩:=hz.dis rfl
  have hmem:∀i b,b∈qD6 c m (nt.rg i)->b∈nt.rg i:=λi b hb=>List.mem_of_mem_drop hb
  have hlen:∀i,(qD6 c m (nt.rg i)).length<=(nt.rg i).length:=λi=>by unfold qD6;rw[List.length_drop];omega
  refine⟨⟨Int.le_refl _,hr,Int.le_refl _,(show(0:Int)<2305843009213693952 by decide),λb hb=>(by cases hb),hr,λi b hb=>hi.rk i b (hmem i b hb),λi=>by have:=hi.rl i;have:=hlen i;show((qD6 c m (nt.rg i)).length:Int)<=rel;omega,λe=>by omega,λe=>by omega,λe=>by omega,λ_=>rfl,λi=>(hi.rf i).drop _⟩,⟨λe=>by omega,λe=>by omega,λ_=>⟨λj=>(z1 j).drop _,λj b hb=>z2 j b (hmem j b hb),?_⟩,λe=>by omega,λe=>by omega⟩,⟨λe=>by omega,λe=>by omega,λ_ j _=>?_,λe=>by omega,λe=>by omega⟩⟩
  ·have:=qSb (a:=λj=>qD6 c m (nt.rg j)) (b:=nt.rg) hlen (qFz c) 0
   show((qQ8 (λj=>qD6 c m (nt.rg j)) (qFz c) 0:Nat):Int)<=rel;omega
  ·show qD6 c m (nt.rg j)=qD6 c m (qD6 c m (nt.rg j))
   rw[qWw c m (qD6 c m (nt.rg j)),qWw,zJr (λ_ h=>h)]
 ·have hL:=(qBq hv hk rfl).2.2.1
  have hp1:=(qBq hv hk rfl).1.p0;have h1:=zD8 (t:=m-c.window) (hz.oft rfl) (hi.oi rfl) (by omega) hl hp1;obtain⟨f1,f2,_⟩:=qIs (t:=m-c.window) (hz.oft rfl) (hi.oi rfl) (by omega);refine⟨⟨Int.le_refl _,hr,Int.le_refl _,(show(0:Int)<2305843009213693952 by decide),λb hb=>(by cases hb),hr,λi b hb=>(by cases hb),λi=>hr,λ_=>h1.1,λe=>by omega,λe=>by omega,λ_=>rfl,λ_=>List.Pairwise.nil⟩,⟨λe=>by omega,λe=>by omega,λe=>by omega,λ_=>h1.2,λe=>by omega⟩,⟨λe=>by omega,λe=>by omega,λe=>by omega,λ_=>?_,λe=>by omega⟩⟩;exact(qYb _ f1 (λq hq=>(f2 q hq).1) (λq hq=>(f2 q hq).2.1)).symm
 ·refine⟨⟨hi.q0,hi.qn,hi.r0,hi.r1,λb hb=>(by cases hb),hr,λi b hb=>(by cases hb),λi=>hr,λe=>by omega,λe=>by omega,λe=>by omega,λ_=>rfl,λ_=>List.Pairwise.nil⟩,⟨λ_=>hz.dec rfl,λe=>by omega,λe=>by omega,λe=>by omega,λe=>by omega⟩,⟨λ_=>⟨rfl,rfl⟩,λe=>by omega,λe=>by omega,λe=>by omega,λe=>by omega⟩⟩
 ·obtain⟨g1,g2⟩:=qV6 hz
  obtain⟨z1,z2,z3⟩:=hz.drw rfl;refine⟨⟨Int.le_refl _,hr,Int.le_refl _,(show(0:Int)<2305843009213693952 by decide),λb hb=>(by cases hb),hr,λi b hb=>(by cases hb),λi=>hr,λe=>by omega,λ_=>?_,λe=>by omega,λ_=>rfl,λ_=>List.Pairwise.nil⟩,⟨λe=>by omega,λe=>by omega,λe=>by omega,λe=>by omega,λ_=>⟨g1,?_,λz hz=>z3 z (g2.subset hz)⟩⟩,⟨λe=>by omega,λe=>by omega,λe=>by omega,λe=>by omega,λ_=>g2.symm⟩⟩
  ·show((((Dr.allL (nt.tk.length+1) nt.tk).map unT).foldl (qG4 c) []).length:Int)<=_
   rw[g2.length_eq];exact hi.tl rfl
  ·show((((Dr.allL (nt.tk.length+1) nt.tk).map unT).foldl (qG4 c) []).length:Int)=_
   rw[g2.length_eq];exact z2
theorem zJ0{k:Nat}{c:Cfg}{rel last:Int}{nt:Note}(m:Int)(h:NX k nt)(hz:NZ k c rel last nt)(k1:1<=k)(k5:k<=5): NX k (zFp k c m nt):=by
 rcases five k1 k5 with e | e | e | e | e <;> subst e
 ·exact⟨h.bt,λi b hb=>(by cases hb),λi=>List.Pairwise.nil,λe=>by omega⟩
 ·exact⟨λb hb=>(by cases hb),λi b hb=>h.rt i b (List.mem_of_mem_drop hb),λi=>(h.rf i).drop _,λe=>by omega⟩
 ·exact⟨λb hb=>(by cases hb),λi b hb=>(by cases hb),λi=>List.Pairwise.nil,λe=>by omega⟩
 ·exact⟨λb hb=>(by cases hb),λi b hb=>(by cases hb),λi=>List.Pairwise.nil,λe=>by omega⟩
 ·exact⟨λb hb=>(by cases hb),λi b hb=>(by cases hb),λi=>List.Pairwise.nil,λ_ z hzm=>h.tt rfl z ((qV6 hz).2.subset hzm)⟩
theorem qXf{l:List Int}(hl:l.length=12)(h:∀j,j<5->qAx l j=0): qIg l 7=l:=by
 match l,hl with
 | [a0,a1,a2,a3,a4,a5,a6,a7,a8,a9,a10,a11],_ =>
  have e0:a0=0:=h 0 (by omega);have e1:a1=0:=h 1 (by omega);have e2:a2=0:=h 2 (by omega);have e3:a3=0:=h 3 (by omega);have e4:a4=0:=h 4 (by omega);subst e0;subst e1;subst e2;subst e3;subst e4;rfl
theorem zGv{x:Ser}(hh:HeapL x.l): (qI6 x.k (Qi.allL (x.l.length+1) x.l)).Perm (x.l.map (itK x.k)):=(qMe x.k _).2.trans ((qHc _ x.l (by omega) hh).map _)
theorem zBp{k:Nat}{c:Cfg}{m:Int}{nt:Note}(k1:1<=k)(k5:k<=5)(h5:k≠5): (zFp k c m nt).tk=[]:=by
 rcases five k1 k5 with e | e | e | e | e <;> subst e
 ·rfl
 ·rfl
 ·rfl
 ·rfl
 ·exact absurd rfl h5
theorem zDc{n clock:Int}{x:Ser}(hi:SInv n x)(hx:SX x)(hz:SZ clock x): SInv n (zDd clock x)/\SX (zDd clock x)/\SZ clock (zDd clock x)/\Sim clock x (zDd clock x):=by
 have hb:=zGv hi.heap;have hh:=qJb x.k x.c hi.k1 hi.k5;have hv:=qT8 x.k x.c hi.k1 hi.k5 hi.valid hi.kind;have hkk:(qDg x.k x.c).kind=x.k:=by rw[hh.1];exact hi.kind
 obtain⟨c1,c2,c3⟩:=zH3 (clock-x.c.lag) hi.note.K hz.note.K hi.k1 hi.k5 hv hkk hi.last0;have hnx:=zJ0 (c:=qDg x.k x.c) (clock-x.c.lag) hx.note hz.note.K hi.k1 hi.k5;have href:qIg x.ref 7=x.ref:=qXf hi.reflen hz.ref5;have hlen:(qI6 x.k (Qi.allL (x.l.length+1) x.l)).length=x.l.length:=by rw[hb.length_eq,List.length_map]
 have hacc:x.rel+(x.l.length:Int)=x.acc:=hi.rela;have hmem:∀y,y∈(zDd clock x).l->∃z,z∈x.l/\itK x.k z=y:=λy hy=>List.mem_map.1 (hb.subset hy)
 have hnum:((zDd clock x).l.map (·.n)).Perm (x.l.map (·.n)):=by
  have:=hb.map (·.n);rw[List.map_map]at this;have e:x.l.map ((·.n) ∘ itK x.k)=x.l.map (·.n):=List.map_congr_left (λy _=>qIx x.k y);rw[e]at this;exact this
 have htk:(x.nt.tk.map (·.n)).Perm ((zDd clock x).nt.tk.map (·.n))\/(zDd clock x).nt.tk=[]:=by
  by_cases e:x.k=5
  ·exact .inl ((c3.drw e).map _)
  ·exact .inr (zBp hi.k1 hi.k5 e)
 refine⟨⟨hv,hkk,hi.k1,hi.k5,?_,?_,hi.rel0,?_,qS7 _ _,?_,?_,?_,c1,(qMe x.k _).1,hi.last0,hi.lastn,?_,?_⟩,⟨hx.id0,?_,?_,?_,hnx⟩,⟨?_,?_,?_,?_,?_,?_,?_,c2⟩,⟨rfl,rfl,zJ6 x.k x.c hi.k1 hi.k5,hacc,rfl,href,rfl,?_,c3⟩⟩
 ·show 0<=x.rel+_;rw[hacc];exact hi.acc0
 ·show x.rel+_<=n;rw[hacc];exact hi.accn
 ·show x.rel+((qI6 x.k (Qi.allL (x.l.length+1) x.l)).length:Int)=x.rel+_;rw[hlen]
 ·show ∀v,v∈qIg x.ref 7->_;rw[href];exact hi.refn
 ·show((qI6 x.k (Qi.allL (x.l.length+1) x.l)).length:Int)<=(qDg x.k x.c).cap;rw[hlen,hh.2.2.2];exact hi.cap
 ·intro y hy;obtain⟨z,h1,h2⟩:=hmem y hy;rw[<-h2,qRn];exact hi.times z h1
 ·intro y hy;obtain⟨z,h1,h2⟩:=hmem y hy;rw[<-h2,qRn];exact hi.lastl z h1
 ·intro y hy;obtain⟨z,h1,h2⟩:=hmem y hy;rw[<-h2];show qC0 (qDg x.k x.c) x.k (itK x.k z)=0;rw[zAc x.k x.c z hi.k1 hi.k5];exact hi.fits z h1
 ·show x.rel+_<=_;rw[hacc];exact hx.accm
 ·intro y hy;obtain⟨z,h1,h2⟩:=hmem y hy;rw[<-h2,qIx];exact hx.nums z h1
 ·show ∀v,v∈qIg x.ref 7->_;rw[href];exact hx.refm
 ·show ∀j,j<5->qAx (qIg x.ref 7) j=0;rw[href];exact hz.ref5
 ·intro y hy;obtain⟨z,h1,h2⟩:=hmem y hy;rw[<-h2,qRn];show clock-(qDg x.k x.c).lag<z.t/\z.t<=clock+(qDg x.k x.c).skew;rw[hh.2.1,hh.2.2.1];exact hz.due z h1
 ·intro y hy;obtain⟨z,h1,h2⟩:=hmem y hy;rw[<-h2,qIx];show 1<=z.n/\z.n<=x.rel+_;rw[hacc];exact hz.num z h1
 ·intro z hzm
  show 1<=z.n/\z.n<=x.rel+_;rw[hacc]
  by_cases e:x.k=5
  ·exact hz.tkn z ((c3.drw e).symm.subset hzm)
  ·have e2:(zDd clock x).nt.tk=[]:=zBp hi.k1 hi.k5 e
   rw[e2]at hzm;cases hzm
 ·rcases htk with h | h
  ·exact(hnum.append h.symm).nodup_iff.2 hz.nod
  ·rw[h,List.map_nil,List.append_nil]
   exact hnum.nodup_iff.2 (List.nodup_append.1 hz.nod).1
 ·show x.rel<=qEn (qDg x.k x.c) clock
  have:qEn (qDg x.k x.c) clock=qEn x.c clock:=by unfold qEn;rw[hh.2.1,hh.2.2.2]
  rw[this];exact hz.most
 ·intro h;show x.last<=clock-(qDg x.k x.c).lag;rw[hh.2.1];exact hz.mark h
 ·exact((qMe x.k _).2.trans (by
       refine List.Perm.trans ?_ ((qHc (x.l.length+1) x.l (by omega) hi.heap).map _)
       exact List.Perm.refl _)).symm.trans (by
     have e:(qI6 x.k (Qi.allL (x.l.length+1) x.l)).map (itK x.k)=qI6 x.k (Qi.allL (x.l.length+1) x.l):=by
      conv=>rhs;rw[<-List.map_id (qI6 x.k (Qi.allL (x.l.length+1) x.l))]
      refine List.map_congr_left (λy hy=>?_);obtain⟨z,_,h2⟩:=hmem y hy;rw[<-h2,zCv];rfl
     show(qI6 x.k _).Perm ((qI6 x.k _).map (itK x.k))
     rw[e])
end
end Go.Proofs.YtahnliehdjncdabGreatDoor
