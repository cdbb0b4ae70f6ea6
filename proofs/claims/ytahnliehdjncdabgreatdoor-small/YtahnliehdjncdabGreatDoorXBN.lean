import Derived.Test.YtahnliehdjncdabGreatDoorXBM
import Derived.Test.YtahnliehdjncdabGreatDoorXBA
import Derived.Test.YtahnliehdjncdabGreatDoorXBE
import Derived.Test.YtahnliehdjncdabGreatDoorXBB
import Derived.Test.YtahnliehdjncdabGreatDoorXBI
import Derived.Laws.AppendOwnNone
import Derived.Test.YtahnliehdjncdabGreatDoorXAB
set_option maxRecDepth 100000
set_option maxHeartbeats 16000000
namespace Go.Proofs.YtahnliehdjncdabGreatDoor
section
open Go.RowKit
attribute [local go_sem ↓] qAb qAe qE7 qE9 qFz qCy
attribute [local go_sem] qAg qAl qAd qAc qAo qAn qAj qAk
def zDu: List Value:=o1.cells++o6.cells
def qK7(b:ByteArray): List Value:=(l7 b).cells++(o5.cells++(l7 qAa).cells)
theorem zEh(w:World): (qBs 34 #[(0,.int .i64 6)]).run Tryz.prog w=.ok (.value (.agg o6.cells.toArray)) w:=by kernel_rfl
theorem zD4(b:ByteArray)(w:World): (qBs 34 #[(0,.int .i64 7),(6,.string b)]).run Tryz.prog w=.ok (.value (.agg (l7 b).cells.toArray)) w:=by kernel_rfl
theorem zB5(w:World): (qBs 34 #[(0,.int .i64 7)]).run Tryz.prog w=.ok (.value (.agg (l7 qAa).cells.toArray)) w:=by kernel_rfl
theorem zBm(w:World): (qWa 22 2 #[(0,.agg o1.cells.toArray),(1,.agg o6.cells.toArray)]).run Tryz.prog w =
  .ok (.value (.slice (some ⟨w.heap.size,0,none⟩) 2 2)) (w.alloc (.cells zDu.toArray 34)):=by kernel_rfl
theorem zC2(b:ByteArray)(w:World): (qWa 22 3 #[(0,.agg (l7 b).cells.toArray),(1,.agg o5.cells.toArray),(2,.agg (l7 qAa).cells.toArray)]).run Tryz.prog w =
  .ok (.value (.slice (some ⟨w.heap.size,0,none⟩) 3 3)) (w.alloc (.cells (qK7 b).toArray 34)):=by kernel_rfl
theorem qIb{w:World}{b:Nat}{L:List Value}{T:TypeId}(h:Blk w b L T)(off n:Nat)(cs:List Value)(hcs:(L.drop off).take n=cs): w.rangeAt b off cs:=by
 intro j v hv
 rw[<-hcs,List.getElem?_take]at hv
 split at hv
 ·exact h.cell (by simpa using hv)
 ·cases hv
theorem zDf(w:World)(b:Nat)(h:Blk w b zDu 34): ScriptAt w b 0 [o1,o6]:=by
 intro i o ho
 have hi:i<2:=(List.getElem?_eq_some_iff.1 ho).1
 have hi':i=0\/i=1:=by omega
 rcases hi' with h' | h'
 all_goals
  subst h'
  injection ho with ho
  subst ho
 ·exact qIb h 0 26 _ rfl
 ·exact qIb h 26 26 _ rfl
theorem qWo(w:World)(b:Nat)(h:Blk w b (qK7 B7) 34): ScriptAt w b 0 qIg:=by
 intro i o ho
 have hi:i<3:=(List.getElem?_eq_some_iff.1 ho).1
 have hi':i=0\/i=1\/i=2:=by omega
 rcases hi' with h' | h' | h'
 all_goals
  subst h'
  injection ho with ho
  subst ho
 ·exact qIb h 0 26 _ rfl
 ·exact qIb h 26 26 _ rfl
 ·exact qIb h 52 26 _ rfl
theorem zEc: qJp [o1,o6]:=by
 intro o ho
 simp at ho
 rcases ho with h | h <;> subst h <;> decide
theorem qZg{α:Type _}(l:List α)(h:l.length=2): ∃a b,l=[a,b]:=by
 match l,h with
 | [a,b],_=>exact⟨a,b,rfl⟩
theorem qT7{α:Type _}(l:List α)(h:l.length=3): ∃a b c,l=[a,b,c]:=by
 match l,h with
 | [a,b,c],_=>exact⟨a,b,c,rfl⟩
attribute [local go_sem] zA7 zDs zEw zEh zD4 zB5 zBm zC2
theorem qT8(w:World)(hT:Tab w): Calls Tryz.prog 8 #[] w λe w'=>e=.returned (.bool true)/\Keeps (λ_=>False) w w':=by
 have hst:∀zs:List Value,zs.length=20->(qCp 32 (.pointer (some ⟨w.heap.size,0,none⟩)) (.agg c0.cells.toArray)).run Tryz.prog (w.alloc (.cells zs.toArray 32))=.ok .skip (w.alloc (.cells c0.cells.toArray 32)):=λzs hz=>qHp w zs c0.cells hz rfl (by simp[Cfg.cells,Value.oneCell'])
 have hv1:qAp (w.alloc (.cells c0.cells.toArray 32)) w.heap.size 0 20=.agg c0.cells.toArray:=qAf w c0.cells 32 20 rfl
 have hh1:qAw (w.alloc (.cells c0.cells.toArray 32)) w.heap.size 0 20=true:=qB7 w c0.cells 32 20 rfl
 have HK0:=hide (((Keeps.refl (λ_=>False) w).alloc (.cells c0.cells.toArray 32)).alloc (.cells zDu.toArray 34))
 have HB0:=hide (show Blk ((w.alloc (.cells c0.cells.toArray 32)).alloc (.cells zDu.toArray 34)) (w.heap.size+1) zDu 34 from Blk.newAt (by simp) _ _)
 have HTT:=hide hT
 clear hT
 go_enter Tryz.func8,Tryz.ntmps8
 go_wp2_with fail
 refine(qRg (w.heap.size+1) 0 2 [o1,o6] _ (zDf _ _ (uh HB0)) (uh HB0).lt (by decide) ((uh HTT).keeps (uh HK0) (λh=>h)) zEc).mono ?_
 rintro r w1 ⟨v,l,rfl,hA,hM,hBs,hk1⟩
 rw[zBv]at hM
 rw[two_bytes]at hBs
 obtain⟨x0,x1,hl2⟩:=qZg l (by have:=congrArg List.length hM;simpa using this)
 subst hl2
 simp only[List.map_cons,List.map_nil,List.cons.injEq,Prod.mk.injEq,and_true]at hM hBs
 obtain⟨⟨k0,m0⟩,k1,m1⟩:=hM
 obtain⟨_,hb1⟩:=hBs
 obtain⟨g,cap,hv,hc⟩:=qNq hA (by simp)
 have hne:B7.toList.isEmpty=false:=by
  cases hb:B7.toList.isEmpty with
  | false=>rfl
  | true =>
   have h1:=List.isEmpty_iff.1 hb
   have h2:=zDa
   have h3:qAa.toList=[]:=by rw[ByteArray.toList_eq];rfl
   rw[h1,h3]at h2
   cases h2
 have HB7:=hide (show ∀(b:Nat) (w0:World),Blk w0 b (qK7 B7) 34->Tab w0->Calls Tryz.prog 11 #[.slice (some ⟨b,0,none⟩) 3 3] w0 λr w'=>∃v l,r=.returned v/\ARep w' w0.heap.size v l/\l.map (λx=>(x.code,x.nums))=[(0,[]),(0,[0,0,1]),(14,[])]/\Keeps (λ_=>False) w0 w' from λb w0 hb hT=>qM2 b 3 w0 (qWo w0 b hb) hb.lt hT)
 obtain⟨bb,hbb⟩:∃bb,B7=bb:=⟨_,rfl⟩
 rw[hbb]at hb1 hne HB7
 clear hbb
 have y1:w1.cell? ⟨g,3,none⟩=some (.int .i64 0):=(hc 3 _ rfl).trans (by rw[k1])
 have y2:w1.cell? ⟨g,5,none⟩=some (.string bb):=(hc 5 _ rfl).trans (by rw[hb1])
 have HK1:=hide ((uh HK0).then hk1)
 rw[hv]
 clear hA hk1 hc hv k0 k1 m0 m1 hst hv1 hh1 HK0 HB0 hb1
 have HB2:=hide (Blk.new w1 (qK7 bb) 34)
 have HK2:=hide ((uh HK1).alloc (.cells (qK7 bb).toArray 34))
 show _
 go_wp2_with fail
 refine(uh HB7 _ _ (uh HB2) ((uh HTT).keeps (uh HK2) (λh=>h))).mono ?_
 rintro r w3 ⟨v3,l3,rfl,hA3,hM3,hk3⟩
 obtain⟨z0,z1,z2,hl3⟩:=qT7 l3 (by have:=congrArg List.length hM3;simpa using this)
 subst hl3
 simp only[List.map_cons,List.map_nil,List.cons.injEq,Prod.mk.injEq,and_true]at hM3
 obtain⟨⟨j0,_⟩,⟨j1,_⟩,j2,_⟩:=hM3
 obtain⟨g3,cap3,hv3,hc3⟩:=qNq hA3 (by simp)
 have u0:w3.cell? ⟨g3,0,none⟩=some (.int .i64 0):=(hc3 0 _ rfl).trans (by rw[j0])
 have u1:w3.cell? ⟨g3,3,none⟩=some (.int .i64 0):=(hc3 3 _ rfl).trans (by rw[j1])
 have u2:w3.cell? ⟨g3,6,none⟩=some (.int .i64 14):=(hc3 6 _ rfl).trans (by rw[j2])
 have HK3:=hide ((uh HK2).then hk3)
 rw[hv3]
 clear hA3 hk3 hc3 hv3 j0 j1 j2 y1 y2
 show _
 go_wp2
 go_ret
 exact⟨rfl,uh HK3⟩
end
section
structure PB (q:List Bk):Prop where
 sorted:∀i j,i<=j->j<q.length->(qBi q j).sz<=(qBi q i).sz
 pow:∀i,i<q.length->∃k:Nat,(qBi q i).sz=(2:Int) ^ k
structure PI (q:List Bk) (sz:Int) (e:Nat):Prop where
 pb:PB q
 he:e<=q.length
 hi:∀i,i<e->sz<=(qBi q i).sz
 lo:∀i,e<=i->i<q.length->(qBi q i).sz<sz
 szp:∃k:Nat,sz=(2:Int) ^ k
theorem qFt(k:Nat): (1:Int)<=2 ^ k:=by
 induction k with
 | zero=>decide
 | succ k ih=>rw[Int.pow_succ];omega
theorem zBd{a b:Nat}(h:(2:Int) ^ a<2 ^ b): 2*(2:Int) ^ a<=2 ^ b:=by
 have hab:a<b:=by
  rcases Nat.lt_or_ge a b with h1 | h1
  ·exact h1
  ·exfalso
   obtain⟨d,rfl⟩:=Nat.exists_eq_add_of_le h1
   have h2:(2:Int) ^ (b+d)=2 ^ b*2 ^ d:=Int.pow_add 2 b d
   have h3:=qFt d
   have h4:=qFt b
   have h5:(2:Int) ^ b*1<=2 ^ b*2 ^ d:=Int.mul_le_mul_of_nonneg_left h3 (by omega)
   omega
 obtain⟨d,rfl⟩:=Nat.exists_eq_add_of_le hab
 have h2:(2:Int) ^ (a+1+d)=2 ^ a*2*2 ^ d:=by rw[Int.pow_add,Int.pow_succ]
 have h3:=qFt d
 have h4:=qFt a
 have h5:(2:Int) ^ a*2*1<=2 ^ a*2*2 ^ d:=Int.mul_le_mul_of_nonneg_left h3 (by omega)
 rw[h2]
 omega
theorem qDm(a b:List Bk)(i:Nat)(h:i<a.length): qBi (a++b) i=qBi a i:=by
 unfold qBi;rw[List.getD_eq_getElem?_getD,List.getD_eq_getElem?_getD,List.getElem?_append_left h]
theorem qDb(a b:List Bk)(i:Nat)(h:a.length<=i): qBi (a++b) i=qBi b (i-a.length):=by
 unfold qBi;rw[List.getD_eq_getElem?_getD,List.getD_eq_getElem?_getD,List.getElem?_append_right h]
theorem qV4(l:List Bk)(n i:Nat)(h:i<n): qBi (l.take n) i=qBi l i:=by
 unfold qBi;rw[List.getD_eq_getElem?_getD,List.getD_eq_getElem?_getD,List.getElem?_take,if_pos h]
theorem qG2(l:List Bk)(n i:Nat): qBi (l.drop n) i=qBi l (n+i):=by
 unfold qBi;rw[List.getD_eq_getElem?_getD,List.getD_eq_getElem?_getD,List.getElem?_drop]
theorem qYi(l:List Bk)(s:Nat)(x:Bk)(h:s+2<=l.length)(i:Nat): qBi (qB6 l s x) i=if i<s then qBi l i else if i=s then x else qBi l (i+1):=by
 have hl:(l.take s).length=s:=by simp;omega
 unfold qB6
 by_cases h1:i<s
 ·rw[if_pos h1,List.append_assoc,qDm _ _ _ (by omega),qV4 _ _ _ h1]
 ·rw[if_neg h1]
  by_cases h2:i=s
  ·rw[if_pos h2,List.append_assoc,qDb _ _ _ (by omega),hl,h2,Nat.sub_self];rfl
  ·rw[if_neg h2,qDb _ _ _ (by simp;omega),qG2]
   congr 1
   simp;omega
theorem PB.drop{q:List Bk}(h:PB q)(n:Nat): PB (q.drop n):=by
 refine⟨λi j hij hj=>?_,λi hi=>?_⟩
 ·rw[qG2,qG2]
  exact h.sorted _ _ (by omega) (by rw[List.length_drop]at hj;omega)
 ·rw[qG2]
  exact h.pow _ (by rw[List.length_drop]at hi;omega)
theorem PI.start{q:List Bk}(h:PB q)(t:Int): PI (q++[⟨1,t⟩]) 1 (q++[(⟨1,t⟩:Bk)]).length:=by
 have hone:∀i,i<(q++[(⟨1,t⟩:Bk)]).length->∃k:Nat,(qBi (q++[⟨1,t⟩]) i).sz=(2:Int) ^ k:=by
  intro i hi
  by_cases h1:i<q.length
  ·rw[qDm _ _ _ h1];exact h.pow i h1
  ·rw[qDb _ _ _ (by omega)]
   have:i-q.length=0:=by simp at hi;omega
   rw[this]
   exact⟨0,rfl⟩
 refine⟨⟨λi j hij hj=>?_,hone⟩,Nat.le_refl _,λi hi=>?_,λi h1 h2=>by omega,0,rfl⟩
 ·by_cases h1:j<q.length
  ·rw[qDm _ _ _ h1,qDm _ _ _ (by omega)];exact h.sorted i j hij h1
  ·have:j-q.length=0:=by simp at hj;omega
   rw[qDb _ _ j (by omega),this]
   show(1:Int)<=_
   obtain⟨k,hk⟩:=hone i (by omega)
   rw[hk];exact qFt k
 ·obtain⟨k,hk⟩:=hone i hi
  rw[hk];exact qFt k
theorem qP0{q:List Bk}{sz:Int}{e:Nat}(h:PI q sz e)(i:Nat)(hi:i<qBb q sz e): sz<(qBi q i).sz:=by
 have hle:=qH8 q sz e
 have h1:=h.hi i (by omega)
 have hne:(qBi q (qBb q sz e-1)).sz≠sz:=by
  generalize hs:qBb q sz e=s at *
  clear h1 h
  induction e with
  | zero=>simp[qBb]at hs;omega
  | succ e ih =>
   unfold qBb at hs
   split at hs
   ·exact ih hs (by have:=qH8 q sz e;omega)
   ·rename_i hc
    rw[<-hs];exact hc
 have h2:=h.hi (qBb q sz e-1) (by omega)
 have h3:=h.pb.sorted i (qBb q sz e-1) (by omega) (by have:=h.he;omega)
 omega
theorem PI.step{q:List Bk}{sz:Int}{e:Nat}(h:PI q sz e)(h2:qBb q sz e+2<=e)(t:Int): PI (qB6 q (qBb q sz e) ⟨2*sz,t⟩) (2*sz) (qBb q sz e+1):=by
 have hb:=qP0 h
 have hin:=qFa q sz e
 obtain⟨kz,hkz⟩:=h.szp
 have hz1:=qFt kz
 generalize qBb q sz e=s at *
 have hlen:=qCq (⟨2*sz,t⟩:Bk) (l:=q) (i:=s) (by have:=h.he;omega)
 have he:=h.he
 have hat:=qYi q s ⟨2*sz,t⟩ (by omega)
 have hbig:∀i,i<s->2*sz<=(qBi q i).sz:=by
  intro i hi
  obtain⟨k,hk⟩:=h.pb.pow i (by omega)
  have:=hb i hi
  rw[hk,hkz]at this ⊢
  exact zBd this
 have hsm:∀i,s<=i->i<q.length->(qBi q i).sz<=sz:=by
  intro i h1 h3
  have:=h.pb.sorted s i h1 h3
  rw[hin s (Nat.le_refl _) (by omega)]at this
  exact this
 refine⟨⟨λi j hij hj=>?_,λi hi=>?_⟩,by omega,λi hi=>?_,λi h1 h3=>?_,kz+1,by rw[Int.pow_succ,<-hkz];omega⟩
 ·rw[hat,hat]
  by_cases j1:j<s
  ·rw[if_pos j1,if_pos (by omega)];exact h.pb.sorted i j hij (by omega)
  ·rw[if_neg j1]
   by_cases j2:j=s
   ·rw[if_pos j2]
    by_cases i1:i<s
    ·rw[if_pos i1];exact hbig i i1
    ·rw[if_neg i1,if_pos (by omega)];exact Int.le_refl _
   ·rw[if_neg j2]
    have hj':=hsm (j+1) (by omega) (by omega)
    by_cases i1:i<s
    ·rw[if_pos i1];have:=hbig i i1;omega
    ·rw[if_neg i1]
     by_cases i2:i=s
     ·rw[if_pos i2];show _<=2*sz;omega
     ·rw[if_neg i2];exact h.pb.sorted (i+1) (j+1) (by omega) (by omega)
 ·rw[hat]
  by_cases i1:i<s
  ·rw[if_pos i1];exact h.pb.pow i (by omega)
  ·rw[if_neg i1]
   by_cases i2:i=s
   ·rw[if_pos i2];exact⟨kz+1,by show 2*sz=_;rw[Int.pow_succ,<-hkz];omega⟩
   ·rw[if_neg i2];exact h.pb.pow (i+1) (by omega)
 ·rw[hat]
  by_cases i1:i<s
  ·rw[if_pos i1];exact hbig i i1
  ·rw[if_neg i1,if_pos (by omega)];exact Int.le_refl _
 ·rw[hat,if_neg (by omega),if_neg (by omega)]
  have:=hsm (i+1) (by omega) (by omega)
  omega
theorem qZe{K:Int}(hK:0<=K)(f:Nat)(q:List Bk)(sz:Int)(e:Nat)(h:PI q sz e): PB (joinL K f q sz e):=by
 induction f generalizing q sz e with
 | zero=>exact h.pb
 | succ f ih =>
  unfold joinL
  split
  ·exact h.pb
  ·exact ih _ _ _ (h.step (by omega) _)
theorem zA8{c:Cfg}(hK:0<=c.k){q:List Bk}(h:PB q)(t m:Int): PB (qSy c q t m):=by
 unfold qSy qQk qM4
 exact qZe hK _ _ _ _ (PI.start (h.drop _) t)
def qE1: Nat->Ser->Int->List Int
 | 0,_,_=>[]
 | f+1,x,m=>if x.l.isEmpty then[] else if m<(itAt x.l 0).t then[] else(itAt x.l 0).t::qE1 f (qDs x m) m
theorem qOf(m:Int)(f:Nat): ∀x:Ser,x.l.length<f->HeapL x.l ->
  (x.l.map (·.t)).Perm (qE1 f x m++(qF7 f x m).l.map (·.t))/\(∀t,t∈qE1 f x m->t<=m)/\(∀t,t∈(qF7 f x m).l.map (·.t)->m<t)/\(qE1 f x m).Pairwise (·<=·) /\
   (x.k=1->(qF7 f x m).nt.bs=(qE1 f x m).foldl (λl t=>qSy x.c l t m) x.nt.bs):=by
 induction f with
 | zero=>intro x h;omega
 | succ f ih =>
  intro x hf hh
  unfold qF7 qE1
  split
  ·rename_i he
   have hnil:x.l=[]:=List.isEmpty_iff.1 he
   exact⟨List.Perm.refl _,by simp,by simp[hnil],List.Pairwise.nil,λ_=>rfl⟩
  ·rename_i he
   have hne:x.l≠[]:=λh=>he (by rw[h];rfl)
   split
   ·rename_i hm
    refine⟨List.Perm.refl _,by simp,?_,List.Pairwise.nil,λ_=>rfl⟩
    intro t ht
    obtain⟨y,hy,rfl⟩:=List.mem_map.1 ht
    have:=hh.first_mem hy
    omega
   ·rename_i hm
    obtain⟨th,tp⟩:=qGg x.l hh hne
    have hlen:(qDs x m).l.length=x.l.length-1:=takeL_length _
    have hpos:0<x.l.length:=List.length_pos_iff.2 hne
    obtain⟨h1,h2,h3,h4,h5⟩:=ih (qDs x m) (by omega) th
    have hperm:(x.l.map (·.t)).Perm ((itAt x.l 0).t::(qDs x m).l.map (·.t)):=by
     have:=(tp.map (·.t)).symm
     rw[List.map_cons]at this
     exact this
    refine⟨?_,?_,h3,?_,?_⟩
    ·refine hperm.trans ?_
     rw[List.cons_append]
     exact List.Perm.cons _ h1
    ·intro t ht
     rcases List.mem_cons.1 ht with ht | ht
     ·omega
     ·exact h2 t ht
    ·refine List.pairwise_cons.2 ⟨λt ht=>?_,h4⟩
     have h6:t∈(qDs x m).l.map (·.t):=h1.mem_iff.2 (List.mem_append.2 (.inl ht))
     have h7:t∈x.l.map (·.t):=hperm.mem_iff.2 (List.mem_cons.2 (.inr h6))
     obtain⟨y,hy,rfl⟩:=List.mem_map.1 h7
     exact hh.first_mem hy
    ·intro hk
     rw[h5 hk,List.foldl_cons]
     congr 1
     show(qV2 x.k x.c x.nt (itAt x.l 0) m).bs=_
     unfold qV2
     rw[if_neg (by omega),if_pos hk]
def qQ6: List Bk->List Int->Prop
 | [],L=>L=[]
 | b::l,L=>∃s r,L=s++r/\(s.length:Int)=b.sz/\s.getLast?=some b.t/\qQ6 l r
def HB(K:Int): List Bk->Prop
 | []=>True
 | b::l=>K*(b.sz-1)<=qCm l/\HB K l
theorem qEu(a r:List Bk): ∀L,qQ6 (a++r) L↔∃L1 L2,L=L1++L2/\qQ6 a L1/\qQ6 r L2:=by
 induction a with
 | nil =>
  intro L
  constructor
  ·intro h;exact⟨[],L,rfl,rfl,h⟩
  ·rintro ⟨L1,L2,rfl,h1,h2⟩
   have:L1=[]:=h1
   subst this;exact h2
 | cons b a ih =>
  intro L
  constructor
  ·rintro ⟨s,r',rfl,h1,h2,h3⟩
   obtain⟨L1,L2,rfl,h4,h5⟩:=(ih r').1 h3
   exact⟨s++L1,L2,by rw[List.append_assoc],⟨s,L1,rfl,h1,h2,h4⟩,h5⟩
  ·rintro ⟨L1,L2,rfl,⟨s,r',rfl,h1,h2,h3⟩,h5⟩
   exact⟨s,r'++L2,by rw[List.append_assoc],h1,h2,(ih _).2 ⟨r',L2,rfl,h3,h5⟩⟩
theorem qZm{l:List Bk}: ∀ {L:List Int},qQ6 l L->qCm l=L.length:=by
 induction l with
 | nil=>intro L h;have:L=[]:=h;subst this;rfl
 | cons b l ih =>
  rintro L ⟨s,r,rfl,h1,h2,h3⟩
  simp only[qCm,ih h3,List.length_append]
  omega
theorem qW3{b0 b1:Bk}{r:List Bk}{L:List Int}(h:qQ6 (b0::b1::r) L): qQ6 (⟨b0.sz+b1.sz,b1.t⟩::r) L:=by
 obtain⟨s0,r0,rfl,h1,h2,s1,r1,rfl,h3,h4,h5⟩:=h
 refine⟨s0++s1,r1,by rw[List.append_assoc],by simp;omega,?_,h5⟩
 rw[List.getLast?_append,h4];rfl
theorem qZl{K:Int}(a:List Bk){r r':List Bk}(hs:qCm r'=qCm r)(h:HB K (a++r))(h':HB K r'): HB K (a++r'):=by
 induction a with
 | nil=>exact h'
 | cons b a ih =>
  obtain⟨h1,h2⟩:=h
  refine⟨?_,ih h2⟩
  have e1:qCm (a++r)=qCm a+qCm r:=qCt a r
  have e2:qCm (a++r')=qCm a+qCm r':=qCt a r'
  show K*(b.sz-1)<=qCm (a++r')
  have h3:K*(b.sz-1)<=qCm (a++r):=h1
  omega
theorem qNa{K:Int}(l:List Bk)(h:HB K l): ∀p,HB K (l.drop p):=by
 induction l with
 | nil=>intro p;simp[HB]
 | cons b l ih =>
  intro p
  cases p with
  | zero=>exact h
  | succ p=>exact ih h.2 p
theorem zDj{K sz:Int}: ∀(mid rest:List Bk),(∀b∈mid,b.sz=sz)->HB K (mid++rest)->mid≠[]->K*(sz-1)<=qCm rest:=by
 intro mid
 induction mid with
 | nil=>intro rest _ _ h;exact absurd rfl h
 | cons b mid ih =>
  intro rest hm h _
  cases mid with
  | nil =>
   have:=hm b (by simp)
   rw[<-this];exact h.1
  | cons b' mid=>exact ih rest (λx hx=>hm x (by simp[hx])) h.2 (by simp)
theorem qZq{sz:Int}(mid:List Bk)(h:∀b∈mid,b.sz=sz): qCm mid=(mid.length:Int)*sz:=by
 induction mid with
 | nil=>simp[qCm]
 | cons b mid ih =>
  simp only[qCm,ih (λx hx=>h x (by simp[hx])),h b (by simp),List.length_cons]
  rw[Int.natCast_add,Int.add_mul];omega
theorem zCl{K:Int}(l:List Bk)(t:Int)(h:HB K l): HB K (l++[⟨1,t⟩]):=by
 induction l with
 | nil=>simp[HB,qCm]
 | cons b l ih =>
  refine⟨?_,ih h.2⟩
  have e:qCm (l++[⟨1,t⟩])=qCm l+qCm [⟨1,t⟩]:=qCt _ _
  have e2:qCm [(⟨1,t⟩:Bk)]=1:=rfl
  show K*(b.sz-1)<=qCm (l++[⟨1,t⟩])
  have:=h.1
  omega
theorem zBk{K sz:Int}(hK:1<=K)(hz:1<=sz)(l:List Bk)(e:Nat)(he:e<=l.length)(hgt:K+1<(e:Int)-(qBb l sz e:Int))(h:HB K l)(L:List Int)(hs:qQ6 l L):
  HB K (qB6 l (qBb l sz e) ⟨2*sz,(qBi l (qBb l sz e+1)).t⟩)/\qQ6 (qB6 l (qBb l sz e) ⟨2*sz,(qBi l (qBb l sz e+1)).t⟩) L:=by
 have hin:=qFa l sz e
 generalize qBb l sz e=i at *
 have hi2:i+2<=l.length:=by omega
 have z0:(qBi l i).sz=sz:=hin i (by omega) (by omega)
 have z1:(qBi l (i+1)).sz=sz:=hin (i+1) (by omega) (by omega)
 have hsp:=qJf l i hi2
 have hmid:l.drop (i+2)=(l.drop (i+2)).take (e-(i+2))++l.drop e:=by
  conv=>lhs;rw[<-List.take_append_drop (e-(i+2)) (l.drop (i+2))]
  rw[List.drop_drop,show i+2+(e-(i+2))=e by omega]
 have hml:((l.drop (i+2)).take (e-(i+2))).length=e-(i+2):=by simp;omega
 have hmz:∀b∈(l.drop (i+2)).take (e-(i+2)),b.sz=sz:=by
  intro b hb
  obtain⟨j,hj,rfl⟩:=List.mem_iff_getElem.1 hb
  rw[hml]at hj
  have hq:=hin (i+2+j) (by omega) (by omega)
  have:((l.drop (i+2)).take (e-(i+2)))[j]=qBi l (i+2+j):=by
   rw[List.getElem_take,List.getElem_drop]
   simp[qBi,List.getD_eq_getElem?_getD,List.getElem?_eq_getElem (show i+2+j<l.length by omega)]
  rw[this];exact hq
 have hd:=qNa l h (i+2)
 rw[hmid]at hd
 have hr:=zDj _ _ hmz hd (λh0=>by rw[h0]at hml;simp at hml;omega)
 have hsm:=qZq _ hmz
 rw[hml]at hsm
 have hsd:qCm (l.drop (i+2))=((e-(i+2):Nat):Int)*sz+qCm (l.drop e):=by
  rw[hmid,qCt,hsm]
 have hmul:K*sz<=((e-(i+2):Nat):Int)*sz:=Int.mul_le_mul_of_nonneg_right (by omega) (by omega)
 have hx:HB K ((⟨2*sz,(qBi l (i+1)).t⟩:Bk)::l.drop (i+2)):=by
  refine⟨?_,qNa l h (i+2)⟩
  show K*(2*sz-1)<=qCm (l.drop (i+2))
  have e1:K*(2*sz-1)=K*sz+K*(sz-1):=by
   rw[show 2*sz-1=sz+(sz-1) by omega,Int.mul_add]
  omega
 refine⟨?_,?_⟩
 ·unfold qB6
  rw[List.append_assoc]
  rw[hsp]at h
  refine qZl (l.take i) (r:=qBi l i::qBi l (i+1)::l.drop (i+2)) ?_ h hx
  show 2*sz+qCm (l.drop (i+2))=(qBi l i).sz+((qBi l (i+1)).sz+qCm (l.drop (i+2)))
  omega
 ·unfold qB6
  rw[List.append_assoc]
  rw[hsp]at hs
  obtain⟨L1,L2,rfl,h1,h2⟩:=(qEu _ _ _).1 hs
  refine(qEu _ _ _).2 ⟨L1,L2,rfl,h1,?_⟩
  have:=qW3 h2
  rw[z0,z1,show sz+sz=2*sz by omega]at this
  exact this
theorem qZt{K:Int}(hK:1<=K)(f:Nat): ∀(l:List Bk) (sz:Int) (e:Nat),1<=sz->e<=l.length->HB K l->∀L,qQ6 l L->HB K (joinL K f l sz e)/\qQ6 (joinL K f l sz e) L:=by
 induction f with
 | zero=>intro l sz e _ _ h L hs;exact⟨h,hs⟩
 | succ f ih =>
  intro l sz e hz he h L hs
  unfold joinL
  by_cases hc:(e:Int)-(qBb l sz e:Int)<=K+1
  ·rw[if_pos hc];exact⟨h,hs⟩
  ·rw[if_neg hc]
   have hle:=qH8 l sz e
   obtain⟨h1,h2⟩:=zBk hK hz l e he (by omega) h L hs
   exact ih _ _ _ (by omega) (by rw[qCq _ (by omega)];omega) h1 L h2
theorem qV6{s:List Int}{t:Int}(h:s.getLast?=some t)(hp:s.Pairwise (·<=·)): t∈s/\∀d∈s,d<=t:=by
 obtain⟨ys,rfl⟩:=List.getLast?_eq_some_iff.1 h
 refine⟨by simp,λd hd=>?_⟩
 rcases List.mem_append.1 hd with hd | hd
 ·exact(List.pairwise_append.1 hp).2.2 d hd t (by simp)
 ·rw[List.mem_singleton]at hd;omega
theorem zA2{T:Int}(l:List Bk): ∀L,qQ6 l L->L.Pairwise (·<=·)->(∀b∈l,b.t<=T)->∀d∈L,d<=T:=by
 induction l with
 | nil=>intro L h _ _ d hd;have:L=[]:=h;subst this;simp at hd
 | cons b l ih =>
  rintro L ⟨s,r,rfl,h1,h2,h3⟩ hp hb d hd
  obtain⟨p1,p2,_⟩:=List.pairwise_append.1 hp
  rcases List.mem_append.1 hd with hd | hd
  ·have:=(qV6 h2 p1).2 d hd
   have:=hb b (by simp)
   omega
  ·exact ih r h3 p2 (λx hx=>hb x (by simp[hx])) d hd
theorem qX5{T:Int}(l:List Bk): ∀b∈l.takeWhile (λb=>decide (b.t<=T)),b.t<=T:=by
 induction l with
 | nil=>intro b hb;simp at hb
 | cons x l ih =>
  intro b hb
  rw[List.takeWhile_cons]at hb
  split at hb
  ·rename_i hx
   rcases List.mem_cons.1 hb with hb | hb
   ·rw[hb];simpa using hx
   ·exact ih b hb
  ·simp at hb
theorem qQx(l:List Bk)(T:Int): ∀b∈l.take (pastN l T),b.t<=T:=by
 unfold pastN
 intro b hb
 rw[<-List.prefix_iff_eq_take.1 (List.takeWhile_prefix _)]at hb
 exact qX5 l b hb
theorem zA9{c:Cfg}(hK:1<=c.k)(l:List Bk)(L:List Int)(t m:Int)(h:HB c.k l)(hs:qQ6 l L)(hp:L.Pairwise (·<=·)):
  ∃D L',L=D++L'/\(∀d∈D,d<=m-c.window)/\HB c.k (qSy c l t m)/\qQ6 (qSy c l t m) (L'++[t]):=by
 have hs':=hs
 rw[<-List.take_append_drop (pastN l (m-c.window)) l]at hs'
 obtain⟨D,L',rfl,h1,h2⟩:=(qEu _ _ _).1 hs'
 refine⟨D,L',rfl,zA2 _ D h1 (List.pairwise_append.1 hp).1 (qQx l _),?_⟩
 exact qZt hK _ _ 1 _ (by omega) (Nat.le_refl _) (zCl _ t (qNa l h _)) _ ((qEu _ _ _).2 ⟨L',[t],rfl,h2,[t],[],rfl,rfl,rfl,rfl⟩)
def qRd(T:Int)(L:List Int): Int:=((L.filter (λt=>decide (T<t))).length:Int)
theorem qKc(T:Int)(a b:List Int): qRd T (a++b)=qRd T a+qRd T b:=by
 unfold qRd;rw[List.filter_append,List.length_append];omega
theorem qZr{T:Int}{a:List Int}(h:∀d∈a,T<d): qRd T a=a.length:=by
 unfold qRd
 rw[List.filter_eq_self.2 (λd hd=>by have:=h d hd;simpa using this)]
theorem qYz{T t:Int}{a:List Int}(h:t∈a)(ht:T<t): 1<=qRd T a:=by
 unfold qRd
 have:t∈a.filter (λt=>decide (T<t)):=List.mem_filter.2 ⟨h,by simpa using ht⟩
 have:=List.length_pos_of_mem this
 omega
structure Whole (c:Cfg) (T:Int) (l:List Bk) (R:List Int):Prop where
 hb:HB c.k l
 sorted:R.Pairwise (·<=·)
 parts:∃D L,R=D++L/\(∀d∈D,d<=T)/\qQ6 l L
theorem Whole.nil(c:Cfg)(T:Int): Whole c T [] []:=⟨trivial,List.Pairwise.nil,[],[],rfl,λd hd=>by simp at hd,rfl⟩
theorem Whole.later{c:Cfg}{T T':Int}{l:List Bk}{R:List Int}(h:Whole c T l R)(ht:T<=T'): Whole c T' l R:=by
 obtain⟨D,L,h1,h2,h3⟩:=h.parts
 exact⟨h.hb,h.sorted,D,L,h1,λd hd=>by have:=h2 d hd;omega,h3⟩
theorem Whole.rel{c:Cfg}{m:Int}{l:List Bk}{R:List Int}(hK:1<=c.k)(h:Whole c (m-c.window) l R)(t:Int)(ht:∀r∈R,r<=t): Whole c (m-c.window) (qSy c l t m) (R++[t]):=by
 obtain⟨D,L,rfl,h2,h3⟩:=h.parts
 obtain⟨D',L',rfl,g2,g3,g4⟩:=zA9 hK l L t m h.hb h3 (List.pairwise_append.1 h.sorted).2.1
 refine⟨g3,?_,D++D',L'++[t],by simp[List.append_assoc],?_,g4⟩
 ·refine List.pairwise_append.2 ⟨h.sorted,List.pairwise_singleton _ _,λa ha b hb=>?_⟩
  rw[List.mem_singleton]at hb
  subst hb
  exact ht a ha
 ·intro d hd
  rcases List.mem_append.1 hd with hd | hd
  ·exact h2 d hd
  ·exact g2 d hd
theorem Whole.fold{c:Cfg}{m:Int}(hK:1<=c.k): ∀(N:List Int) {l:List Bk} {R:List Int},Whole c (m-c.window) l R->(R++N).Pairwise (·<=·)->Whole c (m-c.window) (N.foldl (λl t=>qSy c l t m) l) (R++N):=by
 intro N
 induction N with
 | nil=>intro l R h _;simpa using h
 | cons t N ih =>
  intro l R h hp
  have h1:=h.rel hK t (λr hr=>(List.pairwise_append.1 hp).2.2 r hr t (by simp))
  have h2:=ih h1 (by simpa[List.append_assoc] using hp)
  simpa[List.append_assoc] using h2
theorem Whole.drop{c:Cfg}{T:Int}{l:List Bk}{R:List Int}(h:Whole c T l R)(n:Nat)(hn:n<=pastN l T): Whole c T (l.drop n) R:=by
 obtain⟨D,L,rfl,h2,h3⟩:=h.parts
 rw[<-List.take_append_drop n l]at h3
 obtain⟨L1,L2,rfl,g1,g2⟩:=(qEu _ _ _).1 h3
 have hs:=(List.pairwise_append.1 (List.pairwise_append.1 h.sorted).2.1).1
 refine⟨qNa l h.hb n,h.sorted,D++L1,L2,by rw[List.append_assoc],?_,g2⟩
 intro d hd
 rcases List.mem_append.1 hd with hd | hd
 ·exact h2 d hd
 ·refine zA2 _ L1 g1 hs (λb hb=>qQx l T b ?_) d hd
  exact(List.take_sublist_take_left hn).subset hb
structure BS (clock:Int) (x:Ser) (A:List Int):Prop where
 heap:HeapL x.l
 wait:∀t,t∈x.l.map (·.t)->clock-x.c.lag<t
 whole:∃R,Whole x.c (clock-x.c.lag-x.c.window) x.nt.bs R/\(∀r,r∈R->r<=clock-x.c.lag)/\(R++x.l.map (·.t)).Perm A
 pb:PB x.nt.bs
theorem qP4(m:Int)(f:Nat): ∀x:Ser,x.l.length<f->HeapL x.l->HeapL (qF7 f x m).l/\(qF7 f x m).c=x.c/\(qF7 f x m).k=x.k/\(qF7 f x m).id=x.id:=by
 induction f with
 | zero=>intro x h;omega
 | succ f ih =>
  intro x hf hh
  unfold qF7
  split
  ·exact⟨hh,rfl,rfl,rfl⟩
  ·rename_i he
   have hne:x.l≠[]:=λh=>he (by rw[h];rfl)
   split
   ·exact⟨hh,rfl,rfl,rfl⟩
   ·obtain⟨th,tp⟩:=qGg x.l hh hne
    have hlen:(qDs x m).l.length=x.l.length-1:=takeL_length _
    have hpos:0<x.l.length:=List.length_pos_iff.2 hne
    obtain⟨h1,h2,h3,h4⟩:=ih (qDs x m) (by omega) th
    exact⟨h1,h2,h3,h4⟩
theorem zB3{c:Cfg}(hK:0<=c.k)(m:Int): ∀(N:List Int) (l:List Bk),PB l->PB (N.foldl (λl t=>qSy c l t m) l):=by
 intro N
 induction N with
 | nil=>intro l h;exact h
 | cons t N ih=>intro l h;exact ih _ (zA8 hK h t m)
theorem zBl{clock nc:Int}{x:Ser}{A:List Int}(h:BS clock x A)(hk:x.k=1)(hcn:clock<=nc)(hK:1<=x.c.k): BS nc (qBg nc x) A:=by
 obtain⟨g1,g2,g3,g4,g5⟩:=qOf (nc-x.c.lag) (x.l.length+1) x (by omega) h.heap
 obtain⟨k1,k2,_,_⟩:=qP4 (nc-x.c.lag) (x.l.length+1) x (by omega) h.heap
 obtain⟨R,hw,hr,hp⟩:=h.whole
 have hbs:=g5 hk
 have hN:∀t,t∈qE1 (x.l.length+1) x (nc-x.c.lag)->clock-x.c.lag<t:=λt ht=>h.wait t (g1.mem_iff.2 (List.mem_append.2 (.inl ht)))
 unfold qBg
 generalize qE1 (x.l.length+1) x (nc-x.c.lag)=N at *
 refine⟨k1,?_,⟨R++N,?_,?_,?_⟩,?_⟩
 ·rw[k2];exact g3
 ·rw[k2,hbs]
  refine(hw.later (by omega)).fold hK N (List.pairwise_append.2 ⟨hw.sorted,g4,λa ha b hb=>?_⟩)
  have h1:=hr a ha
  have h2:=hN b hb
  omega
 ·rw[k2]
  intro r hrm
  rcases List.mem_append.1 hrm with hrm | hrm
  ·have:=hr r hrm;omega
  ·exact g2 r hrm
 ·rw[List.append_assoc]
  exact(List.Perm.append_left R g1.symm).trans hp
 ·rw[hbs];exact zB3 (by omega) _ _ _ h.pb
theorem qZa{nc b:Int}{x:Ser}{A:List Int}(h:BS nc x A)(hk:x.k=1): BS nc (qOv nc b x) A:=by
 obtain⟨R,hw,hr,hp⟩:=h.whole
 have e:(qOv nc b x).nt.bs=x.nt.bs.drop (qC3 x.c x.nt.bs (nc-x.c.lag) b).toNat:=by
  unfold qOv qL3;rw[if_pos hk]
 have hle:(qC3 x.c x.nt.bs (nc-x.c.lag) b).toNat<=pastN x.nt.bs (nc-x.c.lag-x.c.window):=by unfold qC3;omega
 refine⟨h.heap,h.wait,⟨R,?_,hr,hp⟩,?_⟩
 ·rw[e];exact hw.drop _ hle
 ·rw[e];exact h.pb.drop _
theorem zEx{clock:Int}{x:Ser}{A:List Int}(h:BS clock x A)(y:It)(hy:clock-x.c.lag<y.t): BS clock (qMw x y) (A++[y.t]):=by
 obtain⟨R,hw,hr,hp⟩:=h.whole
 obtain⟨h1,h2⟩:=qJu x.l (numbered y (x.acc+1)) h.heap
 have h3:((qMw x y).l.map (·.t)).Perm (y.t::x.l.map (·.t)):=h2.map (·.t)
 refine⟨h1,?_,⟨R,hw,hr,?_⟩,h.pb⟩
 ·intro t ht
  rcases List.mem_cons.1 (h3.mem_iff.1 ht) with ht | ht
  ·rw[ht];exact hy
  ·exact h.wait t ht
 ·refine(List.Perm.append_left R h3).trans (List.perm_middle.trans ?_)
  exact(List.Perm.cons _ hp).trans (List.perm_append_singleton _ _).symm
theorem zDn(clock id:Int)(c:Cfg)(k:Nat): BS clock (qAy id c k) [] :=
 ⟨λi _ hi=>by simp[qAy]at hi,λt ht=>by simp[qAy]at ht,⟨[],Whole.nil _ _,λr hr=>by simp at hr,List.Perm.refl _⟩,⟨λi j _ hj=>absurd hj (Nat.not_lt_zero _),λi hi=>absurd hi (Nat.not_lt_zero _)⟩⟩
def qTm(s:WS)(o:OpM)(id:Int): List Int:=if o.kind=2/\o.id=id/\(qA5 s o).2.1=0 then[o.a] else[]
structure WB (s:WS) (A:Int->List Int):Prop where
 ids:(s.xs.map (·.id)).Nodup
 none:∀id,id ∉ s.xs.map (·.id)->A id=[]
 cnt:∀x,x∈s.xs->x.k=1->BS s.clock x (A x.id)
theorem WB.same{s:WS}{A B:Int->List Int}(h:WB s A)(he:∀id,B id=A id): WB s B :=
 ⟨h.ids,λid hid=>(he id).trans (h.none id hid),λx hx hk=>by rw[he];exact h.cnt x hx hk⟩
theorem qH1{s:WS}{o:OpM}(h:o.kind≠2\/(qA5 s o).2.1≠0)(id:Int): qTm s o id=[]:=by
 unfold qTm
 rw[if_neg]
 rintro ⟨h1,_,h3⟩
 rcases h with h | h
 ·exact h h1
 ·exact h h3
theorem qK6{c:Int}(xs:List Ser): ∀(b:Int) (z:Ser),z∈(qBv c b xs).1->∃y,y∈xs/\∃b',z=qOv c b' y:=by
 induction xs with
 | nil=>intro b z hz;simp[qBv]at hz
 | cons x xs ih =>
  intro b z hz
  simp only[qBv]at hz
  rcases List.mem_cons.1 hz with hz | hz
  ·exact⟨x,by simp,b,hz⟩
  ·obtain⟨y,hy,h⟩:=ih _ z hz
   exact⟨y,by simp[hy],h⟩
theorem qIy(c:Int)(xs:List Ser): ∀b,(qBv c b xs).1.map (·.id)=xs.map (·.id):=by
 induction xs with
 | nil=>intro b;rfl
 | cons x xs ih=>intro b;simp only[qBv,List.map_cons,ih];rfl
theorem qDu{xs:List Ser}{id:Int}{x:Ser}(h:qCi xs id=some x): ∃l1 l2,xs=l1++x::l2/\x.id=id/\∀y:Ser,qHd xs id y=l1++y::l2:=by
 obtain⟨hp,l1,l2,he,hn⟩:=List.find?_eq_some_iff_append.1 h
 refine⟨l1,l2,he,by simpa using hp,λy=>?_⟩
 subst he
 clear h
 induction l1 with
 | nil=>simp[qHd];intro h0;exact absurd (by simpa using hp) h0
 | cons a l1 ih =>
  have ha:=hn a (by simp)
  simp only[List.cons_append,qHd]
  rw[if_neg (by simpa using ha),ih (λz hz=>hn z (by simp[hz]))]
theorem zAp{s:WS}{A B:Int->List Int}(h:WB s A){id:Int}{x y:Ser}(hf:qCi s.xs id=some x)(hid:y.id=x.id)(hb:∀i,i≠id->B i=A i)(hk:y.k=x.k)(hy:x.k=1->BS s.clock x (A x.id)->BS s.clock y (B id)): WB ⟨s.clock,qHd s.xs id y⟩ B:=by
 obtain⟨l1,l2,he,hx,hu⟩:=qDu hf
 have hm:(qHd s.xs id y).map (·.id)=s.xs.map (·.id):=by
  rw[hu,he];simp[hid]
 have hxm:x∈s.xs:=by rw[he];simp
 refine⟨by show((qHd s.xs id y).map _).Nodup;rw[hm];exact h.ids,λi hi=>?_,λz hz hzk=>?_⟩
 ·have hi':i ∉ s.xs.map (·.id):=by rw[<-hm];exact hi
  have hne:i≠id:=λh0=>hi' (by rw[h0,<-hx];exact List.mem_map_of_mem hxm)
  rw[hb i hne];exact h.none i hi'
 ·have hz':z∈l1++y::l2:=by rw[<-hu];exact hz
  have hnd:=h.ids
  rw[he,List.map_append,List.map_cons]at hnd
  obtain⟨_,n2,n3⟩:=List.nodup_append.1 hnd
  have n4:=(List.nodup_cons.1 n2).1
  rcases List.mem_append.1 hz' with hz1 | hz1
  ·have hne:z.id≠id:=λh0=>n3 z.id (List.mem_map_of_mem hz1) x.id (by simp) (by rw[h0,hx])
   show BS s.clock z (B z.id)
   rw[hb _ hne];exact h.cnt z (by rw[he];simp[hz1]) hzk
  ·rcases List.mem_cons.1 hz1 with hz1 | hz1
   ·subst hz1
    show BS s.clock z (B z.id)
    rw[hid,hx]
    exact hy (by rw[<-hk];exact hzk) (h.cnt x hxm (by rw[<-hk];exact hzk))
   ·have hne:z.id≠id:=λh0=>n4 (by rw[hx,<-h0];exact List.mem_map_of_mem hz1)
    show BS s.clock z (B z.id)
    rw[hb _ hne];exact h.cnt z (by rw[he];simp[hz1]) hzk
theorem qP1{x:Ser}{clock:Int}{y:It}(h:qJq x clock y=0): clock-x.c.lag<y.t:=by
 unfold qJq at h
 split at h
 ·split at h
  ·omega
  ·omega
 ·omega
theorem zCn{n:Int}{s:WS}{A:Int->List Int}(hi:EInv n s.clock s.xs)(h:WB s A)(o:OpM)(h7:o.kind≠7): WB (qA5 s o).1 (λid=>A id++qTm s o id):=by
 by_cases h1:o.kind=1
 ·have ha:=qH1 (s:=s) (o:=o) (.inl (by omega))
  simp only[ha,List.append_nil]
  unfold qA5
  rw[if_pos h1]
  unfold qCb
  split
  ·rename_i hc
   split
   ·split
    ·have hnew:o.id ∉ s.xs.map (·.id):=λhm=>by
      obtain⟨x,hx,hxi⟩:=List.mem_map.1 hm
      have:=hc.2
      unfold qCi at this
      rw[Option.isNone_iff_eq_none,List.find?_eq_none]at this
      exact this x hx (by simpa using hxi)
     refine⟨?_,λid hid=>?_,λx hx hk=>?_⟩
     ·show((s.xs++[qAy o.id o.cfg o.cfg.kind.toNat]).map (·.id)).Nodup
      rw[List.map_append]
      refine List.nodup_append.2 ⟨h.ids,by simp,λa ha b hb=>?_⟩
      simp[qAy]at hb
      subst hb
      exact λh0=>hnew (by rw[<-h0];exact ha)
     ·exact h.none id (λh0=>hid (by show id∈(s.xs++[qAy o.id o.cfg o.cfg.kind.toNat]).map (·.id);rw[List.map_append];exact List.mem_append.2 (.inl h0)))
     ·rcases List.mem_append.1 hx with hx | hx
      ·exact h.cnt x hx hk
      ·rw[List.mem_singleton]at hx;subst hx
       show BS s.clock _ (A o.id)
       rw[h.none o.id hnew];exact zDn _ _ _ _
    ·exact h
   ·exact h
  ·exact h
 by_cases h2:o.kind=2
 ·have hs:qA5 s o=qH2 s o:=by unfold qA5;rw[if_neg h1,if_pos h2]
  cases hf:qCi s.xs o.id with
  | none =>
   have e:qH2 s o=(s,2,[]):=by unfold qH2;rw[hf]
   have ha:=qH1 (s:=s) (o:=o) (.inr (by rw[hs,e];simp))
   simp only[ha,List.append_nil]
   rw[hs,e];exact h
  | some x =>
   by_cases hr:qJq x s.clock o.item=0
   ·have e:qH2 s o=(⟨s.clock,qHd s.xs o.id (qMw x o.item)⟩,0,[x.acc+1]):=by unfold qH2;rw[hf];simp only;rw[if_pos hr]
    rw[hs,e]
    refine zAp h hf rfl (λi hne=>?_) rfl (λ_ hb=>?_)
    ·show A i++qTm s o i=A i
     have:qTm s o i=[]:=by unfold qTm;rw[if_neg (λhh=>hne hh.2.1.symm)]
     rw[this,List.append_nil]
    ·show BS s.clock (qMw x o.item) (A o.id++qTm s o o.id)
     have:qTm s o o.id=[o.a]:=by unfold qTm;rw[if_pos ⟨h2,rfl,by rw[hs,e]⟩]
     rw[this]
     obtain⟨_,_,_,hx,_⟩:=qDu hf
     rw[hx]at hb
     exact zEx hb o.item (qP1 hr)
   ·have e:qH2 s o=(⟨s.clock,qHd s.xs o.id (qQ7 x (qJq x s.clock o.item).toNat)⟩,qJq x s.clock o.item,[]):=by unfold qH2;rw[hf];simp only;rw[if_neg hr]
    have ha:=qH1 (s:=s) (o:=o) (.inr (by rw[hs,e];exact hr))
    simp only[ha,List.append_nil]
    rw[hs,e]
    refine zAp h hf rfl (λi _=>rfl) rfl (λ_ hb=>?_)
    obtain⟨_,_,_,hx,_⟩:=qDu hf
    rw[hx]at hb
    exact⟨hb.heap,hb.wait,hb.whole,hb.pb⟩
 have ha:=qH1 (s:=s) (o:=o) (.inl h2)
 simp only[ha,List.append_nil]
 unfold qA5
 rw[if_neg h1,if_neg h2]
 split
 ·unfold qFv
  split
  ·split
   ·have hcn:s.clock<=qEh s.clock o.a:=by unfold qEh;split <;> omega
    have hids:((qBv (qEh s.clock o.a) o.b (s.xs.map (qBg (qEh s.clock o.a)))).1.map (·.id))=s.xs.map (·.id):=by
     rw[qIy,List.map_map]
     refine List.map_congr_left λx _=>?_
     exact(qEy _ _ _).2.2
    refine⟨by show List.Nodup _;rw[hids];exact h.ids,λid hid=>h.none id (by rw[<-hids];exact hid),λz hz hk=>?_⟩
    obtain⟨y,hy,b',rfl⟩:=qK6 _ _ _ hz
    obtain⟨x,hx,rfl⟩:=List.mem_map.1 hy
    have hkx:x.k=1:=by
     have:(qBg (qEh s.clock o.a) x).k=x.k:=(qEy _ _ _).1
     rw[<-this];exact hk
    have hv:=hi.sers x hx
    have hvc:=qD8 (k:=1) hv.valid (by rw[hv.kind,hkx]) rfl
    have hid:(qOv (qEh s.clock o.a) b' (qBg (qEh s.clock o.a) x)).id=x.id:=(qEy _ _ _).2.2
    rw[hid]
    exact qZa (zBl (h.cnt x hx hkx) hkx hcn hvc.1) ((qEy _ _ _).1.trans hkx)
   ·exact h
  ·exact h
 ·split
  ·unfold qF5;split <;> exact h
  ·split
   ·unfold qF6;split <;> exact h
   ·split <;> exact h
def qIo: WS->List OpM->Int->List Int
 | _,[],_=>[]
 | s,o::r,id=>qTm s o id++qIo (qA5 s o).1 r id
theorem zD6(l:List OpM): ∀ {n:Int} {s:WS} {A:Int->List Int},0<=n->EInv n s.clock s.xs->qJp l->WB s A->WB (qE6 s l) (λid=>A id++qIo s l id):=by
 induction l with
 | nil=>intro n s A _ _ _ h;exact h.same (λid=>by simp[qIo])
 | cons o l ih =>
  intro n s A hn hi hok h
  have ho:=hok o (by simp)
  have:=ih (n:=n+1) (by omega) (qGi o hi hn (qD9 ho)) (λp hp=>hok p (by simp[hp])) (zCn hi h o ho)
  exact this.same (λid=>by simp[qIo,List.append_assoc])
theorem qVg(l:List OpM)(o:OpM)(id:Int): ∀s,qIo s (l++[o]) id=qIo s l id++qTm (qE6 s l) o id:=by
 induction l with
 | nil=>intro s;simp[qIo,qE6]
 | cons a l ih=>intro s;simp only[List.cons_append,qIo,ih,List.append_assoc];rfl
theorem qMc(s:WS)(o:OpM)(h7:o.kind≠7): (qA5 s o).1.clock=if o.kind=3/\(qA5 s o).2.1=0/\s.clock<o.a then o.a else s.clock:=by
 by_cases h3:o.kind=3
 ·have hs:qA5 s o=qFv s o:=by unfold qA5;rw[if_neg (by omega),if_neg (by omega),if_pos h3]
  rw[hs]
  unfold qFv
  by_cases ha:inB o.a 0 4611686018427387904=true
  ·rw[if_pos ha]
   by_cases hb:inB o.b 0 100=true
   ·rw[if_pos hb]
    show qEh s.clock o.a=_
    unfold qEh
    by_cases hc:s.clock<o.a
    ·rw[if_pos hc,if_pos ⟨h3,rfl,hc⟩]
    ·rw[if_neg hc,if_neg (λh=>hc h.2.2)]
   ·rw[if_neg hb,if_neg (λh=>by have:=h.2.1;simp at this)]
  ·rw[if_neg ha,if_neg (λh=>by have:=h.2.1;simp at this)]
 ·rw[if_neg (λh=>h3 h.1)]
  unfold qA5
  split
  ·unfold qCb;split
   ·split
    ·split <;> rfl
    ·rfl
   ·rfl
  ·split
   ·unfold qH2;split
    ·rfl
    ·split <;> rfl
   ·split
    ·unfold qF5;split <;> rfl
    ·split
     ·unfold qF6;split <;> rfl
     ·first | (rw[if_neg h7];split <;> rfl) | (split <;> rfl)
theorem zDo(id:Int): ∀(l l':List Ser),l.map (λx=>(x.id,x.c))=l'.map (λx=>(x.id,x.c))->(qCi l id).map (·.c)=(qCi l' id).map (·.c):=by
 intro l
 induction l with
 | nil=>intro l' h;cases l' with
  | nil=>rfl
  | cons a l'=>simp at h
 | cons a l ih =>
  intro l' h
  cases l' with
  | nil=>simp at h
  | cons b l' =>
   simp only[List.map_cons,List.cons.injEq,Prod.mk.injEq]at h
   obtain⟨⟨h1,h2⟩,h3⟩:=h
   have:=ih l' h3
   unfold qCi at *
   rw[List.find?_cons,List.find?_cons,h1]
   cases (b.id==id)
   ·exact this
   ·simp[h2]
theorem zE3{xs:List Ser}{id:Int}{x y:Ser}(hf:qCi xs id=some x)(h1:y.id=x.id)(h2:y.c=x.c): (qHd xs id y).map (λx=>(x.id,x.c))=xs.map (λx=>(x.id,x.c)):=by
 obtain⟨l1,l2,he,_,hu⟩:=qDu hf
 rw[hu,he];simp[h1,h2]
theorem qY1(c:Int)(xs:List Ser): ∀b,(qBv c b xs).1.map (λx=>(x.id,x.c))=xs.map (λx=>(x.id,x.c)):=by
 induction xs with
 | nil=>intro b;rfl
 | cons x xs ih=>intro b;simp only[qBv,List.map_cons,ih];rfl
theorem qZ3(s:WS)(o:OpM)(id:Int)(h7:o.kind≠7): (qCi (qA5 s o).1.xs id).map (·.c)=match (qCi s.xs id).map (·.c) with
  | some c=>some c
  | none=>if o.kind=1/\o.id=id/\(qA5 s o).2.1=0 then some o.cfg else none:=by
 have key:∀(p:Prop) [Decidable p] (r:Option Cfg),¬p->r=match r with | some c=>some c | none=>if p then some o.cfg else none:=by
  intro p _ r hp;cases r with
  | none=>simp[hp]
  | some c=>rfl
 by_cases h1:o.kind=1
 ·have hs:qA5 s o=qCb s o:=by unfold qA5;rw[if_pos h1]
  rw[hs]
  unfold qCb
  by_cases ha:inB o.id 0 99=true/\(qCi s.xs o.id).isNone=true
  ·rw[if_pos ha]
   by_cases hv:qA6 o.cfg=true
   ·rw[if_pos hv]
    by_cases h6:s.xs.length<6
    ·rw[if_pos h6]
     show(qCi (s.xs++[qAy o.id o.cfg o.cfg.kind.toNat]) id).map (·.c)=_
     have e:qCi (s.xs++[qAy o.id o.cfg o.cfg.kind.toNat]) id=(qCi s.xs id).or (qCi [qAy o.id o.cfg o.cfg.kind.toNat] id):=List.find?_append
     rw[e]
     cases hf:qCi s.xs id with
     | some x=>rfl
     | none =>
      simp only[Option.none_or,Option.map_none]
      by_cases hid:o.id=id
      ·rw[if_pos ⟨h1,hid,by simp⟩]
       simp[qCi,qAy,hid]
      ·rw[if_neg (λh=>hid h.2.1)]
       simp[qCi,qAy,hid]
    ·rw[if_neg h6];exact key _ _ (λh=>by have:=h.2.2;simp at this)
   ·rw[if_neg hv];exact key _ _ (λh=>by have:=h.2.2;simp at this)
  ·rw[if_neg ha];exact key _ _ (λh=>by have:=h.2.2;simp at this)
 ·have hsame:(qCi (qA5 s o).1.xs id).map (·.c)=(qCi s.xs id).map (·.c):=by
   refine zDo id _ _ ?_
   unfold qA5
   rw[if_neg h1]
   split
   ·unfold qH2
    split
    ·rfl
    ·rename_i x hf
     split
     ·exact zE3 hf rfl rfl
     ·exact zE3 hf rfl rfl
   ·split
    ·unfold qFv
     split
     ·split
      ·show(qBv _ _ _).1.map _=_
       rw[qY1,List.map_map]
       refine List.map_congr_left λx _=>?_
       have h:=qEy (x.l.length+1) x (qEh s.clock o.a-x.c.lag)
       show((qBg _ x).id,(qBg _ x).c)=_
       unfold qBg
       rw[h.2.1,h.2.2]
      ·rfl
     ·rfl
    ·split
     ·unfold qF5;split <;> rfl
     ·split
      ·unfold qF6;split <;> rfl
      ·first | (rw[if_neg h7];split <;> rfl) | (split <;> rfl)
  rw[hsame];exact key _ _ (λh=>h1 h.1)
end
section
open Go.RowKit
attribute [local go_sem ↓] qAb qAe qDj
attribute [local go_sem] qAg qAl qAd qAc qAo qAn qAj qAk
theorem zBt(a:Option Addr)(cap:Nat)(w:World):
  Calls Tryz.prog 11 #[.slice a 0 cap] w λr w'=>∃v l,r=.returned v/\ARep w' w.heap.size v l/\l.map (λx=>(x.code,x.nums))=qLc ws0 []/\l.map (·.bs)=qSg ws0 []/\Keeps (λ_=>False) w w':=by
 obtain⟨i0,hi0,hz0,hz1,hz2⟩:=info_parts qW7
 go_enter Tryz.func11,Tryz.ntmps11
 go_wp2_with (at_make;refine wpList_make_own _ rfl _ _ _ rfl w.heap.size 38 i0 _ 3 Tryz.underlying26 hi0 hz0 hz1 _ _ _ 0 rfl rfl rfl (by rw[hz2];omega) (by unfold maxLen;omega) (by simp) ?_;intro w1 ho1 hg1)
 rw[World.size_alloc]at ho1
 have hkw1:Keeps (λ_=>False) w w1:=((Keeps.refl (λ_=>False) w).alloc _).grown hg1 (λk hk=>by cases hk)
 have HA1:=hide (show ARep w1 w.heap.size (.slice (some ⟨w.heap.size+1,0,none⟩) 0 0) [] from⟨ho1,λx hx=>by simp at hx,λx hx=>by simp at hx⟩)
 have HK1:=hide hkw1
 clear hg1 ho1 hkw1
 go_loopw [4,12] (λav i wr=>i=.int .i64 0/\av=.slice (some ⟨w.heap.size+1,0,none⟩) 0 0/\wr=w1) (λ_ _ _=>0)
 case atStart=>exact⟨rfl,rfl,rfl⟩
 case round =>
  obtain⟨rfl,rfl,rfl⟩:=hrel
  go_wp2
  go_ret
  exact⟨_,[],rfl,uh HA1,rfl,rfl,uh HK1⟩
end
section
open Go.RowKit
theorem qHv(l:List Ans)(i j:Nat)(x:Ans)(h:l[i]?=some x)(hj:j<3): (qDp l)[i*3+j]?=x.cells[j]?:=by
 induction l generalizing i with
 | nil=>simp at h
 | cons a l ih =>
  have hc:qDp (a::l)=a.cells++qDp l:=by simp[qDp]
  rw[hc]
  cases i with
  | zero =>
   have:a=x:=by simpa using h
   subst this
   rw[List.getElem?_append_left (by simp[Ans.cells];omega)]
   simp
  | succ i =>
   rw[List.getElem?_append_right (by simp[Ans.cells];omega)]
   have:=ih i (by simpa using h)
   rw[<-this]
   congr 1
   simp[Ans.cells];omega
theorem qH0{w:World}{base T c:Nat}{v:Value}{n:Nat}{l:List Value}(h:w.ownsRow base T c v n l): ∃a cap,v=.slice a n cap:=by
 rcases h.2 with ⟨h1,h2⟩ | ⟨g,cap,cur,h1,_⟩
 ·exact⟨none,0,by rw[h1,h2]⟩
 ·exact⟨_,_,h1⟩
theorem qJ9{w:World}{base:Nat}{a:Option Addr}{n cap:Nat}{l:List Ans}(h:ARep w base (.slice a n cap) l)(i:Nat)(x:Ans)(hx:l[i]?=some x):
  ∃g,a=some ⟨g,0,none⟩/\w.cell? ⟨g,i*3,none⟩=some (.int .i64 x.code)/\w.cell? ⟨g,i*3+1,none⟩=some x.nv/\w.cell? ⟨g,i*3+2,none⟩=some (.string x.bs):=by
 obtain⟨g,cap',hv,hc⟩:=qNq h (by intro h;rw[h]at hx;simp at hx)
 injection hv with h1 h2 h3
 exact⟨g,h1,hc _ _ (qHv l i 0 x hx (by omega)),hc _ _ (qHv l i 1 x hx (by omega)),hc _ _ (qHv l i 2 x hx (by omega))⟩
def qDv(l:List OpM): List Value:=l.flatMap OpM.cells
theorem qOa(a b:List OpM): qDv (a++b)=qDv a++qDv b:=by simp[qDv]
theorem qHy(l:List OpM): (qDv l).length=l.length*26:=by
 induction l with
 | nil=>rfl
 | cons a l ih =>
  have hc:qDv (a::l)=a.cells++qDv l:=by simp[qDv]
  rw[hc,List.length_append,ih,List.length_cons]
  have:a.cells.length=26:=rfl
  omega
theorem qMm(l:List OpM)(i j:Nat)(x:OpM)(h:l[i]?=some x)(hj:j<26): (qDv l)[i*26+j]?=x.cells[j]?:=by
 induction l generalizing i with
 | nil=>simp at h
 | cons a l ih =>
  have hc:qDv (a::l)=a.cells++qDv l:=by simp[qDv]
  have hl:a.cells.length=26:=rfl
  rw[hc]
  cases i with
  | zero =>
   have:a=x:=by simpa using h
   subst this
   rw[List.getElem?_append_left (by omega)]
   simp
  | succ i =>
   rw[List.getElem?_append_right (by omega)]
   have:=ih i (by simpa using h)
   rw[<-this]
   congr 1
   omega
theorem qUl(l:List OpM)(u:Value)(h:u∈qDv l): u.oneCell'=true:=by
 obtain⟨o,_,hu⟩:=List.mem_flatMap.1 h
 have:=qG5 o
 simp only[List.all_toArray,List.all_eq_true]at this
 exact this u hu
abbrev qMb(w:World)(base:Nat)(v:Value)(ops:List OpM): Prop:=w.ownsRow base 34 26 v ops.length (qDv ops)
def qN9(w:World)(v:Value)(ops:List OpM): Prop:=((∃a c,v=.slice a 0 c)/\ops=[])\/∃sb so cap,v=.slice (some ⟨sb,so,none⟩) ops.length cap/\ops.length<=cap/\ScriptAt w sb so ops/\sb<w.heap.size
theorem qSl(v:Value)(ops:List OpM)(w:World)(h:qN9 w v ops)(hlen:ops.length<=651562446090)(hT:Tab w)(hok:qJp ops):
  Calls Tryz.prog 11 #[v] w λr w'=>∃v l,r=.returned v/\ARep w' w.heap.size v l/\l.map (λx=>(x.code,x.nums))=qLc ws0 ops/\l.map (·.bs)=qSg ws0 ops/\Keeps (λ_=>False) w w':=by
 rcases h with ⟨⟨a,c,rfl⟩,rfl⟩ | ⟨sb,so,cap,rfl,h2,h3,h4⟩
 ·exact zBt a c w
 ·exact qRg sb so cap ops w h3 h4 hlen hT hok
theorem qMi{w:World}{base:Nat}{v:Value}{ops:List OpM}(h:qMb w base v ops): (v=.slice none 0 0/\ops=[])\/∃g cap,v=.slice (some ⟨g,0,none⟩) ops.length cap/\ops.length<=cap/\ScriptAt w g 0 ops/\g<w.heap.size/\base<=g/\cap<=maxLen:=by
 rcases h.2 with ⟨h1,h2⟩ | ⟨g,cap,cur,h1,h2,h3,h4,h5,h6,h7⟩
 ·exact .inl ⟨h1,List.length_eq_zero_iff.1 h2⟩
 ·refine .inr ⟨g,cap,h1,h4,?_,(Array.getElem?_eq_some_iff.1 h3).1,h2,h5⟩
  intro i o ho j u hu
  have hj:j<26:=by have:=(List.getElem?_eq_some_iff.1 hu).1;exact this
  have hi:i<ops.length:=(List.getElem?_eq_some_iff.1 ho).1
  have hf:=qMm ops i j o ho hj
  have hc:cur[i*26+j]?=some u:=by
   rw[<-h7,List.getElem?_take,if_pos (by omega),hu]at hf
   simpa using hf
  rw[Nat.zero_add]
  simp[World.cell?,h3,hc]
theorem qSd{w:World}{base:Nat}{v:Value}{ops:List OpM}(h:qMb w base v ops): qN9 w v ops:=by
 rcases qMi h with ⟨h1,h2⟩ | ⟨g,cap,h1,h2,h3,h4,_,_⟩
 ·exact .inl ⟨⟨_,_,h1⟩,h2⟩
 ·exact .inr ⟨g,0,cap,h1,h2,h3,h4⟩
def cz0: List Value:=(⟨0,0,0,0,0,cz,qAa⟩:OpM).cells
theorem zEp: (Tryz.prog.info? 34).map (λi=>(i.zero,i.size,i.bytes))=some (some (.agg cz0.toArray),26,216):=by kernel_rfl
theorem qC7{w:World}{ops:Array Oper}{rest:List Oper}{o:Oper}{a:Act}{Q:Exit->Act->World->Prop}(hgd:o.guard=none)(s x:Operand)(ho:o.op=.call { callee:=.builtin .append,args:=#[s,x],argTypes:=#[22,22] })(base:Nat)(v:Value)(A:List OpM)(hs:a.eval s=v)(hown:qMb w base v A)(u:Value)(B:List OpM)(hx:a.eval x=u)(hB:qN9 w u B)(hlen:A.length+B.length<=651562446089)(hbase:base<=w.heap.size)(h:∀ad c w',qMb w' base (.slice ad (A.length+B.length) c) (A++B)->Keeps (λi=>v.ownBlock=some i) w w'->(∀i,(Value.slice ad (A.length+B.length) c).ownBlock=some i->v.ownBlock=some i\/w.heap.size<=i)->wpList Tryz.prog ops Q rest (a.put o.dst (.slice ad (A.length+B.length) c)) w'): wpList Tryz.prog ops Q (o::rest) a w:=by
 obtain⟨i0,hi0,hz0,hz1,hz2⟩:=info_parts zEp
 by_cases hb:B=[]
 ·subst hb
  have hu:∃ad c,u=.slice ad 0 c:=by
   rcases hB with ⟨h,_⟩ | ⟨sb,so,cap,h,_⟩
   ·exact h
   ·exact⟨_,_,h⟩
  obtain⟨ad,c,rfl⟩:=hu
  obtain⟨av,ac,hv⟩:=qH0 hown
  refine qDy hgd s x 22 ho base 34 i0 26 Tryz.underlying22 hi0 v A.length (qDv A) hs hown ad c hx ?_
  have:=h av ac w (by rw[List.append_nil];rw[hv]at hown;exact hown) (Keeps.refl _ _) (by rw[hv];exact λi hi=>.inl hi)
  rw[hv]
  exact this
 ·rcases hB with ⟨_,h0⟩ | ⟨sb,so,cap,rfl,hcap,hsc,hlt⟩
  ·exact absurd h0 hb
  ·have hpos:0<B.length:=List.length_pos_iff.2 hb
   refine wpList_append_lies w hgd s x 22 ho base 34 i0 (.agg cz0.toArray) 26 216 Tryz.underlying22 hi0 hz0 hz1 hz2 (by rfl) (by omega) v A.length (qDv A) hs hown ⟨sb,so,none⟩ B.length cap (qDv B) hx (qHy B) ?_ (qUl B) hpos (by unfold maxLen;omega) (by omega) hbase w.heap.size rfl ?_
   ·intro j z hz
    have hj:j<B.length*26:=by have:=(List.getElem?_eq_some_iff.1 hz).1;rwa [qHy]at this
    have hq:j/26<B.length:=by omega
    have hf:=qMm B (j/26) (j%26) B[j/26] (List.getElem?_eq_getElem hq) (by omega)
    rw[show j/26*26+j%26=j by omega,hz]at hf
    have:=hsc (j/26) B[j/26] (List.getElem?_eq_getElem hq) (j%26) z hf.symm
    rw[Go.WideShapes.add_plain,show so+j=so+j/26*26+j%26 by omega]
    exact this
   ·intro g c w' hown' hgrow hat hlt'
    refine h (some ⟨g,0,none⟩) c w' ?_ ?_ ?_
    ·show w'.ownsRow base 34 26 _ (A++B).length (qDv (A++B))
     rw[qOa,List.length_append];exact hown'
    ·exact⟨hgrow.os,hgrow.tape,hgrow.output,hgrow.size,λk hk hn=>hgrow.block k hk (λh=>hn h.symm)⟩
    ·intro i hi
     have:g=i:=by simpa[Value.ownBlock] using hi
     subst this
     rcases hat with h1 | h1
     ·exact .inl h1
     ·exact .inr (by omega)
theorem qWz(w:World)(o:OpM): (qWa 22 1 #[(0,.agg o.cells.toArray)]).run Tryz.prog w=.ok (.value (.slice (some ⟨w.heap.size,0,none⟩) 1 1)) (w.alloc (.cells o.cells.toArray 34)):=by kernel_rfl
theorem qHb{w:World}{b:Nat}{o:OpM}(h:Blk w b o.cells 34): qN9 w (.slice (some ⟨b,0,none⟩) 1 1) [o]:=by
 refine .inr ⟨b,0,1,rfl,by simp,?_,h.lt⟩
 intro i x hx j u hu
 have hi:i=0:=by have:=(List.getElem?_eq_some_iff.1 hx).1;simp at this;omega
 subst hi
 have:o=x:=by simpa using hx
 subst this
 have:=h.cell hu
 simpa using this
end
end Go.Proofs.YtahnliehdjncdabGreatDoor
