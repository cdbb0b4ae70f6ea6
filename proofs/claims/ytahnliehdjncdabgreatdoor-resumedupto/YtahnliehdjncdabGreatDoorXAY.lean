import Derived.Test.YtahnliehdjncdabGreatDoorXAX
import Derived.Test.YtahnliehdjncdabGreatDoorXAW
import Derived.Test.YtahnliehdjncdabGreatDoorXAL
import Derived.Test.YtahnliehdjncdabGreatDoorXAD
import Derived.Test.YtahnliehdjncdabGreatDoorXAV
import Derived.Test.YtahnliehdjncdabGreatDoorXAH
set_option maxRecDepth 100000
set_option maxHeartbeats 16000000
namespace Go.Proofs.YtahnliehdjncdabGreatDoor
section
open Go.RowKit
attribute [local go_sem ↓] qAd qAe
attribute [local go_sem] qAg qAm qAb qAc qAn qAo qAf qAl
def qYz(ty:TypeId)(ps:Array (Nat×Value)): Sem Next:=do pure (.value (<-Instr.build ty ps))
theorem qNc(ρ:Operand->Value)(dst:Option Tmp)(x:Array (Nat×Operand))(ty:TypeId)(pos:String)(after:Array Edge)(guard:Option (Nat×Bool)):
  execOp ρ { dst,op:=.build 257 x,type:=ty,pos,after,guard }=qYz 257 (x.map λ(i,y)=>(i,ρ y)):=rfl
theorem qTv(c:Cfg)(q:Nat)(w:World):
  (qYz 257 #[(0,.agg c.cells.toArray),(1,.pointer (some ⟨q,0,none⟩))]).run Tryz.prog w=.ok (.value (.agg (qOy c q).toArray)) w:=by kernel_rfl
attribute [local go_sem ↓] qNc
attribute [local go_sem] qTv
theorem qQs(c:Cfg)(w:World):
  Calls Tryz.prog 169 #[c.val] w λe w'=>∃d q,e=.returned (.pointer (some ⟨d,0,none⟩))/\w.heap.size<=d/\w.heap.size<=q/\TRep w' d q none c []/\Keeps (λ_=>False) w w':=by
 obtain⟨W,hW⟩:∃W,W=w.alloc (.cells c.cells.toArray 32):=⟨_,rfl⟩
 have HB:=hide (show Blk W w.heap.size c.cells 32 by rw[hW];exact Blk.new w _ _)
 have HK:=hide (show Keeps (λ_=>False) w W by rw[hW];exact(Keeps.refl (λ_=>False) w).alloc _)
 have HW:=hide hW
 clear hW
 unfold Cfg.val
 go_enter Tryz.func169,Tryz.ntmps169
 go_wp2_with fail
 rw[show w.alloc (.cells #[.int .i64 c.kind,.int .i64 c.lag,.int .i64 c.skew,.int .i64 c.cap,.int .i64 c.k,.int .i64 c.window,.int .i64 c.bits,.int .i64 c.rows,.int .i64 c.width,.int .i64 c.panes,.int .i64 c.size,.int .i64 c.degree,.int .i64 c.half,.int .i64 c.mark,.int .i64 c.s00,.int .i64 c.s01,.int .i64 c.s10,.int .i64 c.s11,.int .i64 c.s20,.int .i64 c.s21] 32)=W from(uh HW).symm]
 generalize hcb:w.heap.size=cb at *
 have HCB:=hide hcb
 clear hcb
 have hsz0:cb<W.heap.size:=(uh HB).lt
 obtain⟨hv,hh⟩:=qBm (uh HB) 20 rfl
 go_region_held3 (λw'=>qAv w' cb 0 20=.agg c.cells.toArray/\qA3 w' cb 0 20=true)
  (first | (simp[*,qAb,qAc,qAi,qAh];done) | (go_split_ands;exact⟨(qDz hk1 (by simpa using hsz0)).1.trans (by assumption),(qDz hk1 (by simpa using hsz0)).2.trans (by assumption)⟩))
  (first | (go_at_call 214;refine(Dr.new_any _).mono ?_;rintro e W1 ⟨rfl,hr1,hk1,hz1⟩))
 go_wp2
 go_ret
 have hk1':Keeps (λ_=>False) W W1:=((Keeps.refl _ _).drew).then hk1
 have hka:∀O,Keeps (λ_=>False) W1 (W1.alloc O):=λO=>(Keeps.refl (λ_=>False) W1).alloc O
 have h2:=(uh HK).size
 have h3:=uh HCB
 have hz2:W1.heap.size=W.heap.size+1:=by simpa using hz1
 exact⟨W.heap.size+1,W.heap.size,rfl,by omega,by omega,⟨Blk.newAt hz2 (qOy c W.heap.size) 257,hr1.keeps (hka _) (λh=>h) (λ_ h=>by cases h),by omega,λg hg=>by cases hg⟩,((uh HK).then hk1').alloc _⟩
def qPh(d:Nat): Value:=.func (.func 170) #[.pointer (some ⟨d,0,none⟩)] #[]
def qPc(d:Nat): Value:=.func (.func 173) #[.pointer (some ⟨d,0,none⟩)] #[]
def qOx(d:Nat): Value:=.func (.func 172) #[.pointer (some ⟨d,0,none⟩)] #[]
def qOv(d:Nat): Value:=.func (.func 171) #[.pointer (some ⟨d,0,none⟩)] #[]
theorem qNj(c:Cfg)(w:World):
  Calls Tryz.prog 126 #[c.val] w λe w'=>∃d q,e=.returned (.agg #[qPh d,qOv d,qG1,qOx d,qPc d])/\w.heap.size<=d/\w.heap.size<=q/\TRep w' d q none c []/\Keeps (λ_=>False) w w':=by
 obtain⟨W,hW⟩:∃W,W=(w.alloc (.cells c.cells.toArray 32)).alloc (.cells #[.nilFunc,.nilFunc,.nilFunc,.nilFunc,.nilFunc] 101):=⟨_,rfl⟩
 have HT:=hide (show Blk W (w.heap.size+1) [.nilFunc,.nilFunc,.nilFunc,.nilFunc,.nilFunc] 101 by rw[hW];exact Blk.newAt (by simp) _ _)
 have HK:=hide (show Keeps (λ_=>False) w W by rw[hW];exact((Keeps.refl (λ_=>False) w).alloc _).alloc _)
 have HW:=hide hW
 have HN:=hide (qQs c W)
 clear hW
 unfold Cfg.val at *
 go_enter Tryz.func126,Tryz.ntmps126
 go_wp2_with fail
 rw[show(w.alloc (.cells #[.int .i64 c.kind,.int .i64 c.lag,.int .i64 c.skew,.int .i64 c.cap,.int .i64 c.k,.int .i64 c.window,.int .i64 c.bits,.int .i64 c.rows,.int .i64 c.width,.int .i64 c.panes,.int .i64 c.size,.int .i64 c.degree,.int .i64 c.half,.int .i64 c.mark,.int .i64 c.s00,.int .i64 c.s01,.int .i64 c.s10,.int .i64 c.s11,.int .i64 c.s20,.int .i64 c.s21] 32)).alloc (.cells #[.nilFunc,.nilFunc,.nilFunc,.nilFunc,.nilFunc] 101)=W from(uh HW).symm]
 generalize hcb:w.heap.size=cb at *
 have HCB:=hide hcb
 clear hcb
 refine(uh HN).mono ?_
 rintro e w2 ⟨d,q,rfl,hd,hq,hc2,hk2⟩
 have HC2:=hide hc2
 have HT2:=hide ((uh HT).keeps hk2 (λh=>h))
 have HK2:=hide ((uh HK).then hk2)
 have HSZ:=hide (uh HK).size
 have HLT:=hide (uh HT).lt
 clear hc2 hk2 HT HK HN
 have f0:=(uh HT2).frozen
 have q0:w2.cell? ⟨cb+1,0,none⟩=some .nilFunc:=(uh HT2).cell rfl
 have q1:w2.cell? ⟨cb+1,1,none⟩=some .nilFunc:=(uh HT2).cell rfl
 have q2:w2.cell? ⟨cb+1,2,none⟩=some .nilFunc:=(uh HT2).cell rfl
 have q3:w2.cell? ⟨cb+1,3,none⟩=some .nilFunc:=(uh HT2).cell rfl
 have q4:w2.cell? ⟨cb+1,4,none⟩=some .nilFunc:=(uh HT2).cell rfl
 go_wp2
 have hcb:=uh HCB
 have hsz:=uh HSZ
 have hkf:Keeps (λi=>i=cb+1) w2 (((((w2.setCell ⟨cb+1,0,none⟩ (qPh d)).setCell ⟨cb+1,1,none⟩ (qOv d)).setCell ⟨cb+1,2,none⟩ qG1).setCell ⟨cb+1,3,none⟩ (qOx d)).setCell ⟨cb+1,4,none⟩ (qPc d)):=(((((Keeps.refl (λi=>i=cb+1) w2).setCell (p:=⟨cb+1,0,none⟩) (Or.inl rfl) _).setCell (p:=⟨cb+1,1,none⟩) (Or.inl rfl) _).setCell (p:=⟨cb+1,2,none⟩) (Or.inl rfl) _).setCell (p:=⟨cb+1,3,none⟩) (Or.inl rfl) _).setCell (p:=⟨cb+1,4,none⟩) (Or.inl rfl) _
 refine bodyPost_ret (v:=.agg #[qPh d,qOv d,qG1,qOx d,qPc d]) (by simp[results,Tryz.results126,go_sem,q0,q1,q2,q3,q4,qPh,qOv,qG1,qOx,qPc]) rfl ⟨d,q,rfl,by omega,by omega,?_,?_⟩
 ·exact(uh HC2).keeps hkf (λh=>by have:=uh HLT;omega) (λh=>by have:=uh HLT;omega) (λg hg=>by cases hg)
 ·exact(uh HK2).trans hkf (λi hi hlt=>by omega)
end
section
open Go.RowKit
theorem qPs(c:Cfg): ∀(n s j:Nat),qGb c n s=true->s<=j->j<s+n->c.seed j=true
 | 0,s,j,_,h1,h2=>by omega
 | n+1,s,j,h,h1,h2=>by
  unfold qGb at h
  rw[Bool.and_eq_true]at h
  by_cases e:j=s
  ·rw[e];exact h.1
  ·exact qPs c n (s+1) j h.2 (by omega) (by omega)
theorem qY2{c:Cfg}{j:Nat}(h:c.seed j=true): 0<=sdA c j/\sdA c j<2305843009213693951/\0<=sdB c j/\sdB c j<2305843009213693951:=by
 match j with
 | 0=>simp only[Cfg.seed,qSw,inB,Bool.and_eq_true,decide_eq_true_eq]at h;show 0<=c.s00/\c.s00<_/\0<=c.s01/\c.s01<_;omega
 | 1=>simp only[Cfg.seed,qSw,inB,Bool.and_eq_true,decide_eq_true_eq]at h;show 0<=c.s10/\c.s10<_/\0<=c.s11/\c.s11<_;omega
 | j+2=>simp only[Cfg.seed,qSw,inB,Bool.and_eq_true,decide_eq_true_eq]at h;show 0<=c.s20/\c.s20<_/\0<=c.s21/\c.s21<_;omega
theorem qBp{c:Cfg}{k:Nat}(h:qA7 c=true)(hk:c.kind=k)(h3:k=3): c.paned/\c.rowed/\1<=qA6 c/\qA6 c<=1000/\c.panes*qA6 c=c.window:=by
 subst h3
 simp only[qA7,hk,Bool.and_eq_true]at h
 have h2:qIh c=true:=h.2.2
 simp only[qIh,qD7,inB,Bool.and_eq_true,decide_eq_true_eq,beq_iff_eq]at h2
 obtain⟨⟨r0,r1⟩,⟨w0,w1⟩,⟨p0,p1⟩,⟨n0,n1⟩,hm,hs⟩:=h2
 have hd:c.panes*(c.window/c.panes)=c.window:=by have:=Int.mul_ediv_add_emod c.window c.panes;omega
 have hl0:1<=c.window/c.panes:=by
  rcases Int.lt_or_le (c.window/c.panes) 1 with h | h
  ·have h0:0<=c.window/c.panes:=Int.ediv_nonneg (by omega) (by omega)
   have h1:c.window/c.panes=0:=by omega
   rw[h1]at hd;omega
  ·exact h
 have hl1:c.window/c.panes<=c.window:=Int.ediv_le_self _ (by omega)
 refine⟨⟨n0,n1,p0,p1⟩,⟨r0,r1,w0,w1,λj hj=>qY2 (qPs c c.rows.toNat 0 j hs (Nat.zero_le _) (by omega))⟩,hl0,by show c.window/c.panes<=1000;omega,hd⟩
theorem qCa{c:Cfg}{k:Nat}(h:qA7 c=true)(hk:c.kind=k)(h2:k=2): c.pair0/\1<=c.bits/\c.bits<=4/\1<=c.window/\c.window<=1000:=by
 subst h2
 simp only[qA7,hk,Bool.and_eq_true]at h
 have h2:qHq c=true:=h.2.2
 simp only[qHq,qD7,inB,Bool.and_eq_true,decide_eq_true_eq]at h2
 obtain⟨⟨b0,b1⟩,⟨n0,n1⟩,hs⟩:=h2
 have:=qY2 (qPs c 1 0 0 hs (Nat.le_refl _) (by omega))
 obtain⟨a0,a1,a2,a3⟩:=this
 exact⟨⟨a0,a1,a2,a3⟩,b0,b1,n0,n1⟩
theorem qDf{c:Cfg}{k:Nat}(h:qA7 c=true)(hk:c.kind=k)(h5:k=5): 1<=c.size/\c.size<=5:=by
 subst h5
 simp only[qA7,hk,Bool.and_eq_true]at h
 have h2:qKp c=true:=h.2.2
 simp only[qKp,inB,Bool.and_eq_true,decide_eq_true_eq]at h2
 omega
theorem qTp{c:Cfg}{l:List Dr.It}(y:It)(h:(l.length:Int)<=c.size+1): ((qGm c l y).length:Int)<=c.size+1:=by
 unfold qGm
 split
 ·rw[Dr.takeL_length,Dr.riseL_length,List.length_append]
  simp only[List.length_singleton]
  omega
 ·rename_i h1
  rw[Dr.riseL_length,List.length_append]
  simp only[List.length_singleton]
  omega
theorem qMt(c:Cfg)(n:Nat)(ls:Nat->List Bk)(y:It)(m:Int)(j:Nat): (qM4 c n ls y m j).length<=(ls j).length+1:=by
 unfold qM4
 split
 ·have:=qSh ((ls j).drop (Mk.pastN (ls j) (m-c.window))) ⟨y.t,qK5 (qD6 c.s00 c.s01 y.k/n)⟩
  rw[List.length_drop]at this
  omega
 ·omega
theorem qXb{c:Cfg}{n:Nat}{ls:Nat->List Bk}(h:∀i,∀b∈ls i,1<=b.t/\b.t<=40)(y:It)(m:Int): ∀i,∀b∈qM4 c n ls y m i,1<=b.t/\b.t<=40:=by
 intro i b hb
 unfold qM4 at hb
 split at hb
 ·rcases qL7 hb with h1 | h1
  ·exact h i b (List.mem_of_mem_drop h1)
  ·rw[h1];exact zBy _
 ·exact h i b hb
structure Note where
 q:Int
 r:Int
 bs:List Bk
 rg:Nat->List Bk
 op:Pa.Pn
 cl:List Pa.Pn
 tk:List Dr.It
def qFy: Note:=⟨0,0,[],λ_=>[],Pa.pn0,[],[]⟩
structure NB where
 d:Nat
 r:Nat
 g:Option Nat
 qs:List (Nat×Option Nat)
def qCz(k:Nat)(b:NB)(i:Nat): Prop :=
 (k=1/\(i=b.d\/i=b.r\/b.g=some i))\/(k=4/\i=b.d)\/(k=2/\(i=b.d\/i=b.r\/∃j,j<b.qs.length/\qf (qAt b.qs j) i)) \/
 (k=3/\(i=b.d\/i=b.r\/b.g=some i))\/(k=5/\(i=b.d\/i=b.r\/b.g=some i))
def qG6(c:Cfg): Nat:=2 ^ c.bits.toNat
structure NRep (w:World) (k:Nat) (b:NB) (c:Cfg) (nt:Note):Prop where
 dec:k=4->Blk w b.d (qDv c nt.q nt.r) 201
 cnt:k=1->CRep w b.d b.r b.g c nt.bs
 dis:k=2->DRep w b.d b.r b.qs c nt.rg/\b.qs.length=qG6 c
 oft:k=3->ORep w b.d b.r b.g c nt.op nt.cl
 drw:k=5->TRep w b.d b.r b.g c nt.tk
def qLf(k:Nat)(c:Cfg)(nt:Note)(y:It)(m:Int): Note :=
 if k=4 then { nt with q:=nt.q+(nt.r+qCb (qBf c y.t))/2305843009213693952,r:=(nt.r+qCb (qBf c y.t))%2305843009213693952 }
 else if k=1 then { nt with bs:=zAp c nt.bs y.t m }
 else if k=2 then { nt with rg:=qM4 c (qG6 c) nt.rg y m }
 else if k=3 then { nt with op:=(qK2 c nt.op nt.cl y m).1,cl:=(qK2 c nt.op nt.cl y m).2 }
 else if k=5 then { nt with tk:=qGm c nt.tk y } else nt
def qHl(k:Nat)(c:Cfg)(nt:Note)(a m:Int): Int×List Int :=
 if k=4 then(0,[nt.q,nt.r,qCb (qBf c m)])
 else if k=1 then(if inB a 1 c.window=true then(0,[zC4 nt.bs (m-a)]) else(13,[]))
 else if k=2 then zCs c (qG6 c) nt.rg a m
 else if k=3 then(if inB a 0 2147483648=true then(0,[zEk c nt.op nt.cl a m]) else(10,[]))
 else if k=5 then(0,qQh c nt.tk) else(1,[])
def qIx(k:Nat)(c:Cfg)(nt:Note)(m b:Int): Note×Int×Int :=
 if k=1 then({ nt with bs:=nt.bs.drop (qD8 c nt.bs m b).toNat },qD8 c nt.bs m b,(pastN nt.bs (m-c.window):Int)-qD8 c nt.bs m b) else(nt,0,0)
structure NInv (k:Nat) (c:Cfg) (rel last:Int) (nt:Note):Prop where
 q0:0<=nt.q
 qn:nt.q<=rel
 r0:0<=nt.r
 r1:nt.r<2305843009213693952
 one:∀b∈nt.bs,1<=b.sz
 sum:qDx nt.bs<=rel
 rk:∀i,∀b∈nt.rg i,1<=b.t/\b.t<=40
 rl:∀i,((nt.rg i).length:Int)<=rel
 oi:k=3->OInv c rel last nt.op nt.cl
 tl:k=5->(nt.tk.length:Int)<=c.size+1
theorem NInv.binv{k:Nat}{c:Cfg}{rel last:Int}{nt:Note}(h:NInv k c rel last nt)(hr:rel<=4398046511104): BInv nt.bs:=⟨h.one,by have:=h.sum;omega⟩
theorem NInv.rel0{k:Nat}{c:Cfg}{rel last:Int}{nt:Note}(h:NInv k c rel last nt): 0<=rel:=by have:=h.q0;have:=h.qn;omega
theorem qY7{K:Int}(hK:0<=K)(f:Nat)(l:List Bk)(sz:Int)(e:Nat)(h1:∀b∈l,1<=b.sz)(he:e<=l.length)(z1:1<=sz): (∀b∈joinL K f l sz e,1<=b.sz)/\qDx (joinL K f l sz e)=qDx l:=by
 induction f generalizing l sz e with
 | zero=>exact⟨h1,rfl⟩
 | succ f ih =>
  unfold joinL
  split
  ·exact⟨h1,rfl⟩
  ·rename_i h
   have hs:qCe l sz e+2<=e:=by omega
   have a1:(qB7 l (qCe l sz e)).sz=sz:=qJr l sz e _ (by omega) (by omega)
   have a2:(qB7 l (qCe l sz e+1)).sz=sz:=qJr l sz e _ (by omega) (by omega)
   have hsum:=qN2 l (qCe l sz e) ⟨2*sz,(qB7 l (qCe l sz e+1)).t⟩ (by omega) (by show 2*sz=_;omega)
   have hlen:=qEf (⟨2*sz,(qB7 l (qCe l sz e+1)).t⟩:Bk) (l:=l) (i:=qCe l sz e) (by omega)
   have:=ih (qDg l (qCe l sz e) ⟨2*sz,(qB7 l (qCe l sz e+1)).t⟩) (2*sz) (qCe l sz e+1) (qJ1 l _ _ h1 (by show 1<=2*sz;omega)) (by omega) (by omega)
   exact⟨this.1,this.2.trans hsum⟩
theorem NInv.drop{k:Nat}{c:Cfg}{rel last:Int}{nt:Note}(h:NInv k c rel last nt)(j:Nat): NInv k c rel last { nt with bs:=nt.bs.drop j }:=by
 refine⟨h.q0,h.qn,h.r0,h.r1,λb hb=>h.one b (List.mem_of_mem_drop hb),?_,h.rk,h.rl,h.oi,h.tl⟩
 have h1:=qH4 nt.bs j
 have h2:=qB2 (l:=nt.bs.take j) (λb hb=>h.one b (List.mem_of_mem_take hb))
 have h3:=h.sum
 show qDx (nt.bs.drop j)<=rel
 omega
theorem zCh{k:Nat}{c:Cfg}{rel last:Int}{nt:Note}(h:NInv k c rel last nt)(m b:Int): NInv k c rel last (qIx k c nt m b).1:=by
 unfold qIx
 split
 ·exact h.drop _
 ·exact h
theorem qC3{c:Cfg}{k:Nat}(h:qA7 c=true)(hk:c.kind=k)(h1:k=1): 1<=c.k/\c.k<=10/\1<=c.window/\c.window<=1000:=by
 subst h1
 simp only[qA7,hk,Bool.and_eq_true]at h
 have h2:countB c=true:=h.2.2
 simp only[countB,qD7,inB,Bool.and_eq_true,decide_eq_true_eq]at h2
 omega
theorem qEa{c:Cfg}{k:Nat}(hv:qA7 c=true)(hk:c.kind=k)(h4:4<=k)(h5:k<=5): c.weighs:=by
 have hd:qIj c=true:=by
  have:k=4\/k=5:=by omega
  simp only[qA7,hk,Int.toNat_natCast,Bool.and_eq_true]at hv
  rcases this with e | e
  ·have:=hv.2.2;rw[e]at this;exact this
  ·have:=hv.2.2;rw[e]at this
   simp only[qFr,qKp,Bool.and_eq_true]at this
   exact this.2
 simp only[qIj,inB,Bool.and_eq_true,decide_eq_true_eq]at hd
 exact⟨by omega,by omega,by omega,by omega,by omega,by omega⟩
theorem zBo(b:Int)(hb:1<=b)(n:Nat)(p:Int)(p1:1<=p)(p2:p<=2305843009213693952): 0<=qCb (qGt b n p)/\qCb (qGt b n p)<=2305843009213693952:=by
 induction n generalizing p with
 | zero=>simp only[qGt,qCb];omega
 | succ n ih =>
  unfold qGt
  split
  ·simp[qCb]
  ·rename_i h
   obtain⟨h1,h2⟩:=qZd p b p1 hb h
   exact ih _ h1 h2
theorem qLx(c:Cfg)(t:Int): 0<=qCb (qBf c t)/\qCb (qBf c t)<=2305843009213693952:=by
 unfold qBf
 split
 ·simp[qCb]
 ·split
  ·exact zBo _ (by omega) _ 1 (by omega) (by omega)
  ·split
   ·simp[qCb]
   ·rename_i h1 h2 h3
    have:=qMi ((t-c.mark)/c.half).toNat (by omega)
    simp only[qCb];omega
theorem zBd{k:Nat}{c:Cfg}{rel last:Int}{nt:Note}(h:NInv k c rel last nt)(hv:qA7 c=true)(hk:c.kind=k)(y:It)(m:Int)(hy:last<=y.t)(hm:y.t<=m): NInv k c (rel+1) y.t (qLf k c nt y m):=by
 have hw:=qLx c y.t
 have a:=h.q0;have b:=h.qn;have r0:=h.r0;have r1:=h.r1;have hs:=h.sum
 have hrl:∀i,((nt.rg i).length:Int)<=rel+1:=λi=>by have:=h.rl i;omega
 unfold qLf
 split
 ·rename_i h4
  exact⟨by show 0<=nt.q+_;omega,by show nt.q+_<=_;omega,by show 0<=_%_;omega,by show _%_<_;omega,h.one,by show qDx nt.bs<=_;omega,h.rk,hrl,λe=>by omega,h.tl⟩
 ·split
  ·rename_i h1
   obtain⟨k1,k2,w1,w2⟩:=qC3 hv hk h1
   have hp:∀b∈qSq c nt.bs y.t m,1<=b.sz:=λb hb=>by
    unfold qSq at hb
    rcases List.mem_append.1 hb with hb | hb
    ·exact h.one b (List.mem_of_mem_drop hb)
    ·rw[List.mem_singleton]at hb;rw[hb];exact Int.le_refl _
   have hj:=qY7 (K:=c.k) (by omega) ((qSq c nt.bs y.t m).length+1) (qSq c nt.bs y.t m) 1 _ hp (Nat.le_refl _) (by omega)
   refine⟨a,by show nt.q<=_;omega,r0,r1,hj.1,?_,h.rk,hrl,λe=>by omega,h.tl⟩
   show qDx (zAp c nt.bs y.t m)<=_
   unfold zAp
   rw[hj.2]
   have h1:=qH4 nt.bs (pastN nt.bs (m-c.window))
   have h2:=qB2 (l:=nt.bs.take (pastN nt.bs (m-c.window))) (λb hb=>h.one b (List.mem_of_mem_take hb))
   unfold qSq
   rw[qDn]
   unfold qSo
   simp only[qDx]
   omega
  ·split
   ·exact⟨a,by show nt.q<=_;omega,r0,r1,h.one,by show qDx nt.bs<=_;omega,qXb h.rk y m,λi=>by
       have h1:=qMt c (qG6 c) nt.rg y m i
       have h2:=h.rl i
       show((qM4 c (qG6 c) nt.rg y m i).length:Int)<=_
       omega,λe=>by omega,h.tl⟩
   ·split
    ·rename_i h3
     obtain⟨hp,hr,hL,hL1,hpl⟩:=qBp hv hk h3
     exact⟨a,by show nt.q<=_;omega,r0,r1,h.one,by show qDx nt.bs<=_;omega,h.rk,hrl,λ_=>zAx (h.oi h3) (by omega) y m hL hpl hp.p0 hr.r1 hy hm,h.tl⟩
    ·rename_i h3
     split
     ·rename_i h5
      exact⟨a,by show nt.q<=_;omega,r0,r1,h.one,by show qDx nt.bs<=_;omega,h.rk,hrl,λe=>(h3 e).elim,λe=>qTp y (h.tl e)⟩
     ·exact⟨a,by omega,r0,r1,h.one,by omega,h.rk,hrl,λe=>(h3 e).elim,h.tl⟩
theorem NInv.zero(k:Nat)(c:Cfg)(hv:qA7 c=true)(hk:c.kind=k): NInv k c 0 0 qFy:=by
 refine⟨Int.le_refl _,Int.le_refl _,Int.le_refl _,by show(0:Int)<_;omega,(λb hb=>(List.not_mem_nil hb).elim),by show qDx []<=0;simp[qDx],(λi b hb=>(List.not_mem_nil hb).elim),(λi=>by show((([]:List Bk).length:Nat):Int)<=0;simp),?_,?_⟩
 ·intro e
  exact OInv.zero c (qBp hv hk e).1.p0
 ·intro e
  have:=(qDf hv hk e).1
  show(0:Int)<=_
  omega
theorem NRep.keeps{M:Nat->Prop}{w w':World}{k:Nat}{b:NB}{c:Cfg}{nt:Note}(h:NRep w k b c nt)(hk:Keeps M w w')(hn:∀i,qCz k b i->¬M i): NRep w' k b c nt :=
 ⟨λh4=>(h.dec h4).keeps hk (hn _ (.inr (.inl ⟨h4,rfl⟩))),
    λh1=>(h.cnt h1).keeps hk (hn _ (.inl ⟨h1,.inl rfl⟩)) (hn _ (.inl ⟨h1,.inr (.inl rfl)⟩)) (λ_ hg=>hn _ (.inl ⟨h1,.inr (.inr hg)⟩)),
    λh2=>⟨(h.dis h2).1.keeps hk (hn _ (.inr (.inr (.inl ⟨h2,.inl rfl⟩)))) (hn _ (.inr (.inr (.inl ⟨h2,.inr (.inl rfl)⟩)))) (λi _ hi ha=>hn _ (.inr (.inr (.inl ⟨h2,.inr (.inr ⟨i,hi,ha⟩)⟩)))),(h.dis h2).2⟩,
    λh3=>(h.oft h3).keeps hk (hn _ (.inr (.inr (.inr (.inl ⟨h3,.inl rfl⟩))))) (hn _ (.inr (.inr (.inr (.inl ⟨h3,.inr (.inl rfl)⟩))))) (λ_ hg=>hn _ (.inr (.inr (.inr (.inl ⟨h3,.inr (.inr hg)⟩))))),
    λh5=>(h.drw h5).keeps hk (hn _ (.inr (.inr (.inr (.inr ⟨h5,.inl rfl⟩))))) (hn _ (.inr (.inr (.inr (.inr ⟨h5,.inr (.inl rfl)⟩))))) (λ_ hg=>hn _ (.inr (.inr (.inr (.inr ⟨h5,.inr (.inr hg)⟩)))))⟩
theorem NRep.still{w w':World}{k:Nat}{b:NB}{c:Cfg}{nt:Note}(h:NRep w k b c nt)(hk:Keeps (λ_=>False) w w'): NRep w' k b c nt:=h.keeps hk (λ_ _ h=>h)
theorem NRep.lt{w:World}{k:Nat}{b:NB}{c:Cfg}{nt:Note}(h:NRep w k b c nt)(i:Nat)(hi:qCz k b i): i<w.heap.size:=by
 rcases hi with ⟨h1,hi | hi | hi⟩ | ⟨h4,hi⟩ | ⟨h2,hi | hi | ⟨j,hj,hi | hi⟩⟩ | ⟨h3,hi | hi | hi⟩ | ⟨h5,hi | hi | hi⟩
 ·rw[hi];exact(h.cnt h1).blk.lt
 ·rw[hi];exact(h.cnt h1).row.lt.1
 ·exact((h.cnt h1).row.lt.2 i hi).1
 ·rw[hi];exact(h.dec h4).lt
 ·rw[hi];exact(h.dis h2).1.blk.lt
 ·rw[hi];exact(h.dis h2).1.reg.lt
 ·rw[hi];exact((h.dis h2).1.row j hj).lt.1
 ·exact(((h.dis h2).1.row j hj).lt.2 i hi).1
 ·rw[hi];exact(h.oft h3).blk.lt
 ·rw[hi];exact(h.oft h3).row.lt.1
 ·exact((h.oft h3).row.lt.2 i hi).1
 ·rw[hi];exact(h.drw h5).blk.lt
 ·rw[hi];exact(h.drw h5).que.lt.1
 ·exact((h.drw h5).que.lt.2 i hi).1
def zGu: Nat->Nat | 1=>145 | 2=>153 | 3=>159 | 4=>164 | _=>170
def zFn: Nat->Nat | 1=>146 | 2=>154 | 3=>160 | 4=>165 | _=>171
def zFl: Nat->Nat | 1=>147 | _=>155
def zFp: Nat->Nat | 1=>148 | 2=>156 | 3=>161 | 4=>166 | _=>172
def zCz: Nat->Nat | 1=>149 | 2=>157 | 3=>162 | 4=>167 | _=>173
def qHa(d:Nat): Array Value:=#[.pointer (some ⟨d,0,none⟩)]
def zBf(k d:Nat): Array Value:=if k=1 then #[.pointer (some ⟨d,0,none⟩)] else #[]
def relV(k d:Nat): Value:=.func (.func (zGu k)) (qHa d) #[]
def qryV(k d:Nat): Value:=.func (.func (zFn k)) (qHa d) #[]
def savV(k d:Nat): Value:=.func (.func (zFp k)) (qHa d) #[]
def lodV(k d:Nat): Value:=.func (.func (zCz k)) (qHa d) #[]
def swpV(k d:Nat): Value:=.func (.func (zFl k)) (zBf k d) #[]
theorem ownCR(args:Array Value)(w:World): (callFunc 145 args).run Tryz.prog w=.ok (.enter 145 args) w:=qA5 Tryz.func145 (by kernel_rfl) (by kernel_rfl) args w
theorem ownCQ(args:Array Value)(w:World): (callFunc 146 args).run Tryz.prog w=.ok (.enter 146 args) w:=qA5 Tryz.func146 (by kernel_rfl) (by kernel_rfl) args w
theorem ownCS(args:Array Value)(w:World): (callFunc 147 args).run Tryz.prog w=.ok (.enter 147 args) w:=qA5 Tryz.func147 (by kernel_rfl) (by kernel_rfl) args w
theorem ownDR(args:Array Value)(w:World): (callFunc 164 args).run Tryz.prog w=.ok (.enter 164 args) w:=qA5 Tryz.func164 (by kernel_rfl) (by kernel_rfl) args w
theorem ownDQ(args:Array Value)(w:World): (callFunc 165 args).run Tryz.prog w=.ok (.enter 165 args) w:=qA5 Tryz.func165 (by kernel_rfl) (by kernel_rfl) args w
theorem ownSR(args:Array Value)(w:World): (callFunc 153 args).run Tryz.prog w=.ok (.enter 153 args) w:=qA5 Tryz.func153 (by kernel_rfl) (by kernel_rfl) args w
theorem ownSQ(args:Array Value)(w:World): (callFunc 154 args).run Tryz.prog w=.ok (.enter 154 args) w:=qA5 Tryz.func154 (by kernel_rfl) (by kernel_rfl) args w
theorem ownOR(args:Array Value)(w:World): (callFunc 159 args).run Tryz.prog w=.ok (.enter 159 args) w:=qA5 Tryz.func159 (by kernel_rfl) (by kernel_rfl) args w
theorem ownOQ(args:Array Value)(w:World): (callFunc 160 args).run Tryz.prog w=.ok (.enter 160 args) w:=qA5 Tryz.func160 (by kernel_rfl) (by kernel_rfl) args w
theorem ownTR(args:Array Value)(w:World): (callFunc 170 args).run Tryz.prog w=.ok (.enter 170 args) w:=qA5 Tryz.func170 (by kernel_rfl) (by kernel_rfl) args w
theorem ownTQ(args:Array Value)(w:World): (callFunc 171 args).run Tryz.prog w=.ok (.enter 171 args) w:=qA5 Tryz.func171 (by kernel_rfl) (by kernel_rfl) args w
theorem ownSN(args:Array Value)(w:World): (callFunc 155 args).run Tryz.prog w=.ok (.enter 155 args) w:=qA5 Tryz.func155 (by kernel_rfl) (by kernel_rfl) args w
theorem zGn(args:Array Value)(w:World): (callFunc 148 args).run Tryz.prog w=.ok (.enter 148 args) w:=qA5 Tryz.func148 (by kernel_rfl) (by kernel_rfl) args w
theorem zF7(args:Array Value)(w:World): (callFunc 149 args).run Tryz.prog w=.ok (.enter 149 args) w:=qA5 Tryz.func149 (by kernel_rfl) (by kernel_rfl) args w
theorem zFw(args:Array Value)(w:World): (callFunc 156 args).run Tryz.prog w=.ok (.enter 156 args) w:=qA5 Tryz.func156 (by kernel_rfl) (by kernel_rfl) args w
theorem zGi(args:Array Value)(w:World): (callFunc 157 args).run Tryz.prog w=.ok (.enter 157 args) w:=qA5 Tryz.func157 (by kernel_rfl) (by kernel_rfl) args w
theorem zGb(args:Array Value)(w:World): (callFunc 161 args).run Tryz.prog w=.ok (.enter 161 args) w:=qA5 Tryz.func161 (by kernel_rfl) (by kernel_rfl) args w
theorem zFr(args:Array Value)(w:World): (callFunc 162 args).run Tryz.prog w=.ok (.enter 162 args) w:=qA5 Tryz.func162 (by kernel_rfl) (by kernel_rfl) args w
theorem zG6(args:Array Value)(w:World): (callFunc 166 args).run Tryz.prog w=.ok (.enter 166 args) w:=qA5 Tryz.func166 (by kernel_rfl) (by kernel_rfl) args w
theorem zG8(args:Array Value)(w:World): (callFunc 167 args).run Tryz.prog w=.ok (.enter 167 args) w:=qA5 Tryz.func167 (by kernel_rfl) (by kernel_rfl) args w
theorem zGp(args:Array Value)(w:World): (callFunc 172 args).run Tryz.prog w=.ok (.enter 172 args) w:=qA5 Tryz.func172 (by kernel_rfl) (by kernel_rfl) args w
theorem zGl(args:Array Value)(w:World): (callFunc 173 args).run Tryz.prog w=.ok (.enter 173 args) w:=qA5 Tryz.func173 (by kernel_rfl) (by kernel_rfl) args w
theorem five{k:Nat}(h1:1<=k)(h5:k<=5): k=1\/k=2\/k=3\/k=4\/k=5:=by omega
theorem zDt(k:Nat)(h1:1<=k)(h5:k<=5)(args:Array Value)(w:World): (callFunc (zGu k) args).run Tryz.prog w=.ok (.enter (zGu k) args) w:=by
 rcases five h1 h5 with hk | hk | hk | hk | hk <;> subst hk
 ·exact ownCR args w
 ·exact ownSR args w
 ·exact ownOR args w
 ·exact ownDR args w
 ·exact ownTR args w
theorem zDw(k:Nat)(h1:1<=k)(h5:k<=5)(args:Array Value)(w:World): (callFunc (zFn k) args).run Tryz.prog w=.ok (.enter (zFn k) args) w:=by
 rcases five h1 h5 with hk | hk | hk | hk | hk <;> subst hk
 ·exact ownCQ args w
 ·exact ownSQ args w
 ·exact ownOQ args w
 ·exact ownDQ args w
 ·exact ownTQ args w
theorem zEw(k:Nat)(h1:1<=k)(h5:k<=5)(args:Array Value)(w:World): (callFunc (zFl k) args).run Tryz.prog w=.ok (.enter (zFl k) args) w:=by
 rcases five h1 h5 with hk | hk | hk | hk | hk <;> subst hk
 ·exact ownCS args w
 all_goals exact ownSN args w
theorem zFj(k:Nat)(h1:1<=k)(h5:k<=5)(args:Array Value)(w:World): (callFunc (zFp k) args).run Tryz.prog w=.ok (.enter (zFp k) args) w:=by
 rcases five h1 h5 with hk | hk | hk | hk | hk <;> subst hk
 ·exact zGn args w
 ·exact zFw args w
 ·exact zGb args w
 ·exact zG6 args w
 ·exact zGp args w
theorem qX4(k:Nat)(h1:1<=k)(h5:k<=5)(args:Array Value)(w:World): (callFunc (zCz k) args).run Tryz.prog w=.ok (.enter (zCz k) args) w:=by
 rcases five h1 h5 with hk | hk | hk | hk | hk <;> subst hk
 ·exact zF7 args w
 ·exact zGi args w
 ·exact zFr args w
 ·exact zG8 args w
 ·exact zGl args w
theorem zE3{rel last:Int}(k:Nat)(b:NB)(c:Cfg)(nt:Note)(y:It)(m:Int)(args:Array Value)(w:World)(ha:args=qHa b.d++#[y.val,.int .i64 m])(h:NRep w k b c nt)(hi:NInv k c rel last nt)(hr:rel<=651562446200)(hv:qA7 c=true)(hk:c.kind=k)(k1:1<=k)(k5:k<=5)(m0:-100<=m)(m1:m<=4611686018427387904)(t0:0<=y.t)(t1:y.t<=4611686018427387904)(hky:k=2\/k=3->0<=y.k/\y.k<=2147483648)(hT:Tab w)(hT0:¬qCz k b 2)(hl:last<=4611686018427387904):
  Calls Tryz.prog (zGu k) args w λe w'=>e=.returned (.tuple #[])/\∃b':NB,NRep w' k b' c (qLf k c nt y m)/\b'.d=b.d/\(∀i,qCz k b' i->qCz k b i\/w.heap.size<=i)/\Keeps (qCz k b) w w':=by
 subst ha
 rcases five k1 k5 with e | e | e | e | e
 ·subst e
  obtain⟨a1,a2,a3,a4⟩:=qC3 hv hk rfl
  refine(qNk b.d b.r b.g c nt.bs y m w (h.cnt rfl) (hi.binv (by omega)) (by have:=hi.sum;omega) m0 m1 (by omega) a4 a1 a2).mono ?_
  rintro e w' ⟨rfl,og',hc,hk,hog⟩
  refine⟨rfl,⟨b.d,b.r,og',[]⟩,⟨(λh=>by omega),(λ_=>hc),(λh=>by omega),(λh=>by omega),(λh=>by omega)⟩,rfl,?_,hk.mono (λi _ hi=>.inl ⟨rfl,.inr hi⟩)⟩
  rintro i (⟨_,hi | hi | hi⟩ | ⟨h4,_⟩ | ⟨h4,_⟩ | ⟨h4,_⟩ | ⟨h4,_⟩)
  ·exact .inl (.inl ⟨rfl,.inl hi⟩)
  ·exact .inl (.inl ⟨rfl,.inr (.inl hi)⟩)
  ·rcases hog with h | ⟨j,h,hj⟩
   ·exact .inl (.inl ⟨rfl,.inr (.inr (by rw[<-h];exact hi))⟩)
   ·have hi':og'=some i:=hi
    rw[h]at hi'
    injection hi' with hi'
    exact .inr (by omega)
  all_goals omega
 ·subst e
  obtain⟨a1,a2,a3,a4,a5⟩:=qCa hv hk rfl
  obtain⟨hd,hq⟩:=h.dis rfl
  obtain⟨y0,y1⟩:=hky (.inl rfl)
  have hq1:1<=b.qs.length:=by rw[hq];exact Nat.pow_pos (by omega)
  have hq2:b.qs.length<=16:=by rw[hq];exact Nat.pow_le_pow_right (n:=2) (by omega) (show c.bits.toNat<=4 by omega)
  refine(qNs b.d b.r b.qs c nt.rg y m w hd hT (λi hi h0=>hT0 (.inr (.inr (.inl ⟨rfl,.inr (.inr ⟨i,hi,h0⟩)⟩)))) hq1 hq2 a1 (by omega) a5 m0 m1 y0 y1 (λi=>by have:=hi.rl i;omega)).mono ?_
  rintro e w' ⟨rfl,qs',hd',hl',hf',hk'⟩
  refine⟨rfl,⟨b.d,b.r,b.g,qs'⟩,⟨(λh=>by omega),(λh=>by omega),(λ_=>⟨by rw[hq]at hd';exact hd',hl'.trans hq⟩),(λh=>by omega),(λh=>by omega)⟩,rfl,?_,hk'.mono (λi _ hi=>.inr (.inr (.inl ⟨rfl,.inr (.inr hi)⟩)))⟩
  rintro i (⟨h4,_⟩ | ⟨h4,_⟩ | ⟨_,hi | hi | ⟨j,hj,hi⟩⟩ | ⟨h4,_⟩ | ⟨h4,_⟩)
  ·omega
  ·omega
  ·exact .inl (.inr (.inr (.inl ⟨rfl,.inl hi⟩)))
  ·exact .inl (.inr (.inr (.inl ⟨rfl,.inr (.inl hi)⟩)))
  ·rcases hf' j i hj hi with h1 | h1
   ·exact .inl (.inr (.inr (.inl ⟨rfl,.inr (.inr h1)⟩)))
   ·exact .inr h1
  ·omega
  ·omega
 ·subst e
  obtain⟨a1,a2,a3,a4,a5⟩:=qBp hv hk rfl
  obtain⟨y0,y1⟩:=hky (.inr rfl)
  have ho:=hi.oi rfl
  have hcl:nt.cl.length<=8:=by have:=ho.len;have:=a1.p1;omega
  refine(qNf b.d b.r b.g c nt.op nt.cl y m w (h.oft rfl) a1 a2 a3 t0 t1 y0 y1 (by omega) m1 (by omega) (ho.okC hl a3 a4) (ho.okO hl a3 a4) (λx hx=>by have:=ho.ocs x hx;omega)).mono ?_
  rintro e w' ⟨rfl,og',hc,hk',hog⟩
  refine⟨rfl,⟨b.d,b.r,og',[]⟩,⟨(λh=>by omega),(λh=>by omega),(λh=>by omega),(λ_=>hc),(λh=>by omega)⟩,rfl,?_,hk'.mono (λi _ hi=>.inr (.inr (.inr (.inl ⟨rfl,hi⟩))))⟩
  rintro i (⟨h4,_⟩ | ⟨h4,_⟩ | ⟨h4,_⟩ | ⟨_,hi | hi | hi⟩ | ⟨h4,_⟩)
  ·omega
  ·omega
  ·omega
  ·exact .inl (.inr (.inr (.inr (.inl ⟨rfl,.inl hi⟩))))
  ·exact .inl (.inr (.inr (.inr (.inl ⟨rfl,.inr (.inl hi)⟩))))
  ·have hi':og'=some i:=hi
   rcases hog with h | ⟨j,h,hj⟩
   ·exact .inl (.inr (.inr (.inr (.inl ⟨rfl,.inr (.inr (by rw[<-h];exact hi'))⟩))))
   ·rw[h]at hi'
    injection hi' with hi'
    exact .inr (by omega)
  ·omega
 ·subst e
  have hw:=qLx c y.t
  refine(qNm b.d c nt.q nt.r y m w (h.dec rfl) (qEa hv hk (by omega) (by omega)) t0 t1 hi.r0 hi.r1 hi.q0 (by have:=hi.qn;omega) hw.1 hw.2).mono ?_
  rintro e w' ⟨rfl,hb,hk⟩
  exact⟨rfl,b,⟨(λ_=>hb),(λh=>by omega),(λh=>by omega),(λh=>by omega),(λh=>by omega)⟩,rfl,(λ_ h=>.inl h),hk.mono (λi _ hi=>.inr (.inl ⟨rfl,hi⟩))⟩
 ·subst e
  obtain⟨a1,a2⟩:=qDf hv hk rfl
  refine(qIi b.d b.r b.g c nt.tk y m w (h.drw rfl) (qEa hv hk (by omega) (by omega)) t0 t1 a1 a2 (by have:=hi.tl rfl;omega)).mono ?_
  rintro e w' ⟨rfl,og',hc,hk',hog⟩
  refine⟨rfl,⟨b.d,b.r,og',[]⟩,⟨(λh=>by omega),(λh=>by omega),(λh=>by omega),(λh=>by omega),(λ_=>hc)⟩,rfl,?_,hk'.mono (λi _ hi=>.inr (.inr (.inr (.inr ⟨rfl,.inr hi⟩))))⟩
  rintro i (⟨h4,_⟩ | ⟨h4,_⟩ | ⟨h4,_⟩ | ⟨h4,_⟩ | ⟨_,hi | hi | hi⟩)
  ·omega
  ·omega
  ·omega
  ·omega
  ·exact .inl (.inr (.inr (.inr (.inr ⟨rfl,.inl hi⟩))))
  ·exact .inl (.inr (.inr (.inr (.inr ⟨rfl,.inr (.inl hi)⟩))))
  ·have hi':og'=some i:=hi
   rcases hog with h | ⟨j,h,hj⟩
   ·exact .inl (.inr (.inr (.inr (.inr ⟨rfl,.inr (.inr (by rw[<-h];exact hi'))⟩))))
   ·rw[h]at hi'
    injection hi' with hi'
    exact .inr (by omega)
def qU7(w:World)(base:Nat)(v:Value)(l:List Int): Prop:=w.ownsRow base 3 1 v l.length (l.map (.int .i64 ·))
theorem zFi{rel last:Int}(k:Nat)(b:NB)(c:Cfg)(nt:Note)(a m:Int)(args:Array Value)(w:World)(ha:args=qHa b.d++#[.int .i64 a,.int .i64 m])(h:NRep w k b c nt)(hi:NInv k c rel last nt)(hr:rel<=651562446200)(hlast:last<=4611686018427387904)(hv:qA7 c=true)(hk:c.kind=k)(k1:1<=k)(k5:k<=5)(m0:-100<=m)(m1:m<=4611686018427387904):
  Calls Tryz.prog (zFn k) args w λe w'=>∃og n cp,e=.returned (.tuple #[.slice og n cp,.int .i64 (qHl k c nt a m).1])/\qU7 w' w.heap.size (.slice og n cp) (qHl k c nt a m).2/\Keeps (λ_=>False) w w':=by
 subst ha
 have hnil:∀w':World,qU7 w' w.heap.size (.slice none 0 0) []:=λw'=>World.ownsRow_nil _ _ _ _
 rcases five k1 k5 with e | e | e | e | e
 ·subst e
  obtain⟨a1,a2,a3,a4⟩:=qC3 hv hk rfl
  cases hin:inB a 1 c.window
  ·refine(qSt b.d b.r b.g c nt.bs a m w (h.cnt rfl) hin).mono ?_
   rintro e w' ⟨rfl,hk⟩
   have hq:qHl 1 c nt a m=(13,[]):=by unfold qHl;rw[if_neg (by omega),if_pos rfl,if_neg (by rw[hin];simp)]
   rw[hq]
   exact⟨none,0,0,rfl,hnil _,hk⟩
  ·refine(qRe b.d b.r b.g c nt.bs a m w (h.cnt rfl) (hi.binv (by omega)) hin m0 m1 a4).mono ?_
   rintro e w' ⟨g,rfl,hg,hb,hk⟩
   have hq:qHl 1 c nt a m=(0,[zC4 nt.bs (m-a)]):=by unfold qHl;rw[if_neg (by omega),if_pos rfl,if_pos hin]
   rw[hq]
   exact⟨some ⟨g,0,none⟩,1,1,rfl,⟨rfl,.inr ⟨g,1,_,rfl,hg,hb,by simp,by unfold maxLen;omega,rfl,rfl⟩⟩,hk⟩
 ·subst e
  obtain⟨a1,a2,a3,a4,a5⟩:=qCa hv hk rfl
  obtain⟨hd,hq⟩:=h.dis rfl
  have hq1:1<=b.qs.length:=by rw[hq];exact Nat.pow_pos (by omega)
  have hq2:b.qs.length<=16:=by rw[hq];exact Nat.pow_le_pow_right (n:=2) (by omega) (show c.bits.toNat<=4 by omega)
  cases hin:inB a 1 c.window
  ·refine(qSz b.d b.r b.qs c nt.rg a m w hd hin).mono ?_
   rintro e w' ⟨rfl,hk⟩
   have hqn:qHl 2 c nt a m=(13,[]):=by unfold qHl;rw[if_neg (by omega),if_neg (by omega),if_pos rfl];unfold zCs;rw[if_neg (by rw[hin];simp)]
   rw[hqn]
   exact⟨none,0,0,rfl,hnil _,hk⟩
  ·refine(qRn b.d b.r b.qs c nt.rg a m w hd hin hq1 hq2 a5 m0 m1 (λi=>by have:=hi.rl i;omega) hi.rk).mono ?_
   rintro e w' ⟨g,cp,rfl,ho,hk⟩
   have hqn:qHl 2 c nt a m=(0,qDy nt.rg b.qs.length (m-a)++[7*b.qs.length*b.qs.length*1099511627776/(10*qTb (qDy nt.rg b.qs.length (m-a)))]):=by unfold qHl;rw[if_neg (by omega),if_neg (by omega),if_pos rfl];unfold zCs;rw[if_pos hin,hq]
   rw[hqn]
   refine⟨some ⟨g,0,none⟩,b.qs.length+1,cp,rfl,?_,hk⟩
   unfold qU7
   rw[List.length_append,qGn,List.length_singleton]
   exact ho
 ·subst e
  obtain⟨a1,a2,a3,a4,a5⟩:=qBp hv hk rfl
  have ho:=hi.oi rfl
  have hcl:nt.cl.length<=8:=by have:=ho.len;have:=a1.p1;omega
  cases hin:inB a 0 2147483648
  ·refine(qUx b.d a m w hin).mono ?_
   rintro e w' ⟨rfl,hk⟩
   have hqn:qHl 3 c nt a m=(10,[]):=by unfold qHl;rw[if_neg (by omega),if_neg (by omega),if_neg (by omega),if_pos rfl,if_neg (by rw[hin];simp)]
   rw[hqn]
   exact⟨none,0,0,rfl,hnil _,hk⟩
  ·refine(qR5 b.d b.r b.g c nt.op nt.cl a m w (h.oft rfl) hin a1 a2 (by omega) m1 (by omega) (ho.okC hlast a3 a4) (ho.okO hlast a3 a4) (λx hx=>by have:=ho.ocs x hx;omega) (λp hp x hx=>by have:=ho.ccs p hp x hx;omega)).mono ?_
   rintro e w' ⟨g,rfl,hg,hb,hk⟩
   have hqn:qHl 3 c nt a m=(0,[zEk c nt.op nt.cl a m]):=by unfold qHl;rw[if_neg (by omega),if_neg (by omega),if_neg (by omega),if_pos rfl,if_pos hin]
   rw[hqn]
   exact⟨some ⟨g,0,none⟩,1,1,rfl,⟨rfl,.inr ⟨g,1,_,rfl,hg,hb,by simp,by unfold maxLen;omega,rfl,rfl⟩⟩,hk⟩
 ·subst e
  refine(qRp b.d c nt.q nt.r a m w (h.dec rfl) (qEa hv hk (by omega) (by omega)) m0 m1).mono ?_
  rintro e w' ⟨g,rfl,hg,hb,hk⟩
  exact⟨some ⟨g,0,none⟩,3,3,rfl,⟨rfl,.inr ⟨g,3,_,rfl,hg,hb,by simp[qHl],by unfold maxLen;omega,rfl,rfl⟩⟩,hk⟩
 ·subst e
  obtain⟨a1,a2⟩:=qDf hv hk rfl
  refine(qQn b.d b.r b.g c nt.tk a m w (h.drw rfl) a1 a2 (by have:=hi.tl rfl;omega)).mono ?_
  rintro e w' ⟨g,cp,rfl,ho,hk⟩
  exact⟨some ⟨g,0,none⟩,_,cp,rfl,ho,hk⟩
theorem zEu{rel last:Int}(k:Nat)(b:NB)(c:Cfg)(nt:Note)(m bu:Int)(args:Array Value)(w:World)(ha:args=zBf k b.d++#[.int .i64 m,.int .i64 bu])(h:NRep w k b c nt)(hi:NInv k c rel last nt)(hr:rel<=4398046511104)(hv:qA7 c=true)(hk:c.kind=k)(k1:1<=k)(k5:k<=5)(m0:-100<=m)(m1:m<=4611686018427387904)(b0:0<=bu)(b1:bu<=100):
  Calls Tryz.prog (zFl k) args w λe w'=>e=.returned (.tuple #[.int .i64 (qIx k c nt m bu).2.1,.int .i64 (qIx k c nt m bu).2.2])/\NRep w' k b c (qIx k c nt m bu).1/\Keeps (qCz k b) w w':=by
 subst ha
 rcases five k1 k5 with e | e | e | e | e
 ·subst e
  obtain⟨a1,a2,a3,a4⟩:=qC3 hv hk rfl
  refine(qRh b.d b.r b.g c nt.bs m bu w (h.cnt rfl) (hi.binv hr) m0 m1 (by omega) a4 b0 b1).mono ?_
  rintro e w' ⟨rfl,hc,hk⟩
  exact⟨rfl,⟨(λh=>by omega),(λ_=>hc),(λh=>by omega),(λh=>by omega),(λh=>by omega)⟩,hk.mono (λi _ hi=>.inl ⟨rfl,.inr hi⟩)⟩
 all_goals
  subst e
  refine(qKz m bu w).mono ?_
  rintro e w' ⟨rfl,rfl⟩
  exact⟨rfl,h,Keeps.refl _ _⟩
end
section
open Go.RowKit
attribute [local go_sem ↓] qAd qAe
attribute [local go_sem] qAg qAm qAb qAc qAn qAo qAf qAl
def qKm(c:Cfg): List Value:=c.cells++(Pa.pn0.cells++[.pointer none])
theorem qO1(ρ:Operand->Value)(dst:Option Tmp)(x:Array (Nat×Operand))(ty:TypeId)(pos:String)(after:Array Edge)(guard:Option (Nat×Bool)):
  execOp ρ { dst,op:=.build 240 x,type:=ty,pos,after,guard }=qM0 240 (x.map λ(i,y)=>(i,ρ y)):=rfl
theorem qOd(c:Cfg)(w:World):
  (qM0 240 #[(0,.agg c.cells.toArray)]).run Tryz.prog w=.ok (.value (.agg (qKm c).toArray)) w:=by kernel_rfl
theorem qTs(c:Cfg)(w:World):
  (qM0 240 #[(0,.agg #[.int .i64 c.kind,.int .i64 c.lag,.int .i64 c.skew,.int .i64 c.cap,.int .i64 c.k,.int .i64 c.window,.int .i64 c.bits,.int .i64 c.rows,.int .i64 c.width,.int .i64 c.panes,.int .i64 c.size,.int .i64 c.degree,.int .i64 c.half,.int .i64 c.mark,.int .i64 c.s00,.int .i64 c.s01,.int .i64 c.s10,.int .i64 c.s11,.int .i64 c.s20,.int .i64 c.s21])]).run Tryz.prog w=.ok (.value (.agg (qKm c).toArray)) w:=qOd c w
attribute [local go_sem ↓] qO1
attribute [local go_sem] qOd qTs
theorem qXc(c:Cfg)(q:Nat): (qKm c).set 69 (.pointer (some ⟨q,0,none⟩))=qA2 c Pa.pn0 q:=by
 unfold qKm qA2
 have hc:c.cells.length=20:=by simp[Cfg.cells]
 rw[List.set_append_right _ _ (by omega),hc,List.set_append_right _ _ (by rw[Pa.Pn.cells_length];omega),Pa.Pn.cells_length]
 rfl
theorem qVy(c:Cfg): (qKm c)[69]?=some (.pointer none):=by
 unfold qKm
 rw[List.getElem?_append_right (by simp[Cfg.cells]),List.getElem?_append_right (by rw[Pa.Pn.cells_length];simp[Cfg.cells])]
 simp[Cfg.cells,Pa.Pn.cells_length]
theorem qRc(c:Cfg)(w:World):
  Calls Tryz.prog 158 #[c.val] w λe w'=>∃d q,e=.returned (.pointer (some ⟨d,0,none⟩))/\w.heap.size<=d/\w.heap.size<=q/\ORep w' d q none c Pa.pn0 []/\Keeps (λ_=>False) w w':=by
 obtain⟨W,hW⟩:∃W,W=w.alloc (.cells c.cells.toArray 32):=⟨_,rfl⟩
 have HB:=hide (show Blk W w.heap.size c.cells 32 by rw[hW];exact Blk.new w _ _)
 have HK:=hide (show Keeps (λ_=>False) w W by rw[hW];exact(Keeps.refl (λ_=>False) w).alloc _)
 have HW:=hide hW
 clear hW
 unfold Cfg.val
 go_enter Tryz.func158,Tryz.ntmps158
 go_wp2_with fail
 rw[show w.alloc (.cells #[.int .i64 c.kind,.int .i64 c.lag,.int .i64 c.skew,.int .i64 c.cap,.int .i64 c.k,.int .i64 c.window,.int .i64 c.bits,.int .i64 c.rows,.int .i64 c.width,.int .i64 c.panes,.int .i64 c.size,.int .i64 c.degree,.int .i64 c.half,.int .i64 c.mark,.int .i64 c.s00,.int .i64 c.s01,.int .i64 c.s10,.int .i64 c.s11,.int .i64 c.s20,.int .i64 c.s21] 32)=W from(uh HW).symm]
 generalize hcb:w.heap.size=cb at *
 have HCB:=hide hcb
 clear hcb
 have hsz0:cb<W.heap.size:=(uh HB).lt
 obtain⟨hv,hh⟩:=qBm (uh HB) 20 rfl
 go_wp2_with fail
 have hWs:W.heap.size=cb+1:=by rw[uh HW];simp[uh HCB]
 obtain⟨W1,hW1⟩:∃W1,W1=W.alloc (.cells (qKm c).toArray 240):=⟨_,rfl⟩
 rw[<-hW1]
 have HB1:=hide (show Blk W1 (cb+1) (qKm c) 240 by rw[hW1];exact Blk.newAt hWs _ _)
 have HK1:=hide (show Keeps (λ_=>False) W W1 by rw[hW1];exact(Keeps.refl _ _).alloc _)
 have hs1:W1.heap.size=cb+1+1:=by rw[hW1];simp[hWs]
 clear hW1 hv hh
 refine(Pa.rowNew_any (cb+1) W1).mono ?_
 rintro e W2 ⟨rfl,hr2,hk2,hz2⟩
 rw[hs1]at hr2 ⊢
 have HB2:=hide ((uh HB1).keeps hk2 (λh=>h))
 have c69:W2.cell? ⟨cb+1,69,none⟩=some (.pointer none):=(uh HB2).cell (qVy c)
 have f69:=(uh HB2).frozen
 have HK2:=hide (((uh HK).then (uh HK1)).then hk2)
 have HR2:=hide hr2
 clear hk2 hr2
 go_wp2
 go_ret
 have hb3:=(uh HB2).setCell 69 (.pointer (some ⟨cb+1+1,0,none⟩))
 rw[qXc]at hb3
 have hcb:=uh HCB
 refine⟨cb+1,cb+1+1,rfl,by omega,by omega,⟨hb3,?_,by omega,λg hg=>by cases hg⟩,?_⟩
 ·exact(uh HR2).keeps (M:=λi=>i=cb+1) ((Keeps.refl (λi=>i=cb+1) _).setCell (p:=⟨cb+1,69,none⟩) (Or.inl rfl) _) (λh=>by have h':cb+1+1=cb+1:=h;omega) (λg hg=>by cases hg)
 ·exact(uh HK2).trans ((Keeps.refl (λi=>i=cb+1) _).setCell (p:=⟨cb+1,69,none⟩) (Or.inl rfl) _) (λi hi hlt=>by omega)
def qOz(d:Nat): Value:=.func (.func 159) #[.pointer (some ⟨d,0,none⟩)] #[]
def qPo(d:Nat): Value:=.func (.func 162) #[.pointer (some ⟨d,0,none⟩)] #[]
def qP9(d:Nat): Value:=.func (.func 161) #[.pointer (some ⟨d,0,none⟩)] #[]
def qPv(d:Nat): Value:=.func (.func 160) #[.pointer (some ⟨d,0,none⟩)] #[]
theorem qM6(c:Cfg)(w:World):
  Calls Tryz.prog 117 #[c.val] w λe w'=>∃d q,e=.returned (.agg #[qOz d,qPv d,qG1,qP9 d,qPo d])/\w.heap.size<=d/\w.heap.size<=q/\ORep w' d q none c Pa.pn0 []/\Keeps (λ_=>False) w w':=by
 obtain⟨W,hW⟩:∃W,W=(w.alloc (.cells c.cells.toArray 32)).alloc (.cells #[.nilFunc,.nilFunc,.nilFunc,.nilFunc,.nilFunc] 101):=⟨_,rfl⟩
 have HT:=hide (show Blk W (w.heap.size+1) [.nilFunc,.nilFunc,.nilFunc,.nilFunc,.nilFunc] 101 by rw[hW];exact Blk.newAt (by simp) _ _)
 have HK:=hide (show Keeps (λ_=>False) w W by rw[hW];exact((Keeps.refl (λ_=>False) w).alloc _).alloc _)
 have HW:=hide hW
 have HN:=hide (qRc c W)
 clear hW
 unfold Cfg.val at *
 go_enter Tryz.func117,Tryz.ntmps117
 go_wp2_with fail
 rw[show(w.alloc (.cells #[.int .i64 c.kind,.int .i64 c.lag,.int .i64 c.skew,.int .i64 c.cap,.int .i64 c.k,.int .i64 c.window,.int .i64 c.bits,.int .i64 c.rows,.int .i64 c.width,.int .i64 c.panes,.int .i64 c.size,.int .i64 c.degree,.int .i64 c.half,.int .i64 c.mark,.int .i64 c.s00,.int .i64 c.s01,.int .i64 c.s10,.int .i64 c.s11,.int .i64 c.s20,.int .i64 c.s21] 32)).alloc (.cells #[.nilFunc,.nilFunc,.nilFunc,.nilFunc,.nilFunc] 101)=W from(uh HW).symm]
 generalize hcb:w.heap.size=cb at *
 have HCB:=hide hcb
 clear hcb
 refine(uh HN).mono ?_
 rintro e w2 ⟨d,q,rfl,hd,hq,hc2,hk2⟩
 have HC2:=hide hc2
 have HT2:=hide ((uh HT).keeps hk2 (λh=>h))
 have HK2:=hide ((uh HK).then hk2)
 have HSZ:=hide (uh HK).size
 have HLT:=hide (uh HT).lt
 clear hc2 hk2 HT HK HN
 have f0:=(uh HT2).frozen
 have q0:w2.cell? ⟨cb+1,0,none⟩=some .nilFunc:=(uh HT2).cell rfl
 have q1:w2.cell? ⟨cb+1,1,none⟩=some .nilFunc:=(uh HT2).cell rfl
 have q2:w2.cell? ⟨cb+1,2,none⟩=some .nilFunc:=(uh HT2).cell rfl
 have q3:w2.cell? ⟨cb+1,3,none⟩=some .nilFunc:=(uh HT2).cell rfl
 have q4:w2.cell? ⟨cb+1,4,none⟩=some .nilFunc:=(uh HT2).cell rfl
 go_wp2
 have hcb:=uh HCB
 have hsz:=uh HSZ
 have hkf:Keeps (λi=>i=cb+1) w2 (((((w2.setCell ⟨cb+1,0,none⟩ (qOz d)).setCell ⟨cb+1,1,none⟩ (qPv d)).setCell ⟨cb+1,2,none⟩ qG1).setCell ⟨cb+1,3,none⟩ (qP9 d)).setCell ⟨cb+1,4,none⟩ (qPo d)):=(((((Keeps.refl (λi=>i=cb+1) w2).setCell (p:=⟨cb+1,0,none⟩) (Or.inl rfl) _).setCell (p:=⟨cb+1,1,none⟩) (Or.inl rfl) _).setCell (p:=⟨cb+1,2,none⟩) (Or.inl rfl) _).setCell (p:=⟨cb+1,3,none⟩) (Or.inl rfl) _).setCell (p:=⟨cb+1,4,none⟩) (Or.inl rfl) _
 refine bodyPost_ret (v:=.agg #[qOz d,qPv d,qG1,qP9 d,qPo d]) (by simp[results,Tryz.results117,go_sem,q0,q1,q2,q3,q4,qOz,qPv,qG1,qP9,qPo]) rfl ⟨d,q,rfl,by omega,by omega,?_,?_⟩
 ·exact(uh HC2).keeps hkf (λh=>by have:=uh HLT;omega) (λh=>by have:=uh HLT;omega) (λg hg=>by cases hg)
 ·exact(uh HK2).trans hkf (λi hi hlt=>by omega)
end
section
open Go.RowKit
theorem qZn(c:Cfg)(k:Nat)(w:World)(h1:1<=k)(h5:k<=5)(hv:qA7 c=true)(hkd:c.kind=k):
  Calls Tryz.prog (qA4 k) #[c.val] w λe w'=>∃b:NB,e=.returned (.agg #[relV k b.d,qryV k b.d,swpV k b.d,savV k b.d,lodV k b.d])/\(∀i,qCz k b i->w.heap.size<=i)/\NRep w' k b c qFy/\Keeps (λ_=>False) w w':=by
 rcases five h1 h5 with hk | hk | hk | hk | hk
 ·subst hk
  refine(qNh c w).mono ?_
  rintro e w' ⟨d,r,rfl,hd,hr,hc,hk⟩
  refine⟨⟨d,r,none,[]⟩,rfl,?_,⟨(λh=>by omega),(λ_=>hc),(λh=>by omega),(λh=>by omega),(λh=>by omega)⟩,hk⟩
  rintro i (⟨_,hi | hi | hi⟩ | ⟨h4,_⟩ | ⟨h4,_⟩ | ⟨h4,_⟩ | ⟨h4,_⟩)
  ·have:i=d:=hi;omega
  ·have:i=r:=hi;omega
  ·cases hi
  all_goals omega
 ·subst hk
  obtain⟨a1,a2,a3,a4,a5⟩:=qCa hv hkd rfl
  refine(qJ3 c (qG6 c) w (by omega) a3 rfl).mono ?_
  rintro e w' ⟨d,rg,qs,rfl,hd,hr,hq,hn,hc,hk⟩
  refine⟨⟨d,rg,none,qs⟩,rfl,?_,⟨(λh=>by omega),(λh=>by omega),(λ_=>⟨hc,hn⟩),(λh=>by omega),(λh=>by omega)⟩,hk⟩
  rintro i (⟨h4,_⟩ | ⟨h4,_⟩ | ⟨_,hi | hi | ⟨j,hj,hi⟩⟩ | ⟨h4,_⟩ | ⟨h4,_⟩)
  ·omega
  ·omega
  ·have:i=d:=hi;omega
  ·have:i=rg:=hi;omega
  ·exact hq j i hj hi
  all_goals omega
 ·subst hk
  refine(qM6 c w).mono ?_
  rintro e w' ⟨d,r,rfl,hd,hr,hc,hk⟩
  refine⟨⟨d,r,none,[]⟩,rfl,?_,⟨(λh=>by omega),(λh=>by omega),(λh=>by omega),(λ_=>hc),(λh=>by omega)⟩,hk⟩
  rintro i (⟨h4,_⟩ | ⟨h4,_⟩ | ⟨h4,_⟩ | ⟨_,hi | hi | hi⟩ | ⟨h4,_⟩)
  ·omega
  ·omega
  ·omega
  ·have:i=d:=hi;omega
  ·have:i=r:=hi;omega
  ·cases hi
  ·omega
 ·subst hk
  refine(qM7 c w).mono ?_
  rintro e w' ⟨d,rfl,hd,hb,hk⟩
  refine⟨⟨d,0,none,[]⟩,rfl,?_,⟨(λ_=>hb),(λh=>by omega),(λh=>by omega),(λh=>by omega),(λh=>by omega)⟩,hk⟩
  rintro i (⟨h4,_⟩ | ⟨_,hi⟩ | ⟨h4,_⟩ | ⟨h4,_⟩ | ⟨h4,_⟩)
  ·omega
  ·have:i=d:=hi;omega
  all_goals omega
 ·subst hk
  refine(qNj c w).mono ?_
  rintro e w' ⟨d,r,rfl,hd,hr,hc,hk⟩
  refine⟨⟨d,r,none,[]⟩,rfl,?_,⟨(λh=>by omega),(λh=>by omega),(λh=>by omega),(λh=>by omega),(λ_=>hc)⟩,hk⟩
  rintro i (⟨h4,_⟩ | ⟨h4,_⟩ | ⟨h4,_⟩ | ⟨h4,_⟩ | ⟨_,hi | hi | hi⟩)
  ·omega
  ·omega
  ·omega
  ·omega
  ·have:i=d:=hi;omega
  ·have:i=r:=hi;omega
  ·cases hi
end
section
def leP(a b:It): Prop:=a.t<b.t\/(a.t=b.t/\a.n<=b.n)
theorem leP.refl(a:It): leP a a:=.inr ⟨rfl,Int.le_refl _⟩
theorem leP.trans{a b c:It}(h:leP a b)(k:leP b c): leP a c:=by
 unfold leP at *;omega
theorem qMn{a b:It}(h:qCk a b=true): leP a b:=by
 unfold qCk at h;unfold leP
 split at h
 ·rename_i he;simp at h;omega
 ·simp at h;omega
theorem qGu{a b:It}(h:qCk a b=false): leP b a:=by
 unfold qCk at h;unfold leP
 split at h
 ·rename_i he;simp at h;omega
 ·simp at h;omega
def HeapL(l:List It): Prop:=∀i,0<i->i<l.length->leP (itAt l ((i-1)/2)) (itAt l i)
theorem qBx(l:List It)(i j k:Nat)(hi:i<l.length)(hj:j<l.length)(hk:k<l.length):
  itAt (swapL l i j) k=if k=j then itAt l i else if k=i then itAt l j else itAt l k:=by
 unfold swapL itAt
 rw[List.getD_eq_getElem?_getD,List.getElem?_set]
 by_cases h1:j=k
 ·subst h1;simp[hj]
 ·rw[if_neg h1,if_neg (Ne.symm h1),List.getElem?_set]
  by_cases h2:i=k
  ·subst h2;simp[hi]
  ·rw[if_neg h2,if_neg (Ne.symm h2),List.getD_eq_getElem?_getD]
structure RiseAt (l:List It) (i:Nat):Prop where
 up:∀j,0<j->j<l.length->j≠i->leP (itAt l ((j-1)/2)) (itAt l j)
 over:∀c,0<i->c<l.length->0<c->(c-1)/2=i->leP (itAt l ((i-1)/2)) (itAt l c)
theorem qKc(f:Nat): ∀(l:List It) (i:Nat),i<l.length->i<f->RiseAt l i->HeapL (riseL f l i):=by
 induction f with
 | zero=>intro l i _ h;omega
 | succ f ih =>
  intro l i hl hf h
  unfold riseL
  split
  ·rename_i h0
   intro j hj hjl
   exact h.up j hj hjl (by omega)
  ·rename_i h0
   split
   ·rename_i ha
    have hle:=qMn ha
    have hp:(i-1)/2<i:=by omega
    generalize hpp:(i-1)/2=p at *
    refine ih _ p (by rw[qAr];omega) (by omega) ⟨?_,?_⟩
    ·intro j hj hjl hjp
     rw[qAr]at hjl
     rw[qBx l i p _ hl (by omega) (by omega),qBx l i p j hl (by omega) hjl]
     rw[if_neg hjp]
     by_cases hji:j=i
     ·subst hji
      rw[if_pos hpp,if_pos rfl];exact hle
     ·rw[if_neg hji]
      by_cases h1:(j-1)/2=p
      ·rw[if_pos h1]
       have:=h.up j hj hjl hji
       rw[h1]at this
       exact hle.trans this
      ·rw[if_neg h1]
       by_cases h2:(j-1)/2=i
       ·rw[if_pos h2]
        have:=h.over j (by omega) hjl hj h2
        rw[hpp]at this
        exact this
       ·rw[if_neg h2]
        exact h.up j hj hjl hji
    ·intro c hp0 hcl hc0 hcp
     rw[qAr]at hcl
     rw[qBx l i p _ hl (by omega) (by omega),qBx l i p c hl (by omega) hcl]
     rw[if_neg (show(p-1)/2≠p by omega),if_neg (show(p-1)/2≠i by omega),if_neg (show c≠p by omega)]
     have hpp':=h.up p hp0 (by omega) (by omega)
     by_cases hci:c=i
     ·rw[if_pos hci];exact hpp'
     ·rw[if_neg hci]
      have:=h.up c hc0 hcl hci
      rw[hcp]at this
      exact hpp'.trans this
   ·rename_i ha
    have hle:=qGu (by simpa using ha)
    intro j hj hjl
    by_cases hji:j=i
    ·subst hji;exact hle
    ·exact h.up j hj hjl hji
structure SinkAt (l:List It) (i:Nat):Prop where
 up:∀j,0<j->j<l.length->(j-1)/2≠i->leP (itAt l ((j-1)/2)) (itAt l j)
 over:∀c,0<i->c<l.length->0<c->(c-1)/2=i->leP (itAt l ((i-1)/2)) (itAt l c)
theorem qHf(l:List It)(i c:Nat)(h:qBy l i=c): 0<c/\(c-1)/2=i/\∀d,d<l.length->0<d->(d-1)/2=i->leP (itAt l c) (itAt l d):=by
 unfold qBy at h
 split at h
 ·split at h
  ·split at h
   ·rename_i h1 h2 h3
    have hc:c=2*i+2:=by omega
    subst hc
    refine⟨by omega,by omega,λd hd h0 hp=>?_⟩
    have:d=2*i+1\/d=2*i+2:=by omega
    rcases this with rfl | rfl
    ·exact qMn h3
    ·exact leP.refl _
   ·rename_i h1 h2 h3
    have hc:c=2*i+1:=by omega
    subst hc
    refine⟨by omega,by omega,λd hd h0 hp=>?_⟩
    have:d=2*i+1\/d=2*i+2:=by omega
    rcases this with rfl | rfl
    ·exact leP.refl _
    ·exact qGu (by simpa using h3)
  ·rename_i h1 h2
   have hc:c=2*i+1:=by omega
   subst hc
   refine⟨by omega,by omega,λd hd h0 hp=>?_⟩
   have:d=2*i+1:=by omega
   subst this
   exact leP.refl _
 ·omega
theorem qIu(l:List It)(i:Nat)(h:qBy l i<0): ∀d,d<l.length->0<d->(d-1)/2≠i:=by
 intro d hd h0 hp
 unfold qBy at h
 split at h
 ·split at h
  ·split at h <;> omega
  ·omega
 ·omega
theorem qJ8(f:Nat): ∀(l:List It) (i:Nat),i<l.length->l.length<=f+i->SinkAt l i->HeapL (sinkL f l i):=by
 induction f with
 | zero=>intro l i _ h;omega
 | succ f ih =>
  intro l i hl hf h
  unfold sinkL
  split
  ·rename_i h0
   intro j hj hjl
   exact h.up j hj hjl (qIu l i h0 j hjl hj)
  ·rename_i h0
   rcases qDj l i with hc | ⟨c,hc,hic,hcl⟩
   ·omega
   ·rw[hc,Int.toNat_natCast]
    obtain⟨hc0,hcp,hcm⟩:=qHf l i c hc
    split
    ·rename_i ha
     have hle:=qMn ha
     refine ih _ c (by rw[qAr];omega) (by rw[qAr];omega) ⟨?_,?_⟩
     ·intro j hj hjl hjp
      rw[qAr]at hjl
      rw[qBx l i c _ hl hcl (by omega),qBx l i c j hl hcl hjl,if_neg hjp]
      by_cases hjc:j=c
      ·subst hjc
       rw[if_pos hcp,if_pos rfl];exact hle
      ·rw[if_neg hjc]
       by_cases hji:j=i
       ·subst hji
        rw[if_neg (show(j-1)/2≠j by omega),if_pos rfl]
        exact h.over c hj hcl hc0 hcp
       ·rw[if_neg hji]
        by_cases h2:(j-1)/2=i
        ·rw[if_pos h2];exact hcm j hjl hj h2
        ·rw[if_neg h2];exact h.up j hj hjl h2
     ·intro d hc' hdl hd0 hdp
      rw[qAr]at hdl
      rw[qBx l i c _ hl hcl (by omega),qBx l i c d hl hcl hdl]
      rw[if_neg (show(c-1)/2≠c by omega),if_pos hcp,if_neg (show d≠c by omega),if_neg (show d≠i by omega)]
      have:=h.up d hd0 hdl (by omega)
      rw[hdp]at this
      exact this
    ·rename_i ha
     have hle:=qGu (by simpa using ha)
     intro j hj hjl
     by_cases h2:(j-1)/2=i
     ·rw[h2];exact hle.trans (hcm j hjl hj h2)
     ·exact h.up j hj hjl h2
theorem HeapL.first{l:List It}(h:HeapL l)(j:Nat)(hj:j<l.length): leP (itAt l 0) (itAt l j):=by
 induction j using Nat.strongRecOn with
 | _ j ih =>
  by_cases h0:j=0
  ·subst h0;exact leP.refl _
  ·exact(ih ((j-1)/2) (by omega) (by omega)).trans (h j (by omega) hj)
theorem HeapL.first_mem{l:List It}(h:HeapL l){y:It}(hy:y∈l): (itAt l 0).t<=y.t:=by
 obtain⟨j,hj,rfl⟩:=List.mem_iff_getElem.1 hy
 have h1:=h.first j hj
 have h2:itAt l j=l[j]:=by unfold itAt;rw[List.getD_eq_getElem?_getD,List.getElem?_eq_getElem hj];rfl
 rw[h2]at h1
 unfold leP at h1
 omega
theorem itAt_get(l:List It)(j:Nat)(hj:j<l.length): itAt l j=l[j]:=by
 unfold itAt;rw[List.getD_eq_getElem?_getD,List.getElem?_eq_getElem hj];rfl
theorem qGf(l:List It)(i j:Nat)(hi:i<l.length)(hj:j<l.length): (swapL l i j).Perm l:=by
 unfold swapL
 rw[itAt_get l i hi,itAt_get l j hj]
 exact List.set_set_perm hi hj
theorem qJz(f:Nat): ∀(l:List It) (i:Nat),i<l.length->(riseL f l i).Perm l:=by
 induction f with
 | zero=>intro l i _;exact List.Perm.refl _
 | succ f ih =>
  intro l i hl
  unfold riseL
  split
  ·exact List.Perm.refl _
  ·split
   ·exact(ih _ _ (by rw[qAr];omega)).trans (qGf l _ _ hl (by omega))
   ·exact List.Perm.refl _
theorem qKh(f:Nat): ∀(l:List It) (i:Nat),i<l.length->(sinkL f l i).Perm l:=by
 induction f with
 | zero=>intro l i _;exact List.Perm.refl _
 | succ f ih =>
  intro l i hl
  unfold sinkL
  split
  ·exact List.Perm.refl _
  ·rename_i h0
   rcases qDj l i with hc | ⟨c,hc,hic,hcl⟩
   ·omega
   ·rw[hc,Int.toNat_natCast]
    split
    ·exact(ih _ _ (by rw[qAr];omega)).trans (qGf l _ _ hl hcl)
    ·exact List.Perm.refl _
theorem put_heap(l:List It)(x:It)(h:HeapL l): HeapL (riseL (l.length+1) (l++[x]) l.length)/\(riseL (l.length+1) (l++[x]) l.length).Perm (x::l):=by
 have hat:∀j,j<l.length->itAt (l++[x]) j=itAt l j:=by
  intro j hj
  unfold itAt
  rw[List.getD_eq_getElem?_getD,List.getD_eq_getElem?_getD,List.getElem?_append_left hj]
 refine⟨qKc _ _ _ (by simp) (by omega) ⟨?_,?_⟩,(qJz _ _ _ (by simp)).trans (List.perm_append_singleton x l)⟩
 ·intro j hj hjl hne
  rw[List.length_append,List.length_singleton]at hjl
  rw[hat _ (by omega),hat j (by omega)]
  exact h j hj (by omega)
 ·intro c h0 hcl hc0 hcp
  rw[List.length_append,List.length_singleton]at hcl
  omega
theorem take_heap(l:List It)(h:HeapL l)(hl:l≠[]): HeapL (takeL l)/\(itAt l 0::takeL l).Perm l:=by
 have hpos:0<l.length:=List.length_pos_iff.2 hl
 unfold takeL
 by_cases h1:l.length=1
 ·obtain⟨a,rfl⟩:=List.length_eq_one_iff.1 h1
  refine⟨?_,?_⟩
  ·intro i _ hi
   rw[show(([a].set 0 (itAt [a] ([a].length-1))).take ([a].length-1))=[] from rfl]at hi
   have:(sinkL [a].length [] 0).length=0:=rfl
   omega
  ·exact List.Perm.refl _
 ·obtain⟨a,m,rfl⟩:∃a m,l=a::m:=by cases l with | nil=>exact absurd rfl hl | cons a m=>exact⟨a,m,rfl⟩
  obtain⟨m',z,rfl⟩:∃m' z,m=m'++[z]:=by
   refine⟨m.dropLast,m.getLast (by intro e;subst e;simp at h1),?_⟩
   rw[List.dropLast_concat_getLast]
  have hz:itAt (a::(m'++[z])) ((a::(m'++[z])).length-1)=z:=by
   rw[itAt_get _ _ (by simp)]
   simp
  have he:((a::(m'++[z])).set 0 (itAt (a::(m'++[z])) ((a::(m'++[z])).length-1))).take ((a::(m'++[z])).length-1)=z::m':=by
   rw[hz];simp
  rw[he]
  have hat:∀j,0<j->j<(z::m').length->itAt (z::m') j=itAt (a::(m'++[z])) j:=by
   intro j h0 hj
   simp only[List.length_cons]at hj
   rw[itAt_get _ _ (by simpa using hj),itAt_get _ _ (by simp;omega)]
   obtain⟨j,rfl⟩:∃k,j=k+1:=⟨j-1,by omega⟩
   simp only[List.getElem_cons_succ]
   rw[List.getElem_append_left (by omega)]
  refine⟨qJ8 _ _ 0 (by simp) (by simp) ⟨?_,?_⟩,?_⟩
  ·intro j hj hjl hne
   rw[hat _ (by omega) (by omega),hat j hj hjl]
   exact h j hj (by simp at hjl ⊢;omega)
  ·intro c h0;omega
  ·refine(List.Perm.cons _ (qKh _ _ 0 (by simp))).trans ?_
   show(a::z::m').Perm (a::(m'++[z]))
   exact List.Perm.cons a (List.perm_append_singleton z m').symm
end
section
open Go.RowKit
attribute [local go_sem ↓] qAd qAe
attribute [local go_sem] qAg qAm qAb qAc qAn qAo qAi qAh qAf qAl
structure Ser where
 id:Int
 c:Cfg
 k:Nat
 acc:Int
 rel:Int
 ref:List Int
 l:List It
 nt:Note
 last:Int
structure SB where
 s:Nat
 q:Nat
 g:Option Nat
 n:NB
def Cfg.vals(c:Cfg)(rest:List Value): List Value:=.int .i64 c.kind::.int .i64 c.lag::.int .i64 c.skew::.int .i64 c.cap::.int .i64 c.k::.int .i64 c.window::.int .i64 c.bits::.int .i64 c.rows::.int .i64 c.width::.int .i64 c.panes::.int .i64 c.size::.int .i64 c.degree::.int .i64 c.half::.int .i64 c.mark::.int .i64 c.s00::.int .i64 c.s01::.int .i64 c.s10::.int .i64 c.s11::.int .i64 c.s20::.int .i64 c.s21::rest
def qB9(b:SB)(x:Ser): List Value :=
 .int .i64 x.id::x.c.vals (fn (qBn x.k)::fn (qA1 x.k)::fn (qA0 x.k)::fn (qAq x.k)::fn (qAz x.k)::fn (qA4 x.k)::relV x.k b.n.d::qryV x.k b.n.d::swpV x.k b.n.d::savV x.k b.n.d::lodV x.k b.n.d::.pointer (some ⟨b.q,0,none⟩)::.int .i64 x.acc::.int .i64 x.rel::x.ref.map (.int .i64 ·))
structure SRep (w:World) (b:SB) (x:Ser):Prop where
 blk:Blk w b.s (qB9 b x) 105
 que:QRep w b.q b.g x.l
 note:NRep w x.k b.n x.c x.nt
 sq:b.s≠b.q
 sg:∀g,b.g=some g->b.s≠g
 sn:∀i,qCz x.k b.n i->i≠b.s/\i≠b.q/\b.g≠some i
def SB.foot(b:SB)(k:Nat)(i:Nat): Prop:=i=b.s\/i=b.q\/b.g=some i\/qCz k b.n i
theorem SRep.keeps{M:Nat->Prop}{w w':World}{b:SB}{x:Ser}(h:SRep w b x)(hk:Keeps M w w')(hn:∀i,b.foot x.k i->¬M i): SRep w' b x :=
 ⟨h.blk.keeps hk (hn _ (.inl rfl)),h.que.keeps hk (hn _ (.inr (.inl rfl))) (λ_ hg=>hn _ (.inr (.inr (.inl hg)))),
    h.note.keeps hk (λi hi=>hn i (.inr (.inr (.inr hi)))),h.sq,h.sg,h.sn⟩
theorem SRep.still{w w':World}{b:SB}{x:Ser}(h:SRep w b x)(hk:Keeps (λ_=>False) w w'): SRep w' b x:=h.keeps hk (λ_ _ h=>h)
theorem SRep.lt{w:World}{b:SB}{x:Ser}(h:SRep w b x)(i:Nat)(hi:b.foot x.k i): i<w.heap.size:=by
 rcases hi with hi | hi | hi | hi
 ·subst hi;exact h.blk.lt
 ·subst hi;exact h.que.lt.1
 ·exact(h.que.lt.2 i hi).1
 ·exact h.note.lt i hi
structure SInv (n:Int) (x:Ser):Prop where
 valid:qA7 x.c=true
 kind:x.c.kind=x.k
 k1:1<=x.k
 k5:x.k<=5
 acc0:0<=x.acc
 accn:x.acc<=n
 rel0:0<=x.rel
 rela:x.rel+x.l.length=x.acc
 reflen:x.ref.length=12
 refn:∀v,v∈x.ref->0<=v/\v<=n
 cap:(x.l.length:Int)<=x.c.cap
 times:∀y,y∈x.l->0<=y.t/\y.t<=4611686018427387904
 note:NInv x.k x.c x.rel x.last x.nt
 heap:HeapL x.l
 last0:0<=x.last
 lastn:x.last<=4611686018427387904
 lastl:∀y,y∈x.l->x.last<=y.t
 fits:∀y,y∈x.l->qDb x.c x.k y=0
theorem SInv.common{n:Int}{x:Ser}(h:SInv n x): 0<=x.c.lag/\x.c.lag<=100/\0<=x.c.skew/\x.c.skew<=100/\1<=x.c.cap/\x.c.cap<=8:=by
 have:=h.valid
 simp only[qA7,qDk,inB,Bool.and_eq_true,decide_eq_true_eq]at this
 omega
theorem SInv.weighs{n:Int}{x:Ser}(h:SInv n x)(h4:4<=x.k): x.c.weighs:=qEa h.valid h.kind h4 h.k5
theorem qI3(s:Nat)(lag clock:Int)(w:World)(h:w.cell? ⟨s,2,none⟩=some (.int .i64 lag))(l0:0<=lag)(l1:lag<=100)(c0:0<=clock)(c1:clock<=4611686018427387904):
  Calls Tryz.prog 54 #[.pointer (some ⟨s,0,none⟩),.int .i64 clock] w λe w'=>e=.returned (.int .i64 (clock-lag))/\w'=w:=by
 go_enter Tryz.func54,Tryz.ntmps54
 go_wp2
 go_ret
 exact⟨rfl,rfl⟩
def refE(x:Ser)(clock:Int)(y:It): Int :=
 if inB y.t 0 4611686018427387904 then
  if y.t<=clock-x.c.lag then 6
  else if clock+x.c.skew<y.t then 7
  else if qDb x.c x.k y≠0 then qDb x.c x.k y
  else if x.c.cap<=x.l.length then 11 else if 4611686018427387904<=x.acc then 11 else 0
 else 5
theorem qB0{M:Nat->Prop}{w w':World}{b o n:Nat}(hk:Keeps M w w')(hn:¬M b)(hlt:b<w.heap.size): qAv w' b o n=qAv w b o n/\qA3 w' b o n=qA3 w b o n:=by
 have hc:∀j,w'.cell? ⟨b,o+j,none⟩=w.cell? ⟨b,o+j,none⟩:=λj=>World.cell?_of_block (a:=⟨b,o+j,none⟩) (hk.block b hlt hn)
 constructor
 ·unfold qAv qBv;simp only[hc]
 ·unfold qA3;simp only[hc]
theorem qLq(n:Int)(b:SB)(x:Ser)(y:It)(clock:Int)(w:World)(hs:SRep w b x)(hi:SInv n x)(c0:0<=clock)(c1:clock<=4611686018427387904):
  Calls Tryz.prog 49 #[.pointer (some ⟨b.s,0,none⟩),y.val,.int .i64 clock] w λe w'=>e=.returned (.int .i64 (refE x clock y))/\Keeps (λ_=>False) w w':=by
 obtain⟨l0,l1,s0,s1,p1,p8⟩:=hi.common
 have hlt:=hs.blk.lt
 have HS:=hide hs
 have HI:=hide hi
 have HB:=hide (show Blk (w.alloc (.cells y.cells 88)) w.heap.size [.int .i64 y.t,.int .i64 y.k,.int .i64 y.d,.int .i64 y.n] 88 from Blk.new w [_,_,_,_] 88)
 have HK:=hide ((Keeps.refl (λ_=>False) w).alloc (.cells y.cells 88))
 have HE:=hide (show refE x clock y=if inB y.t 0 4611686018427387904 then(if y.t<=clock-x.c.lag then 6 else if clock+x.c.skew<y.t then 7 else if qDb x.c x.k y≠0 then qDb x.c x.k y else if x.c.cap<=x.l.length then 11 else if 4611686018427387904<=x.acc then 11 else 0) else 5 from rfl)
 clear hs hi
 unfold It.val
 cases h1:inB y.t 0 4611686018427387904
 ·go_enter Tryz.func49,Tryz.ntmps49
  go_wp2_with (go_at_call 52;refine(qFu _ _).mono ?_;rintro e w' ⟨rfl,rfl⟩)
  go_ret
  exact⟨qA9 (by rw[uh HE,h1];rfl),uh HK⟩
 ·obtain⟨t0,t1⟩:=qDp h1
  rw[h1,if_pos rfl]at HE
  have hc2:w.cell? ⟨b.s,2,none⟩=some (.int .i64 x.c.lag):=(uh HS).blk.cell rfl
  go_enter Tryz.func49,Tryz.ntmps49
  go_wp2_with fail
  refine(qFu _ _).mono ?_
  rintro e w' ⟨rfl,rfl⟩
  rw[h1]
  go_wp2_with fail
  go_region_held3 (λw'=>w'.cell? ⟨w.heap.size,0,none⟩=some (.int .i64 y.t)/\w'.cell? ⟨b.s,2,none⟩=some (.int .i64 x.c.lag)) (go_keep)
   (first | (go_at_call 54;refine(qI3 b.s x.c.lag clock _ (by go_keep) l0 l1 c0 c1).mono ?_;rintro e w' ⟨rfl,rfl⟩))
  have HB1:=hide ((uh HB).drew)
  have HK1:=hide ((uh HK).drew)
  clear HB HK
  have e1:(w.alloc (.cells #[.int .i64 y.t,.int .i64 y.k,.int .i64 y.d,.int .i64 y.n] 88)).drew=(w.alloc (.cells y.cells 88)).drew:=rfl
  rw[e1]
  clear e1
  generalize(w.alloc (.cells y.cells 88)).drew=w1 at *
  generalize hbx:w.heap.size=bx at *
  have HS1:=hide ((uh HS).still (uh HK1))
  clear hc2 hlt hbx
  have hlt:=(uh HS1).blk.lt
  have hltx:=(uh HB1).lt
  have hb0:w1.cell? ⟨bx,0,none⟩=some (.int .i64 y.t):=(uh HB1).cell rfl
  have hb1:w1.cell? ⟨bx,1,none⟩=some (.int .i64 y.k):=(uh HB1).cell rfl
  have hb2:w1.cell? ⟨bx,2,none⟩=some (.int .i64 y.d):=(uh HB1).cell rfl
  have hb3:w1.cell? ⟨bx,3,none⟩=some (.int .i64 y.n):=(uh HB1).cell rfl
  have hc3:w1.cell? ⟨b.s,3,none⟩=some (.int .i64 x.c.skew):=(uh HS1).blk.cell rfl
  by_cases h6:y.t<=clock-x.c.lag
  ·rw[if_pos h6]at HE
   go_wp2
   go_ret
   exact⟨qA9 (uh HE).symm,uh HK1⟩
  ·rw[if_neg h6]at HE
   have h6':decide (y.t<=clock-x.c.lag)=false:=by simpa using h6
   go_wp2_with fail
   go_quiet (fail)
   by_cases h7:clock+x.c.skew<y.t
   ·rw[if_pos h7]at HE
    go_wp2
    go_ret
    exact⟨qA9 (uh HE).symm,(uh HK1).then (Keeps.drewN _ _ _)⟩
   ·rw[if_neg h7]at HE
    have h7':decide (clock+x.c.skew<y.t)=false:=by simpa using h7
    go_wp2_with fail
    have hkd:Keeps (λ_=>False) w1 (w1.drewN nq):=Keeps.drewN (λ_=>False) w1 nq
    have HS2:=hide ((uh HS1).still hkd)
    have HB2:=hide ((uh HB1).keeps hkd (λh=>h))
    have HK2:=hide ((uh HK1).then hkd)
    clear hkd
    generalize w1.drewN nq=w2 at *
    clear HS1 HB1 HK1 hb0 hb1 hb2 hb3 hc3 hlt hltx h6 h6' h7 h7'
    have hlt:=(uh HS2).blk.lt
    have hltx:=(uh HB2).lt
    have hb0:w2.cell? ⟨bx,0,none⟩=some (.int .i64 y.t):=(uh HB2).cell rfl
    have hb1:w2.cell? ⟨bx,1,none⟩=some (.int .i64 y.k):=(uh HB2).cell rfl
    have hb2:w2.cell? ⟨bx,2,none⟩=some (.int .i64 y.d):=(uh HB2).cell rfl
    have hb3:w2.cell? ⟨bx,3,none⟩=some (.int .i64 y.n):=(uh HB2).cell rfl
    have hc22:w2.cell? ⟨b.s,24,none⟩=some (.func (.func (qAq x.k)) #[] #[]):=(uh HS2).blk.cell rfl
    obtain⟨hv,hh⟩:=qBg (uh HS2).blk 1 20 x.c.cells rfl rfl
    have hown:=qOg x.k (uh HI).k1 (uh HI).k5
    go_region_held3 (λw'=>w'.cell? ⟨b.s,24,none⟩=some (.func (.func (qAq x.k)) #[] #[])/\qAv w' b.s 1 20=.agg x.c.cells.toArray/\qA3 w' b.s 1 20=true /\
        w'.cell? ⟨bx,0,none⟩=some (.int .i64 y.t)/\w'.cell? ⟨bx,1,none⟩=some (.int .i64 y.k)/\w'.cell? ⟨bx,2,none⟩=some (.int .i64 y.d)/\w'.cell? ⟨bx,3,none⟩=some (.int .i64 y.n))
     (first | (simp[*,qAb,qAc];done) | (go_split_ands;refine⟨hk.cell (by assumption) (λh=>h),(qB0 hk (λh=>h) (by simpa using hlt)).1.trans (by assumption),(qB0 hk (λh=>h) (by simpa using hlt)).2.trans (by assumption),hk.cell (by assumption) (λh=>h),hk.cell (by assumption) (λh=>h),hk.cell (by assumption) (λh=>h),hk.cell (by assumption) (λh=>h)⟩))
     (first | (refine(qJ9 x.c x.k y _ (uh HI).k1 (uh HI).k5 (uh HI).weighs t0 t1).mono ?_;rintro e w' ⟨rfl,hk⟩))
    have hk3:Keeps (λ_=>False) w2 w':=((Keeps.refl (λ_=>False) w2).drew).then hk
    have HS3:=hide ((uh HS2).still hk3)
    have HK3:=hide ((uh HK2).then hk3)
    clear hk hk3 HS2 HB2 HK2 hb0 hb1 hb2 hb3 hc22 hv hh hown hlt hltx
    have hlt:=(uh HS3).blk.lt
    generalize he:qDb x.c x.k y=e at *
    by_cases h8:e=0
    ·have h8':(e !=0)=false:=by simp[h8]
     rw[if_neg (by simpa using h8)]at HE
     have HN8:=hide h8
     clear h8
     have hc26:w'.cell? ⟨b.s,32,none⟩=some (.pointer (some ⟨b.q,0,none⟩)):=(uh HS3).blk.cell rfl
     have hc4:w'.cell? ⟨b.s,4,none⟩=some (.int .i64 x.c.cap):=(uh HS3).blk.cell rfl
     have hc33:w'.cell? ⟨b.s,33,none⟩=some (.int .i64 x.acc):=(uh HS3).blk.cell rfl
     by_cases h9:x.c.cap<=(x.l.length:Int)
     ·rw[if_pos h9]at HE
      have h9':decide (x.c.cap<=(x.l.length:Int))=true:=by simpa using h9
      go_wp2_with fail
      go_quiet (first | (go_at_call 78;refine Calls.quiet_of_same (len_any b.q b.g x.l _ (by exact(uh HS3).que.keeps (Keeps.drewN (λ_=>False) _ _) (λh=>h) (λ_ _ h=>h)))))
      go_wp2
      go_ret
      exact⟨qA9 (uh HE).symm,(uh HK3).then (Keeps.drewN _ _ _)⟩
     ·rw[if_neg h9]at HE
      have h9':decide (x.c.cap<=(x.l.length:Int))=false:=by simpa using h9
      by_cases h10:4611686018427387904<=x.acc
      ·rw[if_pos h10]at HE
       have h10':decide (4611686018427387904<=x.acc)=true:=by simpa using h10
       go_wp2_with fail
       go_quiet (first | (go_at_call 78;refine Calls.quiet_of_same (len_any b.q b.g x.l _ (by exact(uh HS3).que.keeps (Keeps.drewN (λ_=>False) _ _) (λh=>h) (λ_ _ h=>h)))))
       go_wp2
       go_ret
       exact⟨qA9 (uh HE).symm,(uh HK3).then (Keeps.drewN _ _ _)⟩
      ·rw[if_neg h10]at HE
       have h10':decide (4611686018427387904<=x.acc)=false:=by simpa using h10
       go_wp2_with fail
       go_quiet (first | (go_at_call 78;refine Calls.quiet_of_same (len_any b.q b.g x.l _ (by exact(uh HS3).que.keeps (Keeps.drewN (λ_=>False) _ _) (λh=>h) (λ_ _ h=>h)))))
       go_wp2
       go_ret
       exact⟨qA9 (uh HE).symm,(uh HK3).then (Keeps.drewN _ _ _)⟩
    ·have h8':(e !=0)=true:=by simp[h8]
     rw[if_pos (by simpa using h8)]at HE
     have HN8:=hide h8
     clear h8
     go_wp2
     go_ret
     exact⟨qA9 (uh HE).symm,uh HK3⟩
def numbered(y:It)(n:Int): It:=⟨y.t,y.k,y.d,n⟩
def accS(x:Ser)(y:It): Ser:={ x with acc:=x.acc+1,l:=riseL (x.l.length+1) (x.l++[numbered y (x.acc+1)]) x.l.length }
def SB.next(b b':SB)(k size:Nat): Prop:=b'.s=b.s/\∀i,b'.foot k i->b.foot k i\/size<=i
theorem qW5(n:Int)(b:SB)(x:Ser)(y:It)(w:World)(hs:SRep w b x)(hi:SInv n x)(hn:n<=4611686018427387904):
  Calls Tryz.prog 51 #[.pointer (some ⟨b.s,0,none⟩),y.val] w λe w'=>e=.returned (.int .i64 (x.acc+1))/\∃b',SRep w' b' (accS x y)/\b.next b' x.k w.heap.size/\Keeps (b.foot x.k) w w':=by
 obtain⟨l0,l1,s0,s1,p1,p8⟩:=hi.common
 have hlt:=hs.blk.lt
 have hcap:=hi.cap
 have ha0:=hi.acc0
 have han:=hi.accn
 have hlq:=hs.que.lt
 have hc27:w.cell? ⟨b.s,33,none⟩=some (.int .i64 x.acc):=hs.blk.cell rfl
 have hf:=hs.blk.frozen
 have HS:=hide hs
 clear hs hi
 have hwr:IntKind.i64.wrap (x.acc+1)=x.acc+1:=qPd (by omega) (by omega)
 unfold It.val
 go_enter Tryz.func51,Tryz.ntmps51
 go_wp2_with fail
 have hk1:Keeps (λi=>i=b.s) w ((w.setCell ⟨b.s,33,none⟩ (.int .i64 (x.acc+1))).alloc (.cells #[.int .i64 y.t,.int .i64 y.k,.int .i64 y.d,.int .i64 (x.acc+1)] 88)) :=
  ((Keeps.refl (λi=>i=b.s) w).setCell (p:=⟨b.s,33,none⟩) (Or.inl rfl) _).alloc _
 have HB1:=hide (show Blk ((w.setCell ⟨b.s,33,none⟩ (.int .i64 (x.acc+1))).alloc (.cells #[.int .i64 y.t,.int .i64 y.k,.int .i64 y.d,.int .i64 (x.acc+1)] 88)) b.s (qB9 b { x with acc:=x.acc+1 }) 105 from((uh HS).blk.setCell 33 (.int .i64 (x.acc+1))).alloc _)
 have HX1:=hide (show Blk ((w.setCell ⟨b.s,33,none⟩ (.int .i64 (x.acc+1))).alloc (.cells #[.int .i64 y.t,.int .i64 y.k,.int .i64 y.d,.int .i64 (x.acc+1)] 88)) w.heap.size [.int .i64 y.t,.int .i64 y.k,.int .i64 y.d,.int .i64 (x.acc+1)] 88 from Blk.newAt (by simp) [_,_,_,_] 88)
 have HQ1:=hide ((uh HS).que.keeps hk1 (λh=>(uh HS).sq h.symm) (λg hg h=>(uh HS).sg g hg h.symm))
 have HD1:=hide (show NRep _ x.k b.n x.c x.nt from(uh HS).note.keeps hk1 (λi hi h=>((uh HS).sn i hi).1 h))
 have HK1:=hide hk1
 clear hk1 hc27 hf
 generalize((w.setCell ⟨b.s,33,none⟩ (.int .i64 (x.acc+1))).alloc (.cells #[.int .i64 y.t,.int .i64 y.k,.int .i64 y.d,.int .i64 (x.acc+1)] 88))=w1 at *
 have hsz:w.heap.size<=w1.heap.size:=(uh HK1).size
 generalize hbx:w.heap.size=bx at *
 have HBX:=hide hbx
 clear hbx
 have hlt1:=(uh HB1).lt
 have hltx:=(uh HX1).lt
 have hc26:w1.cell? ⟨b.s,32,none⟩=some (.pointer (some ⟨b.q,0,none⟩)):=(uh HB1).cell rfl
 have hx0:w1.cell? ⟨bx,0,none⟩=some (.int .i64 y.t):=(uh HX1).cell rfl
 have hx1:w1.cell? ⟨bx,1,none⟩=some (.int .i64 y.k):=(uh HX1).cell rfl
 have hx2:w1.cell? ⟨bx,2,none⟩=some (.int .i64 y.d):=(uh HX1).cell rfl
 have hx3:w1.cell? ⟨bx,3,none⟩=some (.int .i64 (x.acc+1)):=(uh HX1).cell rfl
 have HNS:=hide (show ¬(b.s=b.q\/b.g=some b.s) from λh=>h.elim (uh HS).sq (λh=>(uh HS).sg b.s h rfl))
 have HNX:=hide (show ¬(bx=b.q\/b.g=some bx) from λh=>h.elim (λh=>by omega) (λh=>by have:=(hlq.2 bx h).1;omega))
 have hl9:x.l.length<=900:=by omega
 go_region_held3 (λw'=>w'.cell? ⟨b.s,32,none⟩=some (.pointer (some ⟨b.q,0,none⟩))/\w'.cell? ⟨bx,0,none⟩=some (.int .i64 y.t)/\w'.cell? ⟨bx,1,none⟩=some (.int .i64 y.k)/\w'.cell? ⟨bx,2,none⟩=some (.int .i64 y.d)/\w'.cell? ⟨bx,3,none⟩=some (.int .i64 (x.acc+1)))
  (first | (simp[*];done) | (go_split_ands;exact⟨hk.cell (by assumption) (uh HNS),hk.cell (by assumption) (uh HNX),hk.cell (by assumption) (uh HNX),hk.cell (by assumption) (uh HNX),hk.cell (by assumption) (uh HNX)⟩))
  (first | (go_at_call 79;refine(put_any b.q b.g x.l (numbered y (x.acc+1)) _ (by exact(uh HQ1).keeps ((Keeps.refl (λ_=>False) w1).drew) (λh=>h) (λ_ _ h=>h)) hl9).mono ?_;rintro e w' ⟨rfl,og,hq,hk,hog⟩))
 have HF:=hide (show w'.cell? ⟨bx,3,none⟩=some (.int .i64 (x.acc+1)) from((((uh HX1).drew).keeps hk (uh HNX)).cell rfl))
 have hx3':=uh HF
 have HK:=hide hk
 have HQ:=hide hq
 have HOG:=hide hog
 clear hk hq hog hx0 hx1 hx2 hx3 hc26
 go_wp2
 go_ret
 have hkd:Keeps (λk=>k=b.q\/b.g=some k) w1 w':=((Keeps.refl (λk=>k=b.q\/b.g=some k) w1).drew).then (uh HK)
 refine⟨rfl,⟨b.s,b.q,og,b.n⟩,⟨(uh HB1).keeps hkd (uh HNS),uh HQ,(uh HD1).keeps hkd (λi hi h=>?_),(uh HS).sq,?_,λi hi=>⟨((uh HS).sn i hi).1,((uh HS).sn i hi).2.1,?_⟩⟩,⟨rfl,?_⟩,?_⟩
 ·rcases h with h | h
  ·exact((uh HS).sn i hi).2.1 h
  ·exact((uh HS).sn i hi).2.2 h
 ·intro g hg
  rcases uh HOG with h | ⟨k,h,hz⟩
  ·exact(uh HS).sg g (h.symm.trans hg)
  ·have hgk:g=k:=by have:=h.symm.trans hg;simpa using this.symm
   show b.s≠g
   rw[World.size_drew]at hz
   omega
 ·intro hg
  rcases uh HOG with h | ⟨k,h,hz⟩
  ·exact((uh HS).sn i hi).2.2 (h.symm.trans hg)
  ·have hgk:i=k:=by have:=h.symm.trans hg;simpa using this.symm
   have:=(uh HD1).lt i hi
   rw[World.size_drew]at hz
   omega
 ·intro i hi
  rcases hi with hi | hi | hi | hi
  ·exact .inl (.inl hi)
  ·exact .inl (.inr (.inl hi))
  ·rcases uh HOG with h | ⟨k,h,hz⟩
   ·exact .inl (.inr (.inr (.inl (h.symm.trans hi))))
   ·have hgk:i=k:=by have:=h.symm.trans hi;simpa using this.symm
    rw[World.size_drew]at hz
    exact .inr (by have:=uh HBX;omega)
  ·exact .inl (.inr (.inr (.inr hi)))
 ·refine((uh HK1).mono (M':=b.foot x.k) (λi _ h=>.inl h)).trans hkd (λi hi _=>?_)
  rcases hi with hi | hi
  ·exact .inr (.inl hi)
  ·exact .inr (.inr (.inl hi))
end
end Go.Proofs.YtahnliehdjncdabGreatDoor
