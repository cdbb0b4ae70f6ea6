import Derived.Test.YtahnliehdjncdaaGreatDoorXAY
import Derived.Test.YtahnliehdjncdaaGreatDoorXAX
import Derived.Test.YtahnliehdjncdaaGreatDoorXAN
import Derived.Test.YtahnliehdjncdaaGreatDoorXAO
import Derived.Test.YtahnliehdjncdaaGreatDoorXAD
import Derived.Test.YtahnliehdjncdaaGreatDoorXAW
import Derived.Test.YtahnliehdjncdaaGreatDoorXAH
set_option maxRecDepth 100000
set_option maxHeartbeats 16000000
namespace Go.Proofs.YtahnliehdjncdaaGreatDoor
section
open Go.RowKit
attribute [local go_sem ↓] qAd qAe
attribute [local go_sem] qAh qAl qAb qAc qAm qAn qAg qAk
def qX1(ty:TypeId)(ps:Array (Nat×Value)): Sem Next:=do pure (.value (<-Instr.build ty ps))
theorem qLw(ρ:Operand->Value)(dst:Option Tmp)(x:Array (Nat×Operand))(ty:TypeId)(pos:String)(after:Array Edge)(guard:Option (Nat×Bool)):
  execOp ρ { dst,op:=.build 254 x,type:=ty,pos,after,guard }=qX1 254 (x.map λ(i,y)=>(i,ρ y)):=rfl
theorem qS6(c:Cfg)(q:Nat)(w:World):
  (qX1 254 #[(0,.agg c.cells.toArray),(1,.pointer (some ⟨q,0,none⟩))]).run Tryz.prog w=.ok (.value (.agg (qMy c q).toArray)) w:=by kernel_rfl
attribute [local go_sem ↓] qLw
attribute [local go_sem] qS6
theorem qOu(c:Cfg)(w:World):
  Calls Tryz.prog 182 #[c.val] w λe w'=>∃d q,e=.returned (.pointer (some ⟨d,0,none⟩))/\w.heap.size<=d/\w.heap.size<=q/\TRep w' d q none c []/\Keeps (λ_=>False) w w':=by
 obtain⟨W,hW⟩:∃W,W=w.alloc (.cells c.cells.toArray 38):=⟨_,rfl⟩
 have HB:=hide (show Blk W w.heap.size c.cells 38 by rw[hW];exact Blk.new w _ _)
 have HK:=hide (show Keeps (λ_=>False) w W by rw[hW];exact(Keeps.refl (λ_=>False) w).alloc _)
 have HW:=hide hW
 clear hW
 unfold Cfg.val
 go_enter Tryz.func182,Tryz.ntmps182
 go_wp2_with fail
 rw[show w.alloc (.cells #[.int .i64 c.kind,.int .i64 c.lag,.int .i64 c.skew,.int .i64 c.cap,.int .i64 c.k,.int .i64 c.window,.int .i64 c.bits,.int .i64 c.rows,.int .i64 c.width,.int .i64 c.panes,.int .i64 c.size,.int .i64 c.degree,.int .i64 c.half,.int .i64 c.mark,.int .i64 c.s00,.int .i64 c.s01,.int .i64 c.s10,.int .i64 c.s11,.int .i64 c.s20,.int .i64 c.s21] 38)=W from(uh HW).symm]
 generalize hcb:w.heap.size=cb at *
 have HCB:=hide hcb
 clear hcb
 have hsz0:cb<W.heap.size:=(uh HB).lt
 obtain⟨hv,hh⟩:=qBf (uh HB) 20 rfl
 go_region_held3 (λw'=>qAq w' cb 0 20=.agg c.cells.toArray/\qAw w' cb 0 20=true)
  (first | (simp[*,qAb,qAc,qAi,qAj];done) | (go_split_ands;exact⟨(qDi hk1 (by simpa using hsz0)).1.trans (by assumption),(qDi hk1 (by simpa using hsz0)).2.trans (by assumption)⟩))
  (first | (go_at_call 227;refine(Dr.new_any _).mono ?_;rintro e W1 ⟨rfl,hr1,hk1,hz1⟩))
 go_wp2
 go_ret
 have hk1':Keeps (λ_=>False) W W1:=((Keeps.refl _ _).drew).then hk1
 have hka:∀O,Keeps (λ_=>False) W1 (W1.alloc O):=λO=>(Keeps.refl (λ_=>False) W1).alloc O
 have h2:=(uh HK).size
 have h3:=uh HCB
 have hz2:W1.heap.size=W.heap.size+1:=by simpa using hz1
 exact⟨W.heap.size+1,W.heap.size,rfl,by omega,by omega,⟨Blk.newAt hz2 (qMy c W.heap.size) 254,hr1.keeps (hka _) (λh=>h) (λ_ h=>by cases h),by omega,λg hg=>by cases hg⟩,((uh HK).then hk1').alloc _⟩
def qOi(d:Nat): Value:=.func (.func 183) #[.pointer (some ⟨d,0,none⟩)] #[]
def qNm(d:Nat): Value:=.func (.func 186) #[.pointer (some ⟨d,0,none⟩)] #[]
def qN0(d:Nat): Value:=.func (.func 185) #[.pointer (some ⟨d,0,none⟩)] #[]
def qNz(d:Nat): Value:=.func (.func 184) #[.pointer (some ⟨d,0,none⟩)] #[]
theorem qLm(c:Cfg)(w:World):
  Calls Tryz.prog 139 #[c.val] w λe w'=>∃d q,e=.returned (.agg #[qOi d,qNz d,qFx,qN0 d,qNm d])/\w.heap.size<=d/\w.heap.size<=q/\TRep w' d q none c []/\Keeps (λ_=>False) w w':=by
 obtain⟨W,hW⟩:∃W,W=(w.alloc (.cells c.cells.toArray 38)).alloc (.cells #[.nilFunc,.nilFunc,.nilFunc,.nilFunc,.nilFunc] 100):=⟨_,rfl⟩
 have HT:=hide (show Blk W (w.heap.size+1) [.nilFunc,.nilFunc,.nilFunc,.nilFunc,.nilFunc] 100 by rw[hW];exact Blk.newAt (by simp) _ _)
 have HK:=hide (show Keeps (λ_=>False) w W by rw[hW];exact((Keeps.refl (λ_=>False) w).alloc _).alloc _)
 have HW:=hide hW
 have HN:=hide (qOu c W)
 clear hW
 unfold Cfg.val at *
 go_enter Tryz.func139,Tryz.ntmps139
 go_wp2_with fail
 rw[show(w.alloc (.cells #[.int .i64 c.kind,.int .i64 c.lag,.int .i64 c.skew,.int .i64 c.cap,.int .i64 c.k,.int .i64 c.window,.int .i64 c.bits,.int .i64 c.rows,.int .i64 c.width,.int .i64 c.panes,.int .i64 c.size,.int .i64 c.degree,.int .i64 c.half,.int .i64 c.mark,.int .i64 c.s00,.int .i64 c.s01,.int .i64 c.s10,.int .i64 c.s11,.int .i64 c.s20,.int .i64 c.s21] 38)).alloc (.cells #[.nilFunc,.nilFunc,.nilFunc,.nilFunc,.nilFunc] 100)=W from(uh HW).symm]
 generalize hcb:w.heap.size=cb at *
 have HCB:=hide hcb
 clear hcb
 refine(uh HN).mono ?_
 rintro e w2 ⟨d,q,rfl,hd,hq,hc2,hk2⟩
 have HC2:=hide hc2
 have HT2:=hide ((uh HT).keeps hk2 (λh=>h))
 have HK2:=hide ((uh HK).then hk2)
 have HSZ:=hide (uh HK).size
 have HLT:=hide (uh HT).lt
 clear hc2 hk2 HT HK HN
 have f0:=(uh HT2).frozen
 have q0:w2.cell? ⟨cb+1,0,none⟩=some .nilFunc:=(uh HT2).cell rfl
 have q1:w2.cell? ⟨cb+1,1,none⟩=some .nilFunc:=(uh HT2).cell rfl
 have q2:w2.cell? ⟨cb+1,2,none⟩=some .nilFunc:=(uh HT2).cell rfl
 have q3:w2.cell? ⟨cb+1,3,none⟩=some .nilFunc:=(uh HT2).cell rfl
 have q4:w2.cell? ⟨cb+1,4,none⟩=some .nilFunc:=(uh HT2).cell rfl
 go_wp2
 have hcb:=uh HCB
 have hsz:=uh HSZ
 have hkf:Keeps (λi=>i=cb+1) w2 (((((w2.setCell ⟨cb+1,0,none⟩ (qOi d)).setCell ⟨cb+1,1,none⟩ (qNz d)).setCell ⟨cb+1,2,none⟩ qFx).setCell ⟨cb+1,3,none⟩ (qN0 d)).setCell ⟨cb+1,4,none⟩ (qNm d)):=(((((Keeps.refl (λi=>i=cb+1) w2).setCell (p:=⟨cb+1,0,none⟩) (Or.inl rfl) _).setCell (p:=⟨cb+1,1,none⟩) (Or.inl rfl) _).setCell (p:=⟨cb+1,2,none⟩) (Or.inl rfl) _).setCell (p:=⟨cb+1,3,none⟩) (Or.inl rfl) _).setCell (p:=⟨cb+1,4,none⟩) (Or.inl rfl) _
 refine bodyPost_ret (v:=.agg #[qOi d,qNz d,qFx,qN0 d,qNm d]) (by simp[results,Tryz.results139,go_sem,q0,q1,q2,q3,q4,qOi,qNz,qFx,qN0,qNm]) rfl ⟨d,q,rfl,by omega,by omega,?_,?_⟩
 ·exact(uh HC2).keeps hkf (λh=>by have:=uh HLT;omega) (λh=>by have:=uh HLT;omega) (λg hg=>by cases hg)
 ·exact(uh HK2).trans hkf (λi hi hlt=>by omega)
end
section
open Go.RowKit
theorem qNe(c:Cfg): ∀(n s j:Nat),qFi c n s=true->s<=j->j<s+n->c.seed j=true
 | 0,s,j,_,h1,h2=>by omega
 | n+1,s,j,h,h1,h2=>by
  unfold qFi at h
  rw[Bool.and_eq_true]at h
  by_cases e:j=s
  ·rw[e];exact h.1
  ·exact qNe c n (s+1) j h.2 (by omega) (by omega)
theorem qYj{c:Cfg}{j:Nat}(h:c.seed j=true): 0<=sdA c j/\sdA c j<2305843009213693951/\0<=sdB c j/\sdB c j<2305843009213693951:=by
 match j with
 | 0=>simp only[Cfg.seed,qR5,inB,Bool.and_eq_true,decide_eq_true_eq]at h;show 0<=c.s00/\c.s00<_/\0<=c.s01/\c.s01<_;omega
 | 1=>simp only[Cfg.seed,qR5,inB,Bool.and_eq_true,decide_eq_true_eq]at h;show 0<=c.s10/\c.s10<_/\0<=c.s11/\c.s11<_;omega
 | j+2=>simp only[Cfg.seed,qR5,inB,Bool.and_eq_true,decide_eq_true_eq]at h;show 0<=c.s20/\c.s20<_/\0<=c.s21/\c.s21<_;omega
theorem qB9{c:Cfg}{k:Nat}(h:qBg c=true)(hk:c.kind=k)(h3:k=3): c.paned/\c.rowed/\1<=qBo c/\qBo c<=1000/\c.panes*qBo c=c.window:=by
 subst h3
 simp only[qBg,hk,Bool.and_eq_true]at h
 have h2:qO3 c=true:=h.2.2
 simp only[qO3,qD5,inB,Bool.and_eq_true,decide_eq_true_eq,beq_iff_eq]at h2
 obtain⟨⟨r0,r1⟩,⟨w0,w1⟩,⟨p0,p1⟩,⟨n0,n1⟩,hm,hs⟩:=h2
 have hd:c.panes*(c.window/c.panes)=c.window:=by have:=Int.mul_ediv_add_emod c.window c.panes;omega
 have hl0:1<=c.window/c.panes:=by
  rcases Int.lt_or_le (c.window/c.panes) 1 with h | h
  ·have h0:0<=c.window/c.panes:=Int.ediv_nonneg (by omega) (by omega)
   have h1:c.window/c.panes=0:=by omega
   rw[h1]at hd;omega
  ·exact h
 have hl1:c.window/c.panes<=c.window:=Int.ediv_le_self _ (by omega)
 refine⟨⟨n0,n1,p0,p1⟩,⟨r0,r1,w0,w1,λj hj=>qYj (qNe c c.rows.toNat 0 j hs (Nat.zero_le _) (by omega))⟩,hl0,by show c.window/c.panes<=1000;omega,hd⟩
theorem qBx{c:Cfg}{k:Nat}(h:qBg c=true)(hk:c.kind=k)(h2:k=2): c.pair0/\1<=c.bits/\c.bits<=4/\1<=c.window/\c.window<=1000:=by
 subst h2
 simp only[qBg,hk,Bool.and_eq_true]at h
 have h2:qGh c=true:=h.2.2
 simp only[qGh,qD5,inB,Bool.and_eq_true,decide_eq_true_eq]at h2
 obtain⟨⟨b0,b1⟩,⟨n0,n1⟩,hs⟩:=h2
 have:=qYj (qNe c 1 0 0 hs (Nat.le_refl _) (by omega))
 obtain⟨a0,a1,a2,a3⟩:=this
 exact⟨⟨a0,a1,a2,a3⟩,b0,b1,n0,n1⟩
theorem qDl{c:Cfg}{k:Nat}(h:qBg c=true)(hk:c.kind=k)(h5:k=5): 1<=c.size/\c.size<=5:=by
 subst h5
 simp only[qBg,hk,Bool.and_eq_true]at h
 have h2:qIy c=true:=h.2.2
 simp only[qIy,inB,Bool.and_eq_true,decide_eq_true_eq]at h2
 omega
theorem qS1{c:Cfg}{l:List Dr.It}(y:It)(h:(l.length:Int)<=c.size+1): ((qOk c l y).length:Int)<=c.size+1:=by
 unfold qOk
 split
 ·rw[Dr.takeL_length,Dr.riseL_length,List.length_append]
  simp only[List.length_singleton]
  omega
 ·rename_i h1
  rw[Dr.riseL_length,List.length_append]
  simp only[List.length_singleton]
  omega
theorem qQ3(c:Cfg)(n:Nat)(ls:Nat->List Bk)(y:It)(m:Int)(j:Nat): (qTv c n ls y m j).length<=(ls j).length+1:=by
 unfold qTv
 split
 ·have:=qQd ((ls j).drop (Mk.pastN (ls j) (m-c.window))) ⟨y.t,qJg (qDo c.s00 c.s01 y.k/n)⟩
  rw[List.length_drop]at this
  omega
 ·omega
theorem qVy{c:Cfg}{n:Nat}{ls:Nat->List Bk}(h:∀i,∀b∈ls i,1<=b.t/\b.t<=40)(y:It)(m:Int): ∀i,∀b∈qTv c n ls y m i,1<=b.t/\b.t<=40:=by
 intro i b hb
 unfold qTv at hb
 split at hb
 ·rcases qO2 hb with h1 | h1
  ·exact h i b (List.mem_of_mem_drop h1)
  ·rw[h1];exact qY6 _
 ·exact h i b hb
structure Note where
 q:Int
 r:Int
 bs:List Bk
 rg:Nat->List Bk
 op:Pa.Pn
 cl:List Pa.Pn
 tk:List Dr.It
def qGb: Note:=⟨0,0,[],λ_=>[],Pa.pn0,[],[]⟩
structure NB where
 d:Nat
 r:Nat
 g:Option Nat
 qs:List (Nat×Option Nat)
def qD2(k:Nat)(b:NB)(i:Nat): Prop :=
 (k=1/\(i=b.d\/i=b.r\/b.g=some i))\/(k=4/\i=b.d)\/(k=2/\(i=b.d\/i=b.r\/∃j,j<b.qs.length/\qf (qAt b.qs j) i)) \/
 (k=3/\(i=b.d\/i=b.r\/b.g=some i))\/(k=5/\(i=b.d\/i=b.r\/b.g=some i))
def qMi(c:Cfg): Nat:=2 ^ c.bits.toNat
structure NRep (w:World) (k:Nat) (b:NB) (c:Cfg) (nt:Note):Prop where
 dec:k=4->Blk w b.d (qCw c nt.q nt.r) 198
 cnt:k=1->CRep w b.d b.r b.g c nt.bs
 dis:k=2->DRep w b.d b.r b.qs c nt.rg/\b.qs.length=qMi c
 oft:k=3->ORep w b.d b.r b.g c nt.op nt.cl
 drw:k=5->TRep w b.d b.r b.g c nt.tk
def zCn(k:Nat)(c:Cfg)(nt:Note)(y:It)(m:Int): Note :=
 if k=4 then { nt with q:=nt.q+(nt.r+qCk (qBl c y.t))/2305843009213693952,r:=(nt.r+qCk (qBl c y.t))%2305843009213693952 }
 else if k=1 then { nt with bs:=zA8 c nt.bs y.t m }
 else if k=2 then { nt with rg:=qTv c (qMi c) nt.rg y m }
 else if k=3 then { nt with op:=(zAh c nt.op nt.cl y m).1,cl:=(zAh c nt.op nt.cl y m).2 }
 else if k=5 then { nt with tk:=qOk c nt.tk y } else nt
def qIg(k:Nat)(c:Cfg)(nt:Note)(a m:Int): Int×List Int :=
 if k=4 then(0,[nt.q,nt.r,qCk (qBl c m)])
 else if k=1 then(if inB a 1 c.window=true then(0,[zDk nt.bs (m-a)]) else(13,[]))
 else if k=2 then zEg c (qMi c) nt.rg a m
 else if k=3 then(if inB a 0 2147483648=true then(0,[qryO c nt.op nt.cl a m]) else(10,[]))
 else if k=5 then(0,qSd c nt.tk) else(1,[])
def qTh(k:Nat)(c:Cfg)(nt:Note)(m b:Int): Note×Int×Int :=
 if k=1 then({ nt with bs:=nt.bs.drop (qDw c nt.bs m b).toNat },qDw c nt.bs m b,(pastN nt.bs (m-c.window):Int)-qDw c nt.bs m b) else(nt,0,0)
structure NInv (k:Nat) (c:Cfg) (rel last:Int) (nt:Note):Prop where
 q0:0<=nt.q
 qn:nt.q<=rel
 r0:0<=nt.r
 r1:nt.r<2305843009213693952
 one:∀b∈nt.bs,1<=b.sz
 sum:qDz nt.bs<=rel
 rk:∀i,∀b∈nt.rg i,1<=b.t/\b.t<=40
 rl:∀i,((nt.rg i).length:Int)<=rel
 oi:k=3->OInv c rel last nt.op nt.cl
 tl:k=5->(nt.tk.length:Int)<=c.size+1
 lw:k=1->1<=c.k/\c.k<=10/\Lw c.k.toNat 0 nt.bs
 nb:k≠1->nt.bs=[]
 rf:∀i,Fall (nt.rg i)
theorem NInv.few{k:Nat}{c:Cfg}{rel last:Int}{nt:Note}(h:NInv k c rel last nt)(hr:rel<=4611686018427387904): nt.bs.length<=682/\∀b∈nt.bs,b.sz<4611686018427387904:=by
 by_cases e:k=1
 ·obtain⟨h1,h2,h3⟩:=h.lw e
  have h4:=h.sum
  have:=h3.few (by omega) (by omega)
  refine⟨?_,this.2⟩
  have h5:62*(c.k.toNat+1)<=62*11:=Nat.mul_le_mul_left _ (by omega)
  omega
 ·rw[h.nb e];exact⟨by simp,λb hb=>by cases hb⟩
theorem NInv.binv{k:Nat}{c:Cfg}{rel last:Int}{nt:Note}(h:NInv k c rel last nt)(hr:rel<=4611686018427387904): BInv nt.bs:=⟨h.one,by have:=h.sum;omega,by have:=(h.few hr).1;omega⟩
theorem NInv.forty{k:Nat}{c:Cfg}{rel last:Int}{nt:Note}(h:NInv k c rel last nt)(i:Nat): (nt.rg i).length<=40:=by
 have:=qHg (nt.rg i) 40 (h.rf i) (h.rk i)
 omega
theorem qYh{K:Int}(hK:0<=K)(f:Nat)(l:List Bk)(sz:Int)(e:Nat)(h1:∀b∈l,1<=b.sz)(he:e<=l.length)(z1:1<=sz): (∀b∈joinL K f l sz e,1<=b.sz)/\qDz (joinL K f l sz e)=qDz l:=by
 induction f generalizing l sz e with
 | zero=>exact⟨h1,rfl⟩
 | succ f ih =>
  unfold joinL
  split
  ·exact⟨h1,rfl⟩
  ·rename_i h
   have hs:qB1 l sz e+2<=e:=by omega
   have a1:(qB8 l (qB1 l sz e)).sz=sz:=qHr l sz e _ (by omega) (by omega)
   have a2:(qB8 l (qB1 l sz e+1)).sz=sz:=qHr l sz e _ (by omega) (by omega)
   have hsum:=qMf l (qB1 l sz e) ⟨2*sz,(qB8 l (qB1 l sz e+1)).t⟩ (by omega) (by show 2*sz=_;omega)
   have hlen:=qC6 (⟨2*sz,(qB8 l (qB1 l sz e+1)).t⟩:Bk) (l:=l) (i:=qB1 l sz e) (by omega)
   have:=ih (qCp l (qB1 l sz e) ⟨2*sz,(qB8 l (qB1 l sz e+1)).t⟩) (2*sz) (qB1 l sz e+1) (qIh l _ _ h1 (by show 1<=2*sz;omega)) (by omega) (by omega)
   exact⟨this.1,this.2.trans hsum⟩
theorem NInv.drop{k:Nat}{c:Cfg}{rel last:Int}{nt:Note}(h:NInv k c rel last nt)(j:Nat): NInv k c rel last { nt with bs:=nt.bs.drop j }:=by
 refine⟨h.q0,h.qn,h.r0,h.r1,λb hb=>h.one b (List.mem_of_mem_drop hb),?_,h.rk,h.rl,h.oi,h.tl,λe=>⟨(h.lw e).1,(h.lw e).2.1,(h.lw e).2.2.drop (by have:=(h.lw e).1;omega) j⟩,λe=>by show nt.bs.drop j=[];rw[h.nb e];exact List.drop_nil,h.rf⟩
 have h1:=qG6 nt.bs j
 have h2:=qDm (l:=nt.bs.take j) (λb hb=>h.one b (List.mem_of_mem_take hb))
 have h3:=h.sum
 show qDz (nt.bs.drop j)<=rel
 omega
theorem zAs{k:Nat}{c:Cfg}{rel last:Int}{nt:Note}(h:NInv k c rel last nt)(m b:Int): NInv k c rel last (qTh k c nt m b).1:=by
 unfold qTh
 split
 ·exact h.drop _
 ·exact h
theorem qCo{c:Cfg}{k:Nat}(h:qBg c=true)(hk:c.kind=k)(h1:k=1): 1<=c.k/\c.k<=10/\1<=c.window/\c.window<=1000:=by
 subst h1
 simp only[qBg,hk,Bool.and_eq_true]at h
 have h2:countB c=true:=h.2.2
 simp only[countB,qD5,inB,Bool.and_eq_true,decide_eq_true_eq]at h2
 omega
theorem qDt{c:Cfg}{k:Nat}(hv:qBg c=true)(hk:c.kind=k)(h4:4<=k)(h5:k<=5): c.weighs:=by
 have hd:qHf c=true:=by
  have:k=4\/k=5:=by omega
  simp only[qBg,hk,Int.toNat_natCast,Bool.and_eq_true]at hv
  rcases this with e | e
  ·have:=hv.2.2;rw[e]at this;exact this
  ·have:=hv.2.2;rw[e]at this
   simp only[qE0,qIy,Bool.and_eq_true]at this
   exact this.2
 simp only[qHf,inB,Bool.and_eq_true,decide_eq_true_eq]at hd
 exact⟨by omega,by omega,by omega,by omega,by omega,by omega⟩
theorem qZ6(b:Int)(hb:1<=b)(n:Nat)(p:Int)(p1:1<=p)(p2:p<=2305843009213693952): 0<=qCk (qG8 b n p)/\qCk (qG8 b n p)<=2305843009213693952:=by
 induction n generalizing p with
 | zero=>simp only[qG8,qCk];omega
 | succ n ih =>
  unfold qG8
  split
  ·simp[qCk]
  ·rename_i h
   obtain⟨h1,h2⟩:=zA6 p b p1 hb h
   exact ih _ h1 h2
theorem qPg(c:Cfg)(t:Int): 0<=qCk (qBl c t)/\qCk (qBl c t)<=2305843009213693952:=by
 unfold qBl
 split
 ·simp[qCk]
 ·split
  ·exact qZ6 _ (by omega) _ 1 (by omega) (by omega)
  ·split
   ·simp[qCk]
   ·rename_i h1 h2 h3
    have:=qIq ((t-c.mark)/c.half).toNat (by omega)
    simp only[qCk];omega
theorem qZ2{k:Nat}{c:Cfg}{rel last:Int}{nt:Note}(h:NInv k c rel last nt)(hv:qBg c=true)(hk:c.kind=k)(y:It)(m:Int)(hy:last<=y.t)(hm:y.t<=m): NInv k c (rel+1) y.t (zCn k c nt y m):=by
 have hw:=qPg c y.t
 have a:=h.q0;have b:=h.qn;have r0:=h.r0;have r1:=h.r1;have hs:=h.sum
 have hrl:∀i,((nt.rg i).length:Int)<=rel+1:=λi=>by have:=h.rl i;omega
 unfold zCn
 split
 ·rename_i h4
  exact⟨by show 0<=nt.q+_;omega,by show nt.q+_<=_;omega,by show 0<=_%_;omega,by show _%_<_;omega,h.one,by show qDz nt.bs<=_;omega,h.rk,hrl,λe=>by omega,h.tl,λe=>by omega,h.nb,h.rf⟩
 ·split
  ·rename_i h1
   obtain⟨k1,k2,w1,w2⟩:=qCo hv hk h1
   have hp:∀b∈qQ1 c nt.bs y.t m,1<=b.sz:=λb hb=>by
    unfold qQ1 at hb
    rcases List.mem_append.1 hb with hb | hb
    ·exact h.one b (List.mem_of_mem_drop hb)
    ·rw[List.mem_singleton]at hb;rw[hb];exact Int.le_refl _
   have hj:=qYh (K:=c.k) (by omega) ((qQ1 c nt.bs y.t m).length+1) (qQ1 c nt.bs y.t m) 1 _ hp (Nat.le_refl _) (by omega)
   refine⟨a,by show nt.q<=_;omega,r0,r1,hj.1,?_,h.rk,hrl,λe=>by omega,h.tl,λe=>⟨k1,k2,(zDg (c:=c) (K:=c.k.toNat) (by omega) (by omega) nt.bs y.t m (h.lw e).2.2).1⟩,λe=>absurd h1 e,h.rf⟩
   show qDz (zA8 c nt.bs y.t m)<=_
   unfold zA8
   rw[hj.2]
   have h1:=qG6 nt.bs (pastN nt.bs (m-c.window))
   have h2:=qDm (l:=nt.bs.take (pastN nt.bs (m-c.window))) (λb hb=>h.one b (List.mem_of_mem_take hb))
   unfold qQ1
   rw[qD6]
   unfold qNa
   simp only[qDz]
   omega
  ·split
   ·exact⟨a,by show nt.q<=_;omega,r0,r1,h.one,by show qDz nt.bs<=_;omega,qVy h.rk y m,λi=>by
       have h1:=qQ3 c (qMi c) nt.rg y m i
       have h2:=h.rl i
       show((qTv c (qMi c) nt.rg y m i).length:Int)<=_
       omega,λe=>by omega,h.tl,λe=>by omega,h.nb,λi=>by
       show Fall (qTv c (qMi c) nt.rg y m i)
       unfold qTv
       split
       ·exact qL4 _ ((h.rf i).drop _)
       ·exact h.rf i⟩
   ·split
    ·rename_i h3
     obtain⟨hp,hr,hL,hL1,hpl⟩:=qB9 hv hk h3
     exact⟨a,by show nt.q<=_;omega,r0,r1,h.one,by show qDz nt.bs<=_;omega,h.rk,hrl,λ_=>qZw (h.oi h3) y m hL hpl hp.p0 hr hy hm,h.tl,λe=>by omega,h.nb,h.rf⟩
    ·rename_i h3
     split
     ·rename_i h5
      exact⟨a,by show nt.q<=_;omega,r0,r1,h.one,by show qDz nt.bs<=_;omega,h.rk,hrl,λe=>(h3 e).elim,λe=>qS1 y (h.tl e),λe=>by omega,h.nb,h.rf⟩
     ·rename_i h1 _ _
      exact⟨a,by omega,r0,r1,h.one,by omega,h.rk,hrl,λe=>(h3 e).elim,h.tl,λe=>absurd e (by omega),h.nb,h.rf⟩
theorem NInv.zero(k:Nat)(c:Cfg)(hv:qBg c=true)(hk:c.kind=k): NInv k c 0 0 qGb:=by
 refine⟨Int.le_refl _,Int.le_refl _,Int.le_refl _,by show(0:Int)<_;omega,(λb hb=>(List.not_mem_nil hb).elim),by show qDz []<=0;simp[qDz],(λi b hb=>(List.not_mem_nil hb).elim),(λi=>by show((([]:List Bk).length:Nat):Int)<=0;simp),?_,?_,(λe=>⟨(qCo hv hk e).1,(qCo hv hk e).2.1,Lw.nil _ _⟩),(λ_=>rfl),(λ_=>List.Pairwise.nil)⟩
 ·intro e
  exact OInv.zero c (qB9 hv hk e).1.p0
 ·intro e
  have:=(qDl hv hk e).1
  show(0:Int)<=_
  omega
theorem NRep.keeps{M:Nat->Prop}{w w':World}{k:Nat}{b:NB}{c:Cfg}{nt:Note}(h:NRep w k b c nt)(hk:Keeps M w w')(hn:∀i,qD2 k b i->¬M i): NRep w' k b c nt :=
 ⟨λh4=>(h.dec h4).keeps hk (hn _ (.inr (.inl ⟨h4,rfl⟩))),
    λh1=>(h.cnt h1).keeps hk (hn _ (.inl ⟨h1,.inl rfl⟩)) (hn _ (.inl ⟨h1,.inr (.inl rfl)⟩)) (λ_ hg=>hn _ (.inl ⟨h1,.inr (.inr hg)⟩)),
    λh2=>⟨(h.dis h2).1.keeps hk (hn _ (.inr (.inr (.inl ⟨h2,.inl rfl⟩)))) (hn _ (.inr (.inr (.inl ⟨h2,.inr (.inl rfl)⟩)))) (λi _ hi ha=>hn _ (.inr (.inr (.inl ⟨h2,.inr (.inr ⟨i,hi,ha⟩)⟩)))),(h.dis h2).2⟩,
    λh3=>(h.oft h3).keeps hk (hn _ (.inr (.inr (.inr (.inl ⟨h3,.inl rfl⟩))))) (hn _ (.inr (.inr (.inr (.inl ⟨h3,.inr (.inl rfl)⟩))))) (λ_ hg=>hn _ (.inr (.inr (.inr (.inl ⟨h3,.inr (.inr hg)⟩))))),
    λh5=>(h.drw h5).keeps hk (hn _ (.inr (.inr (.inr (.inr ⟨h5,.inl rfl⟩))))) (hn _ (.inr (.inr (.inr (.inr ⟨h5,.inr (.inl rfl)⟩))))) (λ_ hg=>hn _ (.inr (.inr (.inr (.inr ⟨h5,.inr (.inr hg)⟩)))))⟩
theorem NRep.still{w w':World}{k:Nat}{b:NB}{c:Cfg}{nt:Note}(h:NRep w k b c nt)(hk:Keeps (λ_=>False) w w'): NRep w' k b c nt:=h.keeps hk (λ_ _ h=>h)
theorem NRep.lt{w:World}{k:Nat}{b:NB}{c:Cfg}{nt:Note}(h:NRep w k b c nt)(i:Nat)(hi:qD2 k b i): i<w.heap.size:=by
 rcases hi with ⟨h1,hi | hi | hi⟩ | ⟨h4,hi⟩ | ⟨h2,hi | hi | ⟨j,hj,hi | hi⟩⟩ | ⟨h3,hi | hi | hi⟩ | ⟨h5,hi | hi | hi⟩
 ·rw[hi];exact(h.cnt h1).blk.lt
 ·rw[hi];exact(h.cnt h1).row.lt.1
 ·exact((h.cnt h1).row.lt.2 i hi).1
 ·rw[hi];exact(h.dec h4).lt
 ·rw[hi];exact(h.dis h2).1.blk.lt
 ·rw[hi];exact(h.dis h2).1.reg.lt
 ·rw[hi];exact((h.dis h2).1.row j hj).lt.1
 ·exact(((h.dis h2).1.row j hj).lt.2 i hi).1
 ·rw[hi];exact(h.oft h3).blk.lt
 ·rw[hi];exact(h.oft h3).row.lt.1
 ·exact((h.oft h3).row.lt.2 i hi).1
 ·rw[hi];exact(h.drw h5).blk.lt
 ·rw[hi];exact(h.drw h5).que.lt.1
 ·exact((h.drw h5).que.lt.2 i hi).1
def zD9: Nat->Nat | 1=>158 | 2=>166 | 3=>172 | 4=>177 | _=>183
def zDl: Nat->Nat | 1=>159 | 2=>167 | 3=>173 | 4=>178 | _=>184
def zDm: Nat->Nat | 1=>160 | _=>168
def zDn: Nat->Nat | 1=>161 | 2=>169 | 3=>174 | 4=>179 | _=>185
def zD5: Nat->Nat | 1=>162 | 2=>170 | 3=>175 | 4=>180 | _=>186
def qHs(d:Nat): Array Value:=#[.pointer (some ⟨d,0,none⟩)]
def zAe(k d:Nat): Array Value:=if k=1 then #[.pointer (some ⟨d,0,none⟩)] else #[]
def relV(k d:Nat): Value:=.func (.func (zD9 k)) (qHs d) #[]
def qryV(k d:Nat): Value:=.func (.func (zDl k)) (qHs d) #[]
def savV(k d:Nat): Value:=.func (.func (zDn k)) (qHs d) #[]
def lodV(k d:Nat): Value:=.func (.func (zD5 k)) (qHs d) #[]
def swpV(k d:Nat): Value:=.func (.func (zDm k)) (zAe k d) #[]
theorem ownCR(args:Array Value)(w:World): (callFunc 158 args).run Tryz.prog w=.ok (.enter 158 args) w:=qAy Tryz.func158 (by kernel_rfl) (by kernel_rfl) args w
theorem ownCQ(args:Array Value)(w:World): (callFunc 159 args).run Tryz.prog w=.ok (.enter 159 args) w:=qAy Tryz.func159 (by kernel_rfl) (by kernel_rfl) args w
theorem ownCS(args:Array Value)(w:World): (callFunc 160 args).run Tryz.prog w=.ok (.enter 160 args) w:=qAy Tryz.func160 (by kernel_rfl) (by kernel_rfl) args w
theorem ownDR(args:Array Value)(w:World): (callFunc 177 args).run Tryz.prog w=.ok (.enter 177 args) w:=qAy Tryz.func177 (by kernel_rfl) (by kernel_rfl) args w
theorem ownDQ(args:Array Value)(w:World): (callFunc 178 args).run Tryz.prog w=.ok (.enter 178 args) w:=qAy Tryz.func178 (by kernel_rfl) (by kernel_rfl) args w
theorem ownSR(args:Array Value)(w:World): (callFunc 166 args).run Tryz.prog w=.ok (.enter 166 args) w:=qAy Tryz.func166 (by kernel_rfl) (by kernel_rfl) args w
theorem ownSQ(args:Array Value)(w:World): (callFunc 167 args).run Tryz.prog w=.ok (.enter 167 args) w:=qAy Tryz.func167 (by kernel_rfl) (by kernel_rfl) args w
theorem ownOR(args:Array Value)(w:World): (callFunc 172 args).run Tryz.prog w=.ok (.enter 172 args) w:=qAy Tryz.func172 (by kernel_rfl) (by kernel_rfl) args w
theorem ownOQ(args:Array Value)(w:World): (callFunc 173 args).run Tryz.prog w=.ok (.enter 173 args) w:=qAy Tryz.func173 (by kernel_rfl) (by kernel_rfl) args w
theorem ownTR(args:Array Value)(w:World): (callFunc 183 args).run Tryz.prog w=.ok (.enter 183 args) w:=qAy Tryz.func183 (by kernel_rfl) (by kernel_rfl) args w
theorem ownTQ(args:Array Value)(w:World): (callFunc 184 args).run Tryz.prog w=.ok (.enter 184 args) w:=qAy Tryz.func184 (by kernel_rfl) (by kernel_rfl) args w
theorem ownSN(args:Array Value)(w:World): (callFunc 168 args).run Tryz.prog w=.ok (.enter 168 args) w:=qAy Tryz.func168 (by kernel_rfl) (by kernel_rfl) args w
theorem zEm(args:Array Value)(w:World): (callFunc 161 args).run Tryz.prog w=.ok (.enter 161 args) w:=qAy Tryz.func161 (by kernel_rfl) (by kernel_rfl) args w
theorem zD8(args:Array Value)(w:World): (callFunc 162 args).run Tryz.prog w=.ok (.enter 162 args) w:=qAy Tryz.func162 (by kernel_rfl) (by kernel_rfl) args w
theorem zEz(args:Array Value)(w:World): (callFunc 169 args).run Tryz.prog w=.ok (.enter 169 args) w:=qAy Tryz.func169 (by kernel_rfl) (by kernel_rfl) args w
theorem zE0(args:Array Value)(w:World): (callFunc 170 args).run Tryz.prog w=.ok (.enter 170 args) w:=qAy Tryz.func170 (by kernel_rfl) (by kernel_rfl) args w
theorem zEv(args:Array Value)(w:World): (callFunc 174 args).run Tryz.prog w=.ok (.enter 174 args) w:=qAy Tryz.func174 (by kernel_rfl) (by kernel_rfl) args w
theorem zEe(args:Array Value)(w:World): (callFunc 175 args).run Tryz.prog w=.ok (.enter 175 args) w:=qAy Tryz.func175 (by kernel_rfl) (by kernel_rfl) args w
theorem zDq(args:Array Value)(w:World): (callFunc 179 args).run Tryz.prog w=.ok (.enter 179 args) w:=qAy Tryz.func179 (by kernel_rfl) (by kernel_rfl) args w
theorem zDz(args:Array Value)(w:World): (callFunc 180 args).run Tryz.prog w=.ok (.enter 180 args) w:=qAy Tryz.func180 (by kernel_rfl) (by kernel_rfl) args w
theorem zEc(args:Array Value)(w:World): (callFunc 185 args).run Tryz.prog w=.ok (.enter 185 args) w:=qAy Tryz.func185 (by kernel_rfl) (by kernel_rfl) args w
theorem zEt(args:Array Value)(w:World): (callFunc 186 args).run Tryz.prog w=.ok (.enter 186 args) w:=qAy Tryz.func186 (by kernel_rfl) (by kernel_rfl) args w
theorem five{k:Nat}(h1:1<=k)(h5:k<=5): k=1\/k=2\/k=3\/k=4\/k=5:=by omega
theorem zB4(k:Nat)(h1:1<=k)(h5:k<=5)(args:Array Value)(w:World): (callFunc (zD9 k) args).run Tryz.prog w=.ok (.enter (zD9 k) args) w:=by
 rcases five h1 h5 with hk | hk | hk | hk | hk <;> subst hk
 ·exact ownCR args w
 ·exact ownSR args w
 ·exact ownOR args w
 ·exact ownDR args w
 ·exact ownTR args w
theorem zDd(k:Nat)(h1:1<=k)(h5:k<=5)(args:Array Value)(w:World): (callFunc (zDl k) args).run Tryz.prog w=.ok (.enter (zDl k) args) w:=by
 rcases five h1 h5 with hk | hk | hk | hk | hk <;> subst hk
 ·exact ownCQ args w
 ·exact ownSQ args w
 ·exact ownOQ args w
 ·exact ownDQ args w
 ·exact ownTQ args w
theorem zB6(k:Nat)(h1:1<=k)(h5:k<=5)(args:Array Value)(w:World): (callFunc (zDm k) args).run Tryz.prog w=.ok (.enter (zDm k) args) w:=by
 rcases five h1 h5 with hk | hk | hk | hk | hk <;> subst hk
 ·exact ownCS args w
 all_goals exact ownSN args w
theorem zDc(k:Nat)(h1:1<=k)(h5:k<=5)(args:Array Value)(w:World): (callFunc (zDn k) args).run Tryz.prog w=.ok (.enter (zDn k) args) w:=by
 rcases five h1 h5 with hk | hk | hk | hk | hk <;> subst hk
 ·exact zEm args w
 ·exact zEz args w
 ·exact zEv args w
 ·exact zDq args w
 ·exact zEc args w
theorem zBu(k:Nat)(h1:1<=k)(h5:k<=5)(args:Array Value)(w:World): (callFunc (zD5 k) args).run Tryz.prog w=.ok (.enter (zD5 k) args) w:=by
 rcases five h1 h5 with hk | hk | hk | hk | hk <;> subst hk
 ·exact zD8 args w
 ·exact zE0 args w
 ·exact zEe args w
 ·exact zDz args w
 ·exact zEt args w
theorem zCi{rel last:Int}(k:Nat)(b:NB)(c:Cfg)(nt:Note)(y:It)(m:Int)(args:Array Value)(w:World)(ha:args=qHs b.d++#[y.val,.int .i64 m])(h:NRep w k b c nt)(hi:NInv k c rel last nt)(hr:rel+1<=4611686018427387904)(hv:qBg c=true)(hk:c.kind=k)(k1:1<=k)(k5:k<=5)(m0:-100<=m)(m1:m<=4611686018427387904)(t0:0<=y.t)(t1:y.t<=4611686018427387904)(hky:k=2\/k=3->0<=y.k/\y.k<=2147483648)(hT:Tab w)(hT0:¬qD2 k b 2)(hl:last<=4611686018427387904):
  Calls Tryz.prog (zD9 k) args w λe w'=>e=.returned (.tuple #[])/\∃b':NB,NRep w' k b' c (zCn k c nt y m)/\b'.d=b.d/\(∀i,qD2 k b' i->qD2 k b i\/w.heap.size<=i)/\Keeps (qD2 k b) w w':=by
 subst ha
 rcases five k1 k5 with e | e | e | e | e
 ·subst e
  obtain⟨a1,a2,a3,a4⟩:=qCo hv hk rfl
  refine(qLp b.d b.r b.g c nt.bs y m w (h.cnt rfl) (hi.binv (by omega)) (by have:=hi.sum;omega) (by have:=(hi.few (by omega)).1;omega) m0 m1 (by omega) a4 a1 a2).mono ?_
  rintro e w' ⟨rfl,og',hc,hk,hog⟩
  refine⟨rfl,⟨b.d,b.r,og',[]⟩,⟨(λh=>by omega),(λ_=>hc),(λh=>by omega),(λh=>by omega),(λh=>by omega)⟩,rfl,?_,hk.mono (λi _ hi=>.inl ⟨rfl,.inr hi⟩)⟩
  rintro i (⟨_,hi | hi | hi⟩ | ⟨h4,_⟩ | ⟨h4,_⟩ | ⟨h4,_⟩ | ⟨h4,_⟩)
  ·exact .inl (.inl ⟨rfl,.inl hi⟩)
  ·exact .inl (.inl ⟨rfl,.inr (.inl hi)⟩)
  ·rcases hog with h | ⟨j,h,hj⟩
   ·exact .inl (.inl ⟨rfl,.inr (.inr (by rw[<-h];exact hi))⟩)
   ·have hi':og'=some i:=hi
    rw[h]at hi'
    injection hi' with hi'
    exact .inr (by omega)
  all_goals omega
 ·subst e
  obtain⟨a1,a2,a3,a4,a5⟩:=qBx hv hk rfl
  obtain⟨hd,hq⟩:=h.dis rfl
  obtain⟨y0,y1⟩:=hky (.inl rfl)
  have hq1:1<=b.qs.length:=by rw[hq];exact Nat.pow_pos (by omega)
  have hq2:b.qs.length<=16:=by rw[hq];exact Nat.pow_le_pow_right (n:=2) (by omega) (show c.bits.toNat<=4 by omega)
  refine(qK5 b.d b.r b.qs c nt.rg y m w hd hT (λi hi h0=>hT0 (.inr (.inr (.inl ⟨rfl,.inr (.inr ⟨i,hi,h0⟩)⟩)))) hq1 hq2 a1 (by omega) a5 m0 m1 y0 y1 (λi=>by have:=hi.forty i;omega)).mono ?_
  rintro e w' ⟨rfl,qs',hd',hl',hf',hk'⟩
  refine⟨rfl,⟨b.d,b.r,b.g,qs'⟩,⟨(λh=>by omega),(λh=>by omega),(λ_=>⟨by rw[hq]at hd';exact hd',hl'.trans hq⟩),(λh=>by omega),(λh=>by omega)⟩,rfl,?_,hk'.mono (λi _ hi=>.inr (.inr (.inl ⟨rfl,.inr (.inr hi)⟩)))⟩
  rintro i (⟨h4,_⟩ | ⟨h4,_⟩ | ⟨_,hi | hi | ⟨j,hj,hi⟩⟩ | ⟨h4,_⟩ | ⟨h4,_⟩)
  ·omega
  ·omega
  ·exact .inl (.inr (.inr (.inl ⟨rfl,.inl hi⟩)))
  ·exact .inl (.inr (.inr (.inl ⟨rfl,.inr (.inl hi)⟩)))
  ·rcases hf' j i hj hi with h1 | h1
   ·exact .inl (.inr (.inr (.inl ⟨rfl,.inr (.inr h1)⟩)))
   ·exact .inr h1
  ·omega
  ·omega
 ·subst e
  obtain⟨a1,a2,a3,a4,a5⟩:=qB9 hv hk rfl
  obtain⟨y0,y1⟩:=hky (.inr rfl)
  have ho:=hi.oi rfl
  have hcl:nt.cl.length<=8:=by have:=ho.len;have:=a1.p1;omega
  refine(qLn b.d b.r b.g c nt.op nt.cl y m w (h.oft rfl) a1 a2 a3 t0 t1 y0 y1 (by omega) m1 (by omega) (ho.okC hl a3 a4) (ho.okO hl a3 a4) (λx hx=>by have:=ho.cel.1 x hx;omega)).mono ?_
  rintro e w' ⟨rfl,og',hc,hk',hog⟩
  refine⟨rfl,⟨b.d,b.r,og',[]⟩,⟨(λh=>by omega),(λh=>by omega),(λh=>by omega),(λ_=>hc),(λh=>by omega)⟩,rfl,?_,hk'.mono (λi _ hi=>.inr (.inr (.inr (.inl ⟨rfl,hi⟩))))⟩
  rintro i (⟨h4,_⟩ | ⟨h4,_⟩ | ⟨h4,_⟩ | ⟨_,hi | hi | hi⟩ | ⟨h4,_⟩)
  ·omega
  ·omega
  ·omega
  ·exact .inl (.inr (.inr (.inr (.inl ⟨rfl,.inl hi⟩))))
  ·exact .inl (.inr (.inr (.inr (.inl ⟨rfl,.inr (.inl hi)⟩))))
  ·have hi':og'=some i:=hi
   rcases hog with h | ⟨j,h,hj⟩
   ·exact .inl (.inr (.inr (.inr (.inl ⟨rfl,.inr (.inr (by rw[<-h];exact hi'))⟩))))
   ·rw[h]at hi'
    injection hi' with hi'
    exact .inr (by omega)
  ·omega
 ·subst e
  have hw:=qPg c y.t
  refine(qLa b.d c nt.q nt.r y m w (h.dec rfl) (qDt hv hk (by omega) (by omega)) t0 t1 hi.r0 hi.r1 hi.q0 (by have:=hi.qn;omega) hw.1 hw.2).mono ?_
  rintro e w' ⟨rfl,hb,hk⟩
  exact⟨rfl,b,⟨(λ_=>hb),(λh=>by omega),(λh=>by omega),(λh=>by omega),(λh=>by omega)⟩,rfl,(λ_ h=>.inl h),hk.mono (λi _ hi=>.inr (.inl ⟨rfl,hi⟩))⟩
 ·subst e
  obtain⟨a1,a2⟩:=qDl hv hk rfl
  refine(qHe b.d b.r b.g c nt.tk y m w (h.drw rfl) (qDt hv hk (by omega) (by omega)) t0 t1 a1 a2 (by have:=hi.tl rfl;omega)).mono ?_
  rintro e w' ⟨rfl,og',hc,hk',hog⟩
  refine⟨rfl,⟨b.d,b.r,og',[]⟩,⟨(λh=>by omega),(λh=>by omega),(λh=>by omega),(λh=>by omega),(λ_=>hc)⟩,rfl,?_,hk'.mono (λi _ hi=>.inr (.inr (.inr (.inr ⟨rfl,.inr hi⟩))))⟩
  rintro i (⟨h4,_⟩ | ⟨h4,_⟩ | ⟨h4,_⟩ | ⟨h4,_⟩ | ⟨_,hi | hi | hi⟩)
  ·omega
  ·omega
  ·omega
  ·omega
  ·exact .inl (.inr (.inr (.inr (.inr ⟨rfl,.inl hi⟩))))
  ·exact .inl (.inr (.inr (.inr (.inr ⟨rfl,.inr (.inl hi)⟩))))
  ·have hi':og'=some i:=hi
   rcases hog with h | ⟨j,h,hj⟩
   ·exact .inl (.inr (.inr (.inr (.inr ⟨rfl,.inr (.inr (by rw[<-h];exact hi'))⟩))))
   ·rw[h]at hi'
    injection hi' with hi'
    exact .inr (by omega)
def qT0(w:World)(base:Nat)(v:Value)(l:List Int): Prop:=w.ownsRow base 3 1 v l.length (l.map (.int .i64 ·))
theorem zB7{rel last:Int}(k:Nat)(b:NB)(c:Cfg)(nt:Note)(a m:Int)(args:Array Value)(w:World)(ha:args=qHs b.d++#[.int .i64 a,.int .i64 m])(h:NRep w k b c nt)(hi:NInv k c rel last nt)(hr:rel<=4611686018427387904)(hlast:last<=4611686018427387904)(hv:qBg c=true)(hk:c.kind=k)(k1:1<=k)(k5:k<=5)(m0:-100<=m)(m1:m<=4611686018427387904):
  Calls Tryz.prog (zDl k) args w λe w'=>∃og n cp,e=.returned (.tuple #[.slice og n cp,.int .i64 (qIg k c nt a m).1])/\qT0 w' w.heap.size (.slice og n cp) (qIg k c nt a m).2/\Keeps (λ_=>False) w w':=by
 subst ha
 have hnil:∀w':World,qT0 w' w.heap.size (.slice none 0 0) []:=λw'=>World.ownsRow_nil _ _ _ _
 rcases five k1 k5 with e | e | e | e | e
 ·subst e
  obtain⟨a1,a2,a3,a4⟩:=qCo hv hk rfl
  cases hin:inB a 1 c.window
  ·refine(qSz b.d b.r b.g c nt.bs a m w (h.cnt rfl) hin).mono ?_
   rintro e w' ⟨rfl,hk⟩
   have hq:qIg 1 c nt a m=(13,[]):=by unfold qIg;rw[if_neg (by omega),if_pos rfl,if_neg (by rw[hin];simp)]
   rw[hq]
   exact⟨none,0,0,rfl,hnil _,hk⟩
  ·refine(qOo b.d b.r b.g c nt.bs a m w (h.cnt rfl) (hi.binv hr) hin m0 m1 a4).mono ?_
   rintro e w' ⟨g,rfl,hg,hb,hk⟩
   have hq:qIg 1 c nt a m=(0,[zDk nt.bs (m-a)]):=by unfold qIg;rw[if_neg (by omega),if_pos rfl,if_pos hin]
   rw[hq]
   exact⟨some ⟨g,0,none⟩,1,1,rfl,⟨rfl,.inr ⟨g,1,_,rfl,hg,hb,by simp,by unfold maxLen;omega,rfl,rfl⟩⟩,hk⟩
 ·subst e
  obtain⟨a1,a2,a3,a4,a5⟩:=qBx hv hk rfl
  obtain⟨hd,hq⟩:=h.dis rfl
  have hq1:1<=b.qs.length:=by rw[hq];exact Nat.pow_pos (by omega)
  have hq2:b.qs.length<=16:=by rw[hq];exact Nat.pow_le_pow_right (n:=2) (by omega) (show c.bits.toNat<=4 by omega)
  cases hin:inB a 1 c.window
  ·refine(qSq b.d b.r b.qs c nt.rg a m w hd hin).mono ?_
   rintro e w' ⟨rfl,hk⟩
   have hqn:qIg 2 c nt a m=(13,[]):=by unfold qIg;rw[if_neg (by omega),if_neg (by omega),if_pos rfl];unfold zEg;rw[if_neg (by rw[hin];simp)]
   rw[hqn]
   exact⟨none,0,0,rfl,hnil _,hk⟩
  ·refine(qQp b.d b.r b.qs c nt.rg a m w hd hin hq1 hq2 a5 m0 m1 (λi=>by have:=hi.forty i;omega) hi.rk).mono ?_
   rintro e w' ⟨g,cp,rfl,ho,hk⟩
   have hqn:qIg 2 c nt a m=(0,qD4 nt.rg b.qs.length (m-a)++[7*b.qs.length*b.qs.length*1099511627776/(10*qS9 (qD4 nt.rg b.qs.length (m-a)))]):=by unfold qIg;rw[if_neg (by omega),if_neg (by omega),if_pos rfl];unfold zEg;rw[if_pos hin,hq]
   rw[hqn]
   refine⟨some ⟨g,0,none⟩,b.qs.length+1,cp,rfl,?_,hk⟩
   unfold qT0
   rw[List.length_append,qFo,List.length_singleton]
   exact ho
 ·subst e
  obtain⟨a1,a2,a3,a4,a5⟩:=qB9 hv hk rfl
  have ho:=hi.oi rfl
  have hcl:nt.cl.length<=8:=by have:=ho.len;have:=a1.p1;omega
  cases hin:inB a 0 2147483648
  ·refine(qSa b.d a m w hin).mono ?_
   rintro e w' ⟨rfl,hk⟩
   have hqn:qIg 3 c nt a m=(10,[]):=by unfold qIg;rw[if_neg (by omega),if_neg (by omega),if_neg (by omega),if_pos rfl,if_neg (by rw[hin];simp)]
   rw[hqn]
   exact⟨none,0,0,rfl,hnil _,hk⟩
  ·refine(qP1 b.d b.r b.g c nt.op nt.cl a m w (h.oft rfl) hin a1 a2 (by omega) m1 (by omega) (ho.okC hlast a3 a4) (ho.okO hlast a3 a4) ho.ocs ho.ccs (by have:=ho.tops;omega)).mono ?_
   rintro e w' ⟨g,rfl,hg,hb,hk⟩
   have hqn:qIg 3 c nt a m=(0,[qryO c nt.op nt.cl a m]):=by unfold qIg;rw[if_neg (by omega),if_neg (by omega),if_neg (by omega),if_pos rfl,if_pos hin]
   rw[hqn]
   exact⟨some ⟨g,0,none⟩,1,1,rfl,⟨rfl,.inr ⟨g,1,_,rfl,hg,hb,by simp,by unfold maxLen;omega,rfl,rfl⟩⟩,hk⟩
 ·subst e
  refine(qP3 b.d c nt.q nt.r a m w (h.dec rfl) (qDt hv hk (by omega) (by omega)) m0 m1).mono ?_
  rintro e w' ⟨g,rfl,hg,hb,hk⟩
  exact⟨some ⟨g,0,none⟩,3,3,rfl,⟨rfl,.inr ⟨g,3,_,rfl,hg,hb,by simp[qIg],by unfold maxLen;omega,rfl,rfl⟩⟩,hk⟩
 ·subst e
  obtain⟨a1,a2⟩:=qDl hv hk rfl
  refine(qQi b.d b.r b.g c nt.tk a m w (h.drw rfl) a1 a2 (by have:=hi.tl rfl;omega)).mono ?_
  rintro e w' ⟨g,cp,rfl,ho,hk⟩
  exact⟨some ⟨g,0,none⟩,_,cp,rfl,ho,hk⟩
theorem zCp{rel last:Int}(k:Nat)(b:NB)(c:Cfg)(nt:Note)(m bu:Int)(args:Array Value)(w:World)(ha:args=zAe k b.d++#[.int .i64 m,.int .i64 bu])(h:NRep w k b c nt)(hi:NInv k c rel last nt)(hr:rel<=4611686018427387904)(hv:qBg c=true)(hk:c.kind=k)(k1:1<=k)(k5:k<=5)(m0:-100<=m)(m1:m<=4611686018427387904)(b0:0<=bu)(b1:bu<=100):
  Calls Tryz.prog (zDm k) args w λe w'=>e=.returned (.tuple #[.int .i64 (qTh k c nt m bu).2.1,.int .i64 (qTh k c nt m bu).2.2])/\NRep w' k b c (qTh k c nt m bu).1/\Keeps (qD2 k b) w w':=by
 subst ha
 rcases five k1 k5 with e | e | e | e | e
 ·subst e
  obtain⟨a1,a2,a3,a4⟩:=qCo hv hk rfl
  refine(qO7 b.d b.r b.g c nt.bs m bu w (h.cnt rfl) (hi.binv hr) m0 m1 (by omega) a4 b0 b1).mono ?_
  rintro e w' ⟨rfl,hc,hk⟩
  exact⟨rfl,⟨(λh=>by omega),(λ_=>hc),(λh=>by omega),(λh=>by omega),(λh=>by omega)⟩,hk.mono (λi _ hi=>.inl ⟨rfl,.inr hi⟩)⟩
 all_goals
  subst e
  refine(qJj m bu w).mono ?_
  rintro e w' ⟨rfl,rfl⟩
  exact⟨rfl,h,Keeps.refl _ _⟩
end
section
open Go.RowKit
attribute [local go_sem ↓] qAd qAe
attribute [local go_sem] qAh qAl qAb qAc qAm qAn qAg qAk
def qJd(c:Cfg): List Value:=c.cells++(Pa.pn0.cells++[.pointer none])
theorem qM3(ρ:Operand->Value)(dst:Option Tmp)(x:Array (Nat×Operand))(ty:TypeId)(pos:String)(after:Array Edge)(guard:Option (Nat×Bool)):
  execOp ρ { dst,op:=.build 237 x,type:=ty,pos,after,guard }=qKe 237 (x.map λ(i,y)=>(i,ρ y)):=rfl
theorem qMo(c:Cfg)(w:World):
  (qKe 237 #[(0,.agg c.cells.toArray)]).run Tryz.prog w=.ok (.value (.agg (qJd c).toArray)) w:=by kernel_rfl
theorem qSo(c:Cfg)(w:World):
  (qKe 237 #[(0,.agg #[.int .i64 c.kind,.int .i64 c.lag,.int .i64 c.skew,.int .i64 c.cap,.int .i64 c.k,.int .i64 c.window,.int .i64 c.bits,.int .i64 c.rows,.int .i64 c.width,.int .i64 c.panes,.int .i64 c.size,.int .i64 c.degree,.int .i64 c.half,.int .i64 c.mark,.int .i64 c.s00,.int .i64 c.s01,.int .i64 c.s10,.int .i64 c.s11,.int .i64 c.s20,.int .i64 c.s21])]).run Tryz.prog w=.ok (.value (.agg (qJd c).toArray)) w:=qMo c w
attribute [local go_sem ↓] qM3
attribute [local go_sem] qMo qSo
theorem qVh(c:Cfg)(q:Nat): (qJd c).set 69 (.pointer (some ⟨q,0,none⟩))=qAz c Pa.pn0 q:=by
 unfold qJd qAz
 have hc:c.cells.length=20:=by simp[Cfg.cells]
 rw[List.set_append_right _ _ (by omega),hc,List.set_append_right _ _ (by rw[Pa.Pn.cells_length];omega),Pa.Pn.cells_length]
 rfl
theorem qU2(c:Cfg): (qJd c)[69]?=some (.pointer none):=by
 unfold qJd
 rw[List.getElem?_append_right (by simp[Cfg.cells]),List.getElem?_append_right (by rw[Pa.Pn.cells_length];simp[Cfg.cells])]
 simp[Cfg.cells,Pa.Pn.cells_length]
theorem qP8(c:Cfg)(w:World):
  Calls Tryz.prog 171 #[c.val] w λe w'=>∃d q,e=.returned (.pointer (some ⟨d,0,none⟩))/\w.heap.size<=d/\w.heap.size<=q/\ORep w' d q none c Pa.pn0 []/\Keeps (λ_=>False) w w':=by
 obtain⟨W,hW⟩:∃W,W=w.alloc (.cells c.cells.toArray 38):=⟨_,rfl⟩
 have HB:=hide (show Blk W w.heap.size c.cells 38 by rw[hW];exact Blk.new w _ _)
 have HK:=hide (show Keeps (λ_=>False) w W by rw[hW];exact(Keeps.refl (λ_=>False) w).alloc _)
 have HW:=hide hW
 clear hW
 unfold Cfg.val
 go_enter Tryz.func171,Tryz.ntmps171
 go_wp2_with fail
 rw[show w.alloc (.cells #[.int .i64 c.kind,.int .i64 c.lag,.int .i64 c.skew,.int .i64 c.cap,.int .i64 c.k,.int .i64 c.window,.int .i64 c.bits,.int .i64 c.rows,.int .i64 c.width,.int .i64 c.panes,.int .i64 c.size,.int .i64 c.degree,.int .i64 c.half,.int .i64 c.mark,.int .i64 c.s00,.int .i64 c.s01,.int .i64 c.s10,.int .i64 c.s11,.int .i64 c.s20,.int .i64 c.s21] 38)=W from(uh HW).symm]
 generalize hcb:w.heap.size=cb at *
 have HCB:=hide hcb
 clear hcb
 have hsz0:cb<W.heap.size:=(uh HB).lt
 obtain⟨hv,hh⟩:=qBf (uh HB) 20 rfl
 go_wp2_with fail
 have hWs:W.heap.size=cb+1:=by rw[uh HW];simp[uh HCB]
 obtain⟨W1,hW1⟩:∃W1,W1=W.alloc (.cells (qJd c).toArray 237):=⟨_,rfl⟩
 rw[<-hW1]
 have HB1:=hide (show Blk W1 (cb+1) (qJd c) 237 by rw[hW1];exact Blk.newAt hWs _ _)
 have HK1:=hide (show Keeps (λ_=>False) W W1 by rw[hW1];exact(Keeps.refl _ _).alloc _)
 have hs1:W1.heap.size=cb+1+1:=by rw[hW1];simp[hWs]
 clear hW1 hv hh
 refine(Pa.rowNew_any (cb+1) W1).mono ?_
 rintro e W2 ⟨rfl,hr2,hk2,hz2⟩
 rw[hs1]at hr2 ⊢
 have HB2:=hide ((uh HB1).keeps hk2 (λh=>h))
 have c69:W2.cell? ⟨cb+1,69,none⟩=some (.pointer none):=(uh HB2).cell (qU2 c)
 have f69:=(uh HB2).frozen
 have HK2:=hide (((uh HK).then (uh HK1)).then hk2)
 have HR2:=hide hr2
 clear hk2 hr2
 go_wp2
 go_ret
 have hb3:=(uh HB2).setCell 69 (.pointer (some ⟨cb+1+1,0,none⟩))
 rw[qVh]at hb3
 have hcb:=uh HCB
 refine⟨cb+1,cb+1+1,rfl,by omega,by omega,⟨hb3,?_,by omega,λg hg=>by cases hg⟩,?_⟩
 ·exact(uh HR2).keeps (M:=λi=>i=cb+1) ((Keeps.refl (λi=>i=cb+1) _).setCell (p:=⟨cb+1,69,none⟩) (Or.inl rfl) _) (λh=>by have h':cb+1+1=cb+1:=h;omega) (λg hg=>by cases hg)
 ·exact(uh HK2).trans ((Keeps.refl (λi=>i=cb+1) _).setCell (p:=⟨cb+1,69,none⟩) (Or.inl rfl) _) (λi hi hlt=>by omega)
def qOd(d:Nat): Value:=.func (.func 172) #[.pointer (some ⟨d,0,none⟩)] #[]
def qNf(d:Nat): Value:=.func (.func 175) #[.pointer (some ⟨d,0,none⟩)] #[]
def qM7(d:Nat): Value:=.func (.func 174) #[.pointer (some ⟨d,0,none⟩)] #[]
def qM1(d:Nat): Value:=.func (.func 173) #[.pointer (some ⟨d,0,none⟩)] #[]
theorem qLz(c:Cfg)(w:World):
  Calls Tryz.prog 130 #[c.val] w λe w'=>∃d q,e=.returned (.agg #[qOd d,qM1 d,qFx,qM7 d,qNf d])/\w.heap.size<=d/\w.heap.size<=q/\ORep w' d q none c Pa.pn0 []/\Keeps (λ_=>False) w w':=by
 obtain⟨W,hW⟩:∃W,W=(w.alloc (.cells c.cells.toArray 38)).alloc (.cells #[.nilFunc,.nilFunc,.nilFunc,.nilFunc,.nilFunc] 100):=⟨_,rfl⟩
 have HT:=hide (show Blk W (w.heap.size+1) [.nilFunc,.nilFunc,.nilFunc,.nilFunc,.nilFunc] 100 by rw[hW];exact Blk.newAt (by simp) _ _)
 have HK:=hide (show Keeps (λ_=>False) w W by rw[hW];exact((Keeps.refl (λ_=>False) w).alloc _).alloc _)
 have HW:=hide hW
 have HN:=hide (qP8 c W)
 clear hW
 unfold Cfg.val at *
 go_enter Tryz.func130,Tryz.ntmps130
 go_wp2_with fail
 rw[show(w.alloc (.cells #[.int .i64 c.kind,.int .i64 c.lag,.int .i64 c.skew,.int .i64 c.cap,.int .i64 c.k,.int .i64 c.window,.int .i64 c.bits,.int .i64 c.rows,.int .i64 c.width,.int .i64 c.panes,.int .i64 c.size,.int .i64 c.degree,.int .i64 c.half,.int .i64 c.mark,.int .i64 c.s00,.int .i64 c.s01,.int .i64 c.s10,.int .i64 c.s11,.int .i64 c.s20,.int .i64 c.s21] 38)).alloc (.cells #[.nilFunc,.nilFunc,.nilFunc,.nilFunc,.nilFunc] 100)=W from(uh HW).symm]
 generalize hcb:w.heap.size=cb at *
 have HCB:=hide hcb
 clear hcb
 refine(uh HN).mono ?_
 rintro e w2 ⟨d,q,rfl,hd,hq,hc2,hk2⟩
 have HC2:=hide hc2
 have HT2:=hide ((uh HT).keeps hk2 (λh=>h))
 have HK2:=hide ((uh HK).then hk2)
 have HSZ:=hide (uh HK).size
 have HLT:=hide (uh HT).lt
 clear hc2 hk2 HT HK HN
 have f0:=(uh HT2).frozen
 have q0:w2.cell? ⟨cb+1,0,none⟩=some .nilFunc:=(uh HT2).cell rfl
 have q1:w2.cell? ⟨cb+1,1,none⟩=some .nilFunc:=(uh HT2).cell rfl
 have q2:w2.cell? ⟨cb+1,2,none⟩=some .nilFunc:=(uh HT2).cell rfl
 have q3:w2.cell? ⟨cb+1,3,none⟩=some .nilFunc:=(uh HT2).cell rfl
 have q4:w2.cell? ⟨cb+1,4,none⟩=some .nilFunc:=(uh HT2).cell rfl
 go_wp2
 have hcb:=uh HCB
 have hsz:=uh HSZ
 have hkf:Keeps (λi=>i=cb+1) w2 (((((w2.setCell ⟨cb+1,0,none⟩ (qOd d)).setCell ⟨cb+1,1,none⟩ (qM1 d)).setCell ⟨cb+1,2,none⟩ qFx).setCell ⟨cb+1,3,none⟩ (qM7 d)).setCell ⟨cb+1,4,none⟩ (qNf d)):=(((((Keeps.refl (λi=>i=cb+1) w2).setCell (p:=⟨cb+1,0,none⟩) (Or.inl rfl) _).setCell (p:=⟨cb+1,1,none⟩) (Or.inl rfl) _).setCell (p:=⟨cb+1,2,none⟩) (Or.inl rfl) _).setCell (p:=⟨cb+1,3,none⟩) (Or.inl rfl) _).setCell (p:=⟨cb+1,4,none⟩) (Or.inl rfl) _
 refine bodyPost_ret (v:=.agg #[qOd d,qM1 d,qFx,qM7 d,qNf d]) (by simp[results,Tryz.results130,go_sem,q0,q1,q2,q3,q4,qOd,qM1,qFx,qM7,qNf]) rfl ⟨d,q,rfl,by omega,by omega,?_,?_⟩
 ·exact(uh HC2).keeps hkf (λh=>by have:=uh HLT;omega) (λh=>by have:=uh HLT;omega) (λg hg=>by cases hg)
 ·exact(uh HK2).trans hkf (λi hi hlt=>by omega)
end
section
open Go.RowKit
theorem qYg(c:Cfg)(k:Nat)(w:World)(h1:1<=k)(h5:k<=5)(hv:qBg c=true)(hkd:c.kind=k):
  Calls Tryz.prog (qA5 k) #[c.val] w λe w'=>∃b:NB,e=.returned (.agg #[relV k b.d,qryV k b.d,swpV k b.d,savV k b.d,lodV k b.d])/\(∀i,qD2 k b i->w.heap.size<=i)/\NRep w' k b c qGb/\Keeps (λ_=>False) w w':=by
 rcases five h1 h5 with hk | hk | hk | hk | hk
 ·subst hk
  refine(qLq c w).mono ?_
  rintro e w' ⟨d,r,rfl,hd,hr,hc,hk⟩
  refine⟨⟨d,r,none,[]⟩,rfl,?_,⟨(λh=>by omega),(λ_=>hc),(λh=>by omega),(λh=>by omega),(λh=>by omega)⟩,hk⟩
  rintro i (⟨_,hi | hi | hi⟩ | ⟨h4,_⟩ | ⟨h4,_⟩ | ⟨h4,_⟩ | ⟨h4,_⟩)
  ·have:i=d:=hi;omega
  ·have:i=r:=hi;omega
  ·cases hi
  all_goals omega
 ·subst hk
  obtain⟨a1,a2,a3,a4,a5⟩:=qBx hv hkd rfl
  refine(qIf c (qMi c) w (by omega) a3 rfl).mono ?_
  rintro e w' ⟨d,rg,qs,rfl,hd,hr,hq,hn,hc,hk⟩
  refine⟨⟨d,rg,none,qs⟩,rfl,?_,⟨(λh=>by omega),(λh=>by omega),(λ_=>⟨hc,hn⟩),(λh=>by omega),(λh=>by omega)⟩,hk⟩
  rintro i (⟨h4,_⟩ | ⟨h4,_⟩ | ⟨_,hi | hi | ⟨j,hj,hi⟩⟩ | ⟨h4,_⟩ | ⟨h4,_⟩)
  ·omega
  ·omega
  ·have:i=d:=hi;omega
  ·have:i=rg:=hi;omega
  ·exact hq j i hj hi
  all_goals omega
 ·subst hk
  refine(qLz c w).mono ?_
  rintro e w' ⟨d,r,rfl,hd,hr,hc,hk⟩
  refine⟨⟨d,r,none,[]⟩,rfl,?_,⟨(λh=>by omega),(λh=>by omega),(λh=>by omega),(λ_=>hc),(λh=>by omega)⟩,hk⟩
  rintro i (⟨h4,_⟩ | ⟨h4,_⟩ | ⟨h4,_⟩ | ⟨_,hi | hi | hi⟩ | ⟨h4,_⟩)
  ·omega
  ·omega
  ·omega
  ·have:i=d:=hi;omega
  ·have:i=r:=hi;omega
  ·cases hi
  ·omega
 ·subst hk
  refine(qLe c w).mono ?_
  rintro e w' ⟨d,rfl,hd,hb,hk⟩
  refine⟨⟨d,0,none,[]⟩,rfl,?_,⟨(λ_=>hb),(λh=>by omega),(λh=>by omega),(λh=>by omega),(λh=>by omega)⟩,hk⟩
  rintro i (⟨h4,_⟩ | ⟨_,hi⟩ | ⟨h4,_⟩ | ⟨h4,_⟩ | ⟨h4,_⟩)
  ·omega
  ·have:i=d:=hi;omega
  all_goals omega
 ·subst hk
  refine(qLm c w).mono ?_
  rintro e w' ⟨d,r,rfl,hd,hr,hc,hk⟩
  refine⟨⟨d,r,none,[]⟩,rfl,?_,⟨(λh=>by omega),(λh=>by omega),(λh=>by omega),(λh=>by omega),(λ_=>hc)⟩,hk⟩
  rintro i (⟨h4,_⟩ | ⟨h4,_⟩ | ⟨h4,_⟩ | ⟨h4,_⟩ | ⟨_,hi | hi | hi⟩)
  ·omega
  ·omega
  ·omega
  ·omega
  ·have:i=d:=hi;omega
  ·have:i=r:=hi;omega
  ·cases hi
end
section
def leP(a b:It): Prop:=a.t<b.t\/(a.t=b.t/\a.n<=b.n)
theorem leP.refl(a:It): leP a a:=.inr ⟨rfl,Int.le_refl _⟩
theorem leP.trans{a b c:It}(h:leP a b)(k:leP b c): leP a c:=by
 unfold leP at *;omega
theorem qKs{a b:It}(h:qCm a b=true): leP a b:=by
 unfold qCm at h;unfold leP
 split at h
 ·rename_i he;simp at h;omega
 ·simp at h;omega
theorem qFm{a b:It}(h:qCm a b=false): leP b a:=by
 unfold qCm at h;unfold leP
 split at h
 ·rename_i he;simp at h;omega
 ·simp at h;omega
def HeapL(l:List It): Prop:=∀i,0<i->i<l.length->leP (itAt l ((i-1)/2)) (itAt l i)
theorem qDj(l:List It)(i j k:Nat)(hi:i<l.length)(hj:j<l.length)(hk:k<l.length):
  itAt (swapL l i j) k=if k=j then itAt l i else if k=i then itAt l j else itAt l k:=by
 unfold swapL itAt
 rw[List.getD_eq_getElem?_getD,List.getElem?_set]
 by_cases h1:j=k
 ·subst h1;simp[hj]
 ·rw[if_neg h1,if_neg (Ne.symm h1),List.getElem?_set]
  by_cases h2:i=k
  ·subst h2;simp[hi]
  ·rw[if_neg h2,if_neg (Ne.symm h2),List.getD_eq_getElem?_getD]
structure RiseAt (l:List It) (i:Nat):Prop where
 up:∀j,0<j->j<l.length->j≠i->leP (itAt l ((j-1)/2)) (itAt l j)
 over:∀c,0<i->c<l.length->0<c->(c-1)/2=i->leP (itAt l ((i-1)/2)) (itAt l c)
theorem qUd(f:Nat): ∀(l:List It) (i:Nat),i<l.length->i<f->RiseAt l i->HeapL (riseL f l i):=by
 induction f with
 | zero=>intro l i _ h;omega
 | succ f ih =>
  intro l i hl hf h
  unfold riseL
  split
  ·rename_i h0
   intro j hj hjl
   exact h.up j hj hjl (by omega)
  ·rename_i h0
   split
   ·rename_i ha
    have hle:=qKs ha
    have hp:(i-1)/2<i:=by omega
    generalize hpp:(i-1)/2=p at *
    refine ih _ p (by rw[qA4];omega) (by omega) ⟨?_,?_⟩
    ·intro j hj hjl hjp
     rw[qA4]at hjl
     rw[qDj l i p _ hl (by omega) (by omega),qDj l i p j hl (by omega) hjl]
     rw[if_neg hjp]
     by_cases hji:j=i
     ·subst hji
      rw[if_pos hpp,if_pos rfl];exact hle
     ·rw[if_neg hji]
      by_cases h1:(j-1)/2=p
      ·rw[if_pos h1]
       have:=h.up j hj hjl hji
       rw[h1]at this
       exact hle.trans this
      ·rw[if_neg h1]
       by_cases h2:(j-1)/2=i
       ·rw[if_pos h2]
        have:=h.over j (by omega) hjl hj h2
        rw[hpp]at this
        exact this
       ·rw[if_neg h2]
        exact h.up j hj hjl hji
    ·intro c hp0 hcl hc0 hcp
     rw[qA4]at hcl
     rw[qDj l i p _ hl (by omega) (by omega),qDj l i p c hl (by omega) hcl]
     rw[if_neg (show(p-1)/2≠p by omega),if_neg (show(p-1)/2≠i by omega),if_neg (show c≠p by omega)]
     have hpp':=h.up p hp0 (by omega) (by omega)
     by_cases hci:c=i
     ·rw[if_pos hci];exact hpp'
     ·rw[if_neg hci]
      have:=h.up c hc0 hcl hci
      rw[hcp]at this
      exact hpp'.trans this
   ·rename_i ha
    have hle:=qFm (by simpa using ha)
    intro j hj hjl
    by_cases hji:j=i
    ·subst hji;exact hle
    ·exact h.up j hj hjl hji
structure SinkAt (l:List It) (i:Nat):Prop where
 up:∀j,0<j->j<l.length->(j-1)/2≠i->leP (itAt l ((j-1)/2)) (itAt l j)
 over:∀c,0<i->c<l.length->0<c->(c-1)/2=i->leP (itAt l ((i-1)/2)) (itAt l c)
theorem qOv(l:List It)(i c:Nat)(h:qBu l i=c): 0<c/\(c-1)/2=i/\∀d,d<l.length->0<d->(d-1)/2=i->leP (itAt l c) (itAt l d):=by
 unfold qBu at h
 split at h
 ·split at h
  ·split at h
   ·rename_i h1 h2 h3
    have hc:c=2*i+2:=by omega
    subst hc
    refine⟨by omega,by omega,λd hd h0 hp=>?_⟩
    have:d=2*i+1\/d=2*i+2:=by omega
    rcases this with rfl | rfl
    ·exact qKs h3
    ·exact leP.refl _
   ·rename_i h1 h2 h3
    have hc:c=2*i+1:=by omega
    subst hc
    refine⟨by omega,by omega,λd hd h0 hp=>?_⟩
    have:d=2*i+1\/d=2*i+2:=by omega
    rcases this with rfl | rfl
    ·exact leP.refl _
    ·exact qFm (by simpa using h3)
  ·rename_i h1 h2
   have hc:c=2*i+1:=by omega
   subst hc
   refine⟨by omega,by omega,λd hd h0 hp=>?_⟩
   have:d=2*i+1:=by omega
   subst this
   exact leP.refl _
 ·omega
theorem qSn(l:List It)(i:Nat)(h:qBu l i<0): ∀d,d<l.length->0<d->(d-1)/2≠i:=by
 intro d hd h0 hp
 unfold qBu at h
 split at h
 ·split at h
  ·split at h <;> omega
  ·omega
 ·omega
theorem qU5(f:Nat): ∀(l:List It) (i:Nat),i<l.length->l.length<=f+i->SinkAt l i->HeapL (sinkL f l i):=by
 induction f with
 | zero=>intro l i _ h;omega
 | succ f ih =>
  intro l i hl hf h
  unfold sinkL
  split
  ·rename_i h0
   intro j hj hjl
   exact h.up j hj hjl (qSn l i h0 j hjl hj)
  ·rename_i h0
   rcases qEc l i with hc | ⟨c,hc,hic,hcl⟩
   ·omega
   ·rw[hc,Int.toNat_natCast]
    obtain⟨hc0,hcp,hcm⟩:=qOv l i c hc
    split
    ·rename_i ha
     have hle:=qKs ha
     refine ih _ c (by rw[qA4];omega) (by rw[qA4];omega) ⟨?_,?_⟩
     ·intro j hj hjl hjp
      rw[qA4]at hjl
      rw[qDj l i c _ hl hcl (by omega),qDj l i c j hl hcl hjl,if_neg hjp]
      by_cases hjc:j=c
      ·subst hjc
       rw[if_pos hcp,if_pos rfl];exact hle
      ·rw[if_neg hjc]
       by_cases hji:j=i
       ·subst hji
        rw[if_neg (show(j-1)/2≠j by omega),if_pos rfl]
        exact h.over c hj hcl hc0 hcp
       ·rw[if_neg hji]
        by_cases h2:(j-1)/2=i
        ·rw[if_pos h2];exact hcm j hjl hj h2
        ·rw[if_neg h2];exact h.up j hj hjl h2
     ·intro d hc' hdl hd0 hdp
      rw[qA4]at hdl
      rw[qDj l i c _ hl hcl (by omega),qDj l i c d hl hcl hdl]
      rw[if_neg (show(c-1)/2≠c by omega),if_pos hcp,if_neg (show d≠c by omega),if_neg (show d≠i by omega)]
      have:=h.up d hd0 hdl (by omega)
      rw[hdp]at this
      exact this
    ·rename_i ha
     have hle:=qFm (by simpa using ha)
     intro j hj hjl
     by_cases h2:(j-1)/2=i
     ·rw[h2];exact hle.trans (hcm j hjl hj h2)
     ·exact h.up j hj hjl h2
theorem HeapL.first{l:List It}(h:HeapL l)(j:Nat)(hj:j<l.length): leP (itAt l 0) (itAt l j):=by
 induction j using Nat.strongRecOn with
 | _ j ih =>
  by_cases h0:j=0
  ·subst h0;exact leP.refl _
  ·exact(ih ((j-1)/2) (by omega) (by omega)).trans (h j (by omega) hj)
theorem HeapL.first_mem{l:List It}(h:HeapL l){y:It}(hy:y∈l): (itAt l 0).t<=y.t:=by
 obtain⟨j,hj,rfl⟩:=List.mem_iff_getElem.1 hy
 have h1:=h.first j hj
 have h2:itAt l j=l[j]:=by unfold itAt;rw[List.getD_eq_getElem?_getD,List.getElem?_eq_getElem hj];rfl
 rw[h2]at h1
 unfold leP at h1
 omega
theorem qHx(l:List It)(j:Nat)(hj:j<l.length): itAt l j=l[j]:=by
 unfold itAt;rw[List.getD_eq_getElem?_getD,List.getElem?_eq_getElem hj];rfl
theorem qL5(l:List It)(i j:Nat)(hi:i<l.length)(hj:j<l.length): (swapL l i j).Perm l:=by
 unfold swapL
 rw[qHx l i hi,qHx l j hj]
 exact List.set_set_perm hi hj
theorem qVi(f:Nat): ∀(l:List It) (i:Nat),i<l.length->(riseL f l i).Perm l:=by
 induction f with
 | zero=>intro l i _;exact List.Perm.refl _
 | succ f ih =>
  intro l i hl
  unfold riseL
  split
  ·exact List.Perm.refl _
  ·split
   ·exact(ih _ _ (by rw[qA4];omega)).trans (qL5 l _ _ hl (by omega))
   ·exact List.Perm.refl _
theorem qUj(f:Nat): ∀(l:List It) (i:Nat),i<l.length->(sinkL f l i).Perm l:=by
 induction f with
 | zero=>intro l i _;exact List.Perm.refl _
 | succ f ih =>
  intro l i hl
  unfold sinkL
  split
  ·exact List.Perm.refl _
  ·rename_i h0
   rcases qEc l i with hc | ⟨c,hc,hic,hcl⟩
   ·omega
   ·rw[hc,Int.toNat_natCast]
    split
    ·exact(ih _ _ (by rw[qA4];omega)).trans (qL5 l _ _ hl hcl)
    ·exact List.Perm.refl _
theorem qNi(l:List It)(x:It)(h:HeapL l): HeapL (riseL (l.length+1) (l++[x]) l.length)/\(riseL (l.length+1) (l++[x]) l.length).Perm (x::l):=by
 have hat:∀j,j<l.length->itAt (l++[x]) j=itAt l j:=by
  intro j hj
  unfold itAt
  rw[List.getD_eq_getElem?_getD,List.getD_eq_getElem?_getD,List.getElem?_append_left hj]
 refine⟨qUd _ _ _ (by simp) (by omega) ⟨?_,?_⟩,(qVi _ _ _ (by simp)).trans (List.perm_append_singleton x l)⟩
 ·intro j hj hjl hne
  rw[List.length_append,List.length_singleton]at hjl
  rw[hat _ (by omega),hat j (by omega)]
  exact h j hj (by omega)
 ·intro c h0 hcl hc0 hcp
  rw[List.length_append,List.length_singleton]at hcl
  omega
theorem qP5(l:List It)(h:HeapL l)(hl:l≠[]): HeapL (takeL l)/\(itAt l 0::takeL l).Perm l:=by
 have hpos:0<l.length:=List.length_pos_iff.2 hl
 unfold takeL
 by_cases h1:l.length=1
 ·obtain⟨a,rfl⟩:=List.length_eq_one_iff.1 h1
  refine⟨?_,?_⟩
  ·intro i _ hi
   rw[show(([a].set 0 (itAt [a] ([a].length-1))).take ([a].length-1))=[] from rfl]at hi
   have:(sinkL [a].length [] 0).length=0:=rfl
   omega
  ·exact List.Perm.refl _
 ·obtain⟨a,m,rfl⟩:∃a m,l=a::m:=by cases l with | nil=>exact absurd rfl hl | cons a m=>exact⟨a,m,rfl⟩
  obtain⟨m',z,rfl⟩:∃m' z,m=m'++[z]:=by
   refine⟨m.dropLast,m.getLast (by intro e;subst e;simp at h1),?_⟩
   rw[List.dropLast_concat_getLast]
  have hz:itAt (a::(m'++[z])) ((a::(m'++[z])).length-1)=z:=by
   rw[qHx _ _ (by simp)]
   simp
  have he:((a::(m'++[z])).set 0 (itAt (a::(m'++[z])) ((a::(m'++[z])).length-1))).take ((a::(m'++[z])).length-1)=z::m':=by
   rw[hz];simp
  rw[he]
  have hat:∀j,0<j->j<(z::m').length->itAt (z::m') j=itAt (a::(m'++[z])) j:=by
   intro j h0 hj
   simp only[List.length_cons]at hj
   rw[qHx _ _ (by simpa using hj),qHx _ _ (by simp;omega)]
   obtain⟨j,rfl⟩:∃k,j=k+1:=⟨j-1,by omega⟩
   simp only[List.getElem_cons_succ]
   rw[List.getElem_append_left (by omega)]
  refine⟨qU5 _ _ 0 (by simp) (by simp) ⟨?_,?_⟩,?_⟩
  ·intro j hj hjl hne
   rw[hat _ (by omega) (by omega),hat j hj hjl]
   exact h j hj (by simp at hjl ⊢;omega)
  ·intro c h0;omega
  ·refine(List.Perm.cons _ (qUj _ _ 0 (by simp))).trans ?_
   show(a::z::m').Perm (a::(m'++[z]))
   exact List.Perm.cons a (List.perm_append_singleton z m').symm
end
section
open Go.RowKit
attribute [local go_sem ↓] qAd qAe
attribute [local go_sem] qAh qAl qAb qAc qAm qAn qAi qAj qAg qAk
structure Ser where
 id:Int
 c:Cfg
 k:Nat
 acc:Int
 rel:Int
 ref:List Int
 l:List It
 nt:Note
 last:Int
structure SB where
 s:Nat
 q:Nat
 g:Option Nat
 n:NB
def Cfg.vals(c:Cfg)(rest:List Value): List Value:=.int .i64 c.kind::.int .i64 c.lag::.int .i64 c.skew::.int .i64 c.cap::.int .i64 c.k::.int .i64 c.window::.int .i64 c.bits::.int .i64 c.rows::.int .i64 c.width::.int .i64 c.panes::.int .i64 c.size::.int .i64 c.degree::.int .i64 c.half::.int .i64 c.mark::.int .i64 c.s00::.int .i64 c.s01::.int .i64 c.s10::.int .i64 c.s11::.int .i64 c.s20::.int .i64 c.s21::rest
def qB3(b:SB)(x:Ser): List Value :=
 .int .i64 x.id::x.c.vals (fn (qBn x.k)::fn (qA2 x.k)::fn (qA3 x.k)::fn (qAp x.k)::fn (qA1 x.k)::fn (qA5 x.k)::relV x.k b.n.d::qryV x.k b.n.d::swpV x.k b.n.d::savV x.k b.n.d::lodV x.k b.n.d::.pointer (some ⟨b.q,0,none⟩)::.int .i64 x.acc::.int .i64 x.rel::x.ref.map (.int .i64 ·))
structure SRep (w:World) (b:SB) (x:Ser):Prop where
 blk:Blk w b.s (qB3 b x) 104
 que:QRep w b.q b.g x.l
 note:NRep w x.k b.n x.c x.nt
 sq:b.s≠b.q
 sg:∀g,b.g=some g->b.s≠g
 sn:∀i,qD2 x.k b.n i->i≠b.s/\i≠b.q/\b.g≠some i
def SB.foot(b:SB)(k:Nat)(i:Nat): Prop:=i=b.s\/i=b.q\/b.g=some i\/qD2 k b.n i
theorem SRep.keeps{M:Nat->Prop}{w w':World}{b:SB}{x:Ser}(h:SRep w b x)(hk:Keeps M w w')(hn:∀i,b.foot x.k i->¬M i): SRep w' b x :=
 ⟨h.blk.keeps hk (hn _ (.inl rfl)),h.que.keeps hk (hn _ (.inr (.inl rfl))) (λ_ hg=>hn _ (.inr (.inr (.inl hg)))),
    h.note.keeps hk (λi hi=>hn i (.inr (.inr (.inr hi)))),h.sq,h.sg,h.sn⟩
theorem SRep.still{w w':World}{b:SB}{x:Ser}(h:SRep w b x)(hk:Keeps (λ_=>False) w w'): SRep w' b x:=h.keeps hk (λ_ _ h=>h)
theorem SRep.lt{w:World}{b:SB}{x:Ser}(h:SRep w b x)(i:Nat)(hi:b.foot x.k i): i<w.heap.size:=by
 rcases hi with hi | hi | hi | hi
 ·subst hi;exact h.blk.lt
 ·subst hi;exact h.que.lt.1
 ·exact(h.que.lt.2 i hi).1
 ·exact h.note.lt i hi
structure SInv (n:Int) (x:Ser):Prop where
 valid:qBg x.c=true
 kind:x.c.kind=x.k
 k1:1<=x.k
 k5:x.k<=5
 acc0:0<=x.acc
 accn:x.acc<=n
 rel0:0<=x.rel
 rela:x.rel+x.l.length=x.acc
 reflen:x.ref.length=12
 refn:∀v,v∈x.ref->0<=v/\v<=n
 cap:(x.l.length:Int)<=x.c.cap
 times:∀y,y∈x.l->0<=y.t/\y.t<=4611686018427387904
 note:NInv x.k x.c x.rel x.last x.nt
 heap:HeapL x.l
 last0:0<=x.last
 lastn:x.last<=4611686018427387904
 lastl:∀y,y∈x.l->x.last<=y.t
 fits:∀y,y∈x.l->qEb x.c x.k y=0
theorem SInv.common{n:Int}{x:Ser}(h:SInv n x): 0<=x.c.lag/\x.c.lag<=100/\0<=x.c.skew/\x.c.skew<=100/\1<=x.c.cap/\x.c.cap<=8:=by
 have:=h.valid
 simp only[qBg,qD7,inB,Bool.and_eq_true,decide_eq_true_eq]at this
 omega
theorem SInv.weighs{n:Int}{x:Ser}(h:SInv n x)(h4:4<=x.k): x.c.weighs:=qDt h.valid h.kind h4 h.k5
theorem qI7(s:Nat)(lag clock:Int)(w:World)(h:w.cell? ⟨s,2,none⟩=some (.int .i64 lag))(l0:0<=lag)(l1:lag<=100)(c0:0<=clock)(c1:clock<=4611686018427387904):
  Calls Tryz.prog 67 #[.pointer (some ⟨s,0,none⟩),.int .i64 clock] w λe w'=>e=.returned (.int .i64 (clock-lag))/\w'=w:=by
 go_enter Tryz.func67,Tryz.ntmps67
 go_wp2
 go_ret
 exact⟨rfl,rfl⟩
def qJq(x:Ser)(clock:Int)(y:It): Int :=
 if inB y.t 0 4611686018427387904 then
  if y.t<=clock-x.c.lag then 6
  else if clock+x.c.skew<y.t then 7
  else if qEb x.c x.k y≠0 then qEb x.c x.k y
  else if x.c.cap<=x.l.length then 11 else if 4611686018427387904<=x.acc then 11 else 0
 else 5
theorem qBb{M:Nat->Prop}{w w':World}{b o n:Nat}(hk:Keeps M w w')(hn:¬M b)(hlt:b<w.heap.size): qAq w' b o n=qAq w b o n/\qAw w' b o n=qAw w b o n:=by
 have hc:∀j,w'.cell? ⟨b,o+j,none⟩=w.cell? ⟨b,o+j,none⟩:=λj=>World.cell?_of_block (a:=⟨b,o+j,none⟩) (hk.block b hlt hn)
 constructor
 ·unfold qAq qBq;simp only[hc]
 ·unfold qAw;simp only[hc]
theorem qJu(n:Int)(b:SB)(x:Ser)(y:It)(clock:Int)(w:World)(hs:SRep w b x)(hi:SInv n x)(c0:0<=clock)(c1:clock<=4611686018427387904):
  Calls Tryz.prog 62 #[.pointer (some ⟨b.s,0,none⟩),y.val,.int .i64 clock] w λe w'=>e=.returned (.int .i64 (qJq x clock y))/\Keeps (λ_=>False) w w':=by
 obtain⟨l0,l1,s0,s1,p1,p8⟩:=hi.common
 have hlt:=hs.blk.lt
 have HS:=hide hs
 have HI:=hide hi
 have HB:=hide (show Blk (w.alloc (.cells y.cells 87)) w.heap.size [.int .i64 y.t,.int .i64 y.k,.int .i64 y.d,.int .i64 y.n] 87 from Blk.new w [_,_,_,_] 87)
 have HK:=hide ((Keeps.refl (λ_=>False) w).alloc (.cells y.cells 87))
 have HE:=hide (show qJq x clock y=if inB y.t 0 4611686018427387904 then(if y.t<=clock-x.c.lag then 6 else if clock+x.c.skew<y.t then 7 else if qEb x.c x.k y≠0 then qEb x.c x.k y else if x.c.cap<=x.l.length then 11 else if 4611686018427387904<=x.acc then 11 else 0) else 5 from rfl)
 clear hs hi
 unfold It.val
 cases h1:inB y.t 0 4611686018427387904
 ·go_enter Tryz.func62,Tryz.ntmps62
  go_wp2_with (go_at_call 65;refine(qEz _ _).mono ?_;rintro e w' ⟨rfl,rfl⟩)
  go_ret
  exact⟨qA6 (by rw[uh HE,h1];rfl),uh HK⟩
 ·obtain⟨t0,t1⟩:=qCh h1
  rw[h1,if_pos rfl]at HE
  have hc2:w.cell? ⟨b.s,2,none⟩=some (.int .i64 x.c.lag):=(uh HS).blk.cell rfl
  go_enter Tryz.func62,Tryz.ntmps62
  go_wp2_with fail
  refine(qEz _ _).mono ?_
  rintro e w' ⟨rfl,rfl⟩
  rw[h1]
  go_wp2_with fail
  go_region_held3 (λw'=>w'.cell? ⟨w.heap.size,0,none⟩=some (.int .i64 y.t)/\w'.cell? ⟨b.s,2,none⟩=some (.int .i64 x.c.lag)) (go_keep)
   (first | (go_at_call 67;refine(qI7 b.s x.c.lag clock _ (by go_keep) l0 l1 c0 c1).mono ?_;rintro e w' ⟨rfl,rfl⟩))
  have HB1:=hide ((uh HB).drew)
  have HK1:=hide ((uh HK).drew)
  clear HB HK
  have e1:(w.alloc (.cells #[.int .i64 y.t,.int .i64 y.k,.int .i64 y.d,.int .i64 y.n] 87)).drew=(w.alloc (.cells y.cells 87)).drew:=rfl
  rw[e1]
  clear e1
  generalize(w.alloc (.cells y.cells 87)).drew=w1 at *
  generalize hbx:w.heap.size=bx at *
  have HS1:=hide ((uh HS).still (uh HK1))
  clear hc2 hlt hbx
  have hlt:=(uh HS1).blk.lt
  have hltx:=(uh HB1).lt
  have hb0:w1.cell? ⟨bx,0,none⟩=some (.int .i64 y.t):=(uh HB1).cell rfl
  have hb1:w1.cell? ⟨bx,1,none⟩=some (.int .i64 y.k):=(uh HB1).cell rfl
  have hb2:w1.cell? ⟨bx,2,none⟩=some (.int .i64 y.d):=(uh HB1).cell rfl
  have hb3:w1.cell? ⟨bx,3,none⟩=some (.int .i64 y.n):=(uh HB1).cell rfl
  have hc3:w1.cell? ⟨b.s,3,none⟩=some (.int .i64 x.c.skew):=(uh HS1).blk.cell rfl
  by_cases h6:y.t<=clock-x.c.lag
  ·rw[if_pos h6]at HE
   go_wp2
   go_ret
   exact⟨qA6 (uh HE).symm,uh HK1⟩
  ·rw[if_neg h6]at HE
   have h6':decide (y.t<=clock-x.c.lag)=false:=by simpa using h6
   go_wp2_with fail
   go_quiet (fail)
   by_cases h7:clock+x.c.skew<y.t
   ·rw[if_pos h7]at HE
    go_wp2
    go_ret
    exact⟨qA6 (uh HE).symm,(uh HK1).then (Keeps.drewN _ _ _)⟩
   ·rw[if_neg h7]at HE
    have h7':decide (clock+x.c.skew<y.t)=false:=by simpa using h7
    go_wp2_with fail
    have hkd:Keeps (λ_=>False) w1 (w1.drewN nq):=Keeps.drewN (λ_=>False) w1 nq
    have HS2:=hide ((uh HS1).still hkd)
    have HB2:=hide ((uh HB1).keeps hkd (λh=>h))
    have HK2:=hide ((uh HK1).then hkd)
    clear hkd
    generalize w1.drewN nq=w2 at *
    clear HS1 HB1 HK1 hb0 hb1 hb2 hb3 hc3 hlt hltx h6 h6' h7 h7'
    have hlt:=(uh HS2).blk.lt
    have hltx:=(uh HB2).lt
    have hb0:w2.cell? ⟨bx,0,none⟩=some (.int .i64 y.t):=(uh HB2).cell rfl
    have hb1:w2.cell? ⟨bx,1,none⟩=some (.int .i64 y.k):=(uh HB2).cell rfl
    have hb2:w2.cell? ⟨bx,2,none⟩=some (.int .i64 y.d):=(uh HB2).cell rfl
    have hb3:w2.cell? ⟨bx,3,none⟩=some (.int .i64 y.n):=(uh HB2).cell rfl
    have hc22:w2.cell? ⟨b.s,24,none⟩=some (.func (.func (qAp x.k)) #[] #[]):=(uh HS2).blk.cell rfl
    obtain⟨hv,hh⟩:=qBa (uh HS2).blk 1 20 x.c.cells rfl rfl
    have hown:=qMa x.k (uh HI).k1 (uh HI).k5
    go_region_held3 (λw'=>w'.cell? ⟨b.s,24,none⟩=some (.func (.func (qAp x.k)) #[] #[])/\qAq w' b.s 1 20=.agg x.c.cells.toArray/\qAw w' b.s 1 20=true /\
        w'.cell? ⟨bx,0,none⟩=some (.int .i64 y.t)/\w'.cell? ⟨bx,1,none⟩=some (.int .i64 y.k)/\w'.cell? ⟨bx,2,none⟩=some (.int .i64 y.d)/\w'.cell? ⟨bx,3,none⟩=some (.int .i64 y.n))
     (first | (simp[*,qAb,qAc];done) | (go_split_ands;refine⟨hk.cell (by assumption) (λh=>h),(qBb hk (λh=>h) (by simpa using hlt)).1.trans (by assumption),(qBb hk (λh=>h) (by simpa using hlt)).2.trans (by assumption),hk.cell (by assumption) (λh=>h),hk.cell (by assumption) (λh=>h),hk.cell (by assumption) (λh=>h),hk.cell (by assumption) (λh=>h)⟩))
     (first | (refine(qG0 x.c x.k y _ (uh HI).k1 (uh HI).k5 (uh HI).weighs t0 t1).mono ?_;rintro e w' ⟨rfl,hk⟩))
    have hk3:Keeps (λ_=>False) w2 w':=((Keeps.refl (λ_=>False) w2).drew).then hk
    have HS3:=hide ((uh HS2).still hk3)
    have HK3:=hide ((uh HK2).then hk3)
    clear hk hk3 HS2 HB2 HK2 hb0 hb1 hb2 hb3 hc22 hv hh hown hlt hltx
    have hlt:=(uh HS3).blk.lt
    generalize he:qEb x.c x.k y=e at *
    by_cases h8:e=0
    ·have h8':(e !=0)=false:=by simp[h8]
     rw[if_neg (by simpa using h8)]at HE
     have HN8:=hide h8
     clear h8
     have hc26:w'.cell? ⟨b.s,32,none⟩=some (.pointer (some ⟨b.q,0,none⟩)):=(uh HS3).blk.cell rfl
     have hc4:w'.cell? ⟨b.s,4,none⟩=some (.int .i64 x.c.cap):=(uh HS3).blk.cell rfl
     have hc33:w'.cell? ⟨b.s,33,none⟩=some (.int .i64 x.acc):=(uh HS3).blk.cell rfl
     by_cases h9:x.c.cap<=(x.l.length:Int)
     ·rw[if_pos h9]at HE
      have h9':decide (x.c.cap<=(x.l.length:Int))=true:=by simpa using h9
      go_wp2_with fail
      go_quiet (first | (go_at_call 91;refine Calls.quiet_of_same (len_any b.q b.g x.l _ (by exact(uh HS3).que.keeps (Keeps.drewN (λ_=>False) _ _) (λh=>h) (λ_ _ h=>h)))))
      go_wp2
      go_ret
      exact⟨qA6 (uh HE).symm,(uh HK3).then (Keeps.drewN _ _ _)⟩
     ·rw[if_neg h9]at HE
      have h9':decide (x.c.cap<=(x.l.length:Int))=false:=by simpa using h9
      by_cases h10:4611686018427387904<=x.acc
      ·rw[if_pos h10]at HE
       have h10':decide (4611686018427387904<=x.acc)=true:=by simpa using h10
       go_wp2_with fail
       go_quiet (first | (go_at_call 91;refine Calls.quiet_of_same (len_any b.q b.g x.l _ (by exact(uh HS3).que.keeps (Keeps.drewN (λ_=>False) _ _) (λh=>h) (λ_ _ h=>h)))))
       go_wp2
       go_ret
       exact⟨qA6 (uh HE).symm,(uh HK3).then (Keeps.drewN _ _ _)⟩
      ·rw[if_neg h10]at HE
       have h10':decide (4611686018427387904<=x.acc)=false:=by simpa using h10
       go_wp2_with fail
       go_quiet (first | (go_at_call 91;refine Calls.quiet_of_same (len_any b.q b.g x.l _ (by exact(uh HS3).que.keeps (Keeps.drewN (λ_=>False) _ _) (λh=>h) (λ_ _ h=>h)))))
       go_wp2
       go_ret
       exact⟨qA6 (uh HE).symm,(uh HK3).then (Keeps.drewN _ _ _)⟩
    ·have h8':(e !=0)=true:=by simp[h8]
     rw[if_pos (by simpa using h8)]at HE
     have HN8:=hide h8
     clear h8
     go_wp2
     go_ret
     exact⟨qA6 (uh HE).symm,uh HK3⟩
end
end Go.Proofs.YtahnliehdjncdaaGreatDoor
