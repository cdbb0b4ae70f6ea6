import Derived.Test.YtahnliehdjncdaaGreatDoorXAW
import Derived.Test.YtahnliehdjncdaaGreatDoorXAV
import Derived.Test.YtahnliehdjncdaaGreatDoorXAX
import Derived.Test.YtahnliehdjncdaaGreatDoorXAH
import Derived.Deep.LoopGhost
set_option maxRecDepth 100000
set_option maxHeartbeats 16000000
namespace Go.Proofs.YtahnliehdjncdaaGreatDoor
section
open Go.RowKit
attribute [local go_sem ↓] qAd qAe
attribute [local go_sem] qAf qAl qAc qAb qAn qAm qAg qAk
def qJp(c:Cfg): List Value:=c.cells++(Pa.pn0.cells++[.pointer none])
theorem qO4(ρ:Operand->Value)(dst:Option Tmp)(x:Array (Nat×Operand))(ty:TypeId)(pos:String)(after:Array Edge)(guard:Option (Nat×Bool)):
  execOp ρ { dst,op:=.build 237 x,type:=ty,pos,after,guard }=qLd 237 (x.map λ(i,y)=>(i,ρ y)):=rfl
theorem qM2(c:Cfg)(w:World):
  (qLd 237 #[(0,.agg c.cells.toArray)]).run Tryz.prog w=.ok (.value (.agg (qJp c).toArray)) w:=by kernel_rfl
theorem qSu(c:Cfg)(w:World):
  (qLd 237 #[(0,.agg #[.int .i64 c.kind,.int .i64 c.lag,.int .i64 c.skew,.int .i64 c.cap,.int .i64 c.k,.int .i64 c.window,.int .i64 c.bits,.int .i64 c.rows,.int .i64 c.width,.int .i64 c.panes,.int .i64 c.size,.int .i64 c.degree,.int .i64 c.half,.int .i64 c.mark,.int .i64 c.s00,.int .i64 c.s01,.int .i64 c.s10,.int .i64 c.s11,.int .i64 c.s20,.int .i64 c.s21])]).run Tryz.prog w=.ok (.value (.agg (qJp c).toArray)) w:=qM2 c w
attribute [local go_sem ↓] qO4
attribute [local go_sem] qM2 qSu
theorem qVy(c:Cfg)(q:Nat): (qJp c).set 69 (.pointer (some ⟨q,0,none⟩))=qA0 c Pa.pn0 q:=by
 unfold qJp qA0
 have hc:c.cells.length=20:=by simp[Cfg.cells]
 rw[List.set_append_right _ _ (by omega),hc,List.set_append_right _ _ (by rw[Pa.Pn.cells_length];omega),Pa.Pn.cells_length]
 rfl
theorem qV1(c:Cfg): (qJp c)[69]?=some (.pointer none):=by
 unfold qJp
 rw[List.getElem?_append_right (by simp[Cfg.cells]),List.getElem?_append_right (by rw[Pa.Pn.cells_length];simp[Cfg.cells])]
 simp[Cfg.cells,Pa.Pn.cells_length]
theorem qQb(c:Cfg)(w:World):
  Calls Tryz.prog 171 #[c.val] w λe w'=>∃d q,e=.returned (.pointer (some ⟨d,0,none⟩))/\w.heap.size<=d/\w.heap.size<=q/\ORep w' d q none c Pa.pn0 []/\Keeps (λ_=>False) w w':=by
 obtain⟨W,hW⟩:∃W,W=w.alloc (.cells c.cells.toArray 38):=⟨_,rfl⟩
 have HB:=hide (show Blk W w.heap.size c.cells 38 by rw[hW];exact Blk.new w _ _)
 have HK:=hide (show Keeps (λ_=>False) w W by rw[hW];exact(Keeps.refl (λ_=>False) w).alloc _)
 have HW:=hide hW
 clear hW
 unfold Cfg.val
 go_enter Tryz.func171,Tryz.ntmps171
 go_wp2_with fail
 rw[show w.alloc (.cells #[.int .i64 c.kind,.int .i64 c.lag,.int .i64 c.skew,.int .i64 c.cap,.int .i64 c.k,.int .i64 c.window,.int .i64 c.bits,.int .i64 c.rows,.int .i64 c.width,.int .i64 c.panes,.int .i64 c.size,.int .i64 c.degree,.int .i64 c.half,.int .i64 c.mark,.int .i64 c.s00,.int .i64 c.s01,.int .i64 c.s10,.int .i64 c.s11,.int .i64 c.s20,.int .i64 c.s21] 38)=W from(uh HW).symm]
 generalize hcb:w.heap.size=cb at *
 have HCB:=hide hcb
 clear hcb
 have hsz0:cb<W.heap.size:=(uh HB).lt
 obtain⟨hv,hh⟩:=qBf (uh HB) 20 rfl
 go_wp2_with fail
 have hWs:W.heap.size=cb+1:=by rw[uh HW];simp[uh HCB]
 obtain⟨W1,hW1⟩:∃W1,W1=W.alloc (.cells (qJp c).toArray 237):=⟨_,rfl⟩
 rw[<-hW1]
 have HB1:=hide (show Blk W1 (cb+1) (qJp c) 237 by rw[hW1];exact Blk.newAt hWs _ _)
 have HK1:=hide (show Keeps (λ_=>False) W W1 by rw[hW1];exact(Keeps.refl _ _).alloc _)
 have hs1:W1.heap.size=cb+1+1:=by rw[hW1];simp[hWs]
 clear hW1 hv hh
 refine(Pa.rowNew_any (cb+1) W1).mono ?_
 rintro e W2 ⟨rfl,hr2,hk2,hz2⟩
 rw[hs1]at hr2 ⊢
 have HB2:=hide ((uh HB1).keeps hk2 (λh=>h))
 have c69:W2.cell? ⟨cb+1,69,none⟩=some (.pointer none):=(uh HB2).cell (qV1 c)
 have f69:=(uh HB2).frozen
 have HK2:=hide (((uh HK).then (uh HK1)).then hk2)
 have HR2:=hide hr2
 clear hk2 hr2
 go_wp2
 go_ret
 have hb3:=(uh HB2).setCell 69 (.pointer (some ⟨cb+1+1,0,none⟩))
 rw[qVy]at hb3
 have hcb:=uh HCB
 refine⟨cb+1,cb+1+1,rfl,by omega,by omega,⟨hb3,?_,by omega,λg hg=>by cases hg⟩,?_⟩
 ·exact(uh HR2).keeps (M:=λi=>i=cb+1) ((Keeps.refl (λi=>i=cb+1) _).setCell (p:=⟨cb+1,69,none⟩) (Or.inl rfl) _) (λh=>by have h':cb+1+1=cb+1:=h;omega) (λg hg=>by cases hg)
 ·exact(uh HK2).trans ((Keeps.refl (λi=>i=cb+1) _).setCell (p:=⟨cb+1,69,none⟩) (Or.inl rfl) _) (λi hi hlt=>by omega)
def qNk(d:Nat): Value:=.func (.func 172) #[.pointer (some ⟨d,0,none⟩)] #[]
def qN2(d:Nat): Value:=.func (.func 175) #[.pointer (some ⟨d,0,none⟩)] #[]
def qOg(d:Nat): Value:=.func (.func 174) #[.pointer (some ⟨d,0,none⟩)] #[]
def qN0(d:Nat): Value:=.func (.func 173) #[.pointer (some ⟨d,0,none⟩)] #[]
theorem qLl(c:Cfg)(w:World):
  Calls Tryz.prog 130 #[c.val] w λe w'=>∃d q,e=.returned (.agg #[qNk d,qN0 d,qF2,qOg d,qN2 d])/\w.heap.size<=d/\w.heap.size<=q/\ORep w' d q none c Pa.pn0 []/\Keeps (λ_=>False) w w':=by
 obtain⟨W,hW⟩:∃W,W=(w.alloc (.cells c.cells.toArray 38)).alloc (.cells #[.nilFunc,.nilFunc,.nilFunc,.nilFunc,.nilFunc] 100):=⟨_,rfl⟩
 have HT:=hide (show Blk W (w.heap.size+1) [.nilFunc,.nilFunc,.nilFunc,.nilFunc,.nilFunc] 100 by rw[hW];exact Blk.newAt (by simp) _ _)
 have HK:=hide (show Keeps (λ_=>False) w W by rw[hW];exact((Keeps.refl (λ_=>False) w).alloc _).alloc _)
 have HW:=hide hW
 have HN:=hide (qQb c W)
 clear hW
 unfold Cfg.val at *
 go_enter Tryz.func130,Tryz.ntmps130
 go_wp2_with fail
 rw[show(w.alloc (.cells #[.int .i64 c.kind,.int .i64 c.lag,.int .i64 c.skew,.int .i64 c.cap,.int .i64 c.k,.int .i64 c.window,.int .i64 c.bits,.int .i64 c.rows,.int .i64 c.width,.int .i64 c.panes,.int .i64 c.size,.int .i64 c.degree,.int .i64 c.half,.int .i64 c.mark,.int .i64 c.s00,.int .i64 c.s01,.int .i64 c.s10,.int .i64 c.s11,.int .i64 c.s20,.int .i64 c.s21] 38)).alloc (.cells #[.nilFunc,.nilFunc,.nilFunc,.nilFunc,.nilFunc] 100)=W from(uh HW).symm]
 generalize hcb:w.heap.size=cb at *
 have HCB:=hide hcb
 clear hcb
 refine(uh HN).mono ?_
 rintro e w2 ⟨d,q,rfl,hd,hq,hc2,hk2⟩
 have HC2:=hide hc2
 have HT2:=hide ((uh HT).keeps hk2 (λh=>h))
 have HK2:=hide ((uh HK).then hk2)
 have HSZ:=hide (uh HK).size
 have HLT:=hide (uh HT).lt
 clear hc2 hk2 HT HK HN
 have f0:=(uh HT2).frozen
 have q0:w2.cell? ⟨cb+1,0,none⟩=some .nilFunc:=(uh HT2).cell rfl
 have q1:w2.cell? ⟨cb+1,1,none⟩=some .nilFunc:=(uh HT2).cell rfl
 have q2:w2.cell? ⟨cb+1,2,none⟩=some .nilFunc:=(uh HT2).cell rfl
 have q3:w2.cell? ⟨cb+1,3,none⟩=some .nilFunc:=(uh HT2).cell rfl
 have q4:w2.cell? ⟨cb+1,4,none⟩=some .nilFunc:=(uh HT2).cell rfl
 go_wp2
 have hcb:=uh HCB
 have hsz:=uh HSZ
 have hkf:Keeps (λi=>i=cb+1) w2 (((((w2.setCell ⟨cb+1,0,none⟩ (qNk d)).setCell ⟨cb+1,1,none⟩ (qN0 d)).setCell ⟨cb+1,2,none⟩ qF2).setCell ⟨cb+1,3,none⟩ (qOg d)).setCell ⟨cb+1,4,none⟩ (qN2 d)):=(((((Keeps.refl (λi=>i=cb+1) w2).setCell (p:=⟨cb+1,0,none⟩) (Or.inl rfl) _).setCell (p:=⟨cb+1,1,none⟩) (Or.inl rfl) _).setCell (p:=⟨cb+1,2,none⟩) (Or.inl rfl) _).setCell (p:=⟨cb+1,3,none⟩) (Or.inl rfl) _).setCell (p:=⟨cb+1,4,none⟩) (Or.inl rfl) _
 refine bodyPost_ret (v:=.agg #[qNk d,qN0 d,qF2,qOg d,qN2 d]) (by simp[results,Tryz.results130,go_sem,q0,q1,q2,q3,q4,qNk,qN0,qF2,qOg,qN2]) rfl ⟨d,q,rfl,by omega,by omega,?_,?_⟩
 ·exact(uh HC2).keeps hkf (λh=>by have:=uh HLT;omega) (λh=>by have:=uh HLT;omega) (λg hg=>by cases hg)
 ·exact(uh HK2).trans hkf (λi hi hlt=>by omega)
end
section
open Go.RowKit
theorem qYb(c:Cfg)(k:Nat)(w:World)(h1:1<=k)(h5:k<=5)(hv:qBg c=true)(hkd:c.kind=k):
  Calls Tryz.prog (qA5 k) #[c.val] w λe w'=>∃b:NB,e=.returned (.agg #[relV k b.d,qryV k b.d,swpV k b.d,savV k b.d,lodV k b.d])/\(∀i,qD4 k b i->w.heap.size<=i)/\NRep w' k b c qGq/\Keeps (λ_=>False) w w':=by
 rcases five h1 h5 with hk | hk | hk | hk | hk
 ·subst hk
  refine(qMi c w).mono ?_
  rintro e w' ⟨d,r,rfl,hd,hr,hc,hk⟩
  refine⟨⟨d,r,none,[]⟩,rfl,?_,⟨(λh=>by omega),(λ_=>hc),(λh=>by omega),(λh=>by omega),(λh=>by omega)⟩,hk⟩
  rintro i (⟨_,hi | hi | hi⟩ | ⟨h4,_⟩ | ⟨h4,_⟩ | ⟨h4,_⟩ | ⟨h4,_⟩)
  ·have:i=d:=hi;omega
  ·have:i=r:=hi;omega
  ·cases hi
  all_goals omega
 ·subst hk
  obtain⟨a1,a2,a3,a4,a5⟩:=qB0 hv hkd rfl
  refine(qJc c (qMm c) w (by omega) a3 rfl).mono ?_
  rintro e w' ⟨d,rg,qs,rfl,hd,hr,hq,hn,hc,hk⟩
  refine⟨⟨d,rg,none,qs⟩,rfl,?_,⟨(λh=>by omega),(λh=>by omega),(λ_=>⟨hc,hn⟩),(λh=>by omega),(λh=>by omega)⟩,hk⟩
  rintro i (⟨h4,_⟩ | ⟨h4,_⟩ | ⟨_,hi | hi | ⟨j,hj,hi⟩⟩ | ⟨h4,_⟩ | ⟨h4,_⟩)
  ·omega
  ·omega
  ·have:i=d:=hi;omega
  ·have:i=rg:=hi;omega
  ·exact hq j i hj hi
  all_goals omega
 ·subst hk
  refine(qLl c w).mono ?_
  rintro e w' ⟨d,r,rfl,hd,hr,hc,hk⟩
  refine⟨⟨d,r,none,[]⟩,rfl,?_,⟨(λh=>by omega),(λh=>by omega),(λh=>by omega),(λ_=>hc),(λh=>by omega)⟩,hk⟩
  rintro i (⟨h4,_⟩ | ⟨h4,_⟩ | ⟨h4,_⟩ | ⟨_,hi | hi | hi⟩ | ⟨h4,_⟩)
  ·omega
  ·omega
  ·omega
  ·have:i=d:=hi;omega
  ·have:i=r:=hi;omega
  ·cases hi
  ·omega
 ·subst hk
  refine(qLw c w).mono ?_
  rintro e w' ⟨d,rfl,hd,hb,hk⟩
  refine⟨⟨d,0,none,[]⟩,rfl,?_,⟨(λ_=>hb),(λh=>by omega),(λh=>by omega),(λh=>by omega),(λh=>by omega)⟩,hk⟩
  rintro i (⟨h4,_⟩ | ⟨_,hi⟩ | ⟨h4,_⟩ | ⟨h4,_⟩ | ⟨h4,_⟩)
  ·omega
  ·have:i=d:=hi;omega
  all_goals omega
 ·subst hk
  refine(qL3 c w).mono ?_
  rintro e w' ⟨d,r,rfl,hd,hr,hc,hk⟩
  refine⟨⟨d,r,none,[]⟩,rfl,?_,⟨(λh=>by omega),(λh=>by omega),(λh=>by omega),(λh=>by omega),(λ_=>hc)⟩,hk⟩
  rintro i (⟨h4,_⟩ | ⟨h4,_⟩ | ⟨h4,_⟩ | ⟨h4,_⟩ | ⟨_,hi | hi | hi⟩)
  ·omega
  ·omega
  ·omega
  ·omega
  ·have:i=d:=hi;omega
  ·have:i=r:=hi;omega
  ·cases hi
end
section
def leP(a b:It): Prop:=a.t<b.t\/(a.t=b.t/\a.n<=b.n)
theorem leP.refl(a:It): leP a a:=.inr ⟨rfl,Int.le_refl _⟩
theorem leP.trans{a b c:It}(h:leP a b)(k:leP b c): leP a c:=by
 unfold leP at *;omega
theorem qKz{a b:It}(h:qCp a b=true): leP a b:=by
 unfold qCp at h;unfold leP
 split at h
 ·rename_i he;simp at h;omega
 ·simp at h;omega
theorem qFu{a b:It}(h:qCp a b=false): leP b a:=by
 unfold qCp at h;unfold leP
 split at h
 ·rename_i he;simp at h;omega
 ·simp at h;omega
def HeapL(l:List It): Prop:=∀i,0<i->i<l.length->leP (itAt l ((i-1)/2)) (itAt l i)
theorem qDl(l:List It)(i j k:Nat)(hi:i<l.length)(hj:j<l.length)(hk:k<l.length):
  itAt (swapL l i j) k=if k=j then itAt l i else if k=i then itAt l j else itAt l k:=by
 unfold swapL itAt
 rw[List.getD_eq_getElem?_getD,List.getElem?_set]
 by_cases h1:j=k
 ·subst h1;simp[hj]
 ·rw[if_neg h1,if_neg (Ne.symm h1),List.getElem?_set]
  by_cases h2:i=k
  ·subst h2;simp[hi]
  ·rw[if_neg h2,if_neg (Ne.symm h2),List.getD_eq_getElem?_getD]
structure RiseAt (l:List It) (i:Nat):Prop where
 up:∀j,0<j->j<l.length->j≠i->leP (itAt l ((j-1)/2)) (itAt l j)
 over:∀c,0<i->c<l.length->0<c->(c-1)/2=i->leP (itAt l ((i-1)/2)) (itAt l c)
theorem qWa(f:Nat): ∀(l:List It) (i:Nat),i<l.length->i<f->RiseAt l i->HeapL (riseL f l i):=by
 induction f with
 | zero=>intro l i _ h;omega
 | succ f ih =>
  intro l i hl hf h
  unfold riseL
  split
  ·rename_i h0
   intro j hj hjl
   exact h.up j hj hjl (by omega)
  ·rename_i h0
   split
   ·rename_i ha
    have hle:=qKz ha
    have hp:(i-1)/2<i:=by omega
    generalize hpp:(i-1)/2=p at *
    refine ih _ p (by rw[qA6];omega) (by omega) ⟨?_,?_⟩
    ·intro j hj hjl hjp
     rw[qA6]at hjl
     rw[qDl l i p _ hl (by omega) (by omega),qDl l i p j hl (by omega) hjl]
     rw[if_neg hjp]
     by_cases hji:j=i
     ·subst hji
      rw[if_pos hpp,if_pos rfl];exact hle
     ·rw[if_neg hji]
      by_cases h1:(j-1)/2=p
      ·rw[if_pos h1]
       have:=h.up j hj hjl hji
       rw[h1]at this
       exact hle.trans this
      ·rw[if_neg h1]
       by_cases h2:(j-1)/2=i
       ·rw[if_pos h2]
        have:=h.over j (by omega) hjl hj h2
        rw[hpp]at this
        exact this
       ·rw[if_neg h2]
        exact h.up j hj hjl hji
    ·intro c hp0 hcl hc0 hcp
     rw[qA6]at hcl
     rw[qDl l i p _ hl (by omega) (by omega),qDl l i p c hl (by omega) hcl]
     rw[if_neg (show(p-1)/2≠p by omega),if_neg (show(p-1)/2≠i by omega),if_neg (show c≠p by omega)]
     have hpp':=h.up p hp0 (by omega) (by omega)
     by_cases hci:c=i
     ·rw[if_pos hci];exact hpp'
     ·rw[if_neg hci]
      have:=h.up c hc0 hcl hci
      rw[hcp]at this
      exact hpp'.trans this
   ·rename_i ha
    have hle:=qFu (by simpa using ha)
    intro j hj hjl
    by_cases hji:j=i
    ·subst hji;exact hle
    ·exact h.up j hj hjl hji
structure SinkAt (l:List It) (i:Nat):Prop where
 up:∀j,0<j->j<l.length->(j-1)/2≠i->leP (itAt l ((j-1)/2)) (itAt l j)
 over:∀c,0<i->c<l.length->0<c->(c-1)/2=i->leP (itAt l ((i-1)/2)) (itAt l c)
theorem qPp(l:List It)(i c:Nat)(h:qBw l i=c): 0<c/\(c-1)/2=i/\∀d,d<l.length->0<d->(d-1)/2=i->leP (itAt l c) (itAt l d):=by
 unfold qBw at h
 split at h
 ·split at h
  ·split at h
   ·rename_i h1 h2 h3
    have hc:c=2*i+2:=by omega
    subst hc
    refine⟨by omega,by omega,λd hd h0 hp=>?_⟩
    have:d=2*i+1\/d=2*i+2:=by omega
    rcases this with rfl | rfl
    ·exact qKz h3
    ·exact leP.refl _
   ·rename_i h1 h2 h3
    have hc:c=2*i+1:=by omega
    subst hc
    refine⟨by omega,by omega,λd hd h0 hp=>?_⟩
    have:d=2*i+1\/d=2*i+2:=by omega
    rcases this with rfl | rfl
    ·exact leP.refl _
    ·exact qFu (by simpa using h3)
  ·rename_i h1 h2
   have hc:c=2*i+1:=by omega
   subst hc
   refine⟨by omega,by omega,λd hd h0 hp=>?_⟩
   have:d=2*i+1:=by omega
   subst this
   exact leP.refl _
 ·omega
theorem qT0(l:List It)(i:Nat)(h:qBw l i<0): ∀d,d<l.length->0<d->(d-1)/2≠i:=by
 intro d hd h0 hp
 unfold qBw at h
 split at h
 ·split at h
  ·split at h <;> omega
  ·omega
 ·omega
theorem qU6(f:Nat): ∀(l:List It) (i:Nat),i<l.length->l.length<=f+i->SinkAt l i->HeapL (sinkL f l i):=by
 induction f with
 | zero=>intro l i _ h;omega
 | succ f ih =>
  intro l i hl hf h
  unfold sinkL
  split
  ·rename_i h0
   intro j hj hjl
   exact h.up j hj hjl (qT0 l i h0 j hjl hj)
  ·rename_i h0
   rcases qEf l i with hc | ⟨c,hc,hic,hcl⟩
   ·omega
   ·rw[hc,Int.toNat_natCast]
    obtain⟨hc0,hcp,hcm⟩:=qPp l i c hc
    split
    ·rename_i ha
     have hle:=qKz ha
     refine ih _ c (by rw[qA6];omega) (by rw[qA6];omega) ⟨?_,?_⟩
     ·intro j hj hjl hjp
      rw[qA6]at hjl
      rw[qDl l i c _ hl hcl (by omega),qDl l i c j hl hcl hjl,if_neg hjp]
      by_cases hjc:j=c
      ·subst hjc
       rw[if_pos hcp,if_pos rfl];exact hle
      ·rw[if_neg hjc]
       by_cases hji:j=i
       ·subst hji
        rw[if_neg (show(j-1)/2≠j by omega),if_pos rfl]
        exact h.over c hj hcl hc0 hcp
       ·rw[if_neg hji]
        by_cases h2:(j-1)/2=i
        ·rw[if_pos h2];exact hcm j hjl hj h2
        ·rw[if_neg h2];exact h.up j hj hjl h2
     ·intro d hc' hdl hd0 hdp
      rw[qA6]at hdl
      rw[qDl l i c _ hl hcl (by omega),qDl l i c d hl hcl hdl]
      rw[if_neg (show(c-1)/2≠c by omega),if_pos hcp,if_neg (show d≠c by omega),if_neg (show d≠i by omega)]
      have:=h.up d hd0 hdl (by omega)
      rw[hdp]at this
      exact this
    ·rename_i ha
     have hle:=qFu (by simpa using ha)
     intro j hj hjl
     by_cases h2:(j-1)/2=i
     ·rw[h2];exact hle.trans (hcm j hjl hj h2)
     ·exact h.up j hj hjl h2
theorem HeapL.first{l:List It}(h:HeapL l)(j:Nat)(hj:j<l.length): leP (itAt l 0) (itAt l j):=by
 induction j using Nat.strongRecOn with
 | _ j ih =>
  by_cases h0:j=0
  ·subst h0;exact leP.refl _
  ·exact(ih ((j-1)/2) (by omega) (by omega)).trans (h j (by omega) hj)
theorem HeapL.first_mem{l:List It}(h:HeapL l){y:It}(hy:y∈l): (itAt l 0).t<=y.t:=by
 obtain⟨j,hj,rfl⟩:=List.mem_iff_getElem.1 hy
 have h1:=h.first j hj
 have h2:itAt l j=l[j]:=by unfold itAt;rw[List.getD_eq_getElem?_getD,List.getElem?_eq_getElem hj];rfl
 rw[h2]at h1
 unfold leP at h1
 omega
theorem qIg(l:List It)(j:Nat)(hj:j<l.length): itAt l j=l[j]:=by
 unfold itAt;rw[List.getD_eq_getElem?_getD,List.getElem?_eq_getElem hj];rfl
theorem qM9(l:List It)(i j:Nat)(hi:i<l.length)(hj:j<l.length): (swapL l i j).Perm l:=by
 unfold swapL
 rw[qIg l i hi,qIg l j hj]
 exact List.set_set_perm hi hj
theorem qWq(f:Nat): ∀(l:List It) (i:Nat),i<l.length->(riseL f l i).Perm l:=by
 induction f with
 | zero=>intro l i _;exact List.Perm.refl _
 | succ f ih =>
  intro l i hl
  unfold riseL
  split
  ·exact List.Perm.refl _
  ·split
   ·exact(ih _ _ (by rw[qA6];omega)).trans (qM9 l _ _ hl (by omega))
   ·exact List.Perm.refl _
theorem qVu(f:Nat): ∀(l:List It) (i:Nat),i<l.length->(sinkL f l i).Perm l:=by
 induction f with
 | zero=>intro l i _;exact List.Perm.refl _
 | succ f ih =>
  intro l i hl
  unfold sinkL
  split
  ·exact List.Perm.refl _
  ·rename_i h0
   rcases qEf l i with hc | ⟨c,hc,hic,hcl⟩
   ·omega
   ·rw[hc,Int.toNat_natCast]
    split
    ·exact(ih _ _ (by rw[qA6];omega)).trans (qM9 l _ _ hl hcl)
    ·exact List.Perm.refl _
theorem qOn(l:List It)(x:It)(h:HeapL l): HeapL (riseL (l.length+1) (l++[x]) l.length)/\(riseL (l.length+1) (l++[x]) l.length).Perm (x::l):=by
 have hat:∀j,j<l.length->itAt (l++[x]) j=itAt l j:=by
  intro j hj
  unfold itAt
  rw[List.getD_eq_getElem?_getD,List.getD_eq_getElem?_getD,List.getElem?_append_left hj]
 refine⟨qWa _ _ _ (by simp) (by omega) ⟨?_,?_⟩,(qWq _ _ _ (by simp)).trans (List.perm_append_singleton x l)⟩
 ·intro j hj hjl hne
  rw[List.length_append,List.length_singleton]at hjl
  rw[hat _ (by omega),hat j (by omega)]
  exact h j hj (by omega)
 ·intro c h0 hcl hc0 hcp
  rw[List.length_append,List.length_singleton]at hcl
  omega
theorem qPe(l:List It)(h:HeapL l)(hl:l≠[]): HeapL (takeL l)/\(itAt l 0::takeL l).Perm l:=by
 have hpos:0<l.length:=List.length_pos_iff.2 hl
 unfold takeL
 by_cases h1:l.length=1
 ·obtain⟨a,rfl⟩:=List.length_eq_one_iff.1 h1
  refine⟨?_,?_⟩
  ·intro i _ hi
   rw[show(([a].set 0 (itAt [a] ([a].length-1))).take ([a].length-1))=[] from rfl]at hi
   have:(sinkL [a].length [] 0).length=0:=rfl
   omega
  ·exact List.Perm.refl _
 ·obtain⟨a,m,rfl⟩:∃a m,l=a::m:=by cases l with | nil=>exact absurd rfl hl | cons a m=>exact⟨a,m,rfl⟩
  obtain⟨m',z,rfl⟩:∃m' z,m=m'++[z]:=by
   refine⟨m.dropLast,m.getLast (by intro e;subst e;simp at h1),?_⟩
   rw[List.dropLast_concat_getLast]
  have hz:itAt (a::(m'++[z])) ((a::(m'++[z])).length-1)=z:=by
   rw[qIg _ _ (by simp)]
   simp
  have he:((a::(m'++[z])).set 0 (itAt (a::(m'++[z])) ((a::(m'++[z])).length-1))).take ((a::(m'++[z])).length-1)=z::m':=by
   rw[hz];simp
  rw[he]
  have hat:∀j,0<j->j<(z::m').length->itAt (z::m') j=itAt (a::(m'++[z])) j:=by
   intro j h0 hj
   simp only[List.length_cons]at hj
   rw[qIg _ _ (by simpa using hj),qIg _ _ (by simp;omega)]
   obtain⟨j,rfl⟩:∃k,j=k+1:=⟨j-1,by omega⟩
   simp only[List.getElem_cons_succ]
   rw[List.getElem_append_left (by omega)]
  refine⟨qU6 _ _ 0 (by simp) (by simp) ⟨?_,?_⟩,?_⟩
  ·intro j hj hjl hne
   rw[hat _ (by omega) (by omega),hat j hj hjl]
   exact h j hj (by simp at hjl ⊢;omega)
  ·intro c h0;omega
  ·refine(List.Perm.cons _ (qVu _ _ 0 (by simp))).trans ?_
   show(a::z::m').Perm (a::(m'++[z]))
   exact List.Perm.cons a (List.perm_append_singleton z m').symm
end
section
open Go.RowKit
attribute [local go_sem ↓] qAd qAe
attribute [local go_sem] qAf qAl qAc qAb qAn qAm qAi qAj qAg qAk
structure Ser where
 id:Int
 c:Cfg
 k:Nat
 acc:Int
 rel:Int
 ref:List Int
 l:List It
 nt:Note
 last:Int
structure SB where
 s:Nat
 q:Nat
 g:Option Nat
 n:NB
def Cfg.vals(c:Cfg)(rest:List Value): List Value:=.int .i64 c.kind::.int .i64 c.lag::.int .i64 c.skew::.int .i64 c.cap::.int .i64 c.k::.int .i64 c.window::.int .i64 c.bits::.int .i64 c.rows::.int .i64 c.width::.int .i64 c.panes::.int .i64 c.size::.int .i64 c.degree::.int .i64 c.half::.int .i64 c.mark::.int .i64 c.s00::.int .i64 c.s01::.int .i64 c.s10::.int .i64 c.s11::.int .i64 c.s20::.int .i64 c.s21::rest
def qB6(b:SB)(x:Ser): List Value :=
 .int .i64 x.id::x.c.vals (fn (qBo x.k)::fn (qA4 x.k)::fn (qA3 x.k)::fn (qAq x.k)::fn (qA1 x.k)::fn (qA5 x.k)::relV x.k b.n.d::qryV x.k b.n.d::swpV x.k b.n.d::savV x.k b.n.d::lodV x.k b.n.d::.pointer (some ⟨b.q,0,none⟩)::.int .i64 x.acc::.int .i64 x.rel::x.ref.map (.int .i64 ·))
structure SRep (w:World) (b:SB) (x:Ser):Prop where
 blk:Blk w b.s (qB6 b x) 104
 que:QRep w b.q b.g x.l
 note:NRep w x.k b.n x.c x.nt
 sq:b.s≠b.q
 sg:∀g,b.g=some g->b.s≠g
 sn:∀i,qD4 x.k b.n i->i≠b.s/\i≠b.q/\b.g≠some i
def SB.foot(b:SB)(k:Nat)(i:Nat): Prop:=i=b.s\/i=b.q\/b.g=some i\/qD4 k b.n i
theorem SRep.keeps{M:Nat->Prop}{w w':World}{b:SB}{x:Ser}(h:SRep w b x)(hk:Keeps M w w')(hn:∀i,b.foot x.k i->¬M i): SRep w' b x :=
 ⟨h.blk.keeps hk (hn _ (.inl rfl)),h.que.keeps hk (hn _ (.inr (.inl rfl))) (λ_ hg=>hn _ (.inr (.inr (.inl hg)))),
    h.note.keeps hk (λi hi=>hn i (.inr (.inr (.inr hi)))),h.sq,h.sg,h.sn⟩
theorem SRep.still{w w':World}{b:SB}{x:Ser}(h:SRep w b x)(hk:Keeps (λ_=>False) w w'): SRep w' b x:=h.keeps hk (λ_ _ h=>h)
theorem SRep.lt{w:World}{b:SB}{x:Ser}(h:SRep w b x)(i:Nat)(hi:b.foot x.k i): i<w.heap.size:=by
 rcases hi with hi | hi | hi | hi
 ·subst hi;exact h.blk.lt
 ·subst hi;exact h.que.lt.1
 ·exact(h.que.lt.2 i hi).1
 ·exact h.note.lt i hi
structure SInv (n:Int) (x:Ser):Prop where
 valid:qBg x.c=true
 kind:x.c.kind=x.k
 k1:1<=x.k
 k5:x.k<=5
 acc0:0<=x.acc
 accn:x.acc<=n
 rel0:0<=x.rel
 rela:x.rel+x.l.length=x.acc
 reflen:x.ref.length=12
 refn:∀v,v∈x.ref->0<=v/\v<=n
 cap:(x.l.length:Int)<=x.c.cap
 times:∀y,y∈x.l->0<=y.t/\y.t<=4611686018427387904
 note:NInv x.k x.c x.rel x.last x.nt
 heap:HeapL x.l
 last0:0<=x.last
 lastn:x.last<=4611686018427387904
 lastl:∀y,y∈x.l->x.last<=y.t
 fits:∀y,y∈x.l->qEi x.c x.k y=0
theorem SInv.common{n:Int}{x:Ser}(h:SInv n x): 0<=x.c.lag/\x.c.lag<=100/\0<=x.c.skew/\x.c.skew<=100/\1<=x.c.cap/\x.c.cap<=8:=by
 have:=h.valid
 simp only[qBg,qD9,inB,Bool.and_eq_true,decide_eq_true_eq]at this
 omega
theorem SInv.weighs{n:Int}{x:Ser}(h:SInv n x)(h4:4<=x.k): x.c.weighs:=qDt h.valid h.kind h4 h.k5
theorem qJt(s:Nat)(lag clock:Int)(w:World)(h:w.cell? ⟨s,2,none⟩=some (.int .i64 lag))(l0:0<=lag)(l1:lag<=100)(c0:0<=clock)(c1:clock<=4611686018427387904):
  Calls Tryz.prog 67 #[.pointer (some ⟨s,0,none⟩),.int .i64 clock] w λe w'=>e=.returned (.int .i64 (clock-lag))/\w'=w:=by
 go_enter Tryz.func67,Tryz.ntmps67
 go_wp2
 go_ret
 exact⟨rfl,rfl⟩
def qJu(x:Ser)(clock:Int)(y:It): Int :=
 if inB y.t 0 4611686018427387904 then
  if y.t<=clock-x.c.lag then 6
  else if clock+x.c.skew<y.t then 7
  else if qEi x.c x.k y≠0 then qEi x.c x.k y
  else if x.c.cap<=x.l.length then 11 else if 4611686018427387904<=x.acc then 11 else 0
 else 5
theorem qA2{M:Nat->Prop}{w w':World}{b o n:Nat}(hk:Keeps M w w')(hn:¬M b)(hlt:b<w.heap.size): qAp w' b o n=qAp w b o n/\qAu w' b o n=qAu w b o n:=by
 have hc:∀j,w'.cell? ⟨b,o+j,none⟩=w.cell? ⟨b,o+j,none⟩:=λj=>World.cell?_of_block (a:=⟨b,o+j,none⟩) (hk.block b hlt hn)
 constructor
 ·unfold qAp qBs;simp only[hc]
 ·unfold qAu;simp only[hc]
theorem qKn(n:Int)(b:SB)(x:Ser)(y:It)(clock:Int)(w:World)(hs:SRep w b x)(hi:SInv n x)(c0:0<=clock)(c1:clock<=4611686018427387904):
  Calls Tryz.prog 62 #[.pointer (some ⟨b.s,0,none⟩),y.val,.int .i64 clock] w λe w'=>e=.returned (.int .i64 (qJu x clock y))/\Keeps (λ_=>False) w w':=by
 obtain⟨l0,l1,s0,s1,p1,p8⟩:=hi.common
 have hlt:=hs.blk.lt
 have HS:=hide hs
 have HI:=hide hi
 have HB:=hide (show Blk (w.alloc (.cells y.cells 87)) w.heap.size [.int .i64 y.t,.int .i64 y.k,.int .i64 y.d,.int .i64 y.n] 87 from Blk.new w [_,_,_,_] 87)
 have HK:=hide ((Keeps.refl (λ_=>False) w).alloc (.cells y.cells 87))
 have HE:=hide (show qJu x clock y=if inB y.t 0 4611686018427387904 then(if y.t<=clock-x.c.lag then 6 else if clock+x.c.skew<y.t then 7 else if qEi x.c x.k y≠0 then qEi x.c x.k y else if x.c.cap<=x.l.length then 11 else if 4611686018427387904<=x.acc then 11 else 0) else 5 from rfl)
 clear hs hi
 unfold It.val
 cases h1:inB y.t 0 4611686018427387904
 ·go_enter Tryz.func62,Tryz.ntmps62
  go_wp2_with (go_at_call 65;refine(qE5 _ _).mono ?_;rintro e w' ⟨rfl,rfl⟩)
  go_ret
  exact⟨qA7 (by rw[uh HE,h1];rfl),uh HK⟩
 ·obtain⟨t0,t1⟩:=qCi h1
  rw[h1,if_pos rfl]at HE
  have hc2:w.cell? ⟨b.s,2,none⟩=some (.int .i64 x.c.lag):=(uh HS).blk.cell rfl
  go_enter Tryz.func62,Tryz.ntmps62
  go_wp2_with fail
  refine(qE5 _ _).mono ?_
  rintro e w' ⟨rfl,rfl⟩
  rw[h1]
  go_wp2_with fail
  go_region_held3 (λw'=>w'.cell? ⟨w.heap.size,0,none⟩=some (.int .i64 y.t)/\w'.cell? ⟨b.s,2,none⟩=some (.int .i64 x.c.lag)) (go_keep)
   (first | (go_at_call 67;refine(qJt b.s x.c.lag clock _ (by go_keep) l0 l1 c0 c1).mono ?_;rintro e w' ⟨rfl,rfl⟩))
  have HB1:=hide ((uh HB).drew)
  have HK1:=hide ((uh HK).drew)
  clear HB HK
  have e1:(w.alloc (.cells #[.int .i64 y.t,.int .i64 y.k,.int .i64 y.d,.int .i64 y.n] 87)).drew=(w.alloc (.cells y.cells 87)).drew:=rfl
  rw[e1]
  clear e1
  generalize(w.alloc (.cells y.cells 87)).drew=w1 at *
  generalize hbx:w.heap.size=bx at *
  have HS1:=hide ((uh HS).still (uh HK1))
  clear hc2 hlt hbx
  have hlt:=(uh HS1).blk.lt
  have hltx:=(uh HB1).lt
  have hb0:w1.cell? ⟨bx,0,none⟩=some (.int .i64 y.t):=(uh HB1).cell rfl
  have hb1:w1.cell? ⟨bx,1,none⟩=some (.int .i64 y.k):=(uh HB1).cell rfl
  have hb2:w1.cell? ⟨bx,2,none⟩=some (.int .i64 y.d):=(uh HB1).cell rfl
  have hb3:w1.cell? ⟨bx,3,none⟩=some (.int .i64 y.n):=(uh HB1).cell rfl
  have hc3:w1.cell? ⟨b.s,3,none⟩=some (.int .i64 x.c.skew):=(uh HS1).blk.cell rfl
  by_cases h6:y.t<=clock-x.c.lag
  ·rw[if_pos h6]at HE
   go_wp2
   go_ret
   exact⟨qA7 (uh HE).symm,uh HK1⟩
  ·rw[if_neg h6]at HE
   have h6':decide (y.t<=clock-x.c.lag)=false:=by simpa using h6
   go_wp2_with fail
   go_quiet (fail)
   by_cases h7:clock+x.c.skew<y.t
   ·rw[if_pos h7]at HE
    go_wp2
    go_ret
    exact⟨qA7 (uh HE).symm,(uh HK1).then (Keeps.drewN _ _ _)⟩
   ·rw[if_neg h7]at HE
    have h7':decide (clock+x.c.skew<y.t)=false:=by simpa using h7
    go_wp2_with fail
    have hkd:Keeps (λ_=>False) w1 (w1.drewN nq):=Keeps.drewN (λ_=>False) w1 nq
    have HS2:=hide ((uh HS1).still hkd)
    have HB2:=hide ((uh HB1).keeps hkd (λh=>h))
    have HK2:=hide ((uh HK1).then hkd)
    clear hkd
    generalize w1.drewN nq=w2 at *
    clear HS1 HB1 HK1 hb0 hb1 hb2 hb3 hc3 hlt hltx h6 h6' h7 h7'
    have hlt:=(uh HS2).blk.lt
    have hltx:=(uh HB2).lt
    have hb0:w2.cell? ⟨bx,0,none⟩=some (.int .i64 y.t):=(uh HB2).cell rfl
    have hb1:w2.cell? ⟨bx,1,none⟩=some (.int .i64 y.k):=(uh HB2).cell rfl
    have hb2:w2.cell? ⟨bx,2,none⟩=some (.int .i64 y.d):=(uh HB2).cell rfl
    have hb3:w2.cell? ⟨bx,3,none⟩=some (.int .i64 y.n):=(uh HB2).cell rfl
    have hc22:w2.cell? ⟨b.s,24,none⟩=some (.func (.func (qAq x.k)) #[] #[]):=(uh HS2).blk.cell rfl
    obtain⟨hv,hh⟩:=qBb (uh HS2).blk 1 20 x.c.cells rfl rfl
    have hown:=qNc x.k (uh HI).k1 (uh HI).k5
    go_region_held3 (λw'=>w'.cell? ⟨b.s,24,none⟩=some (.func (.func (qAq x.k)) #[] #[])/\qAp w' b.s 1 20=.agg x.c.cells.toArray/\qAu w' b.s 1 20=true /\
        w'.cell? ⟨bx,0,none⟩=some (.int .i64 y.t)/\w'.cell? ⟨bx,1,none⟩=some (.int .i64 y.k)/\w'.cell? ⟨bx,2,none⟩=some (.int .i64 y.d)/\w'.cell? ⟨bx,3,none⟩=some (.int .i64 y.n))
     (first | (simp[*,qAc,qAb];done) | (go_split_ands;refine⟨hk.cell (by assumption) (λh=>h),(qA2 hk (λh=>h) (by simpa using hlt)).1.trans (by assumption),(qA2 hk (λh=>h) (by simpa using hlt)).2.trans (by assumption),hk.cell (by assumption) (λh=>h),hk.cell (by assumption) (λh=>h),hk.cell (by assumption) (λh=>h),hk.cell (by assumption) (λh=>h)⟩))
     (first | (refine(qHf x.c x.k y _ (uh HI).k1 (uh HI).k5 (uh HI).weighs t0 t1).mono ?_;rintro e w' ⟨rfl,hk⟩))
    have hk3:Keeps (λ_=>False) w2 w':=((Keeps.refl (λ_=>False) w2).drew).then hk
    have HS3:=hide ((uh HS2).still hk3)
    have HK3:=hide ((uh HK2).then hk3)
    clear hk hk3 HS2 HB2 HK2 hb0 hb1 hb2 hb3 hc22 hv hh hown hlt hltx
    have hlt:=(uh HS3).blk.lt
    generalize he:qEi x.c x.k y=e at *
    by_cases h8:e=0
    ·have h8':(e !=0)=false:=by simp[h8]
     rw[if_neg (by simpa using h8)]at HE
     have HN8:=hide h8
     clear h8
     have hc26:w'.cell? ⟨b.s,32,none⟩=some (.pointer (some ⟨b.q,0,none⟩)):=(uh HS3).blk.cell rfl
     have hc4:w'.cell? ⟨b.s,4,none⟩=some (.int .i64 x.c.cap):=(uh HS3).blk.cell rfl
     have hc33:w'.cell? ⟨b.s,33,none⟩=some (.int .i64 x.acc):=(uh HS3).blk.cell rfl
     by_cases h9:x.c.cap<=(x.l.length:Int)
     ·rw[if_pos h9]at HE
      have h9':decide (x.c.cap<=(x.l.length:Int))=true:=by simpa using h9
      go_wp2_with fail
      go_quiet (first | (go_at_call 91;refine Calls.quiet_of_same (len_any b.q b.g x.l _ (by exact(uh HS3).que.keeps (Keeps.drewN (λ_=>False) _ _) (λh=>h) (λ_ _ h=>h)))))
      go_wp2
      go_ret
      exact⟨qA7 (uh HE).symm,(uh HK3).then (Keeps.drewN _ _ _)⟩
     ·rw[if_neg h9]at HE
      have h9':decide (x.c.cap<=(x.l.length:Int))=false:=by simpa using h9
      by_cases h10:4611686018427387904<=x.acc
      ·rw[if_pos h10]at HE
       have h10':decide (4611686018427387904<=x.acc)=true:=by simpa using h10
       go_wp2_with fail
       go_quiet (first | (go_at_call 91;refine Calls.quiet_of_same (len_any b.q b.g x.l _ (by exact(uh HS3).que.keeps (Keeps.drewN (λ_=>False) _ _) (λh=>h) (λ_ _ h=>h)))))
       go_wp2
       go_ret
       exact⟨qA7 (uh HE).symm,(uh HK3).then (Keeps.drewN _ _ _)⟩
      ·rw[if_neg h10]at HE
       have h10':decide (4611686018427387904<=x.acc)=false:=by simpa using h10
       go_wp2_with fail
       go_quiet (first | (go_at_call 91;refine Calls.quiet_of_same (len_any b.q b.g x.l _ (by exact(uh HS3).que.keeps (Keeps.drewN (λ_=>False) _ _) (λh=>h) (λ_ _ h=>h)))))
       go_wp2
       go_ret
       exact⟨qA7 (uh HE).symm,(uh HK3).then (Keeps.drewN _ _ _)⟩
    ·have h8':(e !=0)=true:=by simp[h8]
     rw[if_pos (by simpa using h8)]at HE
     have HN8:=hide h8
     clear h8
     go_wp2
     go_ret
     exact⟨qA7 (uh HE).symm,uh HK3⟩
def numbered(y:It)(n:Int): It:=⟨y.t,y.k,y.d,n⟩
def qV9(x:Ser)(y:It): Ser:={ x with acc:=x.acc+1,l:=riseL (x.l.length+1) (x.l++[numbered y (x.acc+1)]) x.l.length }
def SB.next(b b':SB)(k size:Nat): Prop:=b'.s=b.s/\∀i,b'.foot k i->b.foot k i\/size<=i
theorem qVw(n:Int)(b:SB)(x:Ser)(y:It)(w:World)(hs:SRep w b x)(hi:SInv n x)(hn:n<=4611686018427387904):
  Calls Tryz.prog 64 #[.pointer (some ⟨b.s,0,none⟩),y.val] w λe w'=>e=.returned (.int .i64 (x.acc+1))/\∃b',SRep w' b' (qV9 x y)/\b.next b' x.k w.heap.size/\Keeps (b.foot x.k) w w':=by
 obtain⟨l0,l1,s0,s1,p1,p8⟩:=hi.common
 have hlt:=hs.blk.lt
 have hcap:=hi.cap
 have ha0:=hi.acc0
 have han:=hi.accn
 have hlq:=hs.que.lt
 have hc27:w.cell? ⟨b.s,33,none⟩=some (.int .i64 x.acc):=hs.blk.cell rfl
 have hf:=hs.blk.frozen
 have HS:=hide hs
 clear hs hi
 have hwr:IntKind.i64.wrap (x.acc+1)=x.acc+1:=qNs (by omega) (by omega)
 unfold It.val
 go_enter Tryz.func64,Tryz.ntmps64
 go_wp2_with fail
 have hk1:Keeps (λi=>i=b.s) w ((w.setCell ⟨b.s,33,none⟩ (.int .i64 (x.acc+1))).alloc (.cells #[.int .i64 y.t,.int .i64 y.k,.int .i64 y.d,.int .i64 (x.acc+1)] 87)) :=
  ((Keeps.refl (λi=>i=b.s) w).setCell (p:=⟨b.s,33,none⟩) (Or.inl rfl) _).alloc _
 have HB1:=hide (show Blk ((w.setCell ⟨b.s,33,none⟩ (.int .i64 (x.acc+1))).alloc (.cells #[.int .i64 y.t,.int .i64 y.k,.int .i64 y.d,.int .i64 (x.acc+1)] 87)) b.s (qB6 b { x with acc:=x.acc+1 }) 104 from((uh HS).blk.setCell 33 (.int .i64 (x.acc+1))).alloc _)
 have HX1:=hide (show Blk ((w.setCell ⟨b.s,33,none⟩ (.int .i64 (x.acc+1))).alloc (.cells #[.int .i64 y.t,.int .i64 y.k,.int .i64 y.d,.int .i64 (x.acc+1)] 87)) w.heap.size [.int .i64 y.t,.int .i64 y.k,.int .i64 y.d,.int .i64 (x.acc+1)] 87 from Blk.newAt (by simp) [_,_,_,_] 87)
 have HQ1:=hide ((uh HS).que.keeps hk1 (λh=>(uh HS).sq h.symm) (λg hg h=>(uh HS).sg g hg h.symm))
 have HD1:=hide (show NRep _ x.k b.n x.c x.nt from(uh HS).note.keeps hk1 (λi hi h=>((uh HS).sn i hi).1 h))
 have HK1:=hide hk1
 clear hk1 hc27 hf
 generalize((w.setCell ⟨b.s,33,none⟩ (.int .i64 (x.acc+1))).alloc (.cells #[.int .i64 y.t,.int .i64 y.k,.int .i64 y.d,.int .i64 (x.acc+1)] 87))=w1 at *
 have hsz:w.heap.size<=w1.heap.size:=(uh HK1).size
 generalize hbx:w.heap.size=bx at *
 have HBX:=hide hbx
 clear hbx
 have hlt1:=(uh HB1).lt
 have hltx:=(uh HX1).lt
 have hc26:w1.cell? ⟨b.s,32,none⟩=some (.pointer (some ⟨b.q,0,none⟩)):=(uh HB1).cell rfl
 have hx0:w1.cell? ⟨bx,0,none⟩=some (.int .i64 y.t):=(uh HX1).cell rfl
 have hx1:w1.cell? ⟨bx,1,none⟩=some (.int .i64 y.k):=(uh HX1).cell rfl
 have hx2:w1.cell? ⟨bx,2,none⟩=some (.int .i64 y.d):=(uh HX1).cell rfl
 have hx3:w1.cell? ⟨bx,3,none⟩=some (.int .i64 (x.acc+1)):=(uh HX1).cell rfl
 have HNS:=hide (show ¬(b.s=b.q\/b.g=some b.s) from λh=>h.elim (uh HS).sq (λh=>(uh HS).sg b.s h rfl))
 have HNX:=hide (show ¬(bx=b.q\/b.g=some bx) from λh=>h.elim (λh=>by omega) (λh=>by have:=(hlq.2 bx h).1;omega))
 have hl9:x.l.length<=900:=by omega
 go_region_held3 (λw'=>w'.cell? ⟨b.s,32,none⟩=some (.pointer (some ⟨b.q,0,none⟩))/\w'.cell? ⟨bx,0,none⟩=some (.int .i64 y.t)/\w'.cell? ⟨bx,1,none⟩=some (.int .i64 y.k)/\w'.cell? ⟨bx,2,none⟩=some (.int .i64 y.d)/\w'.cell? ⟨bx,3,none⟩=some (.int .i64 (x.acc+1)))
  (first | (simp[*];done) | (go_split_ands;exact⟨hk.cell (by assumption) (uh HNS),hk.cell (by assumption) (uh HNX),hk.cell (by assumption) (uh HNX),hk.cell (by assumption) (uh HNX),hk.cell (by assumption) (uh HNX)⟩))
  (first | (go_at_call 92;refine(put_any b.q b.g x.l (numbered y (x.acc+1)) _ (by exact(uh HQ1).keeps ((Keeps.refl (λ_=>False) w1).drew) (λh=>h) (λ_ _ h=>h)) hl9).mono ?_;rintro e w' ⟨rfl,og,hq,hk,hog⟩))
 have HF:=hide (show w'.cell? ⟨bx,3,none⟩=some (.int .i64 (x.acc+1)) from((((uh HX1).drew).keeps hk (uh HNX)).cell rfl))
 have hx3':=uh HF
 have HK:=hide hk
 have HQ:=hide hq
 have HOG:=hide hog
 clear hk hq hog hx0 hx1 hx2 hx3 hc26
 go_wp2
 go_ret
 have hkd:Keeps (λk=>k=b.q\/b.g=some k) w1 w':=((Keeps.refl (λk=>k=b.q\/b.g=some k) w1).drew).then (uh HK)
 refine⟨rfl,⟨b.s,b.q,og,b.n⟩,⟨(uh HB1).keeps hkd (uh HNS),uh HQ,(uh HD1).keeps hkd (λi hi h=>?_),(uh HS).sq,?_,λi hi=>⟨((uh HS).sn i hi).1,((uh HS).sn i hi).2.1,?_⟩⟩,⟨rfl,?_⟩,?_⟩
 ·rcases h with h | h
  ·exact((uh HS).sn i hi).2.1 h
  ·exact((uh HS).sn i hi).2.2 h
 ·intro g hg
  rcases uh HOG with h | ⟨k,h,hz⟩
  ·exact(uh HS).sg g (h.symm.trans hg)
  ·have hgk:g=k:=by have:=h.symm.trans hg;simpa using this.symm
   show b.s≠g
   rw[World.size_drew]at hz
   omega
 ·intro hg
  rcases uh HOG with h | ⟨k,h,hz⟩
  ·exact((uh HS).sn i hi).2.2 (h.symm.trans hg)
  ·have hgk:i=k:=by have:=h.symm.trans hg;simpa using this.symm
   have:=(uh HD1).lt i hi
   rw[World.size_drew]at hz
   omega
 ·intro i hi
  rcases hi with hi | hi | hi | hi
  ·exact .inl (.inl hi)
  ·exact .inl (.inr (.inl hi))
  ·rcases uh HOG with h | ⟨k,h,hz⟩
   ·exact .inl (.inr (.inr (.inl (h.symm.trans hi))))
   ·have hgk:i=k:=by have:=h.symm.trans hi;simpa using this.symm
    rw[World.size_drew]at hz
    exact .inr (by have:=uh HBX;omega)
  ·exact .inl (.inr (.inr (.inr hi)))
 ·refine((uh HK1).mono (M':=b.foot x.k) (λi _ h=>.inl h)).trans hkd (λi hi _=>?_)
  rcases hi with hi | hi
  ·exact .inr (.inl hi)
  ·exact .inr (.inr (.inl hi))
end
section
open Go.RowKit
theorem swapL_all{P:It->Prop}(h0:P ⟨0,0,0,0⟩){l:List It}(h:∀y,y∈l->P y)(i j:Nat): ∀y,y∈swapL l i j->P y:=by
 have hat:∀i,P (itAt l i):=by
  intro i
  unfold itAt
  rw[List.getD_eq_getElem?_getD]
  cases hi:l[i]? with
  | none=>exact h0
  | some v=>exact h v (List.mem_of_getElem? hi)
 intro y hy
 unfold swapL at hy
 rcases List.mem_or_eq_of_mem_set hy with hy | hy
 ·rcases List.mem_or_eq_of_mem_set hy with hy | hy
  ·exact h y hy
  ·subst hy;exact hat j
 ·subst hy;exact hat i
theorem riseL_all{P:It->Prop}(h0:P ⟨0,0,0,0⟩)(f:Nat)(l:List It)(i:Nat)(h:∀y,y∈l->P y): ∀y,y∈riseL f l i->P y:=by
 induction f generalizing l i with
 | zero=>exact h
 | succ f ih =>
  unfold riseL
  split
  ·exact h
  ·split
   ·exact ih _ _ (swapL_all h0 h _ _)
   ·exact h
theorem sinkL_all{P:It->Prop}(h0:P ⟨0,0,0,0⟩)(f:Nat)(l:List It)(i:Nat)(h:∀y,y∈l->P y): ∀y,y∈sinkL f l i->P y:=by
 induction f generalizing l i with
 | zero=>exact h
 | succ f ih =>
  unfold sinkL
  split
  ·exact h
  ·split
   ·exact ih _ _ (swapL_all h0 h _ _)
   ·exact h
theorem itAt_all{P:It->Prop}(h0:P ⟨0,0,0,0⟩){l:List It}(h:∀y,y∈l->P y)(i:Nat): P (itAt l i):=by
 unfold itAt
 rw[List.getD_eq_getElem?_getD]
 cases hi:l[i]? with
 | none=>exact h0
 | some v=>exact h v (List.mem_of_getElem? hi)
theorem takeL_all{P:It->Prop}(h0:P ⟨0,0,0,0⟩)(l:List It)(h:∀y,y∈l->P y): ∀y,y∈takeL l->P y:=by
 unfold takeL
 refine sinkL_all h0 _ _ _ (λy hy=>?_)
 have hy:=List.mem_of_mem_take hy
 rcases List.mem_or_eq_of_mem_set hy with hy | hy
 ·exact h y hy
 ·subst hy;exact itAt_all h0 h _
theorem takeL_length(l:List It): (takeL l).length=l.length-1:=by
 unfold takeL
 rw[qC1];simp
def qEq(x:Ser)(m:Int): Ser:={ x with l:=takeL x.l,rel:=x.rel+1,nt:=zDb x.k x.c x.nt (itAt x.l 0) m,last:=(itAt x.l 0).t }
def qIp: Nat->Ser->Int->Ser
 | 0,x,_=>x
 | f+1,x,m=>if x.l.isEmpty then x else if m<(itAt x.l 0).t then x else qIp f (qEq x m) m
theorem qOj{l:List It}(h:l≠[]): itAt l 0∈l:=by
 cases l with
 | nil=>exact absurd rfl h
 | cons a l=>exact List.mem_cons_self ..
theorem qH6{l:List It}(hh:HeapL l)(hl:l≠[]){y:It}(hy:y∈takeL l): y∈l:=(qPe l hh hl).2.subset (List.mem_cons_of_mem _ hy)
theorem qI8{n:Int}{x:Ser}(h:SInv n x)(hl:x.l≠[])(m:Int)(hm:¬m<(itAt x.l 0).t): SInv n (qEq x m):=by
 have hlen:0<x.l.length:=List.length_pos_iff.2 hl
 have hra:=h.rela
 have hcap:=h.cap
 have hrel:=h.rel0
 have ht:(takeL x.l).length=x.l.length-1:=takeL_length _
 have hmem:=qOj hl
 have htm:=h.times _ hmem
 refine⟨h.valid,h.kind,h.k1,h.k5,h.acc0,h.accn,?_,?_,h.reflen,h.refn,?_,λy hy=>h.times y (qH6 h.heap hl hy),?_,(qPe _ h.heap hl).1,htm.1,htm.2,λy hy=>h.heap.first_mem (qH6 h.heap hl hy),λy hy=>h.fits y (qH6 h.heap hl hy)⟩
 ·show 0<=x.rel+1;omega
 ·show x.rel+1+((takeL x.l).length:Int)=x.acc;omega
 ·show((takeL x.l).length:Int)<=x.c.cap;omega
 ·exact zAj h.note h.valid h.kind _ _ (h.lastl _ hmem) (by omega)
theorem qK1{c:Cfg}{k:Nat}{y:It}(h:qEi c k y=0)(hk:k=2\/k=3): 0<=y.k/\y.k<=2147483648:=by
 have h2:qXu y=0:=by
  rcases hk with hk | hk <;> subst hk <;> exact h
 unfold qXu at h2
 split at h2
 ·rename_i h3;exact qCi h3
 ·omega
theorem qMb(c:Cfg)(k:Nat)(y:It)(n:Int): qEi c k (numbered y n)=qEi c k y:=by
 unfold qEi numbered
 split <;> rfl
theorem zA4{n:Int}{x:Ser}(h:SInv n x)(y:It)(t0:0<=y.t)(t1:y.t<=4611686018427387904)(hc:(x.l.length:Int)<x.c.cap)(ha:x.acc<n)(hlast:x.last<=y.t)(hk:qEi x.c x.k y=0): SInv n (qV9 x y):=by
 have h0:=h.acc0;have hr:=h.rela
 have hlen:(riseL (x.l.length+1) (x.l++[numbered y (x.acc+1)]) x.l.length).length=x.l.length+1:=by rw[riseL_length];simp
 have hp:=qOn x.l (numbered y (x.acc+1)) h.heap
 have hall:∀ {P:It->Prop},(∀z,z∈x.l->P z)->P (numbered y (x.acc+1))->∀z,z∈(qV9 x y).l->P z:=λh1 h2 z hz=>by
  rcases List.mem_cons.1 (hp.2.subset hz) with e | e
  ·rw[e];exact h2
  ·exact h1 z e
 refine⟨h.valid,h.kind,h.k1,h.k5,?_,?_,h.rel0,?_,h.reflen,h.refn,?_,hall h.times ⟨t0,t1⟩,h.note,hp.1,h.last0,h.lastn,hall h.lastl hlast,hall h.fits ((qMb _ _ _ _).trans hk)⟩
 ·show 0<=x.acc+1;omega
 ·show x.acc+1<=n;omega
 ·show x.rel+((riseL (x.l.length+1) (x.l++[numbered y (x.acc+1)]) x.l.length).length:Int)=x.acc+1;omega
 ·show((riseL (x.l.length+1) (x.l++[numbered y (x.acc+1)]) x.l.length).length:Int)<=x.c.cap;omega
end
section
open Go.RowKit
attribute [local go_sem ↓] qAd qAe
attribute [local go_sem] qAf qAl qAc qAb qAn qAm qAi qAj qAg qAk
theorem qWl{w w5:World}{b:SB}{x:Ser}{g:Nat}{m:Int}{n':NB}(h:SRep w b x)(hg:b.g=some g)(hb:Blk w5 b.s (qB6 b { x with rel:=x.rel+1 }) 104)(hq:QRep w5 b.q (some g) (takeL x.l))(hn:NRep w5 x.k n' x.c (zDb x.k x.c x.nt (itAt x.l 0) m))(hd:n'.d=b.n.d)(hf:∀i,qD4 x.k n' i->i≠b.s/\i≠b.q/\b.g≠some i): SRep w5 ⟨b.s,b.q,b.g,n'⟩ (qEq x m):=by
 refine⟨?_,by show QRep w5 b.q b.g _;rw[hg];exact hq,hn,h.sq,h.sg,hf⟩
 have:qB6 ⟨b.s,b.q,b.g,n'⟩ (qEq x m)=qB6 b { x with rel:=x.rel+1 }:=by unfold qB6;simp only[hd];rfl
 rw[this]
 exact hb
theorem qTj(n:Int)(b:SB)(x:Ser)(m:Int)(w:World)(hs:SRep w b x)(hi:SInv n x)(hn:n<=4611686018427387904)(hT:Tab w)(hT0:¬b.foot x.k 2)(m0:-100<=m)(m1:m<=4611686018427387904):
  Calls Tryz.prog 66 #[.pointer (some ⟨b.s,0,none⟩),.int .i64 m] w λe w'=>e=.returned (.tuple #[])/\∃b',SRep w' b' (qIp (x.l.length+1) x m)/\b.next b' x.k w.heap.size/\Keeps (b.foot x.k) w w':=by
 have HS:=hide hs
 have HI:=hide hi
 have HTT:=hide hT
 have HT0:=hide hT0
 clear hs hi hT hT0
 go_enter Tryz.func66,Tryz.ntmps66
 go_wp2
 go_loopg [5] (x.l.length) (λg _s wr=>∃(b':SB) (x':Ser),Hid (SRep wr b' x')/\Hid (SInv n x')/\Hid (b.next b' x.k w.heap.size)/\Hid (Keeps (b.foot x.k) w wr)/\x'.k=x.k/\x'.l.length=g/\Hid (qIp (x.l.length+1) x m=qIp (x'.l.length+1) x' m))
 case atStart=>exact⟨b,x,HS,HI,⟨rfl,λ_ h=>.inl h⟩,Keeps.refl _ _,rfl,rfl,rfl⟩
 case round =>
  obtain⟨b1,x1,HS1,HI1,HN1,HK1,hk1,hg1,HE1⟩:=hrel
  have HKK:=hide hk1
  have HG:=hide hg1
  have HS0:=hide (uh HN1).1
  clear hk1 hg1
  have HB:=hide (show Blk wr b.s (qB6 b1 x1) 104 by rw[<-uh HS0];exact(uh HS1).blk)
  have hlt:=(uh HB).lt
  have hc26:wr.cell? ⟨b.s,32,none⟩=some (.pointer (some ⟨b1.q,0,none⟩)):=(uh HB).cell rfl
  go_wp2_with fail
  refine(qGr b1.q b1.g x1.l wr (uh HS1).que).mono ?_
  rintro e w1 ⟨rfl,hk1⟩
  have HB1:=hide ((uh HB).keeps hk1 (λh=>h))
  have HS2:=hide ((uh HS1).still hk1)
  have HK2:=hide ((uh HK1).trans hk1 (λ_ h _=>h.elim))
  have hsz1:wr.heap.size<=w1.heap.size:=hk1.size
  have hszw:=(uh HK1).size
  clear hk1 hc26 hlt
  by_cases hemp:x1.l.isEmpty=true
  ·have HEM:=hide hemp
   rw[hemp]
   clear hemp
   unfold It.val
   go_wp2
   refine bodyPost_ret (results_none rfl _ _ _) rfl ⟨rfl,b1,?_,uh HN1,(uh HK2).alloc _⟩
   rw[uh HE1]
   unfold qIp
   rw[if_pos (uh HEM)]
   exact(uh HS2).still ((Keeps.refl _ _).alloc _)
  ·have hemp':x1.l.isEmpty=false:=by simpa using hemp
   have HNE:=hide (show x1.l≠[] by intro h;rw[h]at hemp;exact hemp rfl)
   have HEM:=hide hemp
   rw[hemp']
   clear hemp hemp'
   generalize hy:itAt x1.l 0=y
   have HY:=hide hy
   clear hy
   unfold It.val
   have HB2:=hide ((uh HB1).alloc (.cells #[.int .i64 y.t,.int .i64 y.k,.int .i64 y.d,.int .i64 y.n] 87))
   have HX2:=hide (Blk.new w1 [.int .i64 y.t,.int .i64 y.k,.int .i64 y.d,.int .i64 y.n] 87)
   have HS3:=hide ((uh HS2).still ((Keeps.refl (λ_=>False) w1).alloc (.cells #[.int .i64 y.t,.int .i64 y.k,.int .i64 y.d,.int .i64 y.n] 87)))
   have HK3:=hide ((uh HK2).alloc (.cells #[.int .i64 y.t,.int .i64 y.k,.int .i64 y.d,.int .i64 y.n] 87))
   have hlt1:=(uh HB1).lt
   have hc26:w1.cell? ⟨b.s,32,none⟩=some (.pointer (some ⟨b1.q,0,none⟩)):=(uh HB1).cell rfl
   by_cases ht:m<y.t
   ·go_wp2
    refine bodyPost_ret (results_none rfl _ _ _) rfl ⟨rfl,b1,?_,uh HN1,uh HK3⟩
    rw[uh HE1]
    unfold qIp
    rw[if_neg (uh HEM),if_pos (by rw[uh HY];exact ht)]
    exact uh HS3
   ·have ht':decide (m<y.t)=false:=by simpa using ht
    have HT:=hide ht
    clear ht
    go_wp2_with fail
    have HLT:=hide (show ∀i,b1.foot x1.k i->i<w1.heap.size from(uh HS2).lt)
    generalize w1.alloc (.cells #[.int .i64 y.t,.int .i64 y.k,.int .i64 y.d,.int .i64 y.n] 87)=w2 at *
    generalize hbx:w1.heap.size=bx at *
    clear hbx hc26 HB1 HS2 HK2 HB HS1 HK1
    obtain⟨g,hg⟩:∃g,b1.g=some g:=by
     cases hbg:b1.g with
     | none=>have hq:=(uh HS3).que;rw[hbg]at hq;exact absurd hq.1 (uh HNE)
     | some g=>exact⟨g,rfl⟩
    have HGG:=hide hg
    have HLEN:=hide (List.length_pos_iff.2 (uh HNE))
    have hl9:x1.l.length<=900:=by have h1:=(uh HI1).cap;have h2:=(uh HI1).common;omega
    refine(take_any b1.q g x1.l w2 (by have hq:=(uh HS3).que;rw[hg]at hq;exact hq) hl9 (uh HLEN)).mono ?_
    rintro e w3 ⟨⟨v,rfl⟩,hq3,hk3⟩
    have HNS:=hide (show ¬(b.s=b1.q\/b.s=g) from λh=>by
       rw[<-uh HS0]at h
       exact h.elim (uh HS3).sq ((uh HS3).sg g hg))
    have HNX:=hide (show ¬(bx=b1.q\/bx=g) from λh=>by
       rcases h with h | h
       ·have:=uh HLT bx (.inr (.inl h));omega
       ·have:=uh HLT bx (.inr (.inr (.inl (by rw[hg,h]))));omega)
    have HB3:=hide ((uh HB2).keeps hk3 (uh HNS))
    have HX3:=hide ((uh HX2).keeps hk3 (uh HNX))
    have HQ3:=hide hq3
    have HD3:=hide (show NRep w3 x1.k b1.n x1.c x1.nt from(uh HS3).note.keeps hk3 (λi hi h=>by
         rcases h with h | h
         ·exact((uh HS3).sn i hi).2.1 h
         ·exact((uh HS3).sn i hi).2.2 (by rw[hg,h])))
    have HK4:=hide ((uh HK3).trans hk3 (λi hi hlt=>by
         have hf:b1.foot x.k i:=by
          rcases hi with hi | hi
          ·exact .inr (.inl hi)
          ·exact .inr (.inr (.inl (by rw[hg,hi])))
         rcases(uh HN1).2 i hf with h | h
         ·exact h
         ·omega))
    clear hk3 hq3 HB2 HX2 HK3 hg
    have hc28:w3.cell? ⟨b.s,34,none⟩=some (.int .i64 x1.rel):=(uh HB3).cell rfl
    have hf3:=(uh HB3).frozen
    have hwr:IntKind.i64.wrap (x1.rel+1)=x1.rel+1:=by
     have h1:=(uh HI1).rel0;have h2:=(uh HI1).rela;have h3:=(uh HI1).accn
     exact qNs (by omega) (by omega)
    go_wp2_with fail
    have hk4:Keeps (λi=>i=b.s) w3 (w3.setCell ⟨b.s,34,none⟩ (.int .i64 (x1.rel+1))):=(Keeps.refl (λi=>i=b.s) w3).setCell (p:=⟨b.s,34,none⟩) (Or.inl rfl) _
    have HB4:=hide (show Blk (w3.setCell ⟨b.s,34,none⟩ (.int .i64 (x1.rel+1))) b.s (qB6 b1 { x1 with rel:=x1.rel+1 }) 104 from(uh HB3).setCell 34 _)
    have HX4:=hide ((uh HX3).keeps hk4 (λh=>by omega))
    have HQ4:=hide ((uh HQ3).keeps hk4 (λh=>uh HNS (.inl h.symm)) (λg' hg' h=>uh HNS (.inr (by cases hg';exact h.symm))))
    have HD4:=hide (show NRep (w3.setCell ⟨b.s,34,none⟩ (.int .i64 (x1.rel+1))) x1.k b1.n x1.c x1.nt from(uh HD3).keeps hk4 (λi hi h=>((uh HS3).sn i hi).1 (by rw[h,uh HS0])))
    have HK5:=hide ((uh HK4).trans hk4 (λi hi hlt=>.inl hi))
    clear hk4 HB3 HX3 HQ3 HD3 HK4 hc28 hf3 hwr
    generalize w3.setCell ⟨b.s,34,none⟩ (.int .i64 (x1.rel+1))=w4 at *
    have hc24:w4.cell? ⟨b.s,27,none⟩=some (.func (.func (zFd x1.k)) (qIs b1.n.d) #[]):=(uh HB4).cell rfl
    have hx0:w4.cell? ⟨bx,0,none⟩=some (.int .i64 y.t):=(uh HX4).cell rfl
    have hx1:w4.cell? ⟨bx,1,none⟩=some (.int .i64 y.k):=(uh HX4).cell rfl
    have hx2:w4.cell? ⟨bx,2,none⟩=some (.int .i64 y.d):=(uh HX4).cell rfl
    have hx3:w4.cell? ⟨bx,3,none⟩=some (.int .i64 y.n):=(uh HX4).cell rfl
    have HFIN:=hide (show qIp (x.l.length+1) x m=qIp (x1.l.length) (qEq x1 m) m by
       rw[uh HE1]
       conv=>lhs;unfold qIp
       rw[if_neg (uh HEM),if_neg (by rw[uh HY];have:=uh HT;omega)])
    have HTL:=hide (takeL_length x1.l)
    have hty:=itAt_all (P:=λy=>0<=y.t/\y.t<=4611686018427387904) (by simp) (uh HI1).times 0
    rw[uh HY]at hty
    have hown:=zDv x1.k (uh HI1).k1 (uh HI1).k5
    have HRL:=hide (show x1.rel+1<=4611686018427387904 by have h1:=(uh HI1).rela;have h2:=(uh HI1).accn;have h4:0<x1.l.length:=List.length_pos_iff.2 (λe=>uh HEM (by rw[e];rfl));omega)
    have HNF:=hide (show ¬b1.foot x.k 2 from λh=>by
       rcases(uh HN1).2 2 h with h1 | h1
       ·exact uh HT0 h1
       ·have h2:=(uh HTT).lt;omega)
    have HT4:=hide (show Tab w4 from(uh HTT).keeps (uh HK5) (uh HT0))
    have hkf:=(uh HI1).fits _ (qOj (uh HNE))
    rw[uh HY]at hkf
    have HKF:=hide hkf
    clear hkf
    go_region_with (refine(zDm (rel:=x1.rel) (last:=x1.last) x1.k b1.n x1.c x1.nt y m _ _ (by first | rfl | simp) (by exact(uh HD4).still (Keeps.refl _ _).drew) (uh HI1).note (uh HRL) (uh HI1).valid (uh HI1).kind (uh HI1).k1 (uh HI1).k5 m0 m1 hty.1 hty.2 (λh=>qK1 (uh HKF) h) ((uh HT4).keeps (Keeps.refl (λ_=>False) w4).drew (λh=>h)) (λh=>uh HNF (.inr (.inr (.inr (by rw[<-uh HKK];exact h))))) (uh HI1).lastn).mono ?_;rintro e w' ⟨rfl,n',hn',hd',hf',hk⟩)
    all_goals
     have HKD:=hide (((Keeps.refl (qD4 x1.k b1.n) w4).drew).then hk)
     have HN':=hide hn'
     have HD':=hide hd'
     have HF':=hide hf'
     clear hk hn' hd' hf' hx0 hx1 hx2 hx3 hc24 hown
     go_wp2
     go_roundg (x1.l.length-1)
     case measure=>have h1:=uh HG;have h2:=uh HLEN;omega
     case rel =>
      have hsn:=(uh HS3).sn
      have hlt4:∀i,b1.foot x1.k i->i<w4.heap.size:=by
       have h1:=(uh HB4).lt
       have h2:=(uh HQ4).lt
       rintro i (hi | hi | hi | hi)
       ·rw[hi,uh HS0];exact h1
       ·rw[hi];exact h2.1
       ·rw[uh HGG]at hi;exact(h2.2 i hi).1
       ·exact(uh HD4).lt i hi
      have hff:∀i,qD4 x1.k n' i->i≠b1.s/\i≠b1.q/\b1.g≠some i:=by
       intro i hi
       rcases uh HF' i hi with h | h
       ·exact hsn i h
       ·rw[World.size_drew]at h
        refine⟨λe=>?_,λe=>?_,λe=>?_⟩
        ·have:=hlt4 i (.inl e);omega
        ·have:=hlt4 i (.inr (.inl e));omega
        ·have:=hlt4 i (.inr (.inr (.inl e)));omega
      have hr:SRep w' ⟨b1.s,b1.q,b1.g,n'⟩ (qEq x1 m):=by
       refine qWl (uh HS3) (uh HGG) ?_ ((uh HQ4).keeps (uh HKD) (λh=>(hsn _ h).2.1 rfl) (λg' hg' h=>(hsn _ h).2.2 (by rw[uh HGG];exact hg'))) (by rw[uh HY];exact uh HN') (uh HD') hff
       rw[uh HS0]
       exact(uh HB4).keeps (uh HKD) (λh=>(hsn _ h).1 (uh HS0).symm)
      refine⟨⟨b1.s,b1.q,b1.g,n'⟩,qEq x1 m,hr,qI8 (uh HI1) (uh HNE) m (by rw[uh HY];have:=uh HT;omega),⟨(uh HN1).1,λi hi=>?_⟩,(uh HK5).trans (uh HKD) (λi hi hlt=>?_),uh HKK,uh HTL,?_⟩
      ·rcases hi with hi | hi | hi | hi
       ·exact(uh HN1).2 i (.inl hi)
       ·exact(uh HN1).2 i (.inr (.inl hi))
       ·exact(uh HN1).2 i (.inr (.inr (.inl hi)))
       ·rw[<-uh HKK]at hi
        rcases uh HF' i hi with h | h
        ·exact(uh HN1).2 i (.inr (.inr (.inr (by rw[<-uh HKK];exact h))))
        ·rw[World.size_drew]at h
         have:=(uh HK5).size
         exact .inr (by omega)
      ·have hf:b1.foot x.k i:=.inr (.inr (.inr (by rw[<-uh HKK];exact hi)))
       rcases(uh HN1).2 i hf with h | h
       ·exact h
       ·omega
      ·show _=qIp ((takeL x1.l).length+1) (qEq x1 m) m
       rw[uh HFIN,uh HTL,show x1.l.length-1+1=x1.l.length by have:=uh HLEN;omega]
end
end Go.Proofs.YtahnliehdjncdaaGreatDoor
