import Derived.Test.YtahnliehdjncdabGreatDoorXAA
set_option maxRecDepth 100000
set_option maxHeartbeats 16000000
namespace Go.Proofs.YtahnliehdjncdabGreatDoor
section
open Go.RowKit
attribute [local go_sem ↓] qAd qAe
attribute [local go_sem] qAf qAl qAc qAb qAn qAm qAg qAk
def fn(f:Nat): Value:=.func (.func f) #[] #[]
def qBw: Nat->Nat | 1=>102 | 2=>108 | 3=>114 | 4=>118 | _=>122
def qAr: Nat->Nat | 1=>105 | 2=>111 | 3=>111 | 4=>120 | _=>124
def qA9: Nat->Nat | 1=>107 | 2=>113 | 3=>117 | 4=>121 | _=>126
def qA8: Nat->Nat | 1=>103 | 2=>109 | 3=>115 | 4=>119 | _=>123
def qA7: Nat->Nat | 1=>104 | 2=>110 | 3=>116 | 4=>104 | _=>104
def qA5: Nat->Nat | 1=>106 | 2=>112 | 3=>112 | 4=>106 | _=>125
def qBb(k:Nat): List Value:=[fn (qBw k),fn (qA8 k),fn (qA7 k),fn (qAr k),fn (qA5 k),fn (qA9 k)]
def qCo: List Value:=[.nilFunc,.nilFunc,.nilFunc,.nilFunc,.nilFunc,.nilFunc]++(qBb 1++(qBb 2++(qBb 3++(qBb 4++qBb 5))))
def zFv(ty:TypeId)(ps:Array (Nat×Value)): Sem Next:=do pure (.value (<-Instr.build ty ps))
theorem qPu(ρ:Operand->Value)(dst:Option Tmp)(x:Array (Nat×Operand))(ty:TypeId)(pos:String)(after:Array Edge)(guard:Option (Nat×Bool)):
  execOp ρ { dst,op:=.build 164 x,type:=ty,pos,after,guard }=zFv 164 (x.map λ(i,y)=>(i,ρ y)):=rfl
theorem qYq(w:World): (zFv 164 #[(1,.agg #[.func (.func 102) #[] #[],.func (.func 103) #[] #[],.func (.func 104) #[] #[],.func (.func 105) #[] #[],.func (.func 106) #[] #[],.func (.func 107) #[] #[]]),(2,.agg #[.func (.func 108) #[] #[],.func (.func 109) #[] #[],.func (.func 110) #[] #[],.func (.func 111) #[] #[],.func (.func 112) #[] #[],.func (.func 113) #[] #[]]),(3,.agg #[.func (.func 114) #[] #[],.func (.func 115) #[] #[],.func (.func 116) #[] #[],.func (.func 111) #[] #[],.func (.func 112) #[] #[],.func (.func 117) #[] #[]]),(4,.agg #[.func (.func 118) #[] #[],.func (.func 119) #[] #[],.func (.func 104) #[] #[],.func (.func 120) #[] #[],.func (.func 106) #[] #[],.func (.func 121) #[] #[]]),(5,.agg #[.func (.func 122) #[] #[],.func (.func 123) #[] #[],.func (.func 104) #[] #[],.func (.func 124) #[] #[],.func (.func 125) #[] #[],.func (.func 126) #[] #[]])]).run Tryz.prog w=.ok (.value (.agg qCo.toArray)) w:=by kernel_rfl
def storeT(ty:TypeId)(a x:Value): Sem Next:=do Instr.storeAt ty a x;pure .skip
theorem qQb(ρ:Operand->Value)(dst:Option Tmp)(x y:Operand)(ty:TypeId)(pos:String)(after:Array Edge)(guard:Option (Nat×Bool)):
  execOp ρ { dst,op:=.store 164 x y,type:=ty,pos,after,guard }=storeT 164 (ρ x) (ρ y):=rfl
theorem sizeT: (Tryz.prog.info? 164).map (·.size)=some 36:=by kernel_rfl
def qJe(arr:Array Value)(o:Nat): List Value->Array Value
 | []=>arr
 | c::r=>qJe (arr.setIfInBounds o c) (o+1) r
theorem qJj(w:World)(T:TypeId): ∀(cs:List Value) (o:Nat) (arr:Array Value),(w.alloc (.cells arr T)).setCells w.heap.size o cs=w.alloc (.cells (qJe arr o cs) T)
 | [],_,_=>rfl
 | c::r,o,arr=>by
  unfold World.setCells qJe
  rw[World.setCell_alloc_at _ _ _ _ _ rfl]
  exact qJj w T r (o+1) (arr.setIfInBounds o c)
theorem qK0: ∀(cs:List Value) (pre:List Value) (rest:List Value),rest.length=cs.length->qJe (pre++rest).toArray pre.length cs=(pre++cs).toArray
 | [],pre,rest,h=>by
  have:rest=[]:=List.length_eq_zero_iff.1 h
  subst this;rfl
 | c::r,pre,rest,h=>by
  cases rest with
  | nil=>simp at h
  | cons d q =>
   unfold qJe
   have h1:((pre++d::q).toArray.setIfInBounds pre.length c)=((pre++[c])++q).toArray:=by simp
   rw[h1]
   have:=qK0 r (pre++[c]) q (by simpa using h)
   rw[List.length_append]at this
   simpa using this
theorem qRx: qCo.toArray.all (·.oneCell')=true:=by simp[qCo,qBb,fn,Value.oneCell']
theorem qFh: qCo.length=36:=rfl
theorem qOi(w:World)(zs:List Value)(hz:zs.length=36)(b:Nat)(hb:w.heap.size=b):
  (storeT 164 (.pointer (some ⟨b,0,none⟩)) (.agg qCo.toArray)).run Tryz.prog (w.alloc (.cells zs.toArray 164))=.ok .skip (w.alloc (.cells qCo.toArray 164)):=by
 subst hb
 unfold storeT
 have ht:(w.alloc (.cells zs.toArray 164)).there w.heap.size 0 qCo.toArray.size:=by
  intro j hj
  have hj':j<36:=by simpa[qFh] using hj
  rw[Nat.zero_add,World.cell?_alloc_new,World.frozen?_alloc_new]
  simp[hz,hj']
 rw[Sem.run_bind,run_storeAt_mid _ w.heap.size 0 164 qCo.toArray ht (by rw[sizeT];simp[qFh]) qRx]
 have h2:=qK0 qCo [] zs (by rw[qFh];omega)
 simp only[List.nil_append,List.length_nil]at h2
 rw[qJj,List.toList_toArray,h2]
 rfl
attribute [local go_sem ↓] qPu qQb
attribute [local go_sem] qYq
theorem qZl(n:Int)(w:World)(h:inB n 1 5=false):
  Calls Tryz.prog 74 #[.int .i64 n] w λe w'=>e=.returned (.tuple #[.agg #[.nilFunc,.nilFunc,.nilFunc,.nilFunc,.nilFunc,.nilFunc],.bool false])/\Keeps (λ_=>False) w w':=by
 have hst:=qOi (w.alloc (.cells #[.nilFunc,.nilFunc,.nilFunc,.nilFunc,.nilFunc,.nilFunc] 83)) [.nilFunc,.nilFunc,.nilFunc,.nilFunc,.nilFunc,.nilFunc,.nilFunc,.nilFunc,.nilFunc,.nilFunc,.nilFunc,.nilFunc,.nilFunc,.nilFunc,.nilFunc,.nilFunc,.nilFunc,.nilFunc,.nilFunc,.nilFunc,.nilFunc,.nilFunc,.nilFunc,.nilFunc,.nilFunc,.nilFunc,.nilFunc,.nilFunc,.nilFunc,.nilFunc,.nilFunc,.nilFunc,.nilFunc,.nilFunc,.nilFunc,.nilFunc] rfl (w.heap.size+1) (by simp)
 have hB0:Blk ((w.alloc (.cells #[.nilFunc,.nilFunc,.nilFunc,.nilFunc,.nilFunc,.nilFunc] 83)).alloc (.cells qCo.toArray 164)) w.heap.size [.nilFunc,.nilFunc,.nilFunc,.nilFunc,.nilFunc,.nilFunc] 83:=(Blk.new w [.nilFunc,.nilFunc,.nilFunc,.nilFunc,.nilFunc,.nilFunc] 83).alloc _
 have hK0:Keeps (λ_=>False) w ((w.alloc (.cells #[.nilFunc,.nilFunc,.nilFunc,.nilFunc,.nilFunc,.nilFunc] 83)).alloc (.cells qCo.toArray 164)):=((Keeps.refl _ _).alloc _).alloc _
 have HB:=hide hB0
 have HK:=hide hK0
 clear hB0 hK0
 go_enter Tryz.func74,Tryz.ntmps74
 go_wp2_with fail
 clear hst
 generalize((w.alloc (.cells #[.nilFunc,.nilFunc,.nilFunc,.nilFunc,.nilFunc,.nilFunc] 83)).alloc (.cells qCo.toArray 164))=W at *
 refine(qAh _ _ _ _).mono ?_
 rintro e w' ⟨rfl,rfl⟩
 rw[h]
 have r0:w'.cell? ⟨w.heap.size,0,none⟩=some .nilFunc:=(uh HB).cell rfl
 have r1:w'.cell? ⟨w.heap.size,1,none⟩=some .nilFunc:=(uh HB).cell rfl
 have r2:w'.cell? ⟨w.heap.size,2,none⟩=some .nilFunc:=(uh HB).cell rfl
 have r3:w'.cell? ⟨w.heap.size,3,none⟩=some .nilFunc:=(uh HB).cell rfl
 have r4:w'.cell? ⟨w.heap.size,4,none⟩=some .nilFunc:=(uh HB).cell rfl
 have r5:w'.cell? ⟨w.heap.size,5,none⟩=some .nilFunc:=(uh HB).cell rfl
 have rf:=(uh HB).frozen
 go_wp2
 have hbf:=(((((((uh HB).setCell 0 (.nilFunc)).setCell 1 (.nilFunc)).setCell 2 (.nilFunc)).setCell 3 (.nilFunc)).setCell 4 (.nilFunc)).setCell 5 (.nilFunc))
 have HKF:=hide ((((((((uh HK).setCell (p:=⟨w.heap.size,0,none⟩) (Or.inr (Nat.le_refl _)) (.nilFunc)).setCell (p:=⟨w.heap.size,1,none⟩) (Or.inr (Nat.le_refl _)) (.nilFunc)).setCell (p:=⟨w.heap.size,2,none⟩) (Or.inr (Nat.le_refl _)) (.nilFunc)).setCell (p:=⟨w.heap.size,3,none⟩) (Or.inr (Nat.le_refl _)) (.nilFunc)).setCell (p:=⟨w.heap.size,4,none⟩) (Or.inr (Nat.le_refl _)) (.nilFunc)).setCell (p:=⟨w.heap.size,5,none⟩) (Or.inr (Nat.le_refl _)) (.nilFunc)))
 generalize((((((w'.setCell ⟨w.heap.size,0,none⟩ (.nilFunc)).setCell ⟨w.heap.size,1,none⟩ (.nilFunc)).setCell ⟨w.heap.size,2,none⟩ (.nilFunc)).setCell ⟨w.heap.size,3,none⟩ (.nilFunc)).setCell ⟨w.heap.size,4,none⟩ (.nilFunc)).setCell ⟨w.heap.size,5,none⟩ (.nilFunc))=w9 at *
 have q0:w9.cell? ⟨w.heap.size,0,none⟩=some (.nilFunc):=hbf.cell rfl
 have q1:w9.cell? ⟨w.heap.size,1,none⟩=some (.nilFunc):=hbf.cell rfl
 have q2:w9.cell? ⟨w.heap.size,2,none⟩=some (.nilFunc):=hbf.cell rfl
 have q3:w9.cell? ⟨w.heap.size,3,none⟩=some (.nilFunc):=hbf.cell rfl
 have q4:w9.cell? ⟨w.heap.size,4,none⟩=some (.nilFunc):=hbf.cell rfl
 have q5:w9.cell? ⟨w.heap.size,5,none⟩=some (.nilFunc):=hbf.cell rfl
 exact bodyPost_ret (v:=.tuple #[.agg #[.nilFunc,.nilFunc,.nilFunc,.nilFunc,.nilFunc,.nilFunc],.bool false]) (by simp[results,Tryz.results74,go_sem,q0,q1,q2,q3,q4,q5]) rfl ⟨rfl,uh HKF⟩
theorem zEi(n:Nat)(w:World)(h1:1<=n)(h5:n<=5):
  Calls Tryz.prog 74 #[.int .i64 n] w λe w'=>e=.returned (.tuple #[.agg (qBb n).toArray,.bool true])/\Keeps (λ_=>False) w w':=by
 have h:inB (n:Int) 1 5=true:=by simp[inB];omega
 have hst:=qOi (w.alloc (.cells #[.nilFunc,.nilFunc,.nilFunc,.nilFunc,.nilFunc,.nilFunc] 83)) [.nilFunc,.nilFunc,.nilFunc,.nilFunc,.nilFunc,.nilFunc,.nilFunc,.nilFunc,.nilFunc,.nilFunc,.nilFunc,.nilFunc,.nilFunc,.nilFunc,.nilFunc,.nilFunc,.nilFunc,.nilFunc,.nilFunc,.nilFunc,.nilFunc,.nilFunc,.nilFunc,.nilFunc,.nilFunc,.nilFunc,.nilFunc,.nilFunc,.nilFunc,.nilFunc,.nilFunc,.nilFunc,.nilFunc,.nilFunc,.nilFunc,.nilFunc] rfl (w.heap.size+1) (by simp)
 have hB0:Blk ((w.alloc (.cells #[.nilFunc,.nilFunc,.nilFunc,.nilFunc,.nilFunc,.nilFunc] 83)).alloc (.cells qCo.toArray 164)) w.heap.size [.nilFunc,.nilFunc,.nilFunc,.nilFunc,.nilFunc,.nilFunc] 83:=(Blk.new w [.nilFunc,.nilFunc,.nilFunc,.nilFunc,.nilFunc,.nilFunc] 83).alloc _
 have hT0:Blk ((w.alloc (.cells #[.nilFunc,.nilFunc,.nilFunc,.nilFunc,.nilFunc,.nilFunc] 83)).alloc (.cells qCo.toArray 164)) (w.heap.size+1) qCo 164:=Blk.newAt (by simp) _ _
 have hK0:Keeps (λ_=>False) w ((w.alloc (.cells #[.nilFunc,.nilFunc,.nilFunc,.nilFunc,.nilFunc,.nilFunc] 83)).alloc (.cells qCo.toArray 164)):=((Keeps.refl _ _).alloc _).alloc _
 have HB:=hide hB0
 have HT:=hide hT0
 have HK:=hide hK0
 clear hB0 hK0 hT0
 go_enter Tryz.func74,Tryz.ntmps74
 go_wp2_with fail
 clear hst
 generalize((w.alloc (.cells #[.nilFunc,.nilFunc,.nilFunc,.nilFunc,.nilFunc,.nilFunc] 83)).alloc (.cells qCo.toArray 164))=W at *
 refine(qAh _ _ _ _).mono ?_
 rintro e w' ⟨rfl,rfl⟩
 rw[h]
 have hn:n=1\/n=2\/n=3\/n=4\/n=5:=by omega
 rcases hn with hn | hn | hn | hn | hn
 all_goals subst hn
 ·have t0:w'.cell? ⟨w.heap.size+1,6,none⟩=some (.func (.func 102) #[] #[]):=(uh HT).cell rfl
  have t1:w'.cell? ⟨w.heap.size+1,7,none⟩=some (.func (.func 103) #[] #[]):=(uh HT).cell rfl
  have t2:w'.cell? ⟨w.heap.size+1,8,none⟩=some (.func (.func 104) #[] #[]):=(uh HT).cell rfl
  have t3:w'.cell? ⟨w.heap.size+1,9,none⟩=some (.func (.func 105) #[] #[]):=(uh HT).cell rfl
  have t4:w'.cell? ⟨w.heap.size+1,10,none⟩=some (.func (.func 106) #[] #[]):=(uh HT).cell rfl
  have t5:w'.cell? ⟨w.heap.size+1,11,none⟩=some (.func (.func 107) #[] #[]):=(uh HT).cell rfl
  have r0:w'.cell? ⟨w.heap.size,0,none⟩=some .nilFunc:=(uh HB).cell rfl
  have r1:w'.cell? ⟨w.heap.size,1,none⟩=some .nilFunc:=(uh HB).cell rfl
  have r2:w'.cell? ⟨w.heap.size,2,none⟩=some .nilFunc:=(uh HB).cell rfl
  have r3:w'.cell? ⟨w.heap.size,3,none⟩=some .nilFunc:=(uh HB).cell rfl
  have r4:w'.cell? ⟨w.heap.size,4,none⟩=some .nilFunc:=(uh HB).cell rfl
  have r5:w'.cell? ⟨w.heap.size,5,none⟩=some .nilFunc:=(uh HB).cell rfl
  have rf:=(uh HB).frozen
  go_wp2
  have hbf:=(((((((uh HB).setCell 0 (.func (.func 102) #[] #[])).setCell 1 (.func (.func 103) #[] #[])).setCell 2 (.func (.func 104) #[] #[])).setCell 3 (.func (.func 105) #[] #[])).setCell 4 (.func (.func 106) #[] #[])).setCell 5 (.func (.func 107) #[] #[]))
  have HKF:=hide ((((((((uh HK).setCell (p:=⟨w.heap.size,0,none⟩) (Or.inr (Nat.le_refl _)) (.func (.func 102) #[] #[])).setCell (p:=⟨w.heap.size,1,none⟩) (Or.inr (Nat.le_refl _)) (.func (.func 103) #[] #[])).setCell (p:=⟨w.heap.size,2,none⟩) (Or.inr (Nat.le_refl _)) (.func (.func 104) #[] #[])).setCell (p:=⟨w.heap.size,3,none⟩) (Or.inr (Nat.le_refl _)) (.func (.func 105) #[] #[])).setCell (p:=⟨w.heap.size,4,none⟩) (Or.inr (Nat.le_refl _)) (.func (.func 106) #[] #[])).setCell (p:=⟨w.heap.size,5,none⟩) (Or.inr (Nat.le_refl _)) (.func (.func 107) #[] #[])))
  generalize((((((w'.setCell ⟨w.heap.size,0,none⟩ (.func (.func 102) #[] #[])).setCell ⟨w.heap.size,1,none⟩ (.func (.func 103) #[] #[])).setCell ⟨w.heap.size,2,none⟩ (.func (.func 104) #[] #[])).setCell ⟨w.heap.size,3,none⟩ (.func (.func 105) #[] #[])).setCell ⟨w.heap.size,4,none⟩ (.func (.func 106) #[] #[])).setCell ⟨w.heap.size,5,none⟩ (.func (.func 107) #[] #[]))=w9 at *
  have q0:w9.cell? ⟨w.heap.size,0,none⟩=some (.func (.func 102) #[] #[]):=hbf.cell rfl
  have q1:w9.cell? ⟨w.heap.size,1,none⟩=some (.func (.func 103) #[] #[]):=hbf.cell rfl
  have q2:w9.cell? ⟨w.heap.size,2,none⟩=some (.func (.func 104) #[] #[]):=hbf.cell rfl
  have q3:w9.cell? ⟨w.heap.size,3,none⟩=some (.func (.func 105) #[] #[]):=hbf.cell rfl
  have q4:w9.cell? ⟨w.heap.size,4,none⟩=some (.func (.func 106) #[] #[]):=hbf.cell rfl
  have q5:w9.cell? ⟨w.heap.size,5,none⟩=some (.func (.func 107) #[] #[]):=hbf.cell rfl
  exact bodyPost_ret (v:=.tuple #[.agg #[.func (.func 102) #[] #[],.func (.func 103) #[] #[],.func (.func 104) #[] #[],.func (.func 105) #[] #[],.func (.func 106) #[] #[],.func (.func 107) #[] #[]],.bool true]) (by simp[results,Tryz.results74,go_sem,q0,q1,q2,q3,q4,q5]) rfl ⟨rfl,uh HKF⟩
 ·have t0:w'.cell? ⟨w.heap.size+1,12,none⟩=some (.func (.func 108) #[] #[]):=(uh HT).cell rfl
  have t1:w'.cell? ⟨w.heap.size+1,13,none⟩=some (.func (.func 109) #[] #[]):=(uh HT).cell rfl
  have t2:w'.cell? ⟨w.heap.size+1,14,none⟩=some (.func (.func 110) #[] #[]):=(uh HT).cell rfl
  have t3:w'.cell? ⟨w.heap.size+1,15,none⟩=some (.func (.func 111) #[] #[]):=(uh HT).cell rfl
  have t4:w'.cell? ⟨w.heap.size+1,16,none⟩=some (.func (.func 112) #[] #[]):=(uh HT).cell rfl
  have t5:w'.cell? ⟨w.heap.size+1,17,none⟩=some (.func (.func 113) #[] #[]):=(uh HT).cell rfl
  have r0:w'.cell? ⟨w.heap.size,0,none⟩=some .nilFunc:=(uh HB).cell rfl
  have r1:w'.cell? ⟨w.heap.size,1,none⟩=some .nilFunc:=(uh HB).cell rfl
  have r2:w'.cell? ⟨w.heap.size,2,none⟩=some .nilFunc:=(uh HB).cell rfl
  have r3:w'.cell? ⟨w.heap.size,3,none⟩=some .nilFunc:=(uh HB).cell rfl
  have r4:w'.cell? ⟨w.heap.size,4,none⟩=some .nilFunc:=(uh HB).cell rfl
  have r5:w'.cell? ⟨w.heap.size,5,none⟩=some .nilFunc:=(uh HB).cell rfl
  have rf:=(uh HB).frozen
  go_wp2
  have hbf:=(((((((uh HB).setCell 0 (.func (.func 108) #[] #[])).setCell 1 (.func (.func 109) #[] #[])).setCell 2 (.func (.func 110) #[] #[])).setCell 3 (.func (.func 111) #[] #[])).setCell 4 (.func (.func 112) #[] #[])).setCell 5 (.func (.func 113) #[] #[]))
  have HKF:=hide ((((((((uh HK).setCell (p:=⟨w.heap.size,0,none⟩) (Or.inr (Nat.le_refl _)) (.func (.func 108) #[] #[])).setCell (p:=⟨w.heap.size,1,none⟩) (Or.inr (Nat.le_refl _)) (.func (.func 109) #[] #[])).setCell (p:=⟨w.heap.size,2,none⟩) (Or.inr (Nat.le_refl _)) (.func (.func 110) #[] #[])).setCell (p:=⟨w.heap.size,3,none⟩) (Or.inr (Nat.le_refl _)) (.func (.func 111) #[] #[])).setCell (p:=⟨w.heap.size,4,none⟩) (Or.inr (Nat.le_refl _)) (.func (.func 112) #[] #[])).setCell (p:=⟨w.heap.size,5,none⟩) (Or.inr (Nat.le_refl _)) (.func (.func 113) #[] #[])))
  generalize((((((w'.setCell ⟨w.heap.size,0,none⟩ (.func (.func 108) #[] #[])).setCell ⟨w.heap.size,1,none⟩ (.func (.func 109) #[] #[])).setCell ⟨w.heap.size,2,none⟩ (.func (.func 110) #[] #[])).setCell ⟨w.heap.size,3,none⟩ (.func (.func 111) #[] #[])).setCell ⟨w.heap.size,4,none⟩ (.func (.func 112) #[] #[])).setCell ⟨w.heap.size,5,none⟩ (.func (.func 113) #[] #[]))=w9 at *
  have q0:w9.cell? ⟨w.heap.size,0,none⟩=some (.func (.func 108) #[] #[]):=hbf.cell rfl
  have q1:w9.cell? ⟨w.heap.size,1,none⟩=some (.func (.func 109) #[] #[]):=hbf.cell rfl
  have q2:w9.cell? ⟨w.heap.size,2,none⟩=some (.func (.func 110) #[] #[]):=hbf.cell rfl
  have q3:w9.cell? ⟨w.heap.size,3,none⟩=some (.func (.func 111) #[] #[]):=hbf.cell rfl
  have q4:w9.cell? ⟨w.heap.size,4,none⟩=some (.func (.func 112) #[] #[]):=hbf.cell rfl
  have q5:w9.cell? ⟨w.heap.size,5,none⟩=some (.func (.func 113) #[] #[]):=hbf.cell rfl
  exact bodyPost_ret (v:=.tuple #[.agg #[.func (.func 108) #[] #[],.func (.func 109) #[] #[],.func (.func 110) #[] #[],.func (.func 111) #[] #[],.func (.func 112) #[] #[],.func (.func 113) #[] #[]],.bool true]) (by simp[results,Tryz.results74,go_sem,q0,q1,q2,q3,q4,q5]) rfl ⟨rfl,uh HKF⟩
 ·have t0:w'.cell? ⟨w.heap.size+1,18,none⟩=some (.func (.func 114) #[] #[]):=(uh HT).cell rfl
  have t1:w'.cell? ⟨w.heap.size+1,19,none⟩=some (.func (.func 115) #[] #[]):=(uh HT).cell rfl
  have t2:w'.cell? ⟨w.heap.size+1,20,none⟩=some (.func (.func 116) #[] #[]):=(uh HT).cell rfl
  have t3:w'.cell? ⟨w.heap.size+1,21,none⟩=some (.func (.func 111) #[] #[]):=(uh HT).cell rfl
  have t4:w'.cell? ⟨w.heap.size+1,22,none⟩=some (.func (.func 112) #[] #[]):=(uh HT).cell rfl
  have t5:w'.cell? ⟨w.heap.size+1,23,none⟩=some (.func (.func 117) #[] #[]):=(uh HT).cell rfl
  have r0:w'.cell? ⟨w.heap.size,0,none⟩=some .nilFunc:=(uh HB).cell rfl
  have r1:w'.cell? ⟨w.heap.size,1,none⟩=some .nilFunc:=(uh HB).cell rfl
  have r2:w'.cell? ⟨w.heap.size,2,none⟩=some .nilFunc:=(uh HB).cell rfl
  have r3:w'.cell? ⟨w.heap.size,3,none⟩=some .nilFunc:=(uh HB).cell rfl
  have r4:w'.cell? ⟨w.heap.size,4,none⟩=some .nilFunc:=(uh HB).cell rfl
  have r5:w'.cell? ⟨w.heap.size,5,none⟩=some .nilFunc:=(uh HB).cell rfl
  have rf:=(uh HB).frozen
  go_wp2
  have hbf:=(((((((uh HB).setCell 0 (.func (.func 114) #[] #[])).setCell 1 (.func (.func 115) #[] #[])).setCell 2 (.func (.func 116) #[] #[])).setCell 3 (.func (.func 111) #[] #[])).setCell 4 (.func (.func 112) #[] #[])).setCell 5 (.func (.func 117) #[] #[]))
  have HKF:=hide ((((((((uh HK).setCell (p:=⟨w.heap.size,0,none⟩) (Or.inr (Nat.le_refl _)) (.func (.func 114) #[] #[])).setCell (p:=⟨w.heap.size,1,none⟩) (Or.inr (Nat.le_refl _)) (.func (.func 115) #[] #[])).setCell (p:=⟨w.heap.size,2,none⟩) (Or.inr (Nat.le_refl _)) (.func (.func 116) #[] #[])).setCell (p:=⟨w.heap.size,3,none⟩) (Or.inr (Nat.le_refl _)) (.func (.func 111) #[] #[])).setCell (p:=⟨w.heap.size,4,none⟩) (Or.inr (Nat.le_refl _)) (.func (.func 112) #[] #[])).setCell (p:=⟨w.heap.size,5,none⟩) (Or.inr (Nat.le_refl _)) (.func (.func 117) #[] #[])))
  generalize((((((w'.setCell ⟨w.heap.size,0,none⟩ (.func (.func 114) #[] #[])).setCell ⟨w.heap.size,1,none⟩ (.func (.func 115) #[] #[])).setCell ⟨w.heap.size,2,none⟩ (.func (.func 116) #[] #[])).setCell ⟨w.heap.size,3,none⟩ (.func (.func 111) #[] #[])).setCell ⟨w.heap.size,4,none⟩ (.func (.func 112) #[] #[])).setCell ⟨w.heap.size,5,none⟩ (.func (.func 117) #[] #[]))=w9 at *
  have q0:w9.cell? ⟨w.heap.size,0,none⟩=some (.func (.func 114) #[] #[]):=hbf.cell rfl
  have q1:w9.cell? ⟨w.heap.size,1,none⟩=some (.func (.func 115) #[] #[]):=hbf.cell rfl
  have q2:w9.cell? ⟨w.heap.size,2,none⟩=some (.func (.func 116) #[] #[]):=hbf.cell rfl
  have q3:w9.cell? ⟨w.heap.size,3,none⟩=some (.func (.func 111) #[] #[]):=hbf.cell rfl
  have q4:w9.cell? ⟨w.heap.size,4,none⟩=some (.func (.func 112) #[] #[]):=hbf.cell rfl
  have q5:w9.cell? ⟨w.heap.size,5,none⟩=some (.func (.func 117) #[] #[]):=hbf.cell rfl
  exact bodyPost_ret (v:=.tuple #[.agg #[.func (.func 114) #[] #[],.func (.func 115) #[] #[],.func (.func 116) #[] #[],.func (.func 111) #[] #[],.func (.func 112) #[] #[],.func (.func 117) #[] #[]],.bool true]) (by simp[results,Tryz.results74,go_sem,q0,q1,q2,q3,q4,q5]) rfl ⟨rfl,uh HKF⟩
 ·have t0:w'.cell? ⟨w.heap.size+1,24,none⟩=some (.func (.func 118) #[] #[]):=(uh HT).cell rfl
  have t1:w'.cell? ⟨w.heap.size+1,25,none⟩=some (.func (.func 119) #[] #[]):=(uh HT).cell rfl
  have t2:w'.cell? ⟨w.heap.size+1,26,none⟩=some (.func (.func 104) #[] #[]):=(uh HT).cell rfl
  have t3:w'.cell? ⟨w.heap.size+1,27,none⟩=some (.func (.func 120) #[] #[]):=(uh HT).cell rfl
  have t4:w'.cell? ⟨w.heap.size+1,28,none⟩=some (.func (.func 106) #[] #[]):=(uh HT).cell rfl
  have t5:w'.cell? ⟨w.heap.size+1,29,none⟩=some (.func (.func 121) #[] #[]):=(uh HT).cell rfl
  have r0:w'.cell? ⟨w.heap.size,0,none⟩=some .nilFunc:=(uh HB).cell rfl
  have r1:w'.cell? ⟨w.heap.size,1,none⟩=some .nilFunc:=(uh HB).cell rfl
  have r2:w'.cell? ⟨w.heap.size,2,none⟩=some .nilFunc:=(uh HB).cell rfl
  have r3:w'.cell? ⟨w.heap.size,3,none⟩=some .nilFunc:=(uh HB).cell rfl
  have r4:w'.cell? ⟨w.heap.size,4,none⟩=some .nilFunc:=(uh HB).cell rfl
  have r5:w'.cell? ⟨w.heap.size,5,none⟩=some .nilFunc:=(uh HB).cell rfl
  have rf:=(uh HB).frozen
  go_wp2
  have hbf:=(((((((uh HB).setCell 0 (.func (.func 118) #[] #[])).setCell 1 (.func (.func 119) #[] #[])).setCell 2 (.func (.func 104) #[] #[])).setCell 3 (.func (.func 120) #[] #[])).setCell 4 (.func (.func 106) #[] #[])).setCell 5 (.func (.func 121) #[] #[]))
  have HKF:=hide ((((((((uh HK).setCell (p:=⟨w.heap.size,0,none⟩) (Or.inr (Nat.le_refl _)) (.func (.func 118) #[] #[])).setCell (p:=⟨w.heap.size,1,none⟩) (Or.inr (Nat.le_refl _)) (.func (.func 119) #[] #[])).setCell (p:=⟨w.heap.size,2,none⟩) (Or.inr (Nat.le_refl _)) (.func (.func 104) #[] #[])).setCell (p:=⟨w.heap.size,3,none⟩) (Or.inr (Nat.le_refl _)) (.func (.func 120) #[] #[])).setCell (p:=⟨w.heap.size,4,none⟩) (Or.inr (Nat.le_refl _)) (.func (.func 106) #[] #[])).setCell (p:=⟨w.heap.size,5,none⟩) (Or.inr (Nat.le_refl _)) (.func (.func 121) #[] #[])))
  generalize((((((w'.setCell ⟨w.heap.size,0,none⟩ (.func (.func 118) #[] #[])).setCell ⟨w.heap.size,1,none⟩ (.func (.func 119) #[] #[])).setCell ⟨w.heap.size,2,none⟩ (.func (.func 104) #[] #[])).setCell ⟨w.heap.size,3,none⟩ (.func (.func 120) #[] #[])).setCell ⟨w.heap.size,4,none⟩ (.func (.func 106) #[] #[])).setCell ⟨w.heap.size,5,none⟩ (.func (.func 121) #[] #[]))=w9 at *
  have q0:w9.cell? ⟨w.heap.size,0,none⟩=some (.func (.func 118) #[] #[]):=hbf.cell rfl
  have q1:w9.cell? ⟨w.heap.size,1,none⟩=some (.func (.func 119) #[] #[]):=hbf.cell rfl
  have q2:w9.cell? ⟨w.heap.size,2,none⟩=some (.func (.func 104) #[] #[]):=hbf.cell rfl
  have q3:w9.cell? ⟨w.heap.size,3,none⟩=some (.func (.func 120) #[] #[]):=hbf.cell rfl
  have q4:w9.cell? ⟨w.heap.size,4,none⟩=some (.func (.func 106) #[] #[]):=hbf.cell rfl
  have q5:w9.cell? ⟨w.heap.size,5,none⟩=some (.func (.func 121) #[] #[]):=hbf.cell rfl
  exact bodyPost_ret (v:=.tuple #[.agg #[.func (.func 118) #[] #[],.func (.func 119) #[] #[],.func (.func 104) #[] #[],.func (.func 120) #[] #[],.func (.func 106) #[] #[],.func (.func 121) #[] #[]],.bool true]) (by simp[results,Tryz.results74,go_sem,q0,q1,q2,q3,q4,q5]) rfl ⟨rfl,uh HKF⟩
 ·have t0:w'.cell? ⟨w.heap.size+1,30,none⟩=some (.func (.func 122) #[] #[]):=(uh HT).cell rfl
  have t1:w'.cell? ⟨w.heap.size+1,31,none⟩=some (.func (.func 123) #[] #[]):=(uh HT).cell rfl
  have t2:w'.cell? ⟨w.heap.size+1,32,none⟩=some (.func (.func 104) #[] #[]):=(uh HT).cell rfl
  have t3:w'.cell? ⟨w.heap.size+1,33,none⟩=some (.func (.func 124) #[] #[]):=(uh HT).cell rfl
  have t4:w'.cell? ⟨w.heap.size+1,34,none⟩=some (.func (.func 125) #[] #[]):=(uh HT).cell rfl
  have t5:w'.cell? ⟨w.heap.size+1,35,none⟩=some (.func (.func 126) #[] #[]):=(uh HT).cell rfl
  have r0:w'.cell? ⟨w.heap.size,0,none⟩=some .nilFunc:=(uh HB).cell rfl
  have r1:w'.cell? ⟨w.heap.size,1,none⟩=some .nilFunc:=(uh HB).cell rfl
  have r2:w'.cell? ⟨w.heap.size,2,none⟩=some .nilFunc:=(uh HB).cell rfl
  have r3:w'.cell? ⟨w.heap.size,3,none⟩=some .nilFunc:=(uh HB).cell rfl
  have r4:w'.cell? ⟨w.heap.size,4,none⟩=some .nilFunc:=(uh HB).cell rfl
  have r5:w'.cell? ⟨w.heap.size,5,none⟩=some .nilFunc:=(uh HB).cell rfl
  have rf:=(uh HB).frozen
  go_wp2
  have hbf:=(((((((uh HB).setCell 0 (.func (.func 122) #[] #[])).setCell 1 (.func (.func 123) #[] #[])).setCell 2 (.func (.func 104) #[] #[])).setCell 3 (.func (.func 124) #[] #[])).setCell 4 (.func (.func 125) #[] #[])).setCell 5 (.func (.func 126) #[] #[]))
  have HKF:=hide ((((((((uh HK).setCell (p:=⟨w.heap.size,0,none⟩) (Or.inr (Nat.le_refl _)) (.func (.func 122) #[] #[])).setCell (p:=⟨w.heap.size,1,none⟩) (Or.inr (Nat.le_refl _)) (.func (.func 123) #[] #[])).setCell (p:=⟨w.heap.size,2,none⟩) (Or.inr (Nat.le_refl _)) (.func (.func 104) #[] #[])).setCell (p:=⟨w.heap.size,3,none⟩) (Or.inr (Nat.le_refl _)) (.func (.func 124) #[] #[])).setCell (p:=⟨w.heap.size,4,none⟩) (Or.inr (Nat.le_refl _)) (.func (.func 125) #[] #[])).setCell (p:=⟨w.heap.size,5,none⟩) (Or.inr (Nat.le_refl _)) (.func (.func 126) #[] #[])))
  generalize((((((w'.setCell ⟨w.heap.size,0,none⟩ (.func (.func 122) #[] #[])).setCell ⟨w.heap.size,1,none⟩ (.func (.func 123) #[] #[])).setCell ⟨w.heap.size,2,none⟩ (.func (.func 104) #[] #[])).setCell ⟨w.heap.size,3,none⟩ (.func (.func 124) #[] #[])).setCell ⟨w.heap.size,4,none⟩ (.func (.func 125) #[] #[])).setCell ⟨w.heap.size,5,none⟩ (.func (.func 126) #[] #[]))=w9 at *
  have q0:w9.cell? ⟨w.heap.size,0,none⟩=some (.func (.func 122) #[] #[]):=hbf.cell rfl
  have q1:w9.cell? ⟨w.heap.size,1,none⟩=some (.func (.func 123) #[] #[]):=hbf.cell rfl
  have q2:w9.cell? ⟨w.heap.size,2,none⟩=some (.func (.func 104) #[] #[]):=hbf.cell rfl
  have q3:w9.cell? ⟨w.heap.size,3,none⟩=some (.func (.func 124) #[] #[]):=hbf.cell rfl
  have q4:w9.cell? ⟨w.heap.size,4,none⟩=some (.func (.func 125) #[] #[]):=hbf.cell rfl
  have q5:w9.cell? ⟨w.heap.size,5,none⟩=some (.func (.func 126) #[] #[]):=hbf.cell rfl
  exact bodyPost_ret (v:=.tuple #[.agg #[.func (.func 122) #[] #[],.func (.func 123) #[] #[],.func (.func 104) #[] #[],.func (.func 124) #[] #[],.func (.func 125) #[] #[],.func (.func 126) #[] #[]],.bool true]) (by simp[results,Tryz.results74,go_sem,q0,q1,q2,q3,q4,q5]) rfl ⟨rfl,uh HKF⟩
end
section
open Go.RowKit
attribute [local go_sem ↓] qAd qAe
attribute [local go_sem] qAf qAl qAc qAb qAn qAm qAi qAj qAg qAk
theorem qA3{f:FuncId}{g:Func}(hf:Tryz.prog.funcs[f]?=some g)(hname:(g.name=="runtime.NumGoroutine")=false)(hb:g.body.isNone=false)(args:Array Value)(w:World):
  (callFunc f args).run Tryz.prog w=.ok (.enter f args) w:=by
 have h1:¬(g.name="runtime.NumGoroutine"):=by simpa using hname
 have h2:¬g.body=none:=by intro h;simp[h]at hb
 simp[callFunc,hf,h1,h2]
theorem own79(args:Array Value)(w:World): (callFunc 102 args).run Tryz.prog w=.ok (.enter 102 args) w:=qA3 Tryz.func102 (by kernel_rfl) (by kernel_rfl) args w
theorem ownSC(args:Array Value)(w:World): (callFunc 107 args).run Tryz.prog w=.ok (.enter 107 args) w:=qA3 Tryz.func107 (by kernel_rfl) (by kernel_rfl) args w
theorem own80(args:Array Value)(w:World): (callFunc 105 args).run Tryz.prog w=.ok (.enter 105 args) w:=qA3 Tryz.func105 (by kernel_rfl) (by kernel_rfl) args w
theorem own81(args:Array Value)(w:World): (callFunc 113 args).run Tryz.prog w=.ok (.enter 113 args) w:=qA3 Tryz.func113 (by kernel_rfl) (by kernel_rfl) args w
theorem zIx(args:Array Value)(w:World): (callFunc 117 args).run Tryz.prog w=.ok (.enter 117 args) w:=qA3 Tryz.func117 (by kernel_rfl) (by kernel_rfl) args w
theorem zIo(args:Array Value)(w:World): (callFunc 126 args).run Tryz.prog w=.ok (.enter 126 args) w:=qA3 Tryz.func126 (by kernel_rfl) (by kernel_rfl) args w
theorem own82(args:Array Value)(w:World): (callFunc 108 args).run Tryz.prog w=.ok (.enter 108 args) w:=qA3 Tryz.func108 (by kernel_rfl) (by kernel_rfl) args w
theorem zJ4(args:Array Value)(w:World): (callFunc 111 args).run Tryz.prog w=.ok (.enter 111 args) w:=qA3 Tryz.func111 (by kernel_rfl) (by kernel_rfl) args w
theorem own84(args:Array Value)(w:World): (callFunc 114 args).run Tryz.prog w=.ok (.enter 114 args) w:=qA3 Tryz.func114 (by kernel_rfl) (by kernel_rfl) args w
theorem own85(args:Array Value)(w:World): (callFunc 118 args).run Tryz.prog w=.ok (.enter 118 args) w:=qA3 Tryz.func118 (by kernel_rfl) (by kernel_rfl) args w
theorem own86(args:Array Value)(w:World): (callFunc 120 args).run Tryz.prog w=.ok (.enter 120 args) w:=qA3 Tryz.func120 (by kernel_rfl) (by kernel_rfl) args w
theorem own87(args:Array Value)(w:World): (callFunc 121 args).run Tryz.prog w=.ok (.enter 121 args) w:=qA3 Tryz.func121 (by kernel_rfl) (by kernel_rfl) args w
theorem own88(args:Array Value)(w:World): (callFunc 122 args).run Tryz.prog w=.ok (.enter 122 args) w:=qA3 Tryz.func122 (by kernel_rfl) (by kernel_rfl) args w
theorem own89(args:Array Value)(w:World): (callFunc 124 args).run Tryz.prog w=.ok (.enter 124 args) w:=qA3 Tryz.func124 (by kernel_rfl) (by kernel_rfl) args w
theorem ownNC(args:Array Value)(w:World): (callFunc 103 args).run Tryz.prog w=.ok (.enter 103 args) w:=qA3 Tryz.func103 (by kernel_rfl) (by kernel_rfl) args w
theorem ownNS(args:Array Value)(w:World): (callFunc 109 args).run Tryz.prog w=.ok (.enter 109 args) w:=qA3 Tryz.func109 (by kernel_rfl) (by kernel_rfl) args w
theorem ownNO(args:Array Value)(w:World): (callFunc 115 args).run Tryz.prog w=.ok (.enter 115 args) w:=qA3 Tryz.func115 (by kernel_rfl) (by kernel_rfl) args w
theorem ownND(args:Array Value)(w:World): (callFunc 119 args).run Tryz.prog w=.ok (.enter 119 args) w:=qA3 Tryz.func119 (by kernel_rfl) (by kernel_rfl) args w
theorem ownNT(args:Array Value)(w:World): (callFunc 123 args).run Tryz.prog w=.ok (.enter 123 args) w:=qA3 Tryz.func123 (by kernel_rfl) (by kernel_rfl) args w
theorem zG8(args:Array Value)(w:World): (callFunc 104 args).run Tryz.prog w=.ok (.enter 104 args) w:=qA3 Tryz.func104 (by kernel_rfl) (by kernel_rfl) args w
theorem ownPO(args:Array Value)(w:World): (callFunc 110 args).run Tryz.prog w=.ok (.enter 110 args) w:=qA3 Tryz.func110 (by kernel_rfl) (by kernel_rfl) args w
theorem ownPR(args:Array Value)(w:World): (callFunc 116 args).run Tryz.prog w=.ok (.enter 116 args) w:=qA3 Tryz.func116 (by kernel_rfl) (by kernel_rfl) args w
theorem zIn(args:Array Value)(w:World): (callFunc 106 args).run Tryz.prog w=.ok (.enter 106 args) w:=qA3 Tryz.func106 (by kernel_rfl) (by kernel_rfl) args w
theorem zI0(args:Array Value)(w:World): (callFunc 112 args).run Tryz.prog w=.ok (.enter 112 args) w:=qA3 Tryz.func112 (by kernel_rfl) (by kernel_rfl) args w
theorem ownAD(args:Array Value)(w:World): (callFunc 125 args).run Tryz.prog w=.ok (.enter 125 args) w:=qA3 Tryz.func125 (by kernel_rfl) (by kernel_rfl) args w
theorem qSy(k:Nat)(h1:1<=k)(h5:k<=5)(args:Array Value)(w:World): (callFunc (qA8 k) args).run Tryz.prog w=.ok (.enter (qA8 k) args) w:=by
 have hk:k=1\/k=2\/k=3\/k=4\/k=5:=by omega
 rcases hk with hk | hk | hk | hk | hk <;> subst hk
 ·exact ownNC args w
 ·exact ownNS args w
 ·exact ownNO args w
 ·exact ownND args w
 ·exact ownNT args w
theorem qRa(k:Nat)(h1:1<=k)(h5:k<=5)(args:Array Value)(w:World): (callFunc (qA7 k) args).run Tryz.prog w=.ok (.enter (qA7 k) args) w:=by
 have hk:k=1\/k=2\/k=3\/k=4\/k=5:=by omega
 rcases hk with hk | hk | hk | hk | hk <;> subst hk
 ·exact zG8 args w
 ·exact ownPO args w
 ·exact ownPR args w
 ·exact zG8 args w
 ·exact zG8 args w
theorem qR0(k:Nat)(h1:1<=k)(h5:k<=5)(args:Array Value)(w:World): (callFunc (qA5 k) args).run Tryz.prog w=.ok (.enter (qA5 k) args) w:=by
 have hk:k=1\/k=2\/k=3\/k=4\/k=5:=by omega
 rcases hk with hk | hk | hk | hk | hk <;> subst hk
 ·exact zIn args w
 ·exact zI0 args w
 ·exact zI0 args w
 ·exact zIn args w
 ·exact ownAD args w
theorem qV0(k:Nat)(h1:1<=k)(h5:k<=5)(args:Array Value)(w:World): (callFunc (qBw k) args).run Tryz.prog w=.ok (.enter (qBw k) args) w:=by
 have hk:k=1\/k=2\/k=3\/k=4\/k=5:=by omega
 rcases hk with hk | hk | hk | hk | hk <;> subst hk
 ·exact own79 args w
 ·exact own82 args w
 ·exact own84 args w
 ·exact own85 args w
 ·exact own88 args w
theorem qO2(k:Nat)(h1:1<=k)(h5:k<=5)(args:Array Value)(w:World): (callFunc (qAr k) args).run Tryz.prog w=.ok (.enter (qAr k) args) w:=by
 have hk:k=1\/k=2\/k=3\/k=4\/k=5:=by omega
 rcases hk with hk | hk | hk | hk | hk <;> subst hk
 ·exact own80 args w
 ·exact zJ4 args w
 ·exact zJ4 args w
 ·exact own86 args w
 ·exact own89 args w
theorem zA5(k:Nat)(h1:1<=k)(h5:k<=5)(args:Array Value)(w:World): (callFunc (qA9 k) args).run Tryz.prog w=.ok (.enter (qA9 k) args) w:=by
 have hk:k=1\/k=2\/k=3\/k=4\/k=5:=by omega
 rcases hk with hk | hk | hk | hk | hk <;> subst hk
 ·exact ownSC args w
 ·exact own81 args w
 ·exact zIx args w
 ·exact own87 args w
 ·exact zIo args w
def qFo(c:Cfg)(k:Nat): Bool:=match k with | 1=>countB c | 2=>qHx c | 3=>qIi c | 4=>qIl c | _=>qK2 c
def qA6(c:Cfg): Bool:=inB c.kind 1 5&&(qDk c&&qFo c c.kind.toNat)
theorem qV2(c:Cfg)(k:Nat)(w:World)(h1:1<=k)(h5:k<=5):
  Calls Tryz.prog (qBw k) #[c.val] w λe w'=>e=.returned (.bool (qFo c k))/\Keeps (λ_=>False) w w':=by
 have hk:k=1\/k=2\/k=3\/k=4\/k=5:=by omega
 rcases hk with hk | hk | hk | hk | hk
 all_goals subst hk
 ·exact qQk c w
 ·exact qLk c w
 ·exact qQ2 c w
 ·exact qJk c w
 ·exact qPp c w
def qCy(c:Cfg)(k:Nat)(x:It): Int:=match k with | 1=>0 | 2=>qY9 x | 3=>qY9 x | 4=>qE8 c x | _=>qJq c x
theorem qH2(c:Cfg)(k:Nat)(x:It)(w:World)(h1:1<=k)(h5:k<=5)(hc:4<=k->c.weighs)(t0:0<=x.t)(t1:x.t<=4611686018427387904):
  Calls Tryz.prog (qAr k) #[c.val,x.val] w λe w'=>e=.returned (.int .i64 (qCy c k x))/\Keeps (λ_=>False) w w':=by
 have hk:k=1\/k=2\/k=3\/k=4\/k=5:=by omega
 rcases hk with hk | hk | hk | hk | hk
 all_goals subst hk
 ·exact qKx c x w
 ·exact qGk c x w
 ·exact qGk c x w
 ·exact qDx c x w (hc (by omega)) t0 t1
 ·exact qMm c x w (hc (by omega)) t0 t1
theorem qTt(c:Cfg)(w:World)(h1:inB c.kind 1 5=false):
  Calls Tryz.prog 47 #[c.val] w λe w'=>e=.returned (.tuple #[.agg #[.nilFunc,.nilFunc,.nilFunc,.nilFunc,.nilFunc,.nilFunc],.bool false])/\Keeps (λ_=>False) w w':=by
 have HB:=hide (show Blk ((w.alloc (.cells c.cells.toArray 32)).alloc (.cells #[.nilFunc,.nilFunc,.nilFunc,.nilFunc,.nilFunc,.nilFunc] 83)) w.heap.size c.cells 32 from(Blk.new w c.cells 32).alloc _)
 have HR:=hide (show Blk ((w.alloc (.cells c.cells.toArray 32)).alloc (.cells #[.nilFunc,.nilFunc,.nilFunc,.nilFunc,.nilFunc,.nilFunc] 83)) (w.heap.size+1) [.nilFunc,.nilFunc,.nilFunc,.nilFunc,.nilFunc,.nilFunc] 83 from Blk.newAt (by simp) [_,_,_,_,_,_] _)
 have HK:=hide (((Keeps.refl (λ_=>False) w).alloc (.cells c.cells.toArray 32)).alloc (.cells #[.nilFunc,.nilFunc,.nilFunc,.nilFunc,.nilFunc,.nilFunc] 83))
 unfold Cfg.val
 go_enter Tryz.func47,Tryz.ntmps47
 go_wp2_with fail
 refine(qZl c.kind _ h1).mono ?_
 rintro e w1 ⟨rfl,hk1⟩
 have hr1:=(uh HR).keeps hk1 (λh=>h)
 have hb1:=(uh HB).keeps hk1 (λh=>h)
 have r0:w1.cell? ⟨w.heap.size+1,0,none⟩=some .nilFunc:=hr1.cell rfl
 have r1:w1.cell? ⟨w.heap.size+1,1,none⟩=some .nilFunc:=hr1.cell rfl
 have r2:w1.cell? ⟨w.heap.size+1,2,none⟩=some .nilFunc:=hr1.cell rfl
 have r3:w1.cell? ⟨w.heap.size+1,3,none⟩=some .nilFunc:=hr1.cell rfl
 have r4:w1.cell? ⟨w.heap.size+1,4,none⟩=some .nilFunc:=hr1.cell rfl
 have r5:w1.cell? ⟨w.heap.size+1,5,none⟩=some .nilFunc:=hr1.cell rfl
 have rf:=hr1.frozen
 have hz:=hr1.lt
 have hz0:=hb1.lt
 obtain⟨hv1,hh1⟩:=qBm hb1 20 rfl
 have HB1:=hide hb1
 have HR1:=hide hr1
 have HK1:=hide ((uh HK).then hk1)
 clear hk1 hb1 hr1
 go_wp2
 have hbf:=(((((((uh HR1).setCell 0 .nilFunc).setCell 1 .nilFunc).setCell 2 .nilFunc).setCell 3 .nilFunc).setCell 4 .nilFunc).setCell 5 .nilFunc).alloc (.cells #[.nilFunc,.nilFunc,.nilFunc,.nilFunc,.nilFunc,.nilFunc] 83)
 have HKF:=hide ((uh HK1).trans ((((((((Keeps.refl (λk=>k=w.heap.size+1) w1).setCell (p:=⟨w.heap.size+1,0,none⟩) (Or.inl rfl) .nilFunc).setCell (p:=⟨w.heap.size+1,1,none⟩) (Or.inl rfl) .nilFunc).setCell (p:=⟨w.heap.size+1,2,none⟩) (Or.inl rfl) .nilFunc).setCell (p:=⟨w.heap.size+1,3,none⟩) (Or.inl rfl) .nilFunc).setCell (p:=⟨w.heap.size+1,4,none⟩) (Or.inl rfl) .nilFunc).setCell (p:=⟨w.heap.size+1,5,none⟩) (Or.inl rfl) .nilFunc).alloc (.cells #[.nilFunc,.nilFunc,.nilFunc,.nilFunc,.nilFunc,.nilFunc] 83)) (λi hi hlt=>by omega))
 generalize(((((((w1.setCell ⟨w.heap.size+1,0,none⟩ .nilFunc).setCell ⟨w.heap.size+1,1,none⟩ .nilFunc).setCell ⟨w.heap.size+1,2,none⟩ .nilFunc).setCell ⟨w.heap.size+1,3,none⟩ .nilFunc).setCell ⟨w.heap.size+1,4,none⟩ .nilFunc).setCell ⟨w.heap.size+1,5,none⟩ .nilFunc).alloc (.cells #[.nilFunc,.nilFunc,.nilFunc,.nilFunc,.nilFunc,.nilFunc] 83))=w2 at *
 have q0:w2.cell? ⟨w.heap.size+1,0,none⟩=some .nilFunc:=hbf.cell rfl
 have q1:w2.cell? ⟨w.heap.size+1,1,none⟩=some .nilFunc:=hbf.cell rfl
 have q2:w2.cell? ⟨w.heap.size+1,2,none⟩=some .nilFunc:=hbf.cell rfl
 have q3:w2.cell? ⟨w.heap.size+1,3,none⟩=some .nilFunc:=hbf.cell rfl
 have q4:w2.cell? ⟨w.heap.size+1,4,none⟩=some .nilFunc:=hbf.cell rfl
 have q5:w2.cell? ⟨w.heap.size+1,5,none⟩=some .nilFunc:=hbf.cell rfl
 exact bodyPost_ret (v:=.tuple #[.agg #[.nilFunc,.nilFunc,.nilFunc,.nilFunc,.nilFunc,.nilFunc],.bool false]) (by simp[results,Tryz.results47,go_sem,q0,q1,q2,q3,q4,q5]) rfl ⟨rfl,uh HKF⟩
theorem qHy(n:Int)(k:Nat)(w:World)(hn:n=k)(h1:1<=k)(h5:k<=5):
  Calls Tryz.prog 74 #[.int .i64 n] w λe w'=>e=.returned (.tuple #[.agg (qBb k).toArray,.bool true])/\Keeps (λ_=>False) w w':=by
 subst hn;exact zEi k w h1 h5
theorem qU0(c:Cfg)(k:Nat)(w:World)(hk:c.kind=k)(hk1:1<=k)(hk5:k<=5)(h2:qDk c=false):
  Calls Tryz.prog 47 #[c.val] w λe w'=>e=.returned (.tuple #[.agg #[.nilFunc,.nilFunc,.nilFunc,.nilFunc,.nilFunc,.nilFunc],.bool false])/\Keeps (λ_=>False) w w':=by
 have HB:=hide (show Blk ((w.alloc (.cells c.cells.toArray 32)).alloc (.cells #[.nilFunc,.nilFunc,.nilFunc,.nilFunc,.nilFunc,.nilFunc] 83)) w.heap.size c.cells 32 from(Blk.new w c.cells 32).alloc _)
 have HR:=hide (show Blk ((w.alloc (.cells c.cells.toArray 32)).alloc (.cells #[.nilFunc,.nilFunc,.nilFunc,.nilFunc,.nilFunc,.nilFunc] 83)) (w.heap.size+1) [.nilFunc,.nilFunc,.nilFunc,.nilFunc,.nilFunc,.nilFunc] 83 from Blk.newAt (by simp) [_,_,_,_,_,_] _)
 have HK:=hide (((Keeps.refl (λ_=>False) w).alloc (.cells c.cells.toArray 32)).alloc (.cells #[.nilFunc,.nilFunc,.nilFunc,.nilFunc,.nilFunc,.nilFunc] 83))
 have HKK:=hide hk
 clear hk
 unfold Cfg.val
 go_enter Tryz.func47,Tryz.ntmps47
 go_wp2_with fail
 refine(qHy c.kind k _ (uh HKK) hk1 hk5).mono ?_
 rintro e w1 ⟨rfl,hw1⟩
 unfold qBb fn
 have hr1:=(uh HR).keeps hw1 (λh=>h)
 have hb1:=(uh HB).keeps hw1 (λh=>h)
 have hz:=hr1.lt
 have hz0:=hb1.lt
 have HB1:=hide (hb1.alloc (.cells #[.func (.func (qBw k)) #[] #[],.func (.func (qA8 k)) #[] #[],.func (.func (qA7 k)) #[] #[],.func (.func (qAr k)) #[] #[],.func (.func (qA5 k)) #[] #[],.func (.func (qA9 k)) #[] #[]] 83))
 have HR1:=hide (hr1.alloc (.cells #[.func (.func (qBw k)) #[] #[],.func (.func (qA8 k)) #[] #[],.func (.func (qA7 k)) #[] #[],.func (.func (qAr k)) #[] #[],.func (.func (qA5 k)) #[] #[],.func (.func (qA9 k)) #[] #[]] 83))
 have HT1:=hide (Blk.new w1 [.func (.func (qBw k)) #[] #[],.func (.func (qA8 k)) #[] #[],.func (.func (qA7 k)) #[] #[],.func (.func (qAr k)) #[] #[],.func (.func (qA5 k)) #[] #[],.func (.func (qA9 k)) #[] #[]] 83)
 have HK1:=hide (((uh HK).then hw1).alloc (.cells #[.func (.func (qBw k)) #[] #[],.func (.func (qA8 k)) #[] #[],.func (.func (qA7 k)) #[] #[],.func (.func (qAr k)) #[] #[],.func (.func (qA5 k)) #[] #[],.func (.func (qA9 k)) #[] #[]] 83))
 obtain⟨hv1,hh1⟩:=qBm hb1 20 rfl
 clear hw1 hb1 hr1 HB HR HK
 go_wp2_with fail
 generalize w1.alloc (.cells #[.func (.func (qBw k)) #[] #[],.func (.func (qA8 k)) #[] #[],.func (.func (qA7 k)) #[] #[],.func (.func (qAr k)) #[] #[],.func (.func (qA5 k)) #[] #[],.func (.func (qA9 k)) #[] #[]] 83)=w2 at *
 generalize hkb:w1.heap.size=kb at *
 refine(qKo c w2).mono ?_
 rintro e w3 ⟨rfl,hw3⟩
 rw[h2]
 have HB3:=hide ((uh HB1).keeps hw3 (λh=>h))
 have HR3:=hide ((uh HR1).keeps hw3 (λh=>h))
 have HT3:=hide ((uh HT1).keeps hw3 (λh=>h))
 have HK3:=hide ((uh HK1).then hw3)
 clear hw3 HB1 HR1 HT1 HK1 hv1 hh1 hkb
 have r0:w3.cell? ⟨w.heap.size+1,0,none⟩=some .nilFunc:=(uh HR3).cell rfl
 have r1:w3.cell? ⟨w.heap.size+1,1,none⟩=some .nilFunc:=(uh HR3).cell rfl
 have r2:w3.cell? ⟨w.heap.size+1,2,none⟩=some .nilFunc:=(uh HR3).cell rfl
 have r3:w3.cell? ⟨w.heap.size+1,3,none⟩=some .nilFunc:=(uh HR3).cell rfl
 have r4:w3.cell? ⟨w.heap.size+1,4,none⟩=some .nilFunc:=(uh HR3).cell rfl
 have r5:w3.cell? ⟨w.heap.size+1,5,none⟩=some .nilFunc:=(uh HR3).cell rfl
 have rf:=(uh HR3).frozen
 go_wp2
 have hbf:=(((((((uh HR3).setCell 0 (.nilFunc)).setCell 1 (.nilFunc)).setCell 2 (.nilFunc)).setCell 3 (.nilFunc)).setCell 4 (.nilFunc)).setCell 5 (.nilFunc))
 have HKF:=hide ((uh HK3).trans (((((((Keeps.refl (λk=>k=w.heap.size+1) w3).setCell (p:=⟨w.heap.size+1,0,none⟩) (Or.inl rfl) (.nilFunc)).setCell (p:=⟨w.heap.size+1,1,none⟩) (Or.inl rfl) (.nilFunc)).setCell (p:=⟨w.heap.size+1,2,none⟩) (Or.inl rfl) (.nilFunc)).setCell (p:=⟨w.heap.size+1,3,none⟩) (Or.inl rfl) (.nilFunc)).setCell (p:=⟨w.heap.size+1,4,none⟩) (Or.inl rfl) (.nilFunc)).setCell (p:=⟨w.heap.size+1,5,none⟩) (Or.inl rfl) (.nilFunc)) (λi hi hlt=>by omega))
 generalize((((((w3.setCell ⟨w.heap.size+1,0,none⟩ (.nilFunc)).setCell ⟨w.heap.size+1,1,none⟩ (.nilFunc)).setCell ⟨w.heap.size+1,2,none⟩ (.nilFunc)).setCell ⟨w.heap.size+1,3,none⟩ (.nilFunc)).setCell ⟨w.heap.size+1,4,none⟩ (.nilFunc)).setCell ⟨w.heap.size+1,5,none⟩ (.nilFunc))=w9 at *
 have q0:w9.cell? ⟨w.heap.size+1,0,none⟩=some (.nilFunc):=hbf.cell rfl
 have q1:w9.cell? ⟨w.heap.size+1,1,none⟩=some (.nilFunc):=hbf.cell rfl
 have q2:w9.cell? ⟨w.heap.size+1,2,none⟩=some (.nilFunc):=hbf.cell rfl
 have q3:w9.cell? ⟨w.heap.size+1,3,none⟩=some (.nilFunc):=hbf.cell rfl
 have q4:w9.cell? ⟨w.heap.size+1,4,none⟩=some (.nilFunc):=hbf.cell rfl
 have q5:w9.cell? ⟨w.heap.size+1,5,none⟩=some (.nilFunc):=hbf.cell rfl
 exact bodyPost_ret (v:=.tuple #[.agg #[.nilFunc,.nilFunc,.nilFunc,.nilFunc,.nilFunc,.nilFunc],.bool false]) (by simp[results,Tryz.results47,go_sem,q0,q1,q2,q3,q4,q5]) rfl ⟨rfl,uh HKF⟩
theorem qVa(c:Cfg)(k:Nat)(w:World)(hk:c.kind=k)(hk1:1<=k)(hk5:k<=5)(h2:qDk c=true)(h3:qFo c k=false):
  Calls Tryz.prog 47 #[c.val] w λe w'=>e=.returned (.tuple #[.agg #[.nilFunc,.nilFunc,.nilFunc,.nilFunc,.nilFunc,.nilFunc],.bool false])/\Keeps (λ_=>False) w w':=by
 have HB:=hide (show Blk ((w.alloc (.cells c.cells.toArray 32)).alloc (.cells #[.nilFunc,.nilFunc,.nilFunc,.nilFunc,.nilFunc,.nilFunc] 83)) w.heap.size c.cells 32 from(Blk.new w c.cells 32).alloc _)
 have HR:=hide (show Blk ((w.alloc (.cells c.cells.toArray 32)).alloc (.cells #[.nilFunc,.nilFunc,.nilFunc,.nilFunc,.nilFunc,.nilFunc] 83)) (w.heap.size+1) [.nilFunc,.nilFunc,.nilFunc,.nilFunc,.nilFunc,.nilFunc] 83 from Blk.newAt (by simp) [_,_,_,_,_,_] _)
 have HK:=hide (((Keeps.refl (λ_=>False) w).alloc (.cells c.cells.toArray 32)).alloc (.cells #[.nilFunc,.nilFunc,.nilFunc,.nilFunc,.nilFunc,.nilFunc] 83))
 have HKK:=hide hk
 clear hk
 unfold Cfg.val
 go_enter Tryz.func47,Tryz.ntmps47
 go_wp2_with fail
 refine(qHy c.kind k _ (uh HKK) hk1 hk5).mono ?_
 rintro e w1 ⟨rfl,hw1⟩
 unfold qBb fn
 have hr1:=(uh HR).keeps hw1 (λh=>h)
 have hb1:=(uh HB).keeps hw1 (λh=>h)
 have hz:=hr1.lt
 have hz0:=hb1.lt
 have HB1:=hide (hb1.alloc (.cells #[.func (.func (qBw k)) #[] #[],.func (.func (qA8 k)) #[] #[],.func (.func (qA7 k)) #[] #[],.func (.func (qAr k)) #[] #[],.func (.func (qA5 k)) #[] #[],.func (.func (qA9 k)) #[] #[]] 83))
 have HR1:=hide (hr1.alloc (.cells #[.func (.func (qBw k)) #[] #[],.func (.func (qA8 k)) #[] #[],.func (.func (qA7 k)) #[] #[],.func (.func (qAr k)) #[] #[],.func (.func (qA5 k)) #[] #[],.func (.func (qA9 k)) #[] #[]] 83))
 have HT1:=hide (Blk.new w1 [.func (.func (qBw k)) #[] #[],.func (.func (qA8 k)) #[] #[],.func (.func (qA7 k)) #[] #[],.func (.func (qAr k)) #[] #[],.func (.func (qA5 k)) #[] #[],.func (.func (qA9 k)) #[] #[]] 83)
 have HK1:=hide (((uh HK).then hw1).alloc (.cells #[.func (.func (qBw k)) #[] #[],.func (.func (qA8 k)) #[] #[],.func (.func (qA7 k)) #[] #[],.func (.func (qAr k)) #[] #[],.func (.func (qA5 k)) #[] #[],.func (.func (qA9 k)) #[] #[]] 83))
 obtain⟨hv1,hh1⟩:=qBm hb1 20 rfl
 clear hw1 hb1 hr1 HB HR HK
 go_wp2_with fail
 generalize w1.alloc (.cells #[.func (.func (qBw k)) #[] #[],.func (.func (qA8 k)) #[] #[],.func (.func (qA7 k)) #[] #[],.func (.func (qAr k)) #[] #[],.func (.func (qA5 k)) #[] #[],.func (.func (qA9 k)) #[] #[]] 83)=w2 at *
 generalize hkb:w1.heap.size=kb at *
 refine(qKo c w2).mono ?_
 rintro e w3 ⟨rfl,hw3⟩
 rw[h2]
 have HB3:=hide ((uh HB1).keeps hw3 (λh=>h))
 have HR3:=hide ((uh HR1).keeps hw3 (λh=>h))
 have HT3:=hide ((uh HT1).keeps hw3 (λh=>h))
 have HK3:=hide ((uh HK1).then hw3)
 clear hw3 HB1 HR1 HT1 HK1 hv1 hh1 hkb
 have t0:w3.cell? ⟨kb,0,none⟩=some (.func (.func (qBw k)) #[] #[]):=(uh HT3).cell rfl
 obtain⟨hv3,hh3⟩:=qBm (uh HB3) 20 rfl
 have hown:=qV0 k hk1 hk5
 go_wp2_with fail
 refine(qV2 c k w3 hk1 hk5).mono ?_
 rintro e w4 ⟨rfl,hw4⟩
 rw[h3]
 have HT4:=hide ((uh HT3).keeps hw4 (λh=>h))
 have HR4:=hide ((uh HR3).keeps hw4 (λh=>h))
 have HK4:=hide ((uh HK3).then hw4)
 clear hw4 HB3 HT3 HR3 HK3 t0 hv3 hh3 hown
 have HR3:=HR4
 have HK3:=HK4
 have r0:w4.cell? ⟨w.heap.size+1,0,none⟩=some .nilFunc:=(uh HR3).cell rfl
 have r1:w4.cell? ⟨w.heap.size+1,1,none⟩=some .nilFunc:=(uh HR3).cell rfl
 have r2:w4.cell? ⟨w.heap.size+1,2,none⟩=some .nilFunc:=(uh HR3).cell rfl
 have r3:w4.cell? ⟨w.heap.size+1,3,none⟩=some .nilFunc:=(uh HR3).cell rfl
 have r4:w4.cell? ⟨w.heap.size+1,4,none⟩=some .nilFunc:=(uh HR3).cell rfl
 have r5:w4.cell? ⟨w.heap.size+1,5,none⟩=some .nilFunc:=(uh HR3).cell rfl
 have rf:=(uh HR3).frozen
 go_wp2
 have hbf:=(((((((uh HR3).setCell 0 (.nilFunc)).setCell 1 (.nilFunc)).setCell 2 (.nilFunc)).setCell 3 (.nilFunc)).setCell 4 (.nilFunc)).setCell 5 (.nilFunc))
 have HKF:=hide ((uh HK3).trans (((((((Keeps.refl (λk=>k=w.heap.size+1) w4).setCell (p:=⟨w.heap.size+1,0,none⟩) (Or.inl rfl) (.nilFunc)).setCell (p:=⟨w.heap.size+1,1,none⟩) (Or.inl rfl) (.nilFunc)).setCell (p:=⟨w.heap.size+1,2,none⟩) (Or.inl rfl) (.nilFunc)).setCell (p:=⟨w.heap.size+1,3,none⟩) (Or.inl rfl) (.nilFunc)).setCell (p:=⟨w.heap.size+1,4,none⟩) (Or.inl rfl) (.nilFunc)).setCell (p:=⟨w.heap.size+1,5,none⟩) (Or.inl rfl) (.nilFunc)) (λi hi hlt=>by omega))
 generalize((((((w4.setCell ⟨w.heap.size+1,0,none⟩ (.nilFunc)).setCell ⟨w.heap.size+1,1,none⟩ (.nilFunc)).setCell ⟨w.heap.size+1,2,none⟩ (.nilFunc)).setCell ⟨w.heap.size+1,3,none⟩ (.nilFunc)).setCell ⟨w.heap.size+1,4,none⟩ (.nilFunc)).setCell ⟨w.heap.size+1,5,none⟩ (.nilFunc))=w9 at *
 have q0:w9.cell? ⟨w.heap.size+1,0,none⟩=some (.nilFunc):=hbf.cell rfl
 have q1:w9.cell? ⟨w.heap.size+1,1,none⟩=some (.nilFunc):=hbf.cell rfl
 have q2:w9.cell? ⟨w.heap.size+1,2,none⟩=some (.nilFunc):=hbf.cell rfl
 have q3:w9.cell? ⟨w.heap.size+1,3,none⟩=some (.nilFunc):=hbf.cell rfl
 have q4:w9.cell? ⟨w.heap.size+1,4,none⟩=some (.nilFunc):=hbf.cell rfl
 have q5:w9.cell? ⟨w.heap.size+1,5,none⟩=some (.nilFunc):=hbf.cell rfl
 exact bodyPost_ret (v:=.tuple #[.agg #[.nilFunc,.nilFunc,.nilFunc,.nilFunc,.nilFunc,.nilFunc],.bool false]) (by simp[results,Tryz.results47,go_sem,q0,q1,q2,q3,q4,q5]) rfl ⟨rfl,uh HKF⟩
theorem qI0(c:Cfg)(k:Nat)(w:World)(hk:c.kind=k)(hk1:1<=k)(hk5:k<=5)(h2:qDk c=true)(h3:qFo c k=true):
  Calls Tryz.prog 47 #[c.val] w λe w'=>e=.returned (.tuple #[.agg (qBb k).toArray,.bool true])/\Keeps (λ_=>False) w w':=by
 have HB:=hide (show Blk ((w.alloc (.cells c.cells.toArray 32)).alloc (.cells #[.nilFunc,.nilFunc,.nilFunc,.nilFunc,.nilFunc,.nilFunc] 83)) w.heap.size c.cells 32 from(Blk.new w c.cells 32).alloc _)
 have HR:=hide (show Blk ((w.alloc (.cells c.cells.toArray 32)).alloc (.cells #[.nilFunc,.nilFunc,.nilFunc,.nilFunc,.nilFunc,.nilFunc] 83)) (w.heap.size+1) [.nilFunc,.nilFunc,.nilFunc,.nilFunc,.nilFunc,.nilFunc] 83 from Blk.newAt (by simp) [_,_,_,_,_,_] _)
 have HK:=hide (((Keeps.refl (λ_=>False) w).alloc (.cells c.cells.toArray 32)).alloc (.cells #[.nilFunc,.nilFunc,.nilFunc,.nilFunc,.nilFunc,.nilFunc] 83))
 have HKK:=hide hk
 clear hk
 unfold Cfg.val
 go_enter Tryz.func47,Tryz.ntmps47
 go_wp2_with fail
 refine(qHy c.kind k _ (uh HKK) hk1 hk5).mono ?_
 rintro e w1 ⟨rfl,hw1⟩
 unfold qBb fn
 have hr1:=(uh HR).keeps hw1 (λh=>h)
 have hb1:=(uh HB).keeps hw1 (λh=>h)
 have hz:=hr1.lt
 have hz0:=hb1.lt
 have HB1:=hide (hb1.alloc (.cells #[.func (.func (qBw k)) #[] #[],.func (.func (qA8 k)) #[] #[],.func (.func (qA7 k)) #[] #[],.func (.func (qAr k)) #[] #[],.func (.func (qA5 k)) #[] #[],.func (.func (qA9 k)) #[] #[]] 83))
 have HR1:=hide (hr1.alloc (.cells #[.func (.func (qBw k)) #[] #[],.func (.func (qA8 k)) #[] #[],.func (.func (qA7 k)) #[] #[],.func (.func (qAr k)) #[] #[],.func (.func (qA5 k)) #[] #[],.func (.func (qA9 k)) #[] #[]] 83))
 have HT1:=hide (Blk.new w1 [.func (.func (qBw k)) #[] #[],.func (.func (qA8 k)) #[] #[],.func (.func (qA7 k)) #[] #[],.func (.func (qAr k)) #[] #[],.func (.func (qA5 k)) #[] #[],.func (.func (qA9 k)) #[] #[]] 83)
 have HK1:=hide (((uh HK).then hw1).alloc (.cells #[.func (.func (qBw k)) #[] #[],.func (.func (qA8 k)) #[] #[],.func (.func (qA7 k)) #[] #[],.func (.func (qAr k)) #[] #[],.func (.func (qA5 k)) #[] #[],.func (.func (qA9 k)) #[] #[]] 83))
 obtain⟨hv1,hh1⟩:=qBm hb1 20 rfl
 clear hw1 hb1 hr1 HB HR HK
 go_wp2_with fail
 generalize w1.alloc (.cells #[.func (.func (qBw k)) #[] #[],.func (.func (qA8 k)) #[] #[],.func (.func (qA7 k)) #[] #[],.func (.func (qAr k)) #[] #[],.func (.func (qA5 k)) #[] #[],.func (.func (qA9 k)) #[] #[]] 83)=w2 at *
 generalize hkb:w1.heap.size=kb at *
 refine(qKo c w2).mono ?_
 rintro e w3 ⟨rfl,hw3⟩
 rw[h2]
 have HB3:=hide ((uh HB1).keeps hw3 (λh=>h))
 have HR3:=hide ((uh HR1).keeps hw3 (λh=>h))
 have HT3:=hide ((uh HT1).keeps hw3 (λh=>h))
 have HK3:=hide ((uh HK1).then hw3)
 clear hw3 HB1 HR1 HT1 HK1 hv1 hh1 hkb
 have t0:w3.cell? ⟨kb,0,none⟩=some (.func (.func (qBw k)) #[] #[]):=(uh HT3).cell rfl
 obtain⟨hv3,hh3⟩:=qBm (uh HB3) 20 rfl
 have hown:=qV0 k hk1 hk5
 go_wp2_with fail
 refine(qV2 c k w3 hk1 hk5).mono ?_
 rintro e w4 ⟨rfl,hw4⟩
 rw[h3]
 have HT4:=hide ((uh HT3).keeps hw4 (λh=>h))
 have HR4:=hide ((uh HR3).keeps hw4 (λh=>h))
 have HK4:=hide ((uh HK3).then hw4)
 clear hw4 HB3 HT3 HR3 HK3 t0 hv3 hh3 hown
 have HR3:=HR4
 have HK3:=HK4
 have r0:w4.cell? ⟨w.heap.size+1,0,none⟩=some .nilFunc:=(uh HR3).cell rfl
 have r1:w4.cell? ⟨w.heap.size+1,1,none⟩=some .nilFunc:=(uh HR3).cell rfl
 have r2:w4.cell? ⟨w.heap.size+1,2,none⟩=some .nilFunc:=(uh HR3).cell rfl
 have r3:w4.cell? ⟨w.heap.size+1,3,none⟩=some .nilFunc:=(uh HR3).cell rfl
 have r4:w4.cell? ⟨w.heap.size+1,4,none⟩=some .nilFunc:=(uh HR3).cell rfl
 have r5:w4.cell? ⟨w.heap.size+1,5,none⟩=some .nilFunc:=(uh HR3).cell rfl
 have rf:=(uh HR3).frozen
 have t0:w4.cell? ⟨kb,0,none⟩=some (.func (.func (qBw k)) #[] #[]):=(uh HT4).cell rfl
 have t1:w4.cell? ⟨kb,1,none⟩=some (.func (.func (qA8 k)) #[] #[]):=(uh HT4).cell rfl
 have t2:w4.cell? ⟨kb,2,none⟩=some (.func (.func (qA7 k)) #[] #[]):=(uh HT4).cell rfl
 have t3:w4.cell? ⟨kb,3,none⟩=some (.func (.func (qAr k)) #[] #[]):=(uh HT4).cell rfl
 have t4:w4.cell? ⟨kb,4,none⟩=some (.func (.func (qA5 k)) #[] #[]):=(uh HT4).cell rfl
 have t5:w4.cell? ⟨kb,5,none⟩=some (.func (.func (qA9 k)) #[] #[]):=(uh HT4).cell rfl
 go_wp2
 have hbf:=(((((((uh HR3).setCell 0 (.func (.func (qBw k)) #[] #[])).setCell 1 (.func (.func (qA8 k)) #[] #[])).setCell 2 (.func (.func (qA7 k)) #[] #[])).setCell 3 (.func (.func (qAr k)) #[] #[])).setCell 4 (.func (.func (qA5 k)) #[] #[])).setCell 5 (.func (.func (qA9 k)) #[] #[]))
 have HKF:=hide ((uh HK3).trans (((((((Keeps.refl (λk=>k=w.heap.size+1) w4).setCell (p:=⟨w.heap.size+1,0,none⟩) (Or.inl rfl) (.func (.func (qBw k)) #[] #[])).setCell (p:=⟨w.heap.size+1,1,none⟩) (Or.inl rfl) (.func (.func (qA8 k)) #[] #[])).setCell (p:=⟨w.heap.size+1,2,none⟩) (Or.inl rfl) (.func (.func (qA7 k)) #[] #[])).setCell (p:=⟨w.heap.size+1,3,none⟩) (Or.inl rfl) (.func (.func (qAr k)) #[] #[])).setCell (p:=⟨w.heap.size+1,4,none⟩) (Or.inl rfl) (.func (.func (qA5 k)) #[] #[])).setCell (p:=⟨w.heap.size+1,5,none⟩) (Or.inl rfl) (.func (.func (qA9 k)) #[] #[])) (λi hi hlt=>by omega))
 generalize((((((w4.setCell ⟨w.heap.size+1,0,none⟩ (.func (.func (qBw k)) #[] #[])).setCell ⟨w.heap.size+1,1,none⟩ (.func (.func (qA8 k)) #[] #[])).setCell ⟨w.heap.size+1,2,none⟩ (.func (.func (qA7 k)) #[] #[])).setCell ⟨w.heap.size+1,3,none⟩ (.func (.func (qAr k)) #[] #[])).setCell ⟨w.heap.size+1,4,none⟩ (.func (.func (qA5 k)) #[] #[])).setCell ⟨w.heap.size+1,5,none⟩ (.func (.func (qA9 k)) #[] #[]))=w9 at *
 have q0:w9.cell? ⟨w.heap.size+1,0,none⟩=some (.func (.func (qBw k)) #[] #[]):=hbf.cell rfl
 have q1:w9.cell? ⟨w.heap.size+1,1,none⟩=some (.func (.func (qA8 k)) #[] #[]):=hbf.cell rfl
 have q2:w9.cell? ⟨w.heap.size+1,2,none⟩=some (.func (.func (qA7 k)) #[] #[]):=hbf.cell rfl
 have q3:w9.cell? ⟨w.heap.size+1,3,none⟩=some (.func (.func (qAr k)) #[] #[]):=hbf.cell rfl
 have q4:w9.cell? ⟨w.heap.size+1,4,none⟩=some (.func (.func (qA5 k)) #[] #[]):=hbf.cell rfl
 have q5:w9.cell? ⟨w.heap.size+1,5,none⟩=some (.func (.func (qA9 k)) #[] #[]):=hbf.cell rfl
 exact bodyPost_ret (v:=.tuple #[.agg #[.func (.func (qBw k)) #[] #[],.func (.func (qA8 k)) #[] #[],.func (.func (qA7 k)) #[] #[],.func (.func (qAr k)) #[] #[],.func (.func (qA5 k)) #[] #[],.func (.func (qA9 k)) #[] #[]],.bool true]) (by simp[results,Tryz.results47,go_sem,q0,q1,q2,q3,q4,q5]) rfl ⟨rfl,uh HKF⟩
end
end Go.Proofs.YtahnliehdjncdabGreatDoor
