import Derived.Test.YtahnliehdjncdabGreatDoorXAB
set_option maxRecDepth 100000
set_option maxHeartbeats 16000000
namespace Go.Proofs.YtahnliehdjncdabGreatDoor
section
open Go.RowKit
attribute [local go_sem ↓] qAd qAe
attribute [local go_sem] qAg qAm qAb qAc qAn qAo qAf qAl
def fn(f:Nat): Value:=.func (.func f) #[] #[]
def qBn: Nat->Nat | 1=>102 | 2=>108 | 3=>114 | 4=>118 | _=>122
def qAq: Nat->Nat | 1=>105 | 2=>111 | 3=>111 | 4=>120 | _=>124
def qA4: Nat->Nat | 1=>107 | 2=>113 | 3=>117 | 4=>121 | _=>126
def qA1: Nat->Nat | 1=>103 | 2=>109 | 3=>115 | 4=>119 | _=>123
def qA0: Nat->Nat | 1=>104 | 2=>110 | 3=>116 | 4=>104 | _=>104
def qAz: Nat->Nat | 1=>106 | 2=>112 | 3=>112 | 4=>106 | _=>125
def qBa(k:Nat): List Value:=[fn (qBn k),fn (qA1 k),fn (qA0 k),fn (qAq k),fn (qAz k),fn (qA4 k)]
def qCl: List Value:=[.nilFunc,.nilFunc,.nilFunc,.nilFunc,.nilFunc,.nilFunc]++(qBa 1++(qBa 2++(qBa 3++(qBa 4++qBa 5))))
def zCr(ty:TypeId)(ps:Array (Nat×Value)): Sem Next:=do pure (.value (<-Instr.build ty ps))
theorem qP7(ρ:Operand->Value)(dst:Option Tmp)(x:Array (Nat×Operand))(ty:TypeId)(pos:String)(after:Array Edge)(guard:Option (Nat×Bool)):
  execOp ρ { dst,op:=.build 164 x,type:=ty,pos,after,guard }=zCr 164 (x.map λ(i,y)=>(i,ρ y)):=rfl
theorem qW1(w:World): (zCr 164 #[(1,.agg #[.func (.func 102) #[] #[],.func (.func 103) #[] #[],.func (.func 104) #[] #[],.func (.func 105) #[] #[],.func (.func 106) #[] #[],.func (.func 107) #[] #[]]),(2,.agg #[.func (.func 108) #[] #[],.func (.func 109) #[] #[],.func (.func 110) #[] #[],.func (.func 111) #[] #[],.func (.func 112) #[] #[],.func (.func 113) #[] #[]]),(3,.agg #[.func (.func 114) #[] #[],.func (.func 115) #[] #[],.func (.func 116) #[] #[],.func (.func 111) #[] #[],.func (.func 112) #[] #[],.func (.func 117) #[] #[]]),(4,.agg #[.func (.func 118) #[] #[],.func (.func 119) #[] #[],.func (.func 104) #[] #[],.func (.func 120) #[] #[],.func (.func 106) #[] #[],.func (.func 121) #[] #[]]),(5,.agg #[.func (.func 122) #[] #[],.func (.func 123) #[] #[],.func (.func 104) #[] #[],.func (.func 124) #[] #[],.func (.func 125) #[] #[],.func (.func 126) #[] #[]])]).run Tryz.prog w=.ok (.value (.agg qCl.toArray)) w:=by kernel_rfl
def storeT(ty:TypeId)(a x:Value): Sem Next:=do Instr.storeAt ty a x;pure .skip
theorem qPp(ρ:Operand->Value)(dst:Option Tmp)(x y:Operand)(ty:TypeId)(pos:String)(after:Array Edge)(guard:Option (Nat×Bool)):
  execOp ρ { dst,op:=.store 164 x y,type:=ty,pos,after,guard }=storeT 164 (ρ x) (ρ y):=rfl
theorem sizeT: (Tryz.prog.info? 164).map (·.size)=some 36:=by kernel_rfl
def qI5(arr:Array Value)(o:Nat): List Value->Array Value
 | []=>arr
 | c::r=>qI5 (arr.setIfInBounds o c) (o+1) r
theorem qJe(w:World)(T:TypeId): ∀(cs:List Value) (o:Nat) (arr:Array Value),(w.alloc (.cells arr T)).setCells w.heap.size o cs=w.alloc (.cells (qI5 arr o cs) T)
 | [],_,_=>rfl
 | c::r,o,arr=>by
  unfold World.setCells qI5
  rw[World.setCell_alloc_at _ _ _ _ _ rfl]
  exact qJe w T r (o+1) (arr.setIfInBounds o c)
theorem qKr: ∀(cs:List Value) (pre:List Value) (rest:List Value),rest.length=cs.length->qI5 (pre++rest).toArray pre.length cs=(pre++cs).toArray
 | [],pre,rest,h=>by
  have:rest=[]:=List.length_eq_zero_iff.1 h
  subst this;rfl
 | c::r,pre,rest,h=>by
  cases rest with
  | nil=>simp at h
  | cons d q =>
   unfold qI5
   have h1:((pre++d::q).toArray.setIfInBounds pre.length c)=((pre++[c])++q).toArray:=by simp
   rw[h1]
   have:=qKr r (pre++[c]) q (by simpa using h)
   rw[List.length_append]at this
   simpa using this
theorem qSc: qCl.toArray.all (·.oneCell')=true:=by simp[qCl,qBa,fn,Value.oneCell']
theorem qE9: qCl.length=36:=rfl
theorem qOe(w:World)(zs:List Value)(hz:zs.length=36)(b:Nat)(hb:w.heap.size=b):
  (storeT 164 (.pointer (some ⟨b,0,none⟩)) (.agg qCl.toArray)).run Tryz.prog (w.alloc (.cells zs.toArray 164))=.ok .skip (w.alloc (.cells qCl.toArray 164)):=by
 subst hb
 unfold storeT
 have ht:(w.alloc (.cells zs.toArray 164)).there w.heap.size 0 qCl.toArray.size:=by
  intro j hj
  have hj':j<36:=by simpa[qE9] using hj
  rw[Nat.zero_add,World.cell?_alloc_new,World.frozen?_alloc_new]
  simp[hz,hj']
 rw[Sem.run_bind,run_storeAt_mid _ w.heap.size 0 164 qCl.toArray ht (by rw[sizeT];simp[qE9]) qSc]
 have h2:=qKr qCl [] zs (by rw[qE9];omega)
 simp only[List.nil_append,List.length_nil]at h2
 rw[qJe,List.toList_toArray,h2]
 rfl
attribute [local go_sem ↓] qP7 qPp
attribute [local go_sem] qW1
theorem zFc(n:Int)(w:World)(h:inB n 1 5=false):
  Calls Tryz.prog 74 #[.int .i64 n] w λe w'=>e=.returned (.tuple #[.agg #[.nilFunc,.nilFunc,.nilFunc,.nilFunc,.nilFunc,.nilFunc],.bool false])/\Keeps (λ_=>False) w w':=by
 have hst:=qOe (w.alloc (.cells #[.nilFunc,.nilFunc,.nilFunc,.nilFunc,.nilFunc,.nilFunc] 83)) [.nilFunc,.nilFunc,.nilFunc,.nilFunc,.nilFunc,.nilFunc,.nilFunc,.nilFunc,.nilFunc,.nilFunc,.nilFunc,.nilFunc,.nilFunc,.nilFunc,.nilFunc,.nilFunc,.nilFunc,.nilFunc,.nilFunc,.nilFunc,.nilFunc,.nilFunc,.nilFunc,.nilFunc,.nilFunc,.nilFunc,.nilFunc,.nilFunc,.nilFunc,.nilFunc,.nilFunc,.nilFunc,.nilFunc,.nilFunc,.nilFunc,.nilFunc] rfl (w.heap.size+1) (by simp)
 have hB0:Blk ((w.alloc (.cells #[.nilFunc,.nilFunc,.nilFunc,.nilFunc,.nilFunc,.nilFunc] 83)).alloc (.cells qCl.toArray 164)) w.heap.size [.nilFunc,.nilFunc,.nilFunc,.nilFunc,.nilFunc,.nilFunc] 83:=(Blk.new w [.nilFunc,.nilFunc,.nilFunc,.nilFunc,.nilFunc,.nilFunc] 83).alloc _
 have hK0:Keeps (λ_=>False) w ((w.alloc (.cells #[.nilFunc,.nilFunc,.nilFunc,.nilFunc,.nilFunc,.nilFunc] 83)).alloc (.cells qCl.toArray 164)):=((Keeps.refl _ _).alloc _).alloc _
 have HB:=hide hB0
 have HK:=hide hK0
 clear hB0 hK0
 go_enter Tryz.func74,Tryz.ntmps74
 go_wp2_with fail
 clear hst
 generalize((w.alloc (.cells #[.nilFunc,.nilFunc,.nilFunc,.nilFunc,.nilFunc,.nilFunc] 83)).alloc (.cells qCl.toArray 164))=W at *
 refine(qAj _ _ _ _).mono ?_
 rintro e w' ⟨rfl,rfl⟩
 rw[h]
 have r0:w'.cell? ⟨w.heap.size,0,none⟩=some .nilFunc:=(uh HB).cell rfl
 have r1:w'.cell? ⟨w.heap.size,1,none⟩=some .nilFunc:=(uh HB).cell rfl
 have r2:w'.cell? ⟨w.heap.size,2,none⟩=some .nilFunc:=(uh HB).cell rfl
 have r3:w'.cell? ⟨w.heap.size,3,none⟩=some .nilFunc:=(uh HB).cell rfl
 have r4:w'.cell? ⟨w.heap.size,4,none⟩=some .nilFunc:=(uh HB).cell rfl
 have r5:w'.cell? ⟨w.heap.size,5,none⟩=some .nilFunc:=(uh HB).cell rfl
 have rf:=(uh HB).frozen
 go_wp2
 have hbf:=(((((((uh HB).setCell 0 (.nilFunc)).setCell 1 (.nilFunc)).setCell 2 (.nilFunc)).setCell 3 (.nilFunc)).setCell 4 (.nilFunc)).setCell 5 (.nilFunc))
 have HKF:=hide ((((((((uh HK).setCell (p:=⟨w.heap.size,0,none⟩) (Or.inr (Nat.le_refl _)) (.nilFunc)).setCell (p:=⟨w.heap.size,1,none⟩) (Or.inr (Nat.le_refl _)) (.nilFunc)).setCell (p:=⟨w.heap.size,2,none⟩) (Or.inr (Nat.le_refl _)) (.nilFunc)).setCell (p:=⟨w.heap.size,3,none⟩) (Or.inr (Nat.le_refl _)) (.nilFunc)).setCell (p:=⟨w.heap.size,4,none⟩) (Or.inr (Nat.le_refl _)) (.nilFunc)).setCell (p:=⟨w.heap.size,5,none⟩) (Or.inr (Nat.le_refl _)) (.nilFunc)))
 generalize((((((w'.setCell ⟨w.heap.size,0,none⟩ (.nilFunc)).setCell ⟨w.heap.size,1,none⟩ (.nilFunc)).setCell ⟨w.heap.size,2,none⟩ (.nilFunc)).setCell ⟨w.heap.size,3,none⟩ (.nilFunc)).setCell ⟨w.heap.size,4,none⟩ (.nilFunc)).setCell ⟨w.heap.size,5,none⟩ (.nilFunc))=w9 at *
 have q0:w9.cell? ⟨w.heap.size,0,none⟩=some (.nilFunc):=hbf.cell rfl
 have q1:w9.cell? ⟨w.heap.size,1,none⟩=some (.nilFunc):=hbf.cell rfl
 have q2:w9.cell? ⟨w.heap.size,2,none⟩=some (.nilFunc):=hbf.cell rfl
 have q3:w9.cell? ⟨w.heap.size,3,none⟩=some (.nilFunc):=hbf.cell rfl
 have q4:w9.cell? ⟨w.heap.size,4,none⟩=some (.nilFunc):=hbf.cell rfl
 have q5:w9.cell? ⟨w.heap.size,5,none⟩=some (.nilFunc):=hbf.cell rfl
 exact bodyPost_ret (v:=.tuple #[.agg #[.nilFunc,.nilFunc,.nilFunc,.nilFunc,.nilFunc,.nilFunc],.bool false]) (by simp[results,Tryz.results74,go_sem,q0,q1,q2,q3,q4,q5]) rfl ⟨rfl,uh HKF⟩
theorem zCc(n:Nat)(w:World)(h1:1<=n)(h5:n<=5):
  Calls Tryz.prog 74 #[.int .i64 n] w λe w'=>e=.returned (.tuple #[.agg (qBa n).toArray,.bool true])/\Keeps (λ_=>False) w w':=by
 have h:inB (n:Int) 1 5=true:=by simp[inB];omega
 have hst:=qOe (w.alloc (.cells #[.nilFunc,.nilFunc,.nilFunc,.nilFunc,.nilFunc,.nilFunc] 83)) [.nilFunc,.nilFunc,.nilFunc,.nilFunc,.nilFunc,.nilFunc,.nilFunc,.nilFunc,.nilFunc,.nilFunc,.nilFunc,.nilFunc,.nilFunc,.nilFunc,.nilFunc,.nilFunc,.nilFunc,.nilFunc,.nilFunc,.nilFunc,.nilFunc,.nilFunc,.nilFunc,.nilFunc,.nilFunc,.nilFunc,.nilFunc,.nilFunc,.nilFunc,.nilFunc,.nilFunc,.nilFunc,.nilFunc,.nilFunc,.nilFunc,.nilFunc] rfl (w.heap.size+1) (by simp)
 have hB0:Blk ((w.alloc (.cells #[.nilFunc,.nilFunc,.nilFunc,.nilFunc,.nilFunc,.nilFunc] 83)).alloc (.cells qCl.toArray 164)) w.heap.size [.nilFunc,.nilFunc,.nilFunc,.nilFunc,.nilFunc,.nilFunc] 83:=(Blk.new w [.nilFunc,.nilFunc,.nilFunc,.nilFunc,.nilFunc,.nilFunc] 83).alloc _
 have hT0:Blk ((w.alloc (.cells #[.nilFunc,.nilFunc,.nilFunc,.nilFunc,.nilFunc,.nilFunc] 83)).alloc (.cells qCl.toArray 164)) (w.heap.size+1) qCl 164:=Blk.newAt (by simp) _ _
 have hK0:Keeps (λ_=>False) w ((w.alloc (.cells #[.nilFunc,.nilFunc,.nilFunc,.nilFunc,.nilFunc,.nilFunc] 83)).alloc (.cells qCl.toArray 164)):=((Keeps.refl _ _).alloc _).alloc _
 have HB:=hide hB0
 have HT:=hide hT0
 have HK:=hide hK0
 clear hB0 hK0 hT0
 go_enter Tryz.func74,Tryz.ntmps74
 go_wp2_with fail
 clear hst
 generalize((w.alloc (.cells #[.nilFunc,.nilFunc,.nilFunc,.nilFunc,.nilFunc,.nilFunc] 83)).alloc (.cells qCl.toArray 164))=W at *
 refine(qAj _ _ _ _).mono ?_
 rintro e w' ⟨rfl,rfl⟩
 rw[h]
 have hn:n=1\/n=2\/n=3\/n=4\/n=5:=by omega
 rcases hn with hn | hn | hn | hn | hn
 all_goals subst hn
 ·have t0:w'.cell? ⟨w.heap.size+1,6,none⟩=some (.func (.func 102) #[] #[]):=(uh HT).cell rfl
  have t1:w'.cell? ⟨w.heap.size+1,7,none⟩=some (.func (.func 103) #[] #[]):=(uh HT).cell rfl
  have t2:w'.cell? ⟨w.heap.size+1,8,none⟩=some (.func (.func 104) #[] #[]):=(uh HT).cell rfl
  have t3:w'.cell? ⟨w.heap.size+1,9,none⟩=some (.func (.func 105) #[] #[]):=(uh HT).cell rfl
  have t4:w'.cell? ⟨w.heap.size+1,10,none⟩=some (.func (.func 106) #[] #[]):=(uh HT).cell rfl
  have t5:w'.cell? ⟨w.heap.size+1,11,none⟩=some (.func (.func 107) #[] #[]):=(uh HT).cell rfl
  have r0:w'.cell? ⟨w.heap.size,0,none⟩=some .nilFunc:=(uh HB).cell rfl
  have r1:w'.cell? ⟨w.heap.size,1,none⟩=some .nilFunc:=(uh HB).cell rfl
  have r2:w'.cell? ⟨w.heap.size,2,none⟩=some .nilFunc:=(uh HB).cell rfl
  have r3:w'.cell? ⟨w.heap.size,3,none⟩=some .nilFunc:=(uh HB).cell rfl
  have r4:w'.cell? ⟨w.heap.size,4,none⟩=some .nilFunc:=(uh HB).cell rfl
  have r5:w'.cell? ⟨w.heap.size,5,none⟩=some .nilFunc:=(uh HB).cell rfl
  have rf:=(uh HB).frozen
  go_wp2
  have hbf:=(((((((uh HB).setCell 0 (.func (.func 102) #[] #[])).setCell 1 (.func (.func 103) #[] #[])).setCell 2 (.func (.func 104) #[] #[])).setCell 3 (.func (.func 105) #[] #[])).setCell 4 (.func (.func 106) #[] #[])).setCell 5 (.func (.func 107) #[] #[]))
  have HKF:=hide ((((((((uh HK).setCell (p:=⟨w.heap.size,0,none⟩) (Or.inr (Nat.le_refl _)) (.func (.func 102) #[] #[])).setCell (p:=⟨w.heap.size,1,none⟩) (Or.inr (Nat.le_refl _)) (.func (.func 103) #[] #[])).setCell (p:=⟨w.heap.size,2,none⟩) (Or.inr (Nat.le_refl _)) (.func (.func 104) #[] #[])).setCell (p:=⟨w.heap.size,3,none⟩) (Or.inr (Nat.le_refl _)) (.func (.func 105) #[] #[])).setCell (p:=⟨w.heap.size,4,none⟩) (Or.inr (Nat.le_refl _)) (.func (.func 106) #[] #[])).setCell (p:=⟨w.heap.size,5,none⟩) (Or.inr (Nat.le_refl _)) (.func (.func 107) #[] #[])))
  generalize((((((w'.setCell ⟨w.heap.size,0,none⟩ (.func (.func 102) #[] #[])).setCell ⟨w.heap.size,1,none⟩ (.func (.func 103) #[] #[])).setCell ⟨w.heap.size,2,none⟩ (.func (.func 104) #[] #[])).setCell ⟨w.heap.size,3,none⟩ (.func (.func 105) #[] #[])).setCell ⟨w.heap.size,4,none⟩ (.func (.func 106) #[] #[])).setCell ⟨w.heap.size,5,none⟩ (.func (.func 107) #[] #[]))=w9 at *
  have q0:w9.cell? ⟨w.heap.size,0,none⟩=some (.func (.func 102) #[] #[]):=hbf.cell rfl
  have q1:w9.cell? ⟨w.heap.size,1,none⟩=some (.func (.func 103) #[] #[]):=hbf.cell rfl
  have q2:w9.cell? ⟨w.heap.size,2,none⟩=some (.func (.func 104) #[] #[]):=hbf.cell rfl
  have q3:w9.cell? ⟨w.heap.size,3,none⟩=some (.func (.func 105) #[] #[]):=hbf.cell rfl
  have q4:w9.cell? ⟨w.heap.size,4,none⟩=some (.func (.func 106) #[] #[]):=hbf.cell rfl
  have q5:w9.cell? ⟨w.heap.size,5,none⟩=some (.func (.func 107) #[] #[]):=hbf.cell rfl
  exact bodyPost_ret (v:=.tuple #[.agg #[.func (.func 102) #[] #[],.func (.func 103) #[] #[],.func (.func 104) #[] #[],.func (.func 105) #[] #[],.func (.func 106) #[] #[],.func (.func 107) #[] #[]],.bool true]) (by simp[results,Tryz.results74,go_sem,q0,q1,q2,q3,q4,q5]) rfl ⟨rfl,uh HKF⟩
 ·have t0:w'.cell? ⟨w.heap.size+1,12,none⟩=some (.func (.func 108) #[] #[]):=(uh HT).cell rfl
  have t1:w'.cell? ⟨w.heap.size+1,13,none⟩=some (.func (.func 109) #[] #[]):=(uh HT).cell rfl
  have t2:w'.cell? ⟨w.heap.size+1,14,none⟩=some (.func (.func 110) #[] #[]):=(uh HT).cell rfl
  have t3:w'.cell? ⟨w.heap.size+1,15,none⟩=some (.func (.func 111) #[] #[]):=(uh HT).cell rfl
  have t4:w'.cell? ⟨w.heap.size+1,16,none⟩=some (.func (.func 112) #[] #[]):=(uh HT).cell rfl
  have t5:w'.cell? ⟨w.heap.size+1,17,none⟩=some (.func (.func 113) #[] #[]):=(uh HT).cell rfl
  have r0:w'.cell? ⟨w.heap.size,0,none⟩=some .nilFunc:=(uh HB).cell rfl
  have r1:w'.cell? ⟨w.heap.size,1,none⟩=some .nilFunc:=(uh HB).cell rfl
  have r2:w'.cell? ⟨w.heap.size,2,none⟩=some .nilFunc:=(uh HB).cell rfl
  have r3:w'.cell? ⟨w.heap.size,3,none⟩=some .nilFunc:=(uh HB).cell rfl
  have r4:w'.cell? ⟨w.heap.size,4,none⟩=some .nilFunc:=(uh HB).cell rfl
  have r5:w'.cell? ⟨w.heap.size,5,none⟩=some .nilFunc:=(uh HB).cell rfl
  have rf:=(uh HB).frozen
  go_wp2
  have hbf:=(((((((uh HB).setCell 0 (.func (.func 108) #[] #[])).setCell 1 (.func (.func 109) #[] #[])).setCell 2 (.func (.func 110) #[] #[])).setCell 3 (.func (.func 111) #[] #[])).setCell 4 (.func (.func 112) #[] #[])).setCell 5 (.func (.func 113) #[] #[]))
  have HKF:=hide ((((((((uh HK).setCell (p:=⟨w.heap.size,0,none⟩) (Or.inr (Nat.le_refl _)) (.func (.func 108) #[] #[])).setCell (p:=⟨w.heap.size,1,none⟩) (Or.inr (Nat.le_refl _)) (.func (.func 109) #[] #[])).setCell (p:=⟨w.heap.size,2,none⟩) (Or.inr (Nat.le_refl _)) (.func (.func 110) #[] #[])).setCell (p:=⟨w.heap.size,3,none⟩) (Or.inr (Nat.le_refl _)) (.func (.func 111) #[] #[])).setCell (p:=⟨w.heap.size,4,none⟩) (Or.inr (Nat.le_refl _)) (.func (.func 112) #[] #[])).setCell (p:=⟨w.heap.size,5,none⟩) (Or.inr (Nat.le_refl _)) (.func (.func 113) #[] #[])))
  generalize((((((w'.setCell ⟨w.heap.size,0,none⟩ (.func (.func 108) #[] #[])).setCell ⟨w.heap.size,1,none⟩ (.func (.func 109) #[] #[])).setCell ⟨w.heap.size,2,none⟩ (.func (.func 110) #[] #[])).setCell ⟨w.heap.size,3,none⟩ (.func (.func 111) #[] #[])).setCell ⟨w.heap.size,4,none⟩ (.func (.func 112) #[] #[])).setCell ⟨w.heap.size,5,none⟩ (.func (.func 113) #[] #[]))=w9 at *
  have q0:w9.cell? ⟨w.heap.size,0,none⟩=some (.func (.func 108) #[] #[]):=hbf.cell rfl
  have q1:w9.cell? ⟨w.heap.size,1,none⟩=some (.func (.func 109) #[] #[]):=hbf.cell rfl
  have q2:w9.cell? ⟨w.heap.size,2,none⟩=some (.func (.func 110) #[] #[]):=hbf.cell rfl
  have q3:w9.cell? ⟨w.heap.size,3,none⟩=some (.func (.func 111) #[] #[]):=hbf.cell rfl
  have q4:w9.cell? ⟨w.heap.size,4,none⟩=some (.func (.func 112) #[] #[]):=hbf.cell rfl
  have q5:w9.cell? ⟨w.heap.size,5,none⟩=some (.func (.func 113) #[] #[]):=hbf.cell rfl
  exact bodyPost_ret (v:=.tuple #[.agg #[.func (.func 108) #[] #[],.func (.func 109) #[] #[],.func (.func 110) #[] #[],.func (.func 111) #[] #[],.func (.func 112) #[] #[],.func (.func 113) #[] #[]],.bool true]) (by simp[results,Tryz.results74,go_sem,q0,q1,q2,q3,q4,q5]) rfl ⟨rfl,uh HKF⟩
 ·have t0:w'.cell? ⟨w.heap.size+1,18,none⟩=some (.func (.func 114) #[] #[]):=(uh HT).cell rfl
  have t1:w'.cell? ⟨w.heap.size+1,19,none⟩=some (.func (.func 115) #[] #[]):=(uh HT).cell rfl
  have t2:w'.cell? ⟨w.heap.size+1,20,none⟩=some (.func (.func 116) #[] #[]):=(uh HT).cell rfl
  have t3:w'.cell? ⟨w.heap.size+1,21,none⟩=some (.func (.func 111) #[] #[]):=(uh HT).cell rfl
  have t4:w'.cell? ⟨w.heap.size+1,22,none⟩=some (.func (.func 112) #[] #[]):=(uh HT).cell rfl
  have t5:w'.cell? ⟨w.heap.size+1,23,none⟩=some (.func (.func 117) #[] #[]):=(uh HT).cell rfl
  have r0:w'.cell? ⟨w.heap.size,0,none⟩=some .nilFunc:=(uh HB).cell rfl
  have r1:w'.cell? ⟨w.heap.size,1,none⟩=some .nilFunc:=(uh HB).cell rfl
  have r2:w'.cell? ⟨w.heap.size,2,none⟩=some .nilFunc:=(uh HB).cell rfl
  have r3:w'.cell? ⟨w.heap.size,3,none⟩=some .nilFunc:=(uh HB).cell rfl
  have r4:w'.cell? ⟨w.heap.size,4,none⟩=some .nilFunc:=(uh HB).cell rfl
  have r5:w'.cell? ⟨w.heap.size,5,none⟩=some .nilFunc:=(uh HB).cell rfl
  have rf:=(uh HB).frozen
  go_wp2
  have hbf:=(((((((uh HB).setCell 0 (.func (.func 114) #[] #[])).setCell 1 (.func (.func 115) #[] #[])).setCell 2 (.func (.func 116) #[] #[])).setCell 3 (.func (.func 111) #[] #[])).setCell 4 (.func (.func 112) #[] #[])).setCell 5 (.func (.func 117) #[] #[]))
  have HKF:=hide ((((((((uh HK).setCell (p:=⟨w.heap.size,0,none⟩) (Or.inr (Nat.le_refl _)) (.func (.func 114) #[] #[])).setCell (p:=⟨w.heap.size,1,none⟩) (Or.inr (Nat.le_refl _)) (.func (.func 115) #[] #[])).setCell (p:=⟨w.heap.size,2,none⟩) (Or.inr (Nat.le_refl _)) (.func (.func 116) #[] #[])).setCell (p:=⟨w.heap.size,3,none⟩) (Or.inr (Nat.le_refl _)) (.func (.func 111) #[] #[])).setCell (p:=⟨w.heap.size,4,none⟩) (Or.inr (Nat.le_refl _)) (.func (.func 112) #[] #[])).setCell (p:=⟨w.heap.size,5,none⟩) (Or.inr (Nat.le_refl _)) (.func (.func 117) #[] #[])))
  generalize((((((w'.setCell ⟨w.heap.size,0,none⟩ (.func (.func 114) #[] #[])).setCell ⟨w.heap.size,1,none⟩ (.func (.func 115) #[] #[])).setCell ⟨w.heap.size,2,none⟩ (.func (.func 116) #[] #[])).setCell ⟨w.heap.size,3,none⟩ (.func (.func 111) #[] #[])).setCell ⟨w.heap.size,4,none⟩ (.func (.func 112) #[] #[])).setCell ⟨w.heap.size,5,none⟩ (.func (.func 117) #[] #[]))=w9 at *
  have q0:w9.cell? ⟨w.heap.size,0,none⟩=some (.func (.func 114) #[] #[]):=hbf.cell rfl
  have q1:w9.cell? ⟨w.heap.size,1,none⟩=some (.func (.func 115) #[] #[]):=hbf.cell rfl
  have q2:w9.cell? ⟨w.heap.size,2,none⟩=some (.func (.func 116) #[] #[]):=hbf.cell rfl
  have q3:w9.cell? ⟨w.heap.size,3,none⟩=some (.func (.func 111) #[] #[]):=hbf.cell rfl
  have q4:w9.cell? ⟨w.heap.size,4,none⟩=some (.func (.func 112) #[] #[]):=hbf.cell rfl
  have q5:w9.cell? ⟨w.heap.size,5,none⟩=some (.func (.func 117) #[] #[]):=hbf.cell rfl
  exact bodyPost_ret (v:=.tuple #[.agg #[.func (.func 114) #[] #[],.func (.func 115) #[] #[],.func (.func 116) #[] #[],.func (.func 111) #[] #[],.func (.func 112) #[] #[],.func (.func 117) #[] #[]],.bool true]) (by simp[results,Tryz.results74,go_sem,q0,q1,q2,q3,q4,q5]) rfl ⟨rfl,uh HKF⟩
 ·have t0:w'.cell? ⟨w.heap.size+1,24,none⟩=some (.func (.func 118) #[] #[]):=(uh HT).cell rfl
  have t1:w'.cell? ⟨w.heap.size+1,25,none⟩=some (.func (.func 119) #[] #[]):=(uh HT).cell rfl
  have t2:w'.cell? ⟨w.heap.size+1,26,none⟩=some (.func (.func 104) #[] #[]):=(uh HT).cell rfl
  have t3:w'.cell? ⟨w.heap.size+1,27,none⟩=some (.func (.func 120) #[] #[]):=(uh HT).cell rfl
  have t4:w'.cell? ⟨w.heap.size+1,28,none⟩=some (.func (.func 106) #[] #[]):=(uh HT).cell rfl
  have t5:w'.cell? ⟨w.heap.size+1,29,none⟩=some (.func (.func 121) #[] #[]):=(uh HT).cell rfl
  have r0:w'.cell? ⟨w.heap.size,0,none⟩=some .nilFunc:=(uh HB).cell rfl
  have r1:w'.cell? ⟨w.heap.size,1,none⟩=some .nilFunc:=(uh HB).cell rfl
  have r2:w'.cell? ⟨w.heap.size,2,none⟩=some .nilFunc:=(uh HB).cell rfl
  have r3:w'.cell? ⟨w.heap.size,3,none⟩=some .nilFunc:=(uh HB).cell rfl
  have r4:w'.cell? ⟨w.heap.size,4,none⟩=some .nilFunc:=(uh HB).cell rfl
  have r5:w'.cell? ⟨w.heap.size,5,none⟩=some .nilFunc:=(uh HB).cell rfl
  have rf:=(uh HB).frozen
  go_wp2
  have hbf:=(((((((uh HB).setCell 0 (.func (.func 118) #[] #[])).setCell 1 (.func (.func 119) #[] #[])).setCell 2 (.func (.func 104) #[] #[])).setCell 3 (.func (.func 120) #[] #[])).setCell 4 (.func (.func 106) #[] #[])).setCell 5 (.func (.func 121) #[] #[]))
  have HKF:=hide ((((((((uh HK).setCell (p:=⟨w.heap.size,0,none⟩) (Or.inr (Nat.le_refl _)) (.func (.func 118) #[] #[])).setCell (p:=⟨w.heap.size,1,none⟩) (Or.inr (Nat.le_refl _)) (.func (.func 119) #[] #[])).setCell (p:=⟨w.heap.size,2,none⟩) (Or.inr (Nat.le_refl _)) (.func (.func 104) #[] #[])).setCell (p:=⟨w.heap.size,3,none⟩) (Or.inr (Nat.le_refl _)) (.func (.func 120) #[] #[])).setCell (p:=⟨w.heap.size,4,none⟩) (Or.inr (Nat.le_refl _)) (.func (.func 106) #[] #[])).setCell (p:=⟨w.heap.size,5,none⟩) (Or.inr (Nat.le_refl _)) (.func (.func 121) #[] #[])))
  generalize((((((w'.setCell ⟨w.heap.size,0,none⟩ (.func (.func 118) #[] #[])).setCell ⟨w.heap.size,1,none⟩ (.func (.func 119) #[] #[])).setCell ⟨w.heap.size,2,none⟩ (.func (.func 104) #[] #[])).setCell ⟨w.heap.size,3,none⟩ (.func (.func 120) #[] #[])).setCell ⟨w.heap.size,4,none⟩ (.func (.func 106) #[] #[])).setCell ⟨w.heap.size,5,none⟩ (.func (.func 121) #[] #[]))=w9 at *
  have q0:w9.cell? ⟨w.heap.size,0,none⟩=some (.func (.func 118) #[] #[]):=hbf.cell rfl
  have q1:w9.cell? ⟨w.heap.size,1,none⟩=some (.func (.func 119) #[] #[]):=hbf.cell rfl
  have q2:w9.cell? ⟨w.heap.size,2,none⟩=some (.func (.func 104) #[] #[]):=hbf.cell rfl
  have q3:w9.cell? ⟨w.heap.size,3,none⟩=some (.func (.func 120) #[] #[]):=hbf.cell rfl
  have q4:w9.cell? ⟨w.heap.size,4,none⟩=some (.func (.func 106) #[] #[]):=hbf.cell rfl
  have q5:w9.cell? ⟨w.heap.size,5,none⟩=some (.func (.func 121) #[] #[]):=hbf.cell rfl
  exact bodyPost_ret (v:=.tuple #[.agg #[.func (.func 118) #[] #[],.func (.func 119) #[] #[],.func (.func 104) #[] #[],.func (.func 120) #[] #[],.func (.func 106) #[] #[],.func (.func 121) #[] #[]],.bool true]) (by simp[results,Tryz.results74,go_sem,q0,q1,q2,q3,q4,q5]) rfl ⟨rfl,uh HKF⟩
 ·have t0:w'.cell? ⟨w.heap.size+1,30,none⟩=some (.func (.func 122) #[] #[]):=(uh HT).cell rfl
  have t1:w'.cell? ⟨w.heap.size+1,31,none⟩=some (.func (.func 123) #[] #[]):=(uh HT).cell rfl
  have t2:w'.cell? ⟨w.heap.size+1,32,none⟩=some (.func (.func 104) #[] #[]):=(uh HT).cell rfl
  have t3:w'.cell? ⟨w.heap.size+1,33,none⟩=some (.func (.func 124) #[] #[]):=(uh HT).cell rfl
  have t4:w'.cell? ⟨w.heap.size+1,34,none⟩=some (.func (.func 125) #[] #[]):=(uh HT).cell rfl
  have t5:w'.cell? ⟨w.heap.size+1,35,none⟩=some (.func (.func 126) #[] #[]):=(uh HT).cell rfl
  have r0:w'.cell? ⟨w.heap.size,0,none⟩=some .nilFunc:=(uh HB).cell rfl
  have r1:w'.cell? ⟨w.heap.size,1,none⟩=some .nilFunc:=(uh HB).cell rfl
  have r2:w'.cell? ⟨w.heap.size,2,none⟩=some .nilFunc:=(uh HB).cell rfl
  have r3:w'.cell? ⟨w.heap.size,3,none⟩=some .nilFunc:=(uh HB).cell rfl
  have r4:w'.cell? ⟨w.heap.size,4,none⟩=some .nilFunc:=(uh HB).cell rfl
  have r5:w'.cell? ⟨w.heap.size,5,none⟩=some .nilFunc:=(uh HB).cell rfl
  have rf:=(uh HB).frozen
  go_wp2
  have hbf:=(((((((uh HB).setCell 0 (.func (.func 122) #[] #[])).setCell 1 (.func (.func 123) #[] #[])).setCell 2 (.func (.func 104) #[] #[])).setCell 3 (.func (.func 124) #[] #[])).setCell 4 (.func (.func 125) #[] #[])).setCell 5 (.func (.func 126) #[] #[]))
  have HKF:=hide ((((((((uh HK).setCell (p:=⟨w.heap.size,0,none⟩) (Or.inr (Nat.le_refl _)) (.func (.func 122) #[] #[])).setCell (p:=⟨w.heap.size,1,none⟩) (Or.inr (Nat.le_refl _)) (.func (.func 123) #[] #[])).setCell (p:=⟨w.heap.size,2,none⟩) (Or.inr (Nat.le_refl _)) (.func (.func 104) #[] #[])).setCell (p:=⟨w.heap.size,3,none⟩) (Or.inr (Nat.le_refl _)) (.func (.func 124) #[] #[])).setCell (p:=⟨w.heap.size,4,none⟩) (Or.inr (Nat.le_refl _)) (.func (.func 125) #[] #[])).setCell (p:=⟨w.heap.size,5,none⟩) (Or.inr (Nat.le_refl _)) (.func (.func 126) #[] #[])))
  generalize((((((w'.setCell ⟨w.heap.size,0,none⟩ (.func (.func 122) #[] #[])).setCell ⟨w.heap.size,1,none⟩ (.func (.func 123) #[] #[])).setCell ⟨w.heap.size,2,none⟩ (.func (.func 104) #[] #[])).setCell ⟨w.heap.size,3,none⟩ (.func (.func 124) #[] #[])).setCell ⟨w.heap.size,4,none⟩ (.func (.func 125) #[] #[])).setCell ⟨w.heap.size,5,none⟩ (.func (.func 126) #[] #[]))=w9 at *
  have q0:w9.cell? ⟨w.heap.size,0,none⟩=some (.func (.func 122) #[] #[]):=hbf.cell rfl
  have q1:w9.cell? ⟨w.heap.size,1,none⟩=some (.func (.func 123) #[] #[]):=hbf.cell rfl
  have q2:w9.cell? ⟨w.heap.size,2,none⟩=some (.func (.func 104) #[] #[]):=hbf.cell rfl
  have q3:w9.cell? ⟨w.heap.size,3,none⟩=some (.func (.func 124) #[] #[]):=hbf.cell rfl
  have q4:w9.cell? ⟨w.heap.size,4,none⟩=some (.func (.func 125) #[] #[]):=hbf.cell rfl
  have q5:w9.cell? ⟨w.heap.size,5,none⟩=some (.func (.func 126) #[] #[]):=hbf.cell rfl
  exact bodyPost_ret (v:=.tuple #[.agg #[.func (.func 122) #[] #[],.func (.func 123) #[] #[],.func (.func 104) #[] #[],.func (.func 124) #[] #[],.func (.func 125) #[] #[],.func (.func 126) #[] #[]],.bool true]) (by simp[results,Tryz.results74,go_sem,q0,q1,q2,q3,q4,q5]) rfl ⟨rfl,uh HKF⟩
end
end Go.Proofs.YtahnliehdjncdabGreatDoor
