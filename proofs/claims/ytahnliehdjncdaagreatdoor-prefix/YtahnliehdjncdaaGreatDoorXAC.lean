import Derived.Test.YtahnliehdjncdaaGreatDoorXAB
set_option maxRecDepth 100000
set_option maxHeartbeats 16000000
namespace Go.Proofs.YtahnliehdjncdaaGreatDoor
section
open Go.RowKit
attribute [local go_sem ↓] qAd qAe
attribute [local go_sem] qAh qAl qAb qAc qAm qAn qAg qAk
def fn(f:Nat): Value:=.func (.func f) #[] #[]
def qBn: Nat->Nat | 1=>115 | 2=>121 | 3=>127 | 4=>131 | _=>135
def qAp: Nat->Nat | 1=>118 | 2=>124 | 3=>124 | 4=>133 | _=>137
def qA5: Nat->Nat | 1=>120 | 2=>126 | 3=>130 | 4=>134 | _=>139
def qA2: Nat->Nat | 1=>116 | 2=>122 | 3=>128 | 4=>132 | _=>136
def qA3: Nat->Nat | 1=>117 | 2=>123 | 3=>129 | 4=>117 | _=>117
def qA1: Nat->Nat | 1=>119 | 2=>125 | 3=>125 | 4=>119 | _=>138
def qA7(k:Nat): List Value:=[fn (qBn k),fn (qA2 k),fn (qA3 k),fn (qAp k),fn (qA1 k),fn (qA5 k)]
def qB6: List Value:=[.nilFunc,.nilFunc,.nilFunc,.nilFunc,.nilFunc,.nilFunc]++(qA7 1++(qA7 2++(qA7 3++(qA7 4++qA7 5))))
def zBg(ty:TypeId)(ps:Array (Nat×Value)): Sem Next:=do pure (.value (<-Instr.build ty ps))
theorem qOe(ρ:Operand->Value)(dst:Option Tmp)(x:Array (Nat×Operand))(ty:TypeId)(pos:String)(after:Array Edge)(guard:Option (Nat×Bool)):
  execOp ρ { dst,op:=.build 161 x,type:=ty,pos,after,guard }=zBg 161 (x.map λ(i,y)=>(i,ρ y)):=rfl
theorem qVc(w:World): (zBg 161 #[(1,.agg #[.func (.func 115) #[] #[],.func (.func 116) #[] #[],.func (.func 117) #[] #[],.func (.func 118) #[] #[],.func (.func 119) #[] #[],.func (.func 120) #[] #[]]),(2,.agg #[.func (.func 121) #[] #[],.func (.func 122) #[] #[],.func (.func 123) #[] #[],.func (.func 124) #[] #[],.func (.func 125) #[] #[],.func (.func 126) #[] #[]]),(3,.agg #[.func (.func 127) #[] #[],.func (.func 128) #[] #[],.func (.func 129) #[] #[],.func (.func 124) #[] #[],.func (.func 125) #[] #[],.func (.func 130) #[] #[]]),(4,.agg #[.func (.func 131) #[] #[],.func (.func 132) #[] #[],.func (.func 117) #[] #[],.func (.func 133) #[] #[],.func (.func 119) #[] #[],.func (.func 134) #[] #[]]),(5,.agg #[.func (.func 135) #[] #[],.func (.func 136) #[] #[],.func (.func 117) #[] #[],.func (.func 137) #[] #[],.func (.func 138) #[] #[],.func (.func 139) #[] #[]])]).run Tryz.prog w=.ok (.value (.agg qB6.toArray)) w:=by kernel_rfl
def storeT(ty:TypeId)(a x:Value): Sem Next:=do Instr.storeAt ty a x;pure .skip
theorem qM5(ρ:Operand->Value)(dst:Option Tmp)(x y:Operand)(ty:TypeId)(pos:String)(after:Array Edge)(guard:Option (Nat×Bool)):
  execOp ρ { dst,op:=.store 161 x y,type:=ty,pos,after,guard }=storeT 161 (ρ x) (ρ y):=rfl
theorem sizeT: (Tryz.prog.info? 161).map (·.size)=some 36:=by kernel_rfl
def qH6(arr:Array Value)(o:Nat): List Value->Array Value
 | []=>arr
 | c::r=>qH6 (arr.setIfInBounds o c) (o+1) r
theorem qHn(w:World)(T:TypeId): ∀(cs:List Value) (o:Nat) (arr:Array Value),(w.alloc (.cells arr T)).setCells w.heap.size o cs=w.alloc (.cells (qH6 arr o cs) T)
 | [],_,_=>rfl
 | c::r,o,arr=>by
  unfold World.setCells qH6
  rw[World.setCell_alloc_at _ _ _ _ _ rfl]
  exact qHn w T r (o+1) (arr.setIfInBounds o c)
theorem qI1: ∀(cs:List Value) (pre:List Value) (rest:List Value),rest.length=cs.length->qH6 (pre++rest).toArray pre.length cs=(pre++cs).toArray
 | [],pre,rest,h=>by
  have:rest=[]:=List.length_eq_zero_iff.1 h
  subst this;rfl
 | c::r,pre,rest,h=>by
  cases rest with
  | nil=>simp at h
  | cons d q =>
   unfold qH6
   have h1:((pre++d::q).toArray.setIfInBounds pre.length c)=((pre++[c])++q).toArray:=by simp
   rw[h1]
   have:=qI1 r (pre++[c]) q (by simpa using h)
   rw[List.length_append]at this
   simpa using this
theorem qQz: qB6.toArray.all (·.oneCell')=true:=by simp[qB6,qA7,fn,Value.oneCell']
theorem qEj: qB6.length=36:=rfl
theorem qMj(w:World)(zs:List Value)(hz:zs.length=36)(b:Nat)(hb:w.heap.size=b):
  (storeT 161 (.pointer (some ⟨b,0,none⟩)) (.agg qB6.toArray)).run Tryz.prog (w.alloc (.cells zs.toArray 161))=.ok .skip (w.alloc (.cells qB6.toArray 161)):=by
 subst hb
 unfold storeT
 have ht:(w.alloc (.cells zs.toArray 161)).there w.heap.size 0 qB6.toArray.size:=by
  intro j hj
  have hj':j<36:=by simpa[qEj] using hj
  rw[Nat.zero_add,World.cell?_alloc_new,World.frozen?_alloc_new]
  simp[hz,hj']
 rw[Sem.run_bind,run_storeAt_mid _ w.heap.size 0 161 qB6.toArray ht (by rw[sizeT];simp[qEj]) qQz]
 have h2:=qI1 qB6 [] zs (by rw[qEj];omega)
 simp only[List.nil_append,List.length_nil]at h2
 rw[qHn,List.toList_toArray,h2]
 rfl
attribute [local go_sem ↓] qOe qM5
attribute [local go_sem] qVc
theorem qX5(n:Int)(w:World)(h:inB n 1 5=false):
  Calls Tryz.prog 87 #[.int .i64 n] w λe w'=>e=.returned (.tuple #[.agg #[.nilFunc,.nilFunc,.nilFunc,.nilFunc,.nilFunc,.nilFunc],.bool false])/\Keeps (λ_=>False) w w':=by
 have hst:=qMj (w.alloc (.cells #[.nilFunc,.nilFunc,.nilFunc,.nilFunc,.nilFunc,.nilFunc] 82)) [.nilFunc,.nilFunc,.nilFunc,.nilFunc,.nilFunc,.nilFunc,.nilFunc,.nilFunc,.nilFunc,.nilFunc,.nilFunc,.nilFunc,.nilFunc,.nilFunc,.nilFunc,.nilFunc,.nilFunc,.nilFunc,.nilFunc,.nilFunc,.nilFunc,.nilFunc,.nilFunc,.nilFunc,.nilFunc,.nilFunc,.nilFunc,.nilFunc,.nilFunc,.nilFunc,.nilFunc,.nilFunc,.nilFunc,.nilFunc,.nilFunc,.nilFunc] rfl (w.heap.size+1) (by simp)
 have hB0:Blk ((w.alloc (.cells #[.nilFunc,.nilFunc,.nilFunc,.nilFunc,.nilFunc,.nilFunc] 82)).alloc (.cells qB6.toArray 161)) w.heap.size [.nilFunc,.nilFunc,.nilFunc,.nilFunc,.nilFunc,.nilFunc] 82:=(Blk.new w [.nilFunc,.nilFunc,.nilFunc,.nilFunc,.nilFunc,.nilFunc] 82).alloc _
 have hK0:Keeps (λ_=>False) w ((w.alloc (.cells #[.nilFunc,.nilFunc,.nilFunc,.nilFunc,.nilFunc,.nilFunc] 82)).alloc (.cells qB6.toArray 161)):=((Keeps.refl _ _).alloc _).alloc _
 have HB:=hide hB0
 have HK:=hide hK0
 clear hB0 hK0
 go_enter Tryz.func87,Tryz.ntmps87
 go_wp2_with fail
 clear hst
 generalize((w.alloc (.cells #[.nilFunc,.nilFunc,.nilFunc,.nilFunc,.nilFunc,.nilFunc] 82)).alloc (.cells qB6.toArray 161))=W at *
 refine(qAf _ _ _ _).mono ?_
 rintro e w' ⟨rfl,rfl⟩
 rw[h]
 have r0:w'.cell? ⟨w.heap.size,0,none⟩=some .nilFunc:=(uh HB).cell rfl
 have r1:w'.cell? ⟨w.heap.size,1,none⟩=some .nilFunc:=(uh HB).cell rfl
 have r2:w'.cell? ⟨w.heap.size,2,none⟩=some .nilFunc:=(uh HB).cell rfl
 have r3:w'.cell? ⟨w.heap.size,3,none⟩=some .nilFunc:=(uh HB).cell rfl
 have r4:w'.cell? ⟨w.heap.size,4,none⟩=some .nilFunc:=(uh HB).cell rfl
 have r5:w'.cell? ⟨w.heap.size,5,none⟩=some .nilFunc:=(uh HB).cell rfl
 have rf:=(uh HB).frozen
 go_wp2
 have hbf:=(((((((uh HB).setCell 0 (.nilFunc)).setCell 1 (.nilFunc)).setCell 2 (.nilFunc)).setCell 3 (.nilFunc)).setCell 4 (.nilFunc)).setCell 5 (.nilFunc))
 have HKF:=hide ((((((((uh HK).setCell (p:=⟨w.heap.size,0,none⟩) (Or.inr (Nat.le_refl _)) (.nilFunc)).setCell (p:=⟨w.heap.size,1,none⟩) (Or.inr (Nat.le_refl _)) (.nilFunc)).setCell (p:=⟨w.heap.size,2,none⟩) (Or.inr (Nat.le_refl _)) (.nilFunc)).setCell (p:=⟨w.heap.size,3,none⟩) (Or.inr (Nat.le_refl _)) (.nilFunc)).setCell (p:=⟨w.heap.size,4,none⟩) (Or.inr (Nat.le_refl _)) (.nilFunc)).setCell (p:=⟨w.heap.size,5,none⟩) (Or.inr (Nat.le_refl _)) (.nilFunc)))
 generalize((((((w'.setCell ⟨w.heap.size,0,none⟩ (.nilFunc)).setCell ⟨w.heap.size,1,none⟩ (.nilFunc)).setCell ⟨w.heap.size,2,none⟩ (.nilFunc)).setCell ⟨w.heap.size,3,none⟩ (.nilFunc)).setCell ⟨w.heap.size,4,none⟩ (.nilFunc)).setCell ⟨w.heap.size,5,none⟩ (.nilFunc))=w9 at *
 have q0:w9.cell? ⟨w.heap.size,0,none⟩=some (.nilFunc):=hbf.cell rfl
 have q1:w9.cell? ⟨w.heap.size,1,none⟩=some (.nilFunc):=hbf.cell rfl
 have q2:w9.cell? ⟨w.heap.size,2,none⟩=some (.nilFunc):=hbf.cell rfl
 have q3:w9.cell? ⟨w.heap.size,3,none⟩=some (.nilFunc):=hbf.cell rfl
 have q4:w9.cell? ⟨w.heap.size,4,none⟩=some (.nilFunc):=hbf.cell rfl
 have q5:w9.cell? ⟨w.heap.size,5,none⟩=some (.nilFunc):=hbf.cell rfl
 exact bodyPost_ret (v:=.tuple #[.agg #[.nilFunc,.nilFunc,.nilFunc,.nilFunc,.nilFunc,.nilFunc],.bool false]) (by simp[results,Tryz.results87,go_sem,q0,q1,q2,q3,q4,q5]) rfl ⟨rfl,uh HKF⟩
theorem zAf(n:Nat)(w:World)(h1:1<=n)(h5:n<=5):
  Calls Tryz.prog 87 #[.int .i64 n] w λe w'=>e=.returned (.tuple #[.agg (qA7 n).toArray,.bool true])/\Keeps (λ_=>False) w w':=by
 have h:inB (n:Int) 1 5=true:=by simp[inB];omega
 have hst:=qMj (w.alloc (.cells #[.nilFunc,.nilFunc,.nilFunc,.nilFunc,.nilFunc,.nilFunc] 82)) [.nilFunc,.nilFunc,.nilFunc,.nilFunc,.nilFunc,.nilFunc,.nilFunc,.nilFunc,.nilFunc,.nilFunc,.nilFunc,.nilFunc,.nilFunc,.nilFunc,.nilFunc,.nilFunc,.nilFunc,.nilFunc,.nilFunc,.nilFunc,.nilFunc,.nilFunc,.nilFunc,.nilFunc,.nilFunc,.nilFunc,.nilFunc,.nilFunc,.nilFunc,.nilFunc,.nilFunc,.nilFunc,.nilFunc,.nilFunc,.nilFunc,.nilFunc] rfl (w.heap.size+1) (by simp)
 have hB0:Blk ((w.alloc (.cells #[.nilFunc,.nilFunc,.nilFunc,.nilFunc,.nilFunc,.nilFunc] 82)).alloc (.cells qB6.toArray 161)) w.heap.size [.nilFunc,.nilFunc,.nilFunc,.nilFunc,.nilFunc,.nilFunc] 82:=(Blk.new w [.nilFunc,.nilFunc,.nilFunc,.nilFunc,.nilFunc,.nilFunc] 82).alloc _
 have hT0:Blk ((w.alloc (.cells #[.nilFunc,.nilFunc,.nilFunc,.nilFunc,.nilFunc,.nilFunc] 82)).alloc (.cells qB6.toArray 161)) (w.heap.size+1) qB6 161:=Blk.newAt (by simp) _ _
 have hK0:Keeps (λ_=>False) w ((w.alloc (.cells #[.nilFunc,.nilFunc,.nilFunc,.nilFunc,.nilFunc,.nilFunc] 82)).alloc (.cells qB6.toArray 161)):=((Keeps.refl _ _).alloc _).alloc _
 have HB:=hide hB0
 have HT:=hide hT0
 have HK:=hide hK0
 clear hB0 hK0 hT0
 go_enter Tryz.func87,Tryz.ntmps87
 go_wp2_with fail
 clear hst
 generalize((w.alloc (.cells #[.nilFunc,.nilFunc,.nilFunc,.nilFunc,.nilFunc,.nilFunc] 82)).alloc (.cells qB6.toArray 161))=W at *
 refine(qAf _ _ _ _).mono ?_
 rintro e w' ⟨rfl,rfl⟩
 rw[h]
 have hn:n=1\/n=2\/n=3\/n=4\/n=5:=by omega
 rcases hn with hn | hn | hn | hn | hn
 all_goals subst hn
 ·have t0:w'.cell? ⟨w.heap.size+1,6,none⟩=some (.func (.func 115) #[] #[]):=(uh HT).cell rfl
  have t1:w'.cell? ⟨w.heap.size+1,7,none⟩=some (.func (.func 116) #[] #[]):=(uh HT).cell rfl
  have t2:w'.cell? ⟨w.heap.size+1,8,none⟩=some (.func (.func 117) #[] #[]):=(uh HT).cell rfl
  have t3:w'.cell? ⟨w.heap.size+1,9,none⟩=some (.func (.func 118) #[] #[]):=(uh HT).cell rfl
  have t4:w'.cell? ⟨w.heap.size+1,10,none⟩=some (.func (.func 119) #[] #[]):=(uh HT).cell rfl
  have t5:w'.cell? ⟨w.heap.size+1,11,none⟩=some (.func (.func 120) #[] #[]):=(uh HT).cell rfl
  have r0:w'.cell? ⟨w.heap.size,0,none⟩=some .nilFunc:=(uh HB).cell rfl
  have r1:w'.cell? ⟨w.heap.size,1,none⟩=some .nilFunc:=(uh HB).cell rfl
  have r2:w'.cell? ⟨w.heap.size,2,none⟩=some .nilFunc:=(uh HB).cell rfl
  have r3:w'.cell? ⟨w.heap.size,3,none⟩=some .nilFunc:=(uh HB).cell rfl
  have r4:w'.cell? ⟨w.heap.size,4,none⟩=some .nilFunc:=(uh HB).cell rfl
  have r5:w'.cell? ⟨w.heap.size,5,none⟩=some .nilFunc:=(uh HB).cell rfl
  have rf:=(uh HB).frozen
  go_wp2
  have hbf:=(((((((uh HB).setCell 0 (.func (.func 115) #[] #[])).setCell 1 (.func (.func 116) #[] #[])).setCell 2 (.func (.func 117) #[] #[])).setCell 3 (.func (.func 118) #[] #[])).setCell 4 (.func (.func 119) #[] #[])).setCell 5 (.func (.func 120) #[] #[]))
  have HKF:=hide ((((((((uh HK).setCell (p:=⟨w.heap.size,0,none⟩) (Or.inr (Nat.le_refl _)) (.func (.func 115) #[] #[])).setCell (p:=⟨w.heap.size,1,none⟩) (Or.inr (Nat.le_refl _)) (.func (.func 116) #[] #[])).setCell (p:=⟨w.heap.size,2,none⟩) (Or.inr (Nat.le_refl _)) (.func (.func 117) #[] #[])).setCell (p:=⟨w.heap.size,3,none⟩) (Or.inr (Nat.le_refl _)) (.func (.func 118) #[] #[])).setCell (p:=⟨w.heap.size,4,none⟩) (Or.inr (Nat.le_refl _)) (.func (.func 119) #[] #[])).setCell (p:=⟨w.heap.size,5,none⟩) (Or.inr (Nat.le_refl _)) (.func (.func 120) #[] #[])))
  generalize((((((w'.setCell ⟨w.heap.size,0,none⟩ (.func (.func 115) #[] #[])).setCell ⟨w.heap.size,1,none⟩ (.func (.func 116) #[] #[])).setCell ⟨w.heap.size,2,none⟩ (.func (.func 117) #[] #[])).setCell ⟨w.heap.size,3,none⟩ (.func (.func 118) #[] #[])).setCell ⟨w.heap.size,4,none⟩ (.func (.func 119) #[] #[])).setCell ⟨w.heap.size,5,none⟩ (.func (.func 120) #[] #[]))=w9 at *
  have q0:w9.cell? ⟨w.heap.size,0,none⟩=some (.func (.func 115) #[] #[]):=hbf.cell rfl
  have q1:w9.cell? ⟨w.heap.size,1,none⟩=some (.func (.func 116) #[] #[]):=hbf.cell rfl
  have q2:w9.cell? ⟨w.heap.size,2,none⟩=some (.func (.func 117) #[] #[]):=hbf.cell rfl
  have q3:w9.cell? ⟨w.heap.size,3,none⟩=some (.func (.func 118) #[] #[]):=hbf.cell rfl
  have q4:w9.cell? ⟨w.heap.size,4,none⟩=some (.func (.func 119) #[] #[]):=hbf.cell rfl
  have q5:w9.cell? ⟨w.heap.size,5,none⟩=some (.func (.func 120) #[] #[]):=hbf.cell rfl
  exact bodyPost_ret (v:=.tuple #[.agg #[.func (.func 115) #[] #[],.func (.func 116) #[] #[],.func (.func 117) #[] #[],.func (.func 118) #[] #[],.func (.func 119) #[] #[],.func (.func 120) #[] #[]],.bool true]) (by simp[results,Tryz.results87,go_sem,q0,q1,q2,q3,q4,q5]) rfl ⟨rfl,uh HKF⟩
 ·have t0:w'.cell? ⟨w.heap.size+1,12,none⟩=some (.func (.func 121) #[] #[]):=(uh HT).cell rfl
  have t1:w'.cell? ⟨w.heap.size+1,13,none⟩=some (.func (.func 122) #[] #[]):=(uh HT).cell rfl
  have t2:w'.cell? ⟨w.heap.size+1,14,none⟩=some (.func (.func 123) #[] #[]):=(uh HT).cell rfl
  have t3:w'.cell? ⟨w.heap.size+1,15,none⟩=some (.func (.func 124) #[] #[]):=(uh HT).cell rfl
  have t4:w'.cell? ⟨w.heap.size+1,16,none⟩=some (.func (.func 125) #[] #[]):=(uh HT).cell rfl
  have t5:w'.cell? ⟨w.heap.size+1,17,none⟩=some (.func (.func 126) #[] #[]):=(uh HT).cell rfl
  have r0:w'.cell? ⟨w.heap.size,0,none⟩=some .nilFunc:=(uh HB).cell rfl
  have r1:w'.cell? ⟨w.heap.size,1,none⟩=some .nilFunc:=(uh HB).cell rfl
  have r2:w'.cell? ⟨w.heap.size,2,none⟩=some .nilFunc:=(uh HB).cell rfl
  have r3:w'.cell? ⟨w.heap.size,3,none⟩=some .nilFunc:=(uh HB).cell rfl
  have r4:w'.cell? ⟨w.heap.size,4,none⟩=some .nilFunc:=(uh HB).cell rfl
  have r5:w'.cell? ⟨w.heap.size,5,none⟩=some .nilFunc:=(uh HB).cell rfl
  have rf:=(uh HB).frozen
  go_wp2
  have hbf:=(((((((uh HB).setCell 0 (.func (.func 121) #[] #[])).setCell 1 (.func (.func 122) #[] #[])).setCell 2 (.func (.func 123) #[] #[])).setCell 3 (.func (.func 124) #[] #[])).setCell 4 (.func (.func 125) #[] #[])).setCell 5 (.func (.func 126) #[] #[]))
  have HKF:=hide ((((((((uh HK).setCell (p:=⟨w.heap.size,0,none⟩) (Or.inr (Nat.le_refl _)) (.func (.func 121) #[] #[])).setCell (p:=⟨w.heap.size,1,none⟩) (Or.inr (Nat.le_refl _)) (.func (.func 122) #[] #[])).setCell (p:=⟨w.heap.size,2,none⟩) (Or.inr (Nat.le_refl _)) (.func (.func 123) #[] #[])).setCell (p:=⟨w.heap.size,3,none⟩) (Or.inr (Nat.le_refl _)) (.func (.func 124) #[] #[])).setCell (p:=⟨w.heap.size,4,none⟩) (Or.inr (Nat.le_refl _)) (.func (.func 125) #[] #[])).setCell (p:=⟨w.heap.size,5,none⟩) (Or.inr (Nat.le_refl _)) (.func (.func 126) #[] #[])))
  generalize((((((w'.setCell ⟨w.heap.size,0,none⟩ (.func (.func 121) #[] #[])).setCell ⟨w.heap.size,1,none⟩ (.func (.func 122) #[] #[])).setCell ⟨w.heap.size,2,none⟩ (.func (.func 123) #[] #[])).setCell ⟨w.heap.size,3,none⟩ (.func (.func 124) #[] #[])).setCell ⟨w.heap.size,4,none⟩ (.func (.func 125) #[] #[])).setCell ⟨w.heap.size,5,none⟩ (.func (.func 126) #[] #[]))=w9 at *
  have q0:w9.cell? ⟨w.heap.size,0,none⟩=some (.func (.func 121) #[] #[]):=hbf.cell rfl
  have q1:w9.cell? ⟨w.heap.size,1,none⟩=some (.func (.func 122) #[] #[]):=hbf.cell rfl
  have q2:w9.cell? ⟨w.heap.size,2,none⟩=some (.func (.func 123) #[] #[]):=hbf.cell rfl
  have q3:w9.cell? ⟨w.heap.size,3,none⟩=some (.func (.func 124) #[] #[]):=hbf.cell rfl
  have q4:w9.cell? ⟨w.heap.size,4,none⟩=some (.func (.func 125) #[] #[]):=hbf.cell rfl
  have q5:w9.cell? ⟨w.heap.size,5,none⟩=some (.func (.func 126) #[] #[]):=hbf.cell rfl
  exact bodyPost_ret (v:=.tuple #[.agg #[.func (.func 121) #[] #[],.func (.func 122) #[] #[],.func (.func 123) #[] #[],.func (.func 124) #[] #[],.func (.func 125) #[] #[],.func (.func 126) #[] #[]],.bool true]) (by simp[results,Tryz.results87,go_sem,q0,q1,q2,q3,q4,q5]) rfl ⟨rfl,uh HKF⟩
 ·have t0:w'.cell? ⟨w.heap.size+1,18,none⟩=some (.func (.func 127) #[] #[]):=(uh HT).cell rfl
  have t1:w'.cell? ⟨w.heap.size+1,19,none⟩=some (.func (.func 128) #[] #[]):=(uh HT).cell rfl
  have t2:w'.cell? ⟨w.heap.size+1,20,none⟩=some (.func (.func 129) #[] #[]):=(uh HT).cell rfl
  have t3:w'.cell? ⟨w.heap.size+1,21,none⟩=some (.func (.func 124) #[] #[]):=(uh HT).cell rfl
  have t4:w'.cell? ⟨w.heap.size+1,22,none⟩=some (.func (.func 125) #[] #[]):=(uh HT).cell rfl
  have t5:w'.cell? ⟨w.heap.size+1,23,none⟩=some (.func (.func 130) #[] #[]):=(uh HT).cell rfl
  have r0:w'.cell? ⟨w.heap.size,0,none⟩=some .nilFunc:=(uh HB).cell rfl
  have r1:w'.cell? ⟨w.heap.size,1,none⟩=some .nilFunc:=(uh HB).cell rfl
  have r2:w'.cell? ⟨w.heap.size,2,none⟩=some .nilFunc:=(uh HB).cell rfl
  have r3:w'.cell? ⟨w.heap.size,3,none⟩=some .nilFunc:=(uh HB).cell rfl
  have r4:w'.cell? ⟨w.heap.size,4,none⟩=some .nilFunc:=(uh HB).cell rfl
  have r5:w'.cell? ⟨w.heap.size,5,none⟩=some .nilFunc:=(uh HB).cell rfl
  have rf:=(uh HB).frozen
  go_wp2
  have hbf:=(((((((uh HB).setCell 0 (.func (.func 127) #[] #[])).setCell 1 (.func (.func 128) #[] #[])).setCell 2 (.func (.func 129) #[] #[])).setCell 3 (.func (.func 124) #[] #[])).setCell 4 (.func (.func 125) #[] #[])).setCell 5 (.func (.func 130) #[] #[]))
  have HKF:=hide ((((((((uh HK).setCell (p:=⟨w.heap.size,0,none⟩) (Or.inr (Nat.le_refl _)) (.func (.func 127) #[] #[])).setCell (p:=⟨w.heap.size,1,none⟩) (Or.inr (Nat.le_refl _)) (.func (.func 128) #[] #[])).setCell (p:=⟨w.heap.size,2,none⟩) (Or.inr (Nat.le_refl _)) (.func (.func 129) #[] #[])).setCell (p:=⟨w.heap.size,3,none⟩) (Or.inr (Nat.le_refl _)) (.func (.func 124) #[] #[])).setCell (p:=⟨w.heap.size,4,none⟩) (Or.inr (Nat.le_refl _)) (.func (.func 125) #[] #[])).setCell (p:=⟨w.heap.size,5,none⟩) (Or.inr (Nat.le_refl _)) (.func (.func 130) #[] #[])))
  generalize((((((w'.setCell ⟨w.heap.size,0,none⟩ (.func (.func 127) #[] #[])).setCell ⟨w.heap.size,1,none⟩ (.func (.func 128) #[] #[])).setCell ⟨w.heap.size,2,none⟩ (.func (.func 129) #[] #[])).setCell ⟨w.heap.size,3,none⟩ (.func (.func 124) #[] #[])).setCell ⟨w.heap.size,4,none⟩ (.func (.func 125) #[] #[])).setCell ⟨w.heap.size,5,none⟩ (.func (.func 130) #[] #[]))=w9 at *
  have q0:w9.cell? ⟨w.heap.size,0,none⟩=some (.func (.func 127) #[] #[]):=hbf.cell rfl
  have q1:w9.cell? ⟨w.heap.size,1,none⟩=some (.func (.func 128) #[] #[]):=hbf.cell rfl
  have q2:w9.cell? ⟨w.heap.size,2,none⟩=some (.func (.func 129) #[] #[]):=hbf.cell rfl
  have q3:w9.cell? ⟨w.heap.size,3,none⟩=some (.func (.func 124) #[] #[]):=hbf.cell rfl
  have q4:w9.cell? ⟨w.heap.size,4,none⟩=some (.func (.func 125) #[] #[]):=hbf.cell rfl
  have q5:w9.cell? ⟨w.heap.size,5,none⟩=some (.func (.func 130) #[] #[]):=hbf.cell rfl
  exact bodyPost_ret (v:=.tuple #[.agg #[.func (.func 127) #[] #[],.func (.func 128) #[] #[],.func (.func 129) #[] #[],.func (.func 124) #[] #[],.func (.func 125) #[] #[],.func (.func 130) #[] #[]],.bool true]) (by simp[results,Tryz.results87,go_sem,q0,q1,q2,q3,q4,q5]) rfl ⟨rfl,uh HKF⟩
 ·have t0:w'.cell? ⟨w.heap.size+1,24,none⟩=some (.func (.func 131) #[] #[]):=(uh HT).cell rfl
  have t1:w'.cell? ⟨w.heap.size+1,25,none⟩=some (.func (.func 132) #[] #[]):=(uh HT).cell rfl
  have t2:w'.cell? ⟨w.heap.size+1,26,none⟩=some (.func (.func 117) #[] #[]):=(uh HT).cell rfl
  have t3:w'.cell? ⟨w.heap.size+1,27,none⟩=some (.func (.func 133) #[] #[]):=(uh HT).cell rfl
  have t4:w'.cell? ⟨w.heap.size+1,28,none⟩=some (.func (.func 119) #[] #[]):=(uh HT).cell rfl
  have t5:w'.cell? ⟨w.heap.size+1,29,none⟩=some (.func (.func 134) #[] #[]):=(uh HT).cell rfl
  have r0:w'.cell? ⟨w.heap.size,0,none⟩=some .nilFunc:=(uh HB).cell rfl
  have r1:w'.cell? ⟨w.heap.size,1,none⟩=some .nilFunc:=(uh HB).cell rfl
  have r2:w'.cell? ⟨w.heap.size,2,none⟩=some .nilFunc:=(uh HB).cell rfl
  have r3:w'.cell? ⟨w.heap.size,3,none⟩=some .nilFunc:=(uh HB).cell rfl
  have r4:w'.cell? ⟨w.heap.size,4,none⟩=some .nilFunc:=(uh HB).cell rfl
  have r5:w'.cell? ⟨w.heap.size,5,none⟩=some .nilFunc:=(uh HB).cell rfl
  have rf:=(uh HB).frozen
  go_wp2
  have hbf:=(((((((uh HB).setCell 0 (.func (.func 131) #[] #[])).setCell 1 (.func (.func 132) #[] #[])).setCell 2 (.func (.func 117) #[] #[])).setCell 3 (.func (.func 133) #[] #[])).setCell 4 (.func (.func 119) #[] #[])).setCell 5 (.func (.func 134) #[] #[]))
  have HKF:=hide ((((((((uh HK).setCell (p:=⟨w.heap.size,0,none⟩) (Or.inr (Nat.le_refl _)) (.func (.func 131) #[] #[])).setCell (p:=⟨w.heap.size,1,none⟩) (Or.inr (Nat.le_refl _)) (.func (.func 132) #[] #[])).setCell (p:=⟨w.heap.size,2,none⟩) (Or.inr (Nat.le_refl _)) (.func (.func 117) #[] #[])).setCell (p:=⟨w.heap.size,3,none⟩) (Or.inr (Nat.le_refl _)) (.func (.func 133) #[] #[])).setCell (p:=⟨w.heap.size,4,none⟩) (Or.inr (Nat.le_refl _)) (.func (.func 119) #[] #[])).setCell (p:=⟨w.heap.size,5,none⟩) (Or.inr (Nat.le_refl _)) (.func (.func 134) #[] #[])))
  generalize((((((w'.setCell ⟨w.heap.size,0,none⟩ (.func (.func 131) #[] #[])).setCell ⟨w.heap.size,1,none⟩ (.func (.func 132) #[] #[])).setCell ⟨w.heap.size,2,none⟩ (.func (.func 117) #[] #[])).setCell ⟨w.heap.size,3,none⟩ (.func (.func 133) #[] #[])).setCell ⟨w.heap.size,4,none⟩ (.func (.func 119) #[] #[])).setCell ⟨w.heap.size,5,none⟩ (.func (.func 134) #[] #[]))=w9 at *
  have q0:w9.cell? ⟨w.heap.size,0,none⟩=some (.func (.func 131) #[] #[]):=hbf.cell rfl
  have q1:w9.cell? ⟨w.heap.size,1,none⟩=some (.func (.func 132) #[] #[]):=hbf.cell rfl
  have q2:w9.cell? ⟨w.heap.size,2,none⟩=some (.func (.func 117) #[] #[]):=hbf.cell rfl
  have q3:w9.cell? ⟨w.heap.size,3,none⟩=some (.func (.func 133) #[] #[]):=hbf.cell rfl
  have q4:w9.cell? ⟨w.heap.size,4,none⟩=some (.func (.func 119) #[] #[]):=hbf.cell rfl
  have q5:w9.cell? ⟨w.heap.size,5,none⟩=some (.func (.func 134) #[] #[]):=hbf.cell rfl
  exact bodyPost_ret (v:=.tuple #[.agg #[.func (.func 131) #[] #[],.func (.func 132) #[] #[],.func (.func 117) #[] #[],.func (.func 133) #[] #[],.func (.func 119) #[] #[],.func (.func 134) #[] #[]],.bool true]) (by simp[results,Tryz.results87,go_sem,q0,q1,q2,q3,q4,q5]) rfl ⟨rfl,uh HKF⟩
 ·have t0:w'.cell? ⟨w.heap.size+1,30,none⟩=some (.func (.func 135) #[] #[]):=(uh HT).cell rfl
  have t1:w'.cell? ⟨w.heap.size+1,31,none⟩=some (.func (.func 136) #[] #[]):=(uh HT).cell rfl
  have t2:w'.cell? ⟨w.heap.size+1,32,none⟩=some (.func (.func 117) #[] #[]):=(uh HT).cell rfl
  have t3:w'.cell? ⟨w.heap.size+1,33,none⟩=some (.func (.func 137) #[] #[]):=(uh HT).cell rfl
  have t4:w'.cell? ⟨w.heap.size+1,34,none⟩=some (.func (.func 138) #[] #[]):=(uh HT).cell rfl
  have t5:w'.cell? ⟨w.heap.size+1,35,none⟩=some (.func (.func 139) #[] #[]):=(uh HT).cell rfl
  have r0:w'.cell? ⟨w.heap.size,0,none⟩=some .nilFunc:=(uh HB).cell rfl
  have r1:w'.cell? ⟨w.heap.size,1,none⟩=some .nilFunc:=(uh HB).cell rfl
  have r2:w'.cell? ⟨w.heap.size,2,none⟩=some .nilFunc:=(uh HB).cell rfl
  have r3:w'.cell? ⟨w.heap.size,3,none⟩=some .nilFunc:=(uh HB).cell rfl
  have r4:w'.cell? ⟨w.heap.size,4,none⟩=some .nilFunc:=(uh HB).cell rfl
  have r5:w'.cell? ⟨w.heap.size,5,none⟩=some .nilFunc:=(uh HB).cell rfl
  have rf:=(uh HB).frozen
  go_wp2
  have hbf:=(((((((uh HB).setCell 0 (.func (.func 135) #[] #[])).setCell 1 (.func (.func 136) #[] #[])).setCell 2 (.func (.func 117) #[] #[])).setCell 3 (.func (.func 137) #[] #[])).setCell 4 (.func (.func 138) #[] #[])).setCell 5 (.func (.func 139) #[] #[]))
  have HKF:=hide ((((((((uh HK).setCell (p:=⟨w.heap.size,0,none⟩) (Or.inr (Nat.le_refl _)) (.func (.func 135) #[] #[])).setCell (p:=⟨w.heap.size,1,none⟩) (Or.inr (Nat.le_refl _)) (.func (.func 136) #[] #[])).setCell (p:=⟨w.heap.size,2,none⟩) (Or.inr (Nat.le_refl _)) (.func (.func 117) #[] #[])).setCell (p:=⟨w.heap.size,3,none⟩) (Or.inr (Nat.le_refl _)) (.func (.func 137) #[] #[])).setCell (p:=⟨w.heap.size,4,none⟩) (Or.inr (Nat.le_refl _)) (.func (.func 138) #[] #[])).setCell (p:=⟨w.heap.size,5,none⟩) (Or.inr (Nat.le_refl _)) (.func (.func 139) #[] #[])))
  generalize((((((w'.setCell ⟨w.heap.size,0,none⟩ (.func (.func 135) #[] #[])).setCell ⟨w.heap.size,1,none⟩ (.func (.func 136) #[] #[])).setCell ⟨w.heap.size,2,none⟩ (.func (.func 117) #[] #[])).setCell ⟨w.heap.size,3,none⟩ (.func (.func 137) #[] #[])).setCell ⟨w.heap.size,4,none⟩ (.func (.func 138) #[] #[])).setCell ⟨w.heap.size,5,none⟩ (.func (.func 139) #[] #[]))=w9 at *
  have q0:w9.cell? ⟨w.heap.size,0,none⟩=some (.func (.func 135) #[] #[]):=hbf.cell rfl
  have q1:w9.cell? ⟨w.heap.size,1,none⟩=some (.func (.func 136) #[] #[]):=hbf.cell rfl
  have q2:w9.cell? ⟨w.heap.size,2,none⟩=some (.func (.func 117) #[] #[]):=hbf.cell rfl
  have q3:w9.cell? ⟨w.heap.size,3,none⟩=some (.func (.func 137) #[] #[]):=hbf.cell rfl
  have q4:w9.cell? ⟨w.heap.size,4,none⟩=some (.func (.func 138) #[] #[]):=hbf.cell rfl
  have q5:w9.cell? ⟨w.heap.size,5,none⟩=some (.func (.func 139) #[] #[]):=hbf.cell rfl
  exact bodyPost_ret (v:=.tuple #[.agg #[.func (.func 135) #[] #[],.func (.func 136) #[] #[],.func (.func 117) #[] #[],.func (.func 137) #[] #[],.func (.func 138) #[] #[],.func (.func 139) #[] #[]],.bool true]) (by simp[results,Tryz.results87,go_sem,q0,q1,q2,q3,q4,q5]) rfl ⟨rfl,uh HKF⟩
end
end Go.Proofs.YtahnliehdjncdaaGreatDoor
