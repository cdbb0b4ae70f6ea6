import Derived.Test.YteecnidnlkjehaaP
import Derived.Test.YteecnidnlkjehaaE12
namespace Go.Proofs.Yteecnidnlkjehaa
open Go.RowKit

def c0 : Cfg := ⟨4, 0, 9, 8, 0, 0, 0, 0, 0, 0, 0, 0, 0, 0, 0, 0, 0, 0, 0, 0⟩
def cz : Cfg := ⟨0, 0, 0, 0, 0, 0, 0, 0, 0, 0, 0, 0, 0, 0, 0, 0, 0, 0, 0, 0⟩
def o1 : OpM := ⟨1, 7, 0, 0, 0, c0, noBytes⟩
def o2 : OpM := ⟨2, 7, 3, 0, 0, cz, noBytes⟩
def o3 : OpM := ⟨3, 0, 5, 0, 0, cz, noBytes⟩
def o4 : OpM := ⟨2, 7, 5, 0, 0, cz, noBytes⟩
def o5 : OpM := ⟨4, 7, 0, 0, 0, cz, noBytes⟩
def five : List OpM := [o1, o2, o3, o4, o5]
def fiveCells : List Value := o1.cells ++ (o2.cells ++ (o3.cells ++ (o4.cells ++ o5.cells)))
theorem five_run : runM ws0 five = [(0, []), (0, [1]), (0, [0]), (6, []), (0, [0, 1, 1])] := by kernel_rfl

theorem run_b38 (w : World) : (buildBig 38 #[(0, .int .i64 4), (2, .int .i64 9), (3, .int .i64 8)]).run Try.prog w = .ok (.value (.agg c0.cells.toArray)) w := by kernel_rfl
theorem run_b1 (w : World) : (buildBig 40 #[(0, .int .i64 1), (1, .int .i64 7), (5, .agg c0.cells.toArray)]).run Try.prog w = .ok (.value (.agg o1.cells.toArray)) w := by kernel_rfl
theorem run_b2 (w : World) : (buildBig 40 #[(0, .int .i64 2), (1, .int .i64 7), (2, .int .i64 3)]).run Try.prog w = .ok (.value (.agg o2.cells.toArray)) w := by kernel_rfl
theorem run_b3 (w : World) : (buildBig 40 #[(0, .int .i64 3), (2, .int .i64 5)]).run Try.prog w = .ok (.value (.agg o3.cells.toArray)) w := by kernel_rfl
theorem run_b4 (w : World) : (buildBig 40 #[(0, .int .i64 2), (1, .int .i64 7), (2, .int .i64 5)]).run Try.prog w = .ok (.value (.agg o4.cells.toArray)) w := by kernel_rfl
theorem run_b5 (w : World) : (buildBig 40 #[(0, .int .i64 4), (1, .int .i64 7)]).run Try.prog w = .ok (.value (.agg o5.cells.toArray)) w := by kernel_rfl
theorem execOp_build38 (ρ : Operand → Value) (dst : Option Tmp) (x : Array (Nat × Operand)) (ty : TypeId) (pos : String) (after : Array Edge) (guard : Option (Nat × Bool)) :
    execOp ρ { dst, op := .build 38 x, type := ty, pos, after, guard } = buildBig 38 (x.map fun (i, y) => (i, ρ y)) := rfl
theorem execOp_build40 (ρ : Operand → Value) (dst : Option Tmp) (x : Array (Nat × Operand)) (ty : TypeId) (pos : String) (after : Array Edge) (guard : Option (Nat × Bool)) :
    execOp ρ { dst, op := .build 40 x, type := ty, pos, after, guard } = buildBig 40 (x.map fun (i, y) => (i, ρ y)) := rfl
def bsBig (ty : TypeId) (n : Nat) (ps : Array (Nat × Value)) : Sem Next := do pure (.value (← Instr.buildSlice ty n ps))
theorem execOp_bs22 (ρ : Operand → Value) (dst : Option Tmp) (n : Nat) (x : Array (Nat × Operand)) (ty : TypeId) (pos : String) (after : Array Edge) (guard : Option (Nat × Bool)) :
    execOp ρ { dst, op := .buildSlice 22 n x, type := ty, pos, after, guard } = bsBig 22 n (x.map fun (i, y) => (i, ρ y)) := rfl
theorem run_bs (w : World) : (bsBig 22 5 #[(0, .agg o1.cells.toArray), (1, .agg o2.cells.toArray), (2, .agg o3.cells.toArray), (3, .agg o4.cells.toArray), (4, .agg o5.cells.toArray)]).run Try.prog w =
    .ok (.value (.slice (some ⟨w.heap.size, 0, none⟩) 5 5)) (w.alloc (.cells fiveCells.toArray 40)) := by kernel_rfl
theorem execOp_store38 (ρ : Operand → Value) (dst : Option Tmp) (x y : Operand) (ty : TypeId) (pos : String) (after : Array Edge) (guard : Option (Nat × Bool)) :
    execOp ρ { dst, op := .store 38 x y, type := ty, pos, after, guard } = storeBig 38 (ρ x) (ρ y) := rfl
theorem run_store38 (w : World) (zs : List Value) (cs : List Value) (hz : zs.length = 20) (hc : cs.length = 20) (h1 : cs.toArray.all (·.oneCell') = true) :
    (storeBig 38 (.pointer (some ⟨w.heap.size, 0, none⟩)) (.agg cs.toArray)).run Try.prog (w.alloc (.cells zs.toArray 38)) = .ok .skip (w.alloc (.cells cs.toArray 38)) := by
  unfold storeBig
  have ht : (w.alloc (.cells zs.toArray 38)).there w.heap.size 0 cs.toArray.size := by
    intro j hj
    have hj' : j < 20 := by simpa [hc] using hj
    rw [Nat.zero_add, World.cell?_alloc_new, World.frozen?_alloc_new]
    simp [hz, hj']
  rw [Sem.run_bind, run_storeAt_mid _ w.heap.size 0 38 cs.toArray ht (by rw [size38]; simp [hc]) h1]
  have h2 := setFrom_all cs [] zs (by omega)
  simp only [List.nil_append, List.length_nil] at h2
  rw [setCells_new, List.toList_toArray, h2]
  rfl
theorem five_at (w : World) (b : Nat) (h : Blk w b fiveCells 40) : ScriptAt w b 0 five := by
  intro i o ho
  have hi : i < 5 := (List.getElem?_eq_some_iff.1 ho).1
  have hi' : i = 0 ∨ i = 1 ∨ i = 2 ∨ i = 3 ∨ i = 4 := by omega
  have hr : ∀ (off : Nat) (cs : List Value), (fiveCells.drop off).take 26 = cs → w.rangeAt b off cs := by
    intro off cs hcs j v hv
    rw [← hcs, List.getElem?_take] at hv
    split at hv
    · exact h.cell (by simpa using hv)
    · cases hv
  rcases hi' with h' | h' | h' | h' | h'
  all_goals
    subst h'
    injection ho with ho
    subst ho
  · exact hr 0 _ rfl
  · exact hr 26 _ rfl
  · exact hr 52 _ rfl
  · exact hr 78 _ rfl
  · exact hr 104 _ rfl

end Go.Proofs.Yteecnidnlkjehaa
