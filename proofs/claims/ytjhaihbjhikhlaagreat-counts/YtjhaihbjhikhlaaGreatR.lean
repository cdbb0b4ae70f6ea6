import Derived.Test.YtjhaihbjhikhlaaGreatN
namespace Go.Proofs.YtjhaihbjhikhlaaGreat
open Go.RowKit

/-! ### A store of a whole step into a new variable, without unrolling -/
def storeBig (ty : TypeId) (a x : Value) : Sem Next := do Instr.storeAt ty a x; pure .skip
theorem execOp_store40 (ρ : Operand → Value) (dst : Option Tmp) (x y : Operand) (ty : TypeId) (pos : String) (after : Array Edge) (guard : Option (Nat × Bool)) :
    execOp ρ { dst, op := .store 35 x y, type := ty, pos, after, guard } = storeBig 35 (ρ x) (ρ y) := rfl

def setFrom (arr : Array Value) (o : Nat) : List Value → Array Value
  | [] => arr
  | c :: r => setFrom (arr.setIfInBounds o c) (o + 1) r
theorem setCells_new (w : World) (T : TypeId) : ∀ (cs : List Value) (o : Nat) (arr : Array Value), (w.alloc (.cells arr T)).setCells w.heap.size o cs = w.alloc (.cells (setFrom arr o cs) T)
  | [], _, _ => rfl
  | c :: r, o, arr => by
    unfold World.setCells setFrom
    rw [World.setCell_alloc_at _ _ _ _ _ rfl]
    exact setCells_new w T r (o + 1) (arr.setIfInBounds o c)
theorem setFrom_all : ∀ (cs : List Value) (pre : List Value) (rest : List Value), rest.length = cs.length → setFrom (pre ++ rest).toArray pre.length cs = (pre ++ cs).toArray
  | [], pre, rest, h => by
    have : rest = [] := List.length_eq_zero_iff.1 h
    subst this; rfl
  | c :: r, pre, rest, h => by
    cases rest with
    | nil => simp at h
    | cons d q =>
      unfold setFrom
      have h1 : ((pre ++ d :: q).toArray.setIfInBounds pre.length c) = ((pre ++ [c]) ++ q).toArray := by simp
      rw [h1]
      have := setFrom_all r (pre ++ [c]) q (by simpa using h)
      rw [List.length_append] at this
      simpa using this
theorem run_store40 (w : World) (zs : List Value) (cs : List Value) (hz : zs.length = 26) (hc : cs.length = 26) (h1 : cs.toArray.all (·.oneCell') = true) :
    (storeBig 35 (.pointer (some ⟨w.heap.size, 0, none⟩)) (.agg cs.toArray)).run Tryz.prog (w.alloc (.cells zs.toArray 35)) = .ok .skip (w.alloc (.cells cs.toArray 35)) := by
  unfold storeBig
  have ht : (w.alloc (.cells zs.toArray 35)).there w.heap.size 0 cs.toArray.size := by
    intro j hj
    have hj' : j < 26 := by simpa [hc] using hj
    rw [Nat.zero_add, World.cell?_alloc_new, World.frozen?_alloc_new]
    simp [hz, hj']
  rw [Sem.run_bind, run_storeAt_mid _ w.heap.size 0 35 cs.toArray ht (by rw [size40]; simp [hc]) h1]
  have h2 := setFrom_all cs [] zs (by omega)
  simp only [List.nil_append, List.length_nil] at h2
  rw [setCells_new, List.toList_toArray, h2]
  rfl

end Go.Proofs.YtjhaihbjhikhlaaGreat
