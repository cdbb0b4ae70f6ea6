import Derived.Test.YteecnidnlkjehaaW
import Derived.Deep.MidRow
namespace Go.Proofs.Yteecnidnlkjehaa
open Go.RowKit

theorem Blk.newAt {w : World} {b : Nat} (hs : w.heap.size = b) (cs : List Value) (T : TypeId) : Blk (w.alloc (.cells cs.toArray T)) b cs T := by subst hs; exact Blk.new w cs T

/-! ### Loads and stores of the long structs (Config: 38, 20 cells; Op: 40, 26 cells), without unrolling -/
def loadBig (ty : TypeId) (v : Value) : Sem Next := do pure (.value (← Instr.loadAt ty v))

theorem execOp_load38 (ρ : Operand → Value) (dst : Option Tmp) (x : Operand) (ty : TypeId) (pos : String) (after : Array Edge) (guard : Option (Nat × Bool)) :
    execOp ρ { dst, op := .load 38 x, type := ty, pos, after, guard } = loadBig 38 (ρ x) := rfl
theorem execOp_load40 (ρ : Operand → Value) (dst : Option Tmp) (x : Operand) (ty : TypeId) (pos : String) (after : Array Edge) (guard : Option (Nat × Bool)) :
    execOp ρ { dst, op := .load 40 x, type := ty, pos, after, guard } = loadBig 40 (ρ x) := rfl

def bigCells (w : World) (b o n : Nat) : List Value := (List.range n).map fun j => (w.cell? ⟨b, o + j, none⟩).getD undef
def bigVal (w : World) (b o n : Nat) : Value := .agg (bigCells w b o n).toArray
def hasBig (w : World) (b o n : Nat) : Bool := (List.range n).all fun j => (w.cell? ⟨b, o + j, none⟩).isSome

theorem range_of_has {w : World} {b o n : Nat} (h : hasBig w b o n = true) : w.rangeAt b o (bigCells w b o n) := by
  intro j v hv
  have hj : j < n := by have := (List.getElem?_eq_some_iff.1 hv).1; simpa [bigCells] using this
  have hs : (w.cell? ⟨b, o + j, none⟩).isSome = true := by simp only [hasBig, List.all_eq_true] at h; exact h j (by simpa using hj)
  obtain ⟨u, hu⟩ := Option.isSome_iff_exists.1 hs
  simp [bigCells, hj, hu] at hv
  rw [hu, hv]

theorem size38 : (Try.prog.info? 38).map (·.size) = some 20 := by kernel_rfl
theorem size40 : (Try.prog.info? 40).map (·.size) = some 26 := by kernel_rfl
theorem run_load38 (w : World) (b o : Nat) (h : hasBig w b o 20 = true) : (loadBig 38 (.pointer (some ⟨b, o, none⟩))).run Try.prog w = .ok (.value (bigVal w b o 20)) w := by
  unfold loadBig
  rw [Sem.run_bind, run_loadAt_mid w b o 38 (bigCells w b o 20) _ (range_of_has h) Try.underlying38 rfl (by rw [size38]; simp [bigCells])]
  rfl
theorem run_load40 (w : World) (b o : Nat) (h : hasBig w b o 26 = true) : (loadBig 40 (.pointer (some ⟨b, o, none⟩))).run Try.prog w = .ok (.value (bigVal w b o 26)) w := by
  unfold loadBig
  rw [Sem.run_bind, run_loadAt_mid w b o 40 (bigCells w b o 26) _ (range_of_has h) Try.underlying40 rfl (by rw [size40]; simp [bigCells])]
  rfl

theorem bigCells_of_range {w : World} {b o : Nat} {cs : List Value} (h : w.rangeAt b o cs) : bigCells w b o cs.length = cs ∧ hasBig w b o cs.length = true := by
  constructor
  · apply List.ext_getElem?
    intro j
    by_cases hj : j < cs.length
    · have := h j cs[j] (List.getElem?_eq_getElem hj)
      simp [bigCells, hj, this]
    · simp [bigCells, hj]
  · simp only [hasBig, List.all_eq_true, List.mem_range]
    intro j hj
    rw [h j cs[j] (List.getElem?_eq_getElem hj)]; rfl

theorem bigVal_drew (w : World) (b o n : Nat) : bigVal w.drew b o n = bigVal w b o n := rfl
theorem hasBig_drew (w : World) (b o n : Nat) : hasBig w.drew b o n = hasBig w b o n := rfl
theorem bigVal_drewN (w : World) (b o n k : Nat) : bigVal (w.drewN k) b o n = bigVal w b o n := rfl
theorem hasBig_drewN (w : World) (b o n k : Nat) : hasBig (w.drewN k) b o n = hasBig w b o n := rfl
theorem hasBig_alloc {w : World} {b o n : Nat} (h : hasBig w b o n = true) (O : Obj) : hasBig (w.alloc O) b o n = true := by
  simp only [hasBig, List.all_eq_true] at h ⊢
  intro j hj
  obtain ⟨u, hu⟩ := Option.isSome_iff_exists.1 (h j hj)
  rw [World.cell?_alloc_lt _ _ _ (World.block_lt_of_cell? w _ hu)]; exact h j hj
theorem bigVal_alloc {w : World} {b o n : Nat} (h : hasBig w b o n = true) (O : Obj) : bigVal (w.alloc O) b o n = bigVal w b o n := by
  have hc : bigCells (w.alloc O) b o n = bigCells w b o n := by
    unfold bigCells
    apply List.map_congr_left
    intro j hj
    simp only [hasBig, List.all_eq_true] at h
    obtain ⟨u, hu⟩ := Option.isSome_iff_exists.1 (h j hj)
    rw [World.cell?_alloc_lt _ _ _ (World.block_lt_of_cell? w _ hu)]
  unfold bigVal; rw [hc]
theorem hasBig_far {w : World} {b o n : Nat} {p : Addr} (hp : p.block ≠ b) (v : Value) : hasBig (w.setCell p v) b o n = hasBig w b o n := by
  unfold hasBig
  congr 1; funext j
  rw [World.cell?_setCell_other _ _ _ _ (fun e => hp (by rw [e]))]
theorem bigVal_far {w : World} {b o n : Nat} {p : Addr} (hp : p.block ≠ b) (v : Value) : bigVal (w.setCell p v) b o n = bigVal w b o n := by
  unfold bigVal bigCells
  congr 2
  apply List.map_congr_left
  intro j _
  rw [World.cell?_setCell_other _ _ _ _ (fun e => hp (by rw [e]))]
/-- Out of a new block that is written out. -/
theorem range_new (w : World) (l : List Value) (T : TypeId) : (w.alloc (.cells l.toArray T)).rangeAt w.heap.size 0 l := by
  intro j v hv
  rw [Nat.zero_add, World.cell?_alloc_new]
  simpa using hv
theorem hasBig_new (w : World) (l : List Value) (T : TypeId) (n : Nat) (h : l.length = n) : hasBig (w.alloc (.cells l.toArray T)) w.heap.size 0 n = true := by
  subst h; exact (bigCells_of_range (range_new w l T)).2
theorem bigVal_new (w : World) (l : List Value) (T : TypeId) (n : Nat) (h : l.length = n) : bigVal (w.alloc (.cells l.toArray T)) w.heap.size 0 n = .agg l.toArray := by
  subst h; unfold bigVal; rw [(bigCells_of_range (range_new w l T)).1]
theorem hasBig_newB (w : World) (l : List Value) (T : TypeId) (n : Nat) : hasBig (w.alloc (.cells l.toArray T)) w.heap.size 0 n = decide (n ≤ l.length) := by
  rw [Bool.eq_iff_iff]
  simp only [hasBig, List.all_eq_true, List.mem_range, decide_eq_true_eq, Nat.zero_add, World.cell?_alloc_new]
  constructor
  · intro h
    rcases Nat.lt_or_ge l.length n with hl | hl
    · have := h l.length hl
      simp at this
    · exact hl
  · intro h j hj
    have hj' : j < l.length := by omega
    simp [hj']
theorem hasBig_ne {w : World} {b o n : Nat} (h : b ≠ w.heap.size) (O : Obj) : hasBig (w.alloc O) b o n = hasBig w b o n := by
  unfold hasBig
  congr 1; funext j
  rw [World.cell?_alloc_old _ _ _ h]
theorem bigVal_ne {w : World} {b o n : Nat} (h : b ≠ w.heap.size) (O : Obj) : bigVal (w.alloc O) b o n = bigVal w b o n := by
  unfold bigVal bigCells
  congr 2
  apply List.map_congr_left
  intro j _
  rw [World.cell?_alloc_old _ _ _ h]
theorem bigVal_Blk {w : World} {b : Nat} {l : List Value} {T : TypeId} (h : Blk w b l T) (n : Nat) (hn : l.length = n) : bigVal w b 0 n = .agg l.toArray ∧ hasBig w b 0 n = true := by
  have hr := bigCells_of_range (w := w) (b := b) (o := 0) (cs := l) (fun j v hv => by rw [Nat.zero_add]; exact h.cell hv)
  subst hn
  exact ⟨by unfold bigVal; rw [hr.1], hr.2⟩
theorem bigVal_Blk_part {w : World} {b : Nat} {l : List Value} {T : TypeId} (h : Blk w b l T) (o n : Nat) (cs : List Value) (hcs : (l.drop o).take n = cs) (hn : cs.length = n) : bigVal w b o n = .agg cs.toArray ∧ hasBig w b o n = true := by
  have hr := bigCells_of_range (w := w) (b := b) (o := o) (cs := cs) (fun j v hv => by
    rw [← hcs, List.getElem?_take] at hv
    split at hv
    · exact h.cell (by simpa using hv)
    · cases hv)
  subst hn
  exact ⟨by unfold bigVal; rw [hr.1], hr.2⟩
/-- The Config inside an Op that lies in a new block. -/
theorem range_part (w : World) (l : List Value) (T : TypeId) (o n : Nat) : (w.alloc (.cells l.toArray T)).rangeAt w.heap.size o ((l.drop o).take n) := by
  intro j v hv
  rw [World.cell?_alloc_new]
  rw [List.getElem?_take] at hv
  split at hv
  · simpa using hv
  · cases hv
theorem hasBig_part (w : World) (l : List Value) (T : TypeId) (o n : Nat) (h : o + n ≤ l.length) : hasBig (w.alloc (.cells l.toArray T)) w.heap.size o n = true := by
  have := (bigCells_of_range (range_part w l T o n)).2
  rwa [show ((l.drop o).take n).length = n by simp; omega] at this
theorem bigVal_part (w : World) (l : List Value) (T : TypeId) (o n : Nat) (h : o + n ≤ l.length) : bigVal (w.alloc (.cells l.toArray T)) w.heap.size o n = .agg ((l.drop o).take n).toArray := by
  have := (bigCells_of_range (range_part w l T o n)).1
  rw [show ((l.drop o).take n).length = n by simp; omega] at this
  unfold bigVal; rw [this]

end Go.Proofs.Yteecnidnlkjehaa
