import Derived.Test.YteecnidnlkjehaaA
import Derived.BigQuiet
namespace Go.Proofs.Yteecnidnlkjehaa
open Go.RowKit

/-- The blocks that were there stay as they were, but for those in M. -/
structure Keeps (M : Nat → Prop) (w w' : World) : Prop where
  os : w'.os = w.os
  tape : w'.tape = w.tape
  output : w'.output = w.output
  size : w.heap.size ≤ w'.heap.size
  block : ∀ k, k < w.heap.size → ¬ M k → w'.heap[k]? = w.heap[k]?

theorem Keeps.refl (M : Nat → Prop) (w : World) : Keeps M w w := ⟨rfl, rfl, rfl, Nat.le_refl _, fun _ _ _ => rfl⟩
theorem Keeps.trans {M M' : Nat → Prop} {a b c : World} (h : Keeps M a b) (k : Keeps M' b c) (hm : ∀ i, M' i → i < a.heap.size → M i) : Keeps M a c :=
  ⟨k.os.trans h.os, k.tape.trans h.tape, k.output.trans h.output, Nat.le_trans h.size k.size,
   fun i hi hn => (k.block i (Nat.lt_of_lt_of_le hi h.size) (fun hM => hn (hm i hM hi))).trans (h.block i hi hn)⟩
theorem Keeps.then {M : Nat → Prop} {a b c : World} (h : Keeps M a b) (k : Keeps M b c) : Keeps M a c := h.trans k (fun _ hM _ => hM)
theorem Keeps.mono {M M' : Nat → Prop} {a b : World} (h : Keeps M a b) (hm : ∀ i, i < a.heap.size → M i → M' i) : Keeps M' a b :=
  ⟨h.os, h.tape, h.output, h.size, fun i hi hn => h.block i hi (fun hM => hn (hm i hi hM))⟩
theorem Keeps.drew {M : Nat → Prop} {a w : World} (h : Keeps M a w) : Keeps M a w.drew := ⟨h.os, h.tape, h.output, h.size, h.block⟩
theorem Keeps.drewN (M : Nat → Prop) (w : World) (n : Nat) : Keeps M w (w.drewN n) := ⟨rfl, rfl, rfl, Nat.le_refl _, fun _ _ _ => rfl⟩
theorem Keeps.alloc {M : Nat → Prop} {a w : World} (h : Keeps M a w) (o : Obj) : Keeps M a (w.alloc o) :=
  h.trans (M' := fun _ => False) ⟨rfl, rfl, rfl, by simp, fun k hk _ => Below.heap_alloc _ _ _ hk⟩ (fun _ hf _ => hf.elim)
theorem Keeps.setCell {M : Nat → Prop} {a w : World} (h : Keeps M a w) {p : Addr} (hp : M p.block ∨ a.heap.size ≤ p.block) (v : Value) : Keeps M a (w.setCell p v) :=
  h.trans (M' := fun k => k = p.block) ⟨rfl, rfl, rfl, by simp, fun k _ hk => Below.heap_setCell _ _ _ _ hk⟩ (fun i hi hlt => by subst hi; rcases hp with hp | hp; exact hp; omega)
theorem Keeps.grown {M : Nat → Prop} {a w w' : World} {row : Option Nat} (h : Keeps M a w) (hg : w.grownBy w' row) (hr : ∀ k, row = some k → M k ∨ a.heap.size ≤ k) : Keeps M a w' :=
  h.trans (M' := fun k => row = some k) ⟨hg.os, hg.tape, hg.output, hg.size, fun k hk hn => hg.block k hk (fun e => hn e.symm)⟩
    (fun i hi hlt => by rcases hr i hi with h | h; exact h; omega)
theorem Keeps.of_below {w w' : World} (h : Below w.heap.size w w') : Keeps (fun _ => False) w w' := ⟨h.os, h.tape, h.output, h.size, fun k hk _ => h.block k hk⟩
theorem Keeps.cell {M : Nat → Prop} {w w' : World} (h : Keeps M w w') {p : Addr} {v : Value} (hc : w.cell? p = some v) (hn : ¬ M p.block) : w'.cell? p = some v :=
  (World.cell?_of_block (h.block p.block (World.block_lt_of_cell? w p hc) hn)).trans hc
theorem Keeps.frozen {M : Nat → Prop} {w w' : World} (h : Keeps M w w') {p : Addr} (hlt : p.block < w.heap.size) (hn : ¬ M p.block) : w'.frozen? p = w.frozen? p :=
  World.frozen?_of_block (h.block p.block hlt hn)

/-- Block b holds just these cells; none is frozen. -/
def Blk (w : World) (b : Nat) (cs : List Value) (T : TypeId) : Prop := w.heap[b]? = some (.cells cs.toArray T (0, 0))

theorem Blk.lt {w : World} {b : Nat} {cs : List Value} {T : TypeId} (h : Blk w b cs T) : b < w.heap.size := (Array.getElem?_eq_some_iff.1 h).1
theorem Blk.cell {w : World} {b : Nat} {cs : List Value} {T : TypeId} (h : Blk w b cs T) {i : Nat} {v : Value} (hi : cs[i]? = some v) : w.cell? ⟨b, i, none⟩ = some v := by
  unfold Blk at h; simp [World.cell?, h, hi]
theorem Blk.frozen {w : World} {b : Nat} {cs : List Value} {T : TypeId} (h : Blk w b cs T) (i : Nat) : w.frozen? ⟨b, i, none⟩ = false := by
  unfold Blk at h; simp [World.frozen?, h]
theorem Blk.keeps {M : Nat → Prop} {w w' : World} {b : Nat} {cs : List Value} {T : TypeId} (h : Blk w b cs T) (k : Keeps M w w') (hn : ¬ M b) : Blk w' b cs T := by
  unfold Blk at h ⊢; rw [k.block b (Blk.lt h) hn]; exact h
theorem Blk.setCell {w : World} {b : Nat} {cs : List Value} {T : TypeId} (h : Blk w b cs T) (i : Nat) (v : Value) : Blk (w.setCell ⟨b, i, none⟩ v) b (cs.set i v) T := by
  unfold Blk at h ⊢; simp [World.setCell, Array.getElem?_modify, h]
theorem Blk.setCell_far {w : World} {b : Nat} {cs : List Value} {T : TypeId} (h : Blk w b cs T) {p : Addr} (hp : p.block ≠ b) (v : Value) : Blk (w.setCell p v) b cs T := by
  unfold Blk at h ⊢; rw [Below.heap_setCell _ _ _ _ (Ne.symm hp)]; exact h
theorem Blk.drew {w : World} {b : Nat} {cs : List Value} {T : TypeId} (h : Blk w b cs T) : Blk w.drew b cs T := h
theorem Blk.alloc {w : World} {b : Nat} {cs : List Value} {T : TypeId} (h : Blk w b cs T) (o : Obj) : Blk (w.alloc o) b cs T := by
  unfold Blk at h ⊢; rw [Below.heap_alloc _ _ _ (Blk.lt h)]; exact h
theorem Blk.new (w : World) (cs : List Value) (T : TypeId) : Blk (w.alloc (.cells cs.toArray T)) w.heap.size cs T := heap_alloc_new w _

/-! ### a row of items -/
def itAt (l : List It) (i : Nat) : It := l.getD i ⟨0, 0, 0, 0⟩
def flat : List It → List Value
  | [] => []
  | x :: l => .int .i64 x.t :: .int .i64 x.k :: .int .i64 x.d :: .int .i64 x.n :: flat l

theorem flat_length (l : List It) : (flat l).length = l.length * 4 := by
  induction l with
  | nil => rfl
  | cons x l ih => simp [flat, ih]; omega
theorem flat_append (a b : List It) : flat (a ++ b) = flat a ++ flat b := by
  induction a with
  | nil => rfl
  | cons x l ih => simp [flat, ih]
theorem flat_get (l : List It) (i : Nat) (h : i < l.length) : (flat l)[i * 4]? = some (.int .i64 (itAt l i).t) ∧ (flat l)[i * 4 + 1]? = some (.int .i64 (itAt l i).k) ∧ (flat l)[i * 4 + 2]? = some (.int .i64 (itAt l i).d) ∧ (flat l)[i * 4 + 3]? = some (.int .i64 (itAt l i).n) := by
  induction l generalizing i with
  | nil => simp at h
  | cons x l ih =>
    cases i with
    | zero => simp [flat, itAt]
    | succ i =>
      have := ih i (by simpa using h)
      rw [show (i + 1) * 4 = i * 4 + 4 by omega]
      simpa [flat, itAt] using this
theorem flat_set (l : List It) (i : Nat) (x : It) : flat (l.set i x) = ((((flat l).set (i * 4) (.int .i64 x.t)).set (i * 4 + 1) (.int .i64 x.k)).set (i * 4 + 2) (.int .i64 x.d)).set (i * 4 + 3) (.int .i64 x.n) := by
  induction l generalizing i with
  | nil => simp [flat]
  | cons y l ih =>
    cases i with
    | zero => simp [flat]
    | succ i => rw [show (i + 1) * 4 = i * 4 + 4 by omega]; simp [flat, ih]

/-- In block g there is room for cap items; the first ones are these. -/
structure IRow (w : World) (g cap : Nat) (l : List It) : Prop where
  ex : ∃ cur : List Value, Blk w g cur 72 ∧ cur.length = cap * 4 ∧ cur.take (l.length * 4) = flat l
  le : l.length ≤ cap
  max : cap ≤ maxLen

theorem IRow.lt {w : World} {g cap : Nat} {l : List It} (h : IRow w g cap l) : g < w.heap.size := by obtain ⟨cur, hb, _⟩ := h.ex; exact hb.lt
theorem IRow.frozen {w : World} {g cap : Nat} {l : List It} (h : IRow w g cap l) (o : Nat) : w.frozen? ⟨g, o, none⟩ = false := by obtain ⟨cur, hb, _⟩ := h.ex; exact hb.frozen o
theorem IRow.cells {w : World} {g cap : Nat} {l : List It} (h : IRow w g cap l) (i : Nat) (hi : i < l.length) :
    w.cell? ⟨g, i * 4, none⟩ = some (.int .i64 (itAt l i).t) ∧ w.cell? ⟨g, i * 4 + 1, none⟩ = some (.int .i64 (itAt l i).k) ∧ w.cell? ⟨g, i * 4 + 2, none⟩ = some (.int .i64 (itAt l i).d) ∧ w.cell? ⟨g, i * 4 + 3, none⟩ = some (.int .i64 (itAt l i).n) := by
  obtain ⟨cur, hb, hl, ht⟩ := h.ex
  have hg : ∀ k, k < l.length * 4 → cur[k]? = (flat l)[k]? := fun k hk => by rw [← ht, List.getElem?_take, if_pos hk]
  obtain ⟨a, b, c, d⟩ := flat_get l i hi
  exact ⟨hb.cell (by rw [hg _ (by omega)]; exact a), hb.cell (by rw [hg _ (by omega)]; exact b), hb.cell (by rw [hg _ (by omega)]; exact c), hb.cell (by rw [hg _ (by omega)]; exact d)⟩
theorem IRow.keeps {M : Nat → Prop} {w w' : World} {g cap : Nat} {l : List It} (h : IRow w g cap l) (k : Keeps M w w') (hn : ¬ M g) : IRow w' g cap l := by
  obtain ⟨cur, hb, r⟩ := h.ex; exact ⟨⟨cur, hb.keeps k hn, r⟩, h.le, h.max⟩
theorem IRow.drew {w : World} {g cap : Nat} {l : List It} (h : IRow w g cap l) : IRow w.drew g cap l := by
  obtain ⟨cur, hb, r⟩ := h.ex; exact ⟨⟨cur, hb.drew, r⟩, h.le, h.max⟩

def putIt (w : World) (g i : Nat) (x : It) : World :=
  (((w.setCell ⟨g, i * 4, none⟩ (.int .i64 x.t)).setCell ⟨g, i * 4 + 1, none⟩ (.int .i64 x.k)).setCell ⟨g, i * 4 + 2, none⟩ (.int .i64 x.d)).setCell ⟨g, i * 4 + 3, none⟩ (.int .i64 x.n)
theorem IRow.put {w : World} {g cap : Nat} {l : List It} (h : IRow w g cap l) (i : Nat) (x : It) : IRow (putIt w g i x) g cap (l.set i x) := by
  obtain ⟨cur, hb, hl, ht⟩ := h.ex
  refine ⟨⟨_, (((hb.setCell _ _).setCell _ _).setCell _ _).setCell _ _, by simp [hl], ?_⟩, by simpa using h.le, h.max⟩
  rw [flat_set, ← ht, List.length_set]
  simp only [List.take_set]
theorem Keeps.putIt {M : Nat → Prop} {a w : World} (h : Keeps M a w) {g : Nat} (hp : M g ∨ a.heap.size ≤ g) (i : Nat) (x : It) : Keeps M a (putIt w g i x) :=
  (((h.setCell hp _).setCell hp _).setCell hp _).setCell hp _

end Go.Proofs.Yteecnidnlkjehaa
