import Derived.Test.YtjhaihbjhikhlaaGreatXP
import Derived.Test.YtjhaihbjhikhlaaGreatRows
import Derived.ProofKit
import Derived.SizedLaws
import Derived.Deep.Slices
import Derived.OpenShut
namespace Go.Proofs.YtjhaihbjhikhlaaGreat
open Go.ChangeShapes Go.WideShapes Go.ChangeAt Go.RowKit Go.Deep

/-- A step out of its numbers, by their places. -/
def opOf (V : Nat → Int) (b : ByteArray) : OpM := ⟨V 0, V 1, V 2, V 3, V 4, ⟨V 5, V 6, V 7, V 8, V 9, V 10, V 11, V 12, V 13, V 14, V 15, V 16, V 17, V 18, V 19, V 20, V 21, V 22, V 23, V 24⟩, b⟩
theorem opOf_cells (V : Nat → Int) (b : ByteArray) : (opOf V b).cells = (List.range 25).map (fun j => .int .i64 (V j)) ++ [.string b] := rfl

theorem cells3 : Tryz.prog.cellsOf 3 = 1 := by kernel_rfl
theorem cells9 : Tryz.prog.cellsOf 9 = 1 := by kernel_rfl
theorem cells35 : Tryz.prog.cellsOf 30 = 2 := by kernel_rfl
theorem cells36 : Tryz.prog.cellsOf 31 = 6 := by kernel_rfl
theorem cells38 : Tryz.prog.cellsOf 33 = 20 := by kernel_rfl
theorem cells40 : Tryz.prog.cellsOf 35 = 26 := by kernel_rfl
theorem bytes40 : Tryz.prog.bytesOf 35 = 216 := by kernel_rfl

section
variable {H : Type} {enc : TypeId × Value → H} {w : World} {base : Nat} {spare : Nat → Bool} {held : Bool}

def IntAt (cs : List Value) (i : Nat) : Prop := ∃ n, cs[i]? = some (.int .i64 n) ∧ (Lit.int .i64 n).wf = true

theorem sub_at {cs : List Value} {off n i : Nat} {v : Value} (h : ((cs.drop off).take n)[i]? = some v) : cs[off + i]? = some v := by
  rw [List.getElem?_take] at h
  split at h
  · rw [List.getElem?_drop] at h; exact h
  · cases h
theorem IntAt.sub {cs : List Value} {off n i : Nat} (h : IntAt ((cs.drop off).take n) i) : IntAt cs (off + i) := by
  obtain ⟨k, h1, h2⟩ := h
  exact ⟨k, sub_at h1, h2⟩

theorem int_at {m : Nat} {cs : List Value} {x : DataW H × List MemPlace} (h : DataW.trod enc Tryz.prog w base spare held m 3 cs = some x) : IntAt cs 0 := by
  obtain ⟨n, rfl, _, hw⟩ := DataW.trod_int Tryz.underlying3 h
  exact ⟨n, rfl, hw⟩

theorem some_at {α : Type} {xs : List α} {n i : Nat} (h : xs.length = n) (hi : i < n) : ∃ x, xs[i]? = some x := ⟨xs[i], List.getElem?_eq_getElem (by omega)⟩

/-- [2]int -/
theorem arr2_at {m : Nat} {cs : List Value} {x : DataW H × List MemPlace} (h : DataW.trod enc Tryz.prog w base spare held m 30 cs = some x) (i : Nat) (hi : i < 2) : IntAt cs i := by
  obtain ⟨xs, k, _, _, _, hl, hx⟩ := DataW.trod_array Tryz.underlying30 h
  obtain ⟨y, hy⟩ := some_at hl hi
  have h1 := hx i hi
  rw [hy, cells3, Nat.mul_one] at h1
  have := (int_at h1).sub
  simpa using this
/-- [3][2]int -/
theorem arr6_at {m : Nat} {cs : List Value} {x : DataW H × List MemPlace} (h : DataW.trod enc Tryz.prog w base spare held m 31 cs = some x) (i : Nat) (hi : i < 6) : IntAt cs i := by
  obtain ⟨xs, k, _, _, _, hl, hx⟩ := DataW.trod_array Tryz.underlying31 h
  have hq : i / 2 < 3 := by omega
  obtain ⟨y, hy⟩ := some_at hl hq
  have h1 := hx (i / 2) hq
  rw [hy, cells35] at h1
  have := (arr2_at h1 (i % 2) (by omega)).sub
  rwa [show i / 2 * 2 + i % 2 = i by omega] at this
/-- api.Config -/
theorem cfg_at {m : Nat} {cs : List Value} {x : DataW H × List MemPlace} (h : DataW.trod enc Tryz.prog w base spare held m 33 cs = some x) (i : Nat) (hi : i < 20) : IntAt cs i := by
  obtain ⟨xs, k, _, _, _, hl, hx⟩ := DataW.trod_struct Tryz.underlying33 h
  have hl15 : xs.length = 15 := hl
  have one : ∀ (j : Nat) (f : Field), (Option.map (fun f : Field => (f.type, f.offset)) (some f)) = some (3, j) → j < 14 → DataW.trod enc Tryz.prog w base spare held k f.type ((cs.drop f.offset).take (Tryz.prog.cellsOf f.type)) = xs[j]? → IntAt cs j := by
    intro j f hf hj h1
    obtain ⟨y, hy⟩ := some_at hl15 (show j < 15 by omega)
    simp only [Option.map_some, Option.some.injEq, Prod.mk.injEq] at hf
    rw [hf.1, hf.2, hy] at h1
    have := (int_at h1).sub
    simpa using this
  by_cases h14 : i < 14
  · have hc : i = 0 ∨ i = 1 ∨ i = 2 ∨ i = 3 ∨ i = 4 ∨ i = 5 ∨ i = 6 ∨ i = 7 ∨ i = 8 ∨ i = 9 ∨ i = 10 ∨ i = 11 ∨ i = 12 ∨ i = 13 := by omega
    rcases hc with rfl | rfl | rfl | rfl | rfl | rfl | rfl | rfl | rfl | rfl | rfl | rfl | rfl | rfl <;> exact one _ _ rfl h14 (hx _ _ rfl)
  · obtain ⟨y, hy⟩ := some_at hl15 (show 14 < 15 by omega)
    have h1 : DataW.trod enc Tryz.prog w base spare held k 31 ((cs.drop 14).take (Tryz.prog.cellsOf 31)) = xs[14]? := hx 14 _ rfl
    rw [hy] at h1
    have := (arr6_at h1 (i - 14) (by omega)).sub
    rwa [show 14 + (i - 14) = i by omega] at this
/-- api.Op: its cells are a step's. -/
theorem op_open {m : Nat} {cs : List Value} {x : DataW H × List MemPlace} (h : DataW.trod enc Tryz.prog w base spare held m 35 cs = some x) :
    ∃ (V : Nat → Int) (b : ByteArray), cs = (opOf V b).cells ∧ ∀ i, i < 25 → (Lit.int .i64 (V i)).wf = true := by
  obtain ⟨xs, k, _, _, hlen, hl, hx⟩ := DataW.trod_struct Tryz.underlying35 h
  rw [cells40] at hlen
  have hl7 : xs.length = 7 := hl
  have one : ∀ (j : Nat) (f : Field), (Option.map (fun f : Field => (f.type, f.offset)) (some f)) = some (3, j) → j < 5 → DataW.trod enc Tryz.prog w base spare held k f.type ((cs.drop f.offset).take (Tryz.prog.cellsOf f.type)) = xs[j]? → IntAt cs j := by
    intro j f hf hj h1
    obtain ⟨y, hy⟩ := some_at hl7 (show j < 7 by omega)
    simp only [Option.map_some, Option.some.injEq, Prod.mk.injEq] at hf
    rw [hf.1, hf.2, hy] at h1
    have := (int_at h1).sub
    simpa using this
  have hints : ∀ i, i < 25 → IntAt cs i := by
    intro i hi
    by_cases h5 : i < 5
    · have hc : i = 0 ∨ i = 1 ∨ i = 2 ∨ i = 3 ∨ i = 4 := by omega
      rcases hc with rfl | rfl | rfl | rfl | rfl <;> exact one _ _ rfl h5 (hx _ _ rfl)
    · obtain ⟨y, hy⟩ := some_at hl7 (show 5 < 7 by omega)
      have h1 : DataW.trod enc Tryz.prog w base spare held k 33 ((cs.drop 5).take (Tryz.prog.cellsOf 33)) = xs[5]? := hx 5 _ rfl
      rw [hy] at h1
      have := (cfg_at h1 (i - 5) (by omega)).sub
      rwa [show 5 + (i - 5) = i by omega] at this
  obtain ⟨V, hV⟩ := choose_lt (α := Int) hints
  obtain ⟨y, hy⟩ := some_at hl7 (show 6 < 7 by omega)
  have h1 : DataW.trod enc Tryz.prog w base spare held k 9 ((cs.drop 25).take (Tryz.prog.cellsOf 9)) = xs[6]? := hx 6 _ rfl
  rw [hy] at h1
  obtain ⟨b, hb, _, _⟩ := DataW.trod_string Tryz.underlying9 h1
  have hb' : cs[25]? = some (.string b) := sub_at (off := 25) (i := 0) (by rw [hb]; rfl)
  refine ⟨V, b, ?_, fun i hi => (hV i hi).2⟩
  rw [opOf_cells]
  apply List.ext_getElem?
  intro j
  by_cases hj : j < 25
  · rw [(hV j hj).1, List.getElem?_append_left (by simpa using hj)]
    simp [hj]
  · by_cases hj2 : j = 25
    · subst hj2; rw [hb']; rfl
    · rw [List.getElem?_eq_none (by omega), List.getElem?_eq_none (by simp; omega)]
end

end Go.Proofs.YtjhaihbjhikhlaaGreat

namespace Go.Proofs.YtjhaihbjhikhlaaGreat
open Go.ChangeShapes Go.WideShapes Go.ChangeAt Go.RowKit Go.Deep

theorem Tryz.own : ownKnob Tryz.prog.godebug = none := by kernel_rfl
theorem Tryz.laidOut : laidOutB Tryz.prog = true := by kernel_rfl

theorem Keeps.below {w w' : World} (h : Keeps (fun _ => False) w w') : Below w.heap.size w w' := ⟨h.os, h.tape, h.output, h.size, fun k hk => h.block k hk (fun h => h)⟩
theorem i64_of_wf {x : Int} (h : (Lit.int .i64 x).wf = true) : -9223372036854775808 ≤ x ∧ x ≤ 9223372036854775807 := by
  simp [Lit.wf, IntKind.min, IntKind.max, IntKind.signed, IntKind.bits] at h
  omega

end Go.Proofs.YtjhaihbjhikhlaaGreat
