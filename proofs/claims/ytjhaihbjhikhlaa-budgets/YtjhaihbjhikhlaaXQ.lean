import Derived.Test.YtjhaihbjhikhlaaXP
import Derived.Test.YtjhaihbjhikhlaaRows
import Derived.ProofKit
import Derived.SizedLaws
import Derived.Deep.Slices
import Derived.OpenShut
namespace Go.Proofs.Ytjhaihbjhikhlaa
open Go.ChangeShapes Go.WideShapes Go.ChangeAt Go.RowKit Go.Deep

/-- A step out of its numbers, by their places. -/
def opOf (V : Nat → Int) (b : ByteArray) : OpM := ⟨V 0, V 1, V 2, V 3, V 4, ⟨V 5, V 6, V 7, V 8, V 9, V 10, V 11, V 12, V 13, V 14, V 15, V 16, V 17, V 18, V 19, V 20, V 21, V 22, V 23, V 24⟩, b⟩
theorem opOf_cells (V : Nat → Int) (b : ByteArray) : (opOf V b).cells = (List.range 25).map (fun j => .int .i64 (V j)) ++ [.string b] := rfl

theorem cells3 : Try.prog.cellsOf 3 = 1 := by kernel_rfl
theorem cells9 : Try.prog.cellsOf 9 = 1 := by kernel_rfl
theorem cells35 : Try.prog.cellsOf 33 = 2 := by kernel_rfl
theorem cells36 : Try.prog.cellsOf 34 = 6 := by kernel_rfl
theorem cells38 : Try.prog.cellsOf 36 = 20 := by kernel_rfl
theorem cells40 : Try.prog.cellsOf 38 = 26 := by kernel_rfl
theorem bytes40 : Try.prog.bytesOf 38 = 216 := by kernel_rfl

section
variable {H : Type} {enc : TypeId × Value → H} {w : World} {base : Nat} {spare : Nat → Bool} {held : Bool}

def IntAt (cs : List Value) (i : Nat) : Prop := ∃ n, cs[i]? = some (.int .i64 n) ∧ (Lit.int .i64 n).wf = true

theorem sub_at {cs : List Value} {off n i : Nat} {v : Value} (h : ((cs.drop off).take n)[i]? = some v) : cs[off + i]? = some v := by
  rw [List.getElem?_take] at h
  split at h
  · rw [List.getElem?_drop] at h; exact h
  · cases h
theorem IntAt.sub {cs : List Value} {off n i : Nat} (h : IntAt ((cs.drop off).take n) i) : IntAt cs (off + i) := by
  obtain ⟨k, h1, h2⟩ := h
  exact ⟨k, sub_at h1, h2⟩

theorem int_at {m : Nat} {cs : List Value} {x : DataW H × List MemPlace} (h : DataW.trod enc Try.prog w base spare held m 3 cs = some x) : IntAt cs 0 := by
  obtain ⟨n, rfl, _, hw⟩ := DataW.trod_int Try.underlying3 h
  exact ⟨n, rfl, hw⟩

theorem some_at {α : Type} {xs : List α} {n i : Nat} (h : xs.length = n) (hi : i < n) : ∃ x, xs[i]? = some x := ⟨xs[i], List.getElem?_eq_getElem (by omega)⟩

/-- [2]int -/
theorem arr2_at {m : Nat} {cs : List Value} {x : DataW H × List MemPlace} (h : DataW.trod enc Try.prog w base spare held m 33 cs = some x) (i : Nat) (hi : i < 2) : IntAt cs i := by
  obtain ⟨xs, k, _, _, _, hl, hx⟩ := DataW.trod_array Try.underlying33 h
  obtain ⟨y, hy⟩ := some_at hl hi
  have h1 := hx i hi
  rw [hy, cells3, Nat.mul_one] at h1
  have := (int_at h1).sub
  simpa using this
/-- [3][2]int -/
theorem arr6_at {m : Nat} {cs : List Value} {x : DataW H × List MemPlace} (h : DataW.trod enc Try.prog w base spare held m 34 cs = some x) (i : Nat) (hi : i < 6) : IntAt cs i := by
  obtain ⟨xs, k, _, _, _, hl, hx⟩ := DataW.trod_array Try.underlying34 h
  have hq : i / 2 < 3 := by omega
  obtain ⟨y, hy⟩ := some_at hl hq
  have h1 := hx (i / 2) hq
  rw [hy, cells35] at h1
  have := (arr2_at h1 (i % 2) (by omega)).sub
  rwa [show i / 2 * 2 + i % 2 = i by omega] at this
/-- api.Config -/
theorem cfg_at {m : Nat} {cs : List Value} {x : DataW H × List MemPlace} (h : DataW.trod enc Try.prog w base spare held m 36 cs = some x) (i : Nat) (hi : i < 20) : IntAt cs i := by
  obtain ⟨xs, k, _, _, _, hl, hx⟩ := DataW.trod_struct Try.underlying36 h
  have hl15 : xs.length = 15 := hl
  have one : ∀ (j : Nat) (f : Field), (Option.map (fun f : Field => (f.type, f.offset)) (some f)) = some (3, j) → j < 14 → DataW.trod enc Try.prog w base spare held k f.type ((cs.drop f.offset).take (Try.prog.cellsOf f.type)) = xs[j]? → IntAt cs j := by
    intro j f hf hj h1
    obtain ⟨y, hy⟩ := some_at hl15 (show j < 15 by omega)
    simp only [Option.map_some, Option.some.injEq, Prod.mk.injEq] at hf
    rw [hf.1, hf.2, hy] at h1
    have := (int_at h1).sub
    simpa using this
  by_cases h14 : i < 14
  · have hc : i = 0 ∨ i = 1 ∨ i = 2 ∨ i = 3 ∨ i = 4 ∨ i = 5 ∨ i = 6 ∨ i = 7 ∨ i = 8 ∨ i = 9 ∨ i = 10 ∨ i = 11 ∨ i = 12 ∨ i = 13 := by omega
    rcases hc with rfl | rfl | rfl | rfl | rfl | rfl | rfl | rfl | rfl | rfl | rfl | rfl | rfl | rfl <;> exact one _ _ rfl h14 (hx _ _ rfl)
  · obtain ⟨y, hy⟩ := some_at hl15 (show 14 < 15 by omega)
    have h1 : DataW.trod enc Try.prog w base spare held k 34 ((cs.drop 14).take (Try.prog.cellsOf 34)) = xs[14]? := hx 14 _ rfl
    rw [hy] at h1
    have := (arr6_at h1 (i - 14) (by omega)).sub
    rwa [show 14 + (i - 14) = i by omega] at this
/-- api.Op: its cells are a step's. -/
theorem op_open {m : Nat} {cs : List Value} {x : DataW H × List MemPlace} (h : DataW.trod enc Try.prog w base spare held m 38 cs = some x) :
    ∃ (V : Nat → Int) (b : ByteArray), cs = (opOf V b).cells ∧ ∀ i, i < 25 → (Lit.int .i64 (V i)).wf = true := by
  obtain ⟨xs, k, _, _, hlen, hl, hx⟩ := DataW.trod_struct Try.underlying38 h
  rw [cells40] at hlen
  have hl7 : xs.length = 7 := hl
  have one : ∀ (j : Nat) (f : Field), (Option.map (fun f : Field => (f.type, f.offset)) (some f)) = some (3, j) → j < 5 → DataW.trod enc Try.prog w base spare held k f.type ((cs.drop f.offset).take (Try.prog.cellsOf f.type)) = xs[j]? → IntAt cs j := by
    intro j f hf hj h1
    obtain ⟨y, hy⟩ := some_at hl7 (show j < 7 by omega)
    simp only [Option.map_some, Option.some.injEq, Prod.mk.injEq] at hf
    rw [hf.1, hf.2, hy] at h1
    have := (int_at h1).sub
    simpa using this
  have hints : ∀ i, i < 25 → IntAt cs i := by
    intro i hi
    by_cases h5 : i < 5
    · have hc : i = 0 ∨ i = 1 ∨ i = 2 ∨ i = 3 ∨ i = 4 := by omega
      rcases hc with rfl | rfl | rfl | rfl | rfl <;> exact one _ _ rfl h5 (hx _ _ rfl)
    · obtain ⟨y, hy⟩ := some_at hl7 (show 5 < 7 by omega)
      have h1 : DataW.trod enc Try.prog w base spare held k 36 ((cs.drop 5).take (Try.prog.cellsOf 36)) = xs[5]? := hx 5 _ rfl
      rw [hy] at h1
      have := (cfg_at h1 (i - 5) (by omega)).sub
      rwa [show 5 + (i - 5) = i by omega] at this
  obtain ⟨V, hV⟩ := choose_lt (α := Int) hints
  obtain ⟨y, hy⟩ := some_at hl7 (show 6 < 7 by omega)
  have h1 : DataW.trod enc Try.prog w base spare held k 9 ((cs.drop 25).take (Try.prog.cellsOf 9)) = xs[6]? := hx 6 _ rfl
  rw [hy] at h1
  obtain ⟨b, hb, _, _⟩ := DataW.trod_string Try.underlying9 h1
  have hb' : cs[25]? = some (.string b) := sub_at (off := 25) (i := 0) (by rw [hb]; rfl)
  refine ⟨V, b, ?_, fun i hi => (hV i hi).2⟩
  rw [opOf_cells]
  apply List.ext_getElem?
  intro j
  by_cases hj : j < 25
  · rw [(hV j hj).1, List.getElem?_append_left (by simpa using hj)]
    simp [hj]
  · by_cases hj2 : j = 25
    · subst hj2; rw [hb']; rfl
    · rw [List.getElem?_eq_none (by omega), List.getElem?_eq_none (by simp; omega)]
end

end Go.Proofs.Ytjhaihbjhikhlaa

namespace Go.Proofs.Ytjhaihbjhikhlaa
open Go.ChangeShapes Go.WideShapes Go.ChangeAt Go.RowKit Go.Deep

theorem Try.own : ownKnob Try.prog.godebug = none := by kernel_rfl
theorem Try.laidOut : laidOutB Try.prog = true := by kernel_rfl

theorem Keeps.below {w w' : World} (h : Keeps (fun _ => False) w w') : Below w.heap.size w w' := ⟨h.os, h.tape, h.output, h.size, fun k hk => h.block k hk (fun h => h)⟩
theorem i64_of_wf {x : Int} (h : (Lit.int .i64 x).wf = true) : -9223372036854775808 ≤ x ∧ x ≤ 9223372036854775807 := by
  simp [Lit.wf, IntKind.min, IntKind.max, IntKind.signed, IntKind.bits] at h
  omega

set_option maxRecDepth 100000 in
theorem prefix_lifted (os : Os) (started : os.Started) (H : Type) (enc : TypeId × Value → H) :
    ReturnsInHanded {} Try.checked os 3 .any (Rows.prefixSpec.pre6 enc Try.prog Try.f3 Rows.prefixRow.domain false) (Rows.prefixSpec.post enc Try.prog Try.f3 false true false false) := by
  refine returnsInHanded_of_change_sized (C := Try.checked) Try.own started (by kernel_rfl) Try.func3
    (ChangeSpec.witness6 (enc := enc) (C := Try.checked) false ⟨#[], #[.slice none 0 0, .int .i64 0], []⟩ 8 (by kernel_rfl) (by kernel_rfl) (by kernel_rfl) (by kernel_rfl)) ?_
  intro W base args ds gs before hval0 hW _ hsz0 _
  have hsz : (DataW.weightsEach Try.prog (Try.f3.params.toList ++ Rows.prefixSpec.plain.varTypes Try.prog) (ds ++ gs)).all (· ≤ reachBytes) = true := hsz0
  clear hsz0
  have hval : ∀ (j : Nat) t v, Try.f3.params[j]? = some t → args[j]? = some v → Value.okWide Try.prog W .any base t v := hval0
  have hW' := hW
  obtain ⟨p, q, hA0, hV, rfl, _, _⟩ := hW
  have hA : DataW.TrodAll enc Try.prog W 0 (fun _ => true) true Try.f3.params.toList args.toList ds p := hA0
  rw [Try.params3] at hA hval hsz
  obtain ⟨v0, v1, d0, d1, p0, p1, rfl, rfl, rfl, h0, h1⟩ := trodAll_two hA
  obtain ⟨rfl, rfl⟩ := trodVars_none hV
  obtain ⟨m, rfl, rfl, rfl, wm⟩ := open_int Try.underlying3 (hval 1 3 v1 rfl rfl) h1
  obtain ⟨a0, len, cap, rfl⟩ := okWide_slice Try.underlying22 (hval 0 22 v0 rfl rfl)
  have h0k := h0
  obtain ⟨fuel, hf⟩ := h0
  clear hA0 hval0
  simp only [List.append_nil] at hW'
  have hlt : ∀ x ∈ p0, x.block < W.heap.size := fun x hx => by simpa using hW'.lt x hx
  have hargs : ∀ (W' : World), Below W.heap.size W W' → DataW.Trod enc Try.prog W' 0 (fun b => decide (b < W.heap.size)) true 22 (.slice a0 len cap) d0 p0 :=
    fun W' hn => Below.trod Try.laidOut (by kernel_rfl) (of_decide_eq_true (by kernel_rfl)) h0k hn hlt
  obtain ⟨m0, m1⟩ := i64_of_wf wm
  have fin : ∀ e W', e = Ending.returned (.bool true) ∧ Keeps (fun _ => False) W W' → ∃ v, e = Ending.returned v ∧ Rows.prefixSpec.post enc Try.checked.prog Try.f3 false true false false W #[.slice a0 len cap, .int .i64 m] v W' := by
    rintro e W' ⟨rfl, hk⟩
    have hb := hk.below
    exact ⟨_, rfl, _, _, _, [], p0 ++ [], [], hW', trodAll_mk1 (shut_bool Try.underlying4 _), trodAll_mk2 (hargs _ hb) (shut_int Try.underlying3 wm), rfl, hb.frame _, fun h => by cases h⟩
  by_cases hl0 : len = 0
  · subst hl0
    exact (pre_nil a0 cap m W m0 m1).mono fun e W' h => fin e W' h
  · rcases open_slice Try.underlying22 hf with ⟨hcs, hx⟩ | ⟨a, len', cap', k, n, D, Pl, hcs, _, hl, hm, hk, hx, hcell⟩
    · simp [Value.cells] at hcs
      exact absurd hcs.2.1 hl0
    · simp [Value.cells] at hcs
      obtain ⟨rfl, rfl, rfl⟩ := hcs
      simp only [Prod.mk.injEq] at hx
      obtain ⟨rfl, rfl⟩ := hx
      simp only [if_true] at hk
      subst k
      have hreach : cap * 216 ≤ 140737488351232 := by
        have := sized_slice hsz (j := 0) (t := 22) (e := 38) rfl rfl Try.underlying22
        rw [bytes40] at this
        simp only [List.length_map, List.length_range, reachBytes] at this
        omega
      rw [cells40] at hcell
      obtain ⟨b, off, spot⟩ := a
      have hspot : spot = none := by
        obtain ⟨cs', h1, _⟩ := hcell 0 (by omega)
        obtain ⟨_, h2, h3⟩ := World.cells?_some h1
        have h4 := h3 0 (by omega)
        rw [List.getElem?_eq_getElem (by omega)] at h4
        simpa [Addr.add] using World.cell?_spot h4
      subst hspot
      have hbW : b < W.heap.size := hlt (.cell b off) (List.mem_append_left _ (MemPlace.mem_row.2 ⟨0, by rw [cells40]; omega, by simp⟩))
      have hops : ∀ i, i < len → ∃ o : OpM, W.rangeAt b (off + i * 26) o.cells := by
        intro i hi
        obtain ⟨cs', h1, h2⟩ := hcell i (by omega)
        obtain ⟨V, bs, rfl, _⟩ := op_open h2
        obtain ⟨_, h3, h4⟩ := World.cells?_some h1
        refine ⟨opOf V bs, fun j v hv => ?_⟩
        have hj : j < 26 := by have := (List.getElem?_eq_some_iff.1 hv).1; omega
        have := h4 j hj
        rw [add_add, add_plain, hv, ← Nat.add_assoc] at this
        exact this
      haveI : Inhabited OpM := ⟨o1⟩
      obtain ⟨O, hO⟩ := choose_lt (α := OpM) hops
      have hsc : ScriptAt W b off ((List.range len).map O) := by
        intro i o ho
        have hi : i < len := by have := (List.getElem?_eq_some_iff.1 ho).1; simpa using this
        have : O i = o := by simpa [hi] using ho
        rw [← this]
        exact hO i hi
      have hrun := pre_some b off cap ((List.range len).map O) m W (by simpa using hl) (by omega) hsc hbW m0 m1
      rw [List.length_map, List.length_range] at hrun
      exact hrun.mono fun e W' h => fin e W' h

theorem prefix_holds : Rows.PrefixSaid :=
  OpenClaim.holds_of_wide 3 Try.f3 rfl rfl rfl rfl rfl rfl rfl ⟨rfl, rfl, rfl, rfl, rfl⟩ rfl rfl rfl rfl rfl (by kernel_rfl) Try.func3 (by kernel_rfl)
    (of_decide_eq_true (by kernel_rfl)) (by unfold Func.isWrapper; first | (rw [if_pos (by decide +kernel)]; kernel_rfl) | (rw [if_neg (by decide +kernel)]; exact ⟨rfl, rfl⟩))
    (fun os started H enc _ => prefix_lifted os started H enc)

end Go.Proofs.Ytjhaihbjhikhlaa
