import Derived.Test.YteecnidnlkjehaaP8
import Derived.Test.YteecnidnlkjehaaF5
namespace Go.Proofs.Yteecnidnlkjehaa
open Go.ChangeShapes Go.WideShapes Go.ChangeAt Go.RowKit Go.Deep

set_option maxRecDepth 100000 in
/-- A script that came in, opened. -/
theorem script_open {H : Type} {enc : TypeId × Value → H} {W : World} {fuel : Nat} {a0 : Option Addr} {len cap : Nat} {d : DataW H} {p : List MemPlace}
    (hf : DataW.trod enc Try.prog W 0 (fun _ => true) true fuel 22 (Value.slice a0 len cap).cells.toList = some (d, p)) (hlt : ∀ x ∈ p, x.block < W.heap.size) :
    ∃ ops, ScriptW W (.slice a0 len cap) ops ∧ ops.length = len ∧ (len ≠ 0 → ∃ elems spare, d = .slice elems spare ∧ len ≤ elems.length + spare.length) := by
  by_cases hl0 : len = 0
  · subst hl0
    exact ⟨[], .inl ⟨⟨_, _, rfl⟩, rfl⟩, rfl, fun h => absurd rfl h⟩
  · rcases open_slice Try.underlying22 hf with ⟨hcs, hx⟩ | ⟨a, len', cap', k, n, D, Pl, hcs, _, hl, hm, hk, hx, hcell⟩
    · simp [Value.cells] at hcs
      exact absurd hcs.2.1 hl0
    · simp [Value.cells] at hcs
      obtain ⟨rfl, rfl, rfl⟩ := hcs
      simp only [Prod.mk.injEq] at hx
      obtain ⟨rfl, rfl⟩ := hx
      simp only [if_true] at hk
      subst k
      rw [cells40] at hcell
      obtain ⟨b, off, spot⟩ := a
      have hspot : spot = none := by
        obtain ⟨cs', h1, _⟩ := hcell 0 (by omega)
        obtain ⟨_, h2, h3⟩ := World.cells?_some h1
        have h4 := h3 0 (by omega)
        rw [List.getElem?_eq_getElem (by omega)] at h4
        simpa [Addr.add] using World.cell?_spot h4
      subst hspot
      have hbW : b < W.heap.size := hlt (.cell b off) (List.mem_append_left _ (MemPlace.mem_row.2 ⟨0, by rw [cells40]; omega, by simp⟩))
      have hops : ∀ i, i < len → ∃ o : OpM, W.rangeAt b (off + i * 26) o.cells := by
        intro i hi
        obtain ⟨cs', h1, h2⟩ := hcell i (by omega)
        obtain ⟨V, bs, rfl, _⟩ := op_open h2
        obtain ⟨_, h3, h4⟩ := World.cells?_some h1
        refine ⟨opOf V bs, fun j v hv => ?_⟩
        have hj : j < 26 := by have := (List.getElem?_eq_some_iff.1 hv).1; omega
        have := h4 j hj
        rw [add_add, add_plain, hv, ← Nat.add_assoc] at this
        exact this
      haveI : Inhabited OpM := ⟨o1⟩
      obtain ⟨O, hO⟩ := choose_lt (α := OpM) hops
      refine ⟨(List.range len).map O, .inr ⟨b, off, cap, by simp, by simpa using hl, ?_, hbW⟩, by simp, fun _ => ⟨_, _, rfl, by simp⟩⟩
      intro i o ho
      have hi : i < len := by have := (List.getElem?_eq_some_iff.1 ho).1; simpa using this
      have : O i = o := by simpa [hi] using ho
      rw [← this]
      exact hO i hi

set_option maxRecDepth 100000 in
theorem refused_lifted (os : Os) (started : os.Started) (H : Type) (enc : TypeId × Value → H) :
    ReturnsInHanded {} Try.checked os 6 .any (Rows.refusedSpec.pre6 enc Try.prog Try.f6 Rows.refusedRow.domain false) (Rows.refusedSpec.post enc Try.prog Try.f6 false true false false) := by
  refine returnsInHanded_of_change_sized (C := Try.checked) Try.own started (by kernel_rfl) Try.func6
    (ChangeSpec.witness6 (enc := enc) (C := Try.checked) false ⟨#[], #[.slice none 0 0, .int .i64 0, .agg cz0.toArray], []⟩ 8 (by kernel_rfl) (by kernel_rfl) (by kernel_rfl) (by kernel_rfl)) ?_
  intro W base args ds gs before hval0 hW _ hsz0 _
  have hsz : (DataW.weightsEach Try.prog (Try.f6.params.toList ++ Rows.refusedSpec.plain.varTypes Try.prog) (ds ++ gs)).all (· ≤ reachBytes) = true := hsz0
  clear hsz0
  have hval : ∀ (j : Nat) t v, Try.f6.params[j]? = some t → args[j]? = some v → Value.okWide Try.prog W .any base t v := hval0
  have hW' := hW
  obtain ⟨p, q, hA0, hV, rfl, _, _⟩ := hW
  have hA : DataW.TrodAll enc Try.prog W 0 (fun _ => true) true Try.f6.params.toList args.toList ds p := hA0
  rw [Try.params6] at hA hval hsz
  obtain ⟨v0, v1, v2, d0, d1, d2, p0, p1, p2, rfl, rfl, rfl, h0, h1, h2⟩ := trodAll_three hA
  obtain ⟨rfl, rfl⟩ := trodVars_none hV
  obtain ⟨m, rfl, rfl, rfl, wm⟩ := open_int Try.underlying3 (hval 1 3 v1 rfl rfl) h1
  obtain ⟨a0, len, cap, rfl⟩ := okWide_slice Try.underlying22 (hval 0 22 v0 rfl rfl)
  obtain ⟨cs, rfl, _⟩ := okWide_struct Try.underlying40 (hval 2 40 v2 rfl rfl)
  have h0k := h0
  have h2k := h2
  obtain ⟨fuel, hf⟩ := h0
  obtain ⟨fuel2, hf2⟩ := h2
  clear hA0 hval0
  simp only [List.append_nil] at hW'
  have hlt : ∀ x ∈ p0, x.block < W.heap.size := fun x hx => by simpa using hW'.lt x (List.mem_append_left _ hx)
  have hlt2 : ∀ x ∈ p2, x.block < W.heap.size := fun x hx => by simpa using hW'.lt x (List.mem_append_right _ hx)
  obtain ⟨m0, m1⟩ := i64_of_wf wm
  obtain ⟨ops, hsc, hol, hd⟩ := script_open hf hlt
  obtain ⟨V, bs, hcs, _⟩ := op_open hf2
  have hlen : ops.length ≤ 651562446088 := by
    by_cases hl0 : len = 0
    · omega
    · obtain ⟨elems, spare, rfl, hle⟩ := hd hl0
      have := sized_slice hsz (j := 0) (t := 22) (e := 40) rfl rfl Try.underlying22
      rw [bytes40] at this
      simp only [reachBytes] at this
      omega
  have hcs' : cs = (opOf V bs).cells.toArray := by
    rw [← hcs]; simp [Value.cells]
  have hrun := ref_any (.slice a0 len cap) ops m (opOf V bs) W hsc hlen m0 m1
  unfold OpM.val at hrun
  rw [← hcs'] at hrun
  refine hrun.mono ?_
  rintro e W' ⟨rfl, hk⟩
  have hb := hk.below
  have hargs : DataW.Trod enc Try.prog W' 0 (fun b => decide (b < W.heap.size)) true 22 (.slice a0 len cap) d0 p0 :=
    Below.trod Try.laidOut (by kernel_rfl) (of_decide_eq_true (by kernel_rfl)) h0k hb hlt
  have hargs2 : DataW.Trod enc Try.prog W' 0 (fun b => decide (b < W.heap.size)) true 40 (.agg cs) d2 p2 :=
    Below.trod Try.laidOut (by kernel_rfl) (of_decide_eq_true (by kernel_rfl)) h2k hb hlt2
  exact ⟨_, rfl, _, _, _, [], p0 ++ ([] ++ p2), [], hW', trodAll_mk1 (shut_bool Try.underlying4 _), trodAll_mk3 hargs (shut_int Try.underlying3 wm) hargs2, rfl, hb.frame _, fun h => by cases h⟩

theorem refused_holds : Rows.RefusedSaid :=
  OpenClaim.holds_of_wide 6 Try.f6 rfl rfl rfl rfl rfl rfl rfl ⟨rfl, rfl, rfl, rfl, rfl⟩ rfl rfl rfl rfl rfl (by kernel_rfl) Try.func6 (by kernel_rfl)
    (of_decide_eq_true (by kernel_rfl)) (by unfold Func.isWrapper; first | (rw [if_pos (by decide +kernel)]; kernel_rfl) | (rw [if_neg (by decide +kernel)]; exact ⟨rfl, rfl⟩))
    (fun os started H enc _ => refused_lifted os started H enc)

end Go.Proofs.Yteecnidnlkjehaa
