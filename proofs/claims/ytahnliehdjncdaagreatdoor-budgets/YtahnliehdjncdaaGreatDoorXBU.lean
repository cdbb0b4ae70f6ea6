import Derived.Test.YtahnliehdjncdaaGreatDoorXBT
import Derived.Test.YtahnliehdjncdaaGreatDoorXBS
set_option maxRecDepth 100000
set_option maxHeartbeats 16000000
namespace Go.Proofs.YtahnliehdjncdaaGreatDoor
open Go.ChangeShapes Go.WideShapes Go.ChangeAt Go.RowKit Go.Deep
theorem bytes3 : Tryz.prog.bytesOf 3 = 8 := by kernel_rfl
theorem ints_open {H : Type} {enc : TypeId × Value → H} {W : World} {fuel : Nat} {a0 : Option Addr} {len cap : Nat} {d : DataW H} {p : List MemPlace}
  (hf : DataW.trod enc Tryz.prog W 0 (fun _ => true) true fuel 31 (Value.slice a0 len cap).cells.toList = some (d, p)) (hlt : ∀ x ∈ p, x.block < W.heap.size) (hlen : len ≠ 0 → ∀ elems spare, d = .slice elems spare → len ≤ elems.length + spare.length → len ≤ 140737488355328) :
  ∃ l, IntsW W W.heap.size (.slice a0 len cap) l := by
 by_cases hl0 : len = 0
 ·subst hl0
  exact ⟨[], .inl ⟨⟨_, _, rfl⟩, rfl⟩⟩
 ·rcases open_slice Tryz.underlying31 hf with ⟨hcs, hx⟩ | ⟨a, len', cap', k, n, D, Pl, hcs, _, hl, hm, hk, hx, hcell⟩
  ·simp [Value.cells] at hcs
   exact absurd hcs.2.1 hl0
  ·simp [Value.cells] at hcs
   obtain ⟨rfl, rfl, rfl⟩ := hcs
   simp only [Prod.mk.injEq] at hx
   obtain ⟨rfl, rfl⟩ := hx
   simp only [if_true] at hk
   subst k
   rw [cells3] at hcell
   obtain ⟨b, off, spot⟩ := a
   have hspot : spot = none := by
    obtain ⟨cs', h1, _⟩ := hcell 0 (by omega)
    obtain ⟨_, h2, h3⟩ := World.cells?_some h1
    have h4 := h3 0 (by omega)
    rw [List.getElem?_eq_getElem (by omega)] at h4
    simpa [Addr.add] using World.cell?_spot h4
   subst hspot
   have hbW : b < W.heap.size := hlt (.cell b off) (List.mem_append_left _ (MemPlace.mem_row.2 ⟨0, by rw [cells3]; omega, by simp⟩))
   have hints : ∀ i, i < len → ∃ u : Int, W.cell? ⟨b, off + i, none⟩ = some (.int .i64 u) ∧ -9223372036854775808 ≤ u ∧ u ≤ 9223372036854775807 := by
    intro i hi
    obtain ⟨cs', h1, h2⟩ := hcell i (by omega)
    obtain ⟨u, h5, h6⟩ := int_at h2
    obtain ⟨_, h3, h4⟩ := World.cells?_some h1
    have := h4 0 (by omega)
    rw [add_add, add_plain, h5, Nat.add_zero, Nat.mul_one] at this
    exact ⟨u, this, i64_of_wf h6⟩
   obtain ⟨U, hU⟩ := choose_lt (α := Int) hints
   refine ⟨(List.range len).map U, .inr ⟨b, off, cap, by simp, by simp; omega, by simpa using hlen hl0 _ _ rfl (by simp), hbW, ?_⟩⟩
   intro i u hu
   have hi : i < len := by have := (List.getElem?_eq_some_iff.1 hu).1; simpa using this
   have : U i = u := by simpa [hi] using hu
   rw [← this]
   exact hU i hi
theorem budgets_laid_met (os : Os) : laidMet Tryz.prog Rows.budgetsRow.laid ((laidWorld os).forCall (fun _ _ => 0) ⟨#[], #[.slice none 0 0, .slice none 0 0], []⟩).memory :=
 laidMet_of_run' 8 (by kernel_rfl) (by kernel_rfl)
theorem budgets_reads (os : Os) {H : Type} (enc : TypeId × Value → H) : ∃ places, DataW.whole enc Tryz.prog ((laidWorld os).forCall (fun _ _ => 0) ⟨#[], #[.slice none 0 0, .slice none 0 0], []⟩).memory Tryz.f9.params.toList Rows.budgetsSpec.vars false #[Value.slice none 0 0, Value.slice none 0 0].toList 8 = some ([.nil, .nil], [], places) :=
 ⟨[], by kernel_rfl⟩
theorem budgets_lifted (os : Os) (started : os.Started) (H : Type) (enc : TypeId × Value → H) (F : Stop.Interp) :
  ReturnsInHanded {} Tryz.checked os 9 .any ((OpenSpec.ofChange Rows.budgetsSpec).preRow enc Tryz.prog Tryz.f9 Rows.budgetsRow.domain false Rows.budgetsRow.laid) (((OpenSpec.ofChange Rows.budgetsSpec).at F).post enc Tryz.prog Tryz.f9 false true false false) := by
 obtain ⟨places, hx⟩ := budgets_reads os enc
 refine returnsInHanded_of_row (C := Tryz.checked) (s := OpenSpec.ofChange Rows.budgetsSpec) Tryz.own started (by kernel_rfl) Tryz.func9
  (witness_row_at (enc := enc) (C := Tryz.checked) false (laidWorld os) #[.slice none 0 0, .slice none 0 0] rfl (by kernel_rfl) (by kernel_rfl) (by kernel_rfl)
     (OpenSpec.preRow_of_cond 8 hx (by kernel_rfl) (fun k hk => by cases hk) (by kernel_rfl) (budgets_laid_met os))) ?_
 intro W base args ds gs before hval0 hW _ _ hsz0 hL _ _
 have hsz : (DataW.weightsEach Tryz.prog (Tryz.f9.params.toList ++ Rows.budgetsSpec.plain.varTypes Tryz.prog) (ds ++ gs)).all (· ≤ reachBytes) = true := hsz0
 clear hsz0
 have hval : ∀ (j : Nat) t v, Tryz.f9.params[j]? = some t → args[j]? = some v → Value.okWide Tryz.prog W .any base t v := hval0
 have hW' := hW
 obtain ⟨p, q, hA0, hV, rfl, _, _⟩ := hW
 have hA : DataW.TrodAll enc Tryz.prog W 0 (fun _ => true) true Tryz.f9.params.toList args.toList ds p := hA0
 rw [Tryz.params9] at hA hval hsz
 obtain ⟨v0, v1, d0, d1, p0, p1, rfl, rfl, rfl, h0, h1⟩ := trodAll_two hA
 obtain ⟨rfl, rfl⟩ := trodVars_none hV
 obtain ⟨a0, len, cap, rfl⟩ := okWide_slice Tryz.underlying22 (hval 0 22 v0 rfl rfl)
 obtain ⟨a1, len1, cap1, rfl⟩ := okWide_slice Tryz.underlying31 (hval 1 31 v1 rfl rfl)
 have h0k := h0
 have h1k := h1
 obtain ⟨fuel, hf⟩ := h0
 obtain ⟨fuel1, hf1⟩ := h1
 clear hA0 hval0
 simp only [List.append_nil] at hW'
 have hlt : ∀ x ∈ p0, x.block < W.heap.size := fun x hx => by simpa using hW'.lt x (List.mem_append_left _ hx)
 have hlt1 : ∀ x ∈ p1, x.block < W.heap.size := fun x hx => by simpa using hW'.lt x (List.mem_append_right _ hx)
 obtain ⟨ops, hsc, hol, hd⟩ := script_open hf hlt
 have hlen : ops.length ≤ 651562446088 := by
  by_cases hl0 : len = 0
  ·omega
  ·obtain ⟨elems, spare, rfl, hle⟩ := hd hl0
   have := sized_slice hsz (j := 0) (t := 22) (e := 40) rfl rfl Tryz.underlying22
   rw [bytes40] at this
   simp only [reachBytes] at this
   omega
 obtain ⟨l, hl⟩ := ints_open hf1 hlt1 (fun _ elems spare he hle => by
    subst he
    have := sized_slice hsz (j := 1) (t := 31) (e := 3) rfl rfl Tryz.underlying31
    rw [bytes3] at this
    simp only [reachBytes] at this
    omega)
 refine (bud_any (.slice a0 len cap) (.slice a1 len1 cap1) ops l W hsc hl hlen (tab_of hL)).mono ?_
 rintro e W' ⟨rfl, hk⟩
 have hb := hk.below
 have hargs : DataW.Trod enc Tryz.prog W' 0 (fun b => decide (b < W.heap.size)) true 22 (.slice a0 len cap) d0 p0 :=
  Below.trod Tryz.laidOut (by kernel_rfl) (of_decide_eq_true (by kernel_rfl)) h0k hb hlt
 have hargs1 : DataW.Trod enc Tryz.prog W' 0 (fun b => decide (b < W.heap.size)) true 31 (.slice a1 len1 cap1) d1 p1 :=
  Below.trod Tryz.laidOut (by kernel_rfl) (of_decide_eq_true (by kernel_rfl)) h1k hb hlt1
 exact ⟨_, rfl, _, _, _, [], p0 ++ p1, [], hW', trodAll_mk1 (shut_bool Tryz.underlying4 _), trodAll_mk2 hargs hargs1, rfl, hb.frame _, fun h => by cases h⟩
theorem budgets_said : Rows.BudgetsSaid :=
 OpenClaim.holds_of_cond 9 Tryz.f9 rfl rfl rfl rfl rfl rfl rfl ⟨rfl, rfl, rfl, rfl, rfl⟩ rfl rfl rfl rfl rfl (by kernel_rfl) Tryz.func9 (by kernel_rfl)
  (of_decide_eq_true (by kernel_rfl)) (by unfold Func.isWrapper; first | (rw [if_pos (by decide +kernel)]; kernel_rfl) | (rw [if_neg (by decide +kernel)]; exact ⟨rfl, rfl⟩))
  (fun os started H enc _ F => by rw [OpenClaim.pre_eq_preRow]; exact budgets_lifted os started H enc F)
theorem budgets_plain (f : FuncId) (fn : Func) (hf : Tryz.pinned.checked.prog.funcNamed "sketch/sketchkeep.Budgets" = some f) (hfn : Tryz.pinned.checked.prog.funcs[f]? = some fn) :
  false = Tryz.pinned.checked.prog.looks [] ∧ ∀ (j : Nat) t, fn.params[j]? = some t → Tryz.pinned.checked.prog.wantsStandIn t = false := by
 obtain rfl : f = 9 := Option.some.inj ((show Tryz.prog.funcNamed "sketch/sketchkeep.Budgets" = some 9 by kernel_rfl).symm.trans hf) |>.symm
 obtain rfl : fn = Tryz.f9 := (Option.some.inj (Tryz.func9.symm.trans hfn)).symm
 refine ⟨by kernel_rfl, fun j t ht => ?_⟩
 rw [Tryz.params9] at ht
 have hm : t = 22 ∨ t = 31 := by simpa using Array.mem_of_getElem? ht
 rcases hm with rfl | rfl
 ·exact (show Tryz.prog.wantsStandIn 22 = false by kernel_rfl)
 ·exact (show Tryz.prog.wantsStandIn 31 = false by kernel_rfl)
theorem budgets_card : Rows.BudgetsCardSaid :=
 Claim7.holds_tied_plain_at .later [] _ _ _ _ budgets_said (fun _ h => by cases h) (by kernel_rfl) (fun _ h => by cases h) budgets_row_tie rfl ⟨rfl, rfl⟩ (by kernel_rfl) rfl budgets_plain (by kernel_rfl)
end Go.Proofs.YtahnliehdjncdaaGreatDoor
