import Derived.Test.YteecnidnlkjehaaP2
namespace Go.Proofs.Yteecnidnlkjehaa
open Go.RowKit
attribute [local go_sem ↓] execOp_load38 execOp_load40 execOp_store38 execOp_build38 execOp_build40 execOp_bs22
attribute [local go_sem] run_load38 run_load40 bigVal_drew hasBig_drew bigVal_ne hasBig_ne bigVal_alloc hasBig_alloc run_b38 run_b1 run_b2 run_b3 run_b4 run_b5 run_bs

theorem run_all (sb so cap : Nat) (ops : List OpM) (w : World) (hsc : ScriptAt w sb so ops) (hlt : sb < w.heap.size) (hlen : ops.length ≤ 651562446090) :
    Calls Try.prog 13 #[.slice (some ⟨sb, so, none⟩) ops.length cap] w fun r w' => ∃ v l, r = .returned v ∧ ARep w' w.heap.size v l ∧ l.map (fun x => (x.code, x.nums)) = runM ws0 ops ∧ Keeps (fun _ => False) w w' :=
  run_any sb so cap ops w hsc hlt hlen step_any

theorem ans_row {w : World} {base : Nat} {v : Value} {l : List Ans} (h : ARep w base v l) (hl : l ≠ []) : ∃ g cap, v = .slice (some ⟨g, 0, none⟩) l.length cap ∧ ∀ i u, (ansFlat l)[i]? = some u → w.cell? ⟨g, i, none⟩ = some u := by
  rcases h.row.2 with ⟨_, h2⟩ | ⟨g, cap, cur, h1, _, h3, h4, h5, h6, h7⟩
  · exact absurd (List.length_eq_zero_iff.1 h2) hl
  · refine ⟨g, cap, h1, fun i u hu => ?_⟩
    have hi : i < l.length * 3 := by have := (List.getElem?_eq_some_iff.1 hu).1; have := h.row.1; omega
    have : cur[i]? = some u := by
      rw [← h7, List.getElem?_take, if_pos hi] at hu
      simpa using hu
    simp [World.cell?, h3, this]

theorem list_five {α : Type _} (l : List α) (h : l.length = 5) : ∃ a b c d e, l = [a, b, c, d, e] := by
  cases l with
  | nil => cases h
  | cons a l =>
    cases l with
    | nil => cases h
    | cons b l =>
      cases l with
      | nil => cases h
      | cons c l =>
        cases l with
        | nil => cases h
        | cons d l =>
          cases l with
          | nil => cases h
          | cons e l =>
            cases l with
            | nil => exact ⟨a, b, c, d, e, rfl⟩
            | cons f l => simp at h

set_option maxRecDepth 100000 in
set_option maxHeartbeats 4000000 in
theorem awake_any (w : World) : Calls Try.prog 11 #[] w fun e w' => e = .returned (.bool true) ∧ Keeps (fun _ => False) w w' := by
  have hst : ∀ zs : List Value, zs.length = 20 → (storeBig 38 (.pointer (some ⟨w.heap.size, 0, none⟩)) (.agg c0.cells.toArray)).run Try.prog (w.alloc (.cells zs.toArray 38)) = .ok .skip (w.alloc (.cells c0.cells.toArray 38)) := fun zs hz => run_store38 w zs c0.cells hz rfl (by simp [Cfg.cells, Value.oneCell'])
  have hv1 : bigVal (w.alloc (.cells c0.cells.toArray 38)) w.heap.size 0 20 = .agg c0.cells.toArray := bigVal_new w c0.cells 38 20 rfl
  have hh1 : hasBig (w.alloc (.cells c0.cells.toArray 38)) w.heap.size 0 20 = true := hasBig_new w c0.cells 38 20 rfl
  have HK0 := hide (((Keeps.refl (fun _ => False) w).alloc (.cells c0.cells.toArray 38)).alloc (.cells fiveCells.toArray 40))
  have HB0 := hide (show Blk ((w.alloc (.cells c0.cells.toArray 38)).alloc (.cells fiveCells.toArray 40)) (w.heap.size + 1) fiveCells 40 from Blk.newAt (by simp) _ _)
  go_enter Try.func11, Try.ntmps11
  go_wp2_with fail
  refine (run_all (w.heap.size + 1) 0 5 five _ (five_at _ _ (unhide HB0)) (unhide HB0).lt (by decide)).mono ?_
  rintro r w1 ⟨v, l, rfl, hA, hM, hk1⟩
  rw [five_run] at hM
  obtain ⟨x0, x1, x2, x3, x4, hl5⟩ := list_five l (by have := congrArg List.length hM; simpa using this)
  subst hl5
  simp only [List.map_cons, List.map_nil, List.cons.injEq, Prod.mk.injEq, and_true] at hM
  obtain ⟨⟨k0, m0⟩, ⟨k1, m1⟩, ⟨k2, m2⟩, ⟨k3, m3⟩, k4, m4⟩ := hM
  obtain ⟨g, cap, hv, hc⟩ := ans_row hA (by simp)
  have n1 := hA.nums x1 (by simp)
  have n4 := hA.nums x4 (by simp)
  rw [m1] at n1
  rw [m4] at n4
  rcases num_cells n1 with ⟨h, _⟩ | ⟨g1, cp1, hv1', hn1⟩
  · cases h
  rcases num_cells n4 with ⟨h, _⟩ | ⟨g4, cp4, hv4', hn4⟩
  · cases h
  have y0 : w1.cell? ⟨g, 0, none⟩ = some (.int .i64 0) := (hc 0 _ rfl).trans (by rw [k0])
  have y1 : w1.cell? ⟨g, 3, none⟩ = some (.int .i64 0) := (hc 3 _ rfl).trans (by rw [k1])
  have y2 : w1.cell? ⟨g, 6, none⟩ = some (.int .i64 0) := (hc 6 _ rfl).trans (by rw [k2])
  have y3 : w1.cell? ⟨g, 9, none⟩ = some (.int .i64 6) := (hc 9 _ rfl).trans (by rw [k3])
  have y4 : w1.cell? ⟨g, 12, none⟩ = some (.int .i64 0) := (hc 12 _ rfl).trans (by rw [k4])
  have z1 : w1.cell? ⟨g, 4, none⟩ = some (.slice (some ⟨g1, 0, none⟩) 1 cp1) := (hc 4 _ rfl).trans (by rw [hv1']; rfl)
  have z4 : w1.cell? ⟨g, 13, none⟩ = some (.slice (some ⟨g4, 0, none⟩) 3 cp4) := (hc 13 _ rfl).trans (by rw [hv4']; rfl)
  have p1 : w1.cell? ⟨g1, 0, none⟩ = some (.int .i64 1) := hn1 0 (by simp)
  have q0 : w1.cell? ⟨g4, 0, none⟩ = some (.int .i64 0) := hn4 0 (by simp)
  have q1 : w1.cell? ⟨g4, 1, none⟩ = some (.int .i64 1) := hn4 1 (by simp)
  have q2 : w1.cell? ⟨g4, 2, none⟩ = some (.int .i64 1) := hn4 2 (by simp)
  have HK1 := hide ((unhide HK0).then hk1)
  rw [hv]
  clear hA hk1 hc n1 n4 hn1 hn4 hv hv1' hv4' k0 k1 k2 k3 k4 m0 m1 m2 m3 m4 hst hv1 hh1 HK0 HB0
  show _
  go_wp2
  go_ret
  exact ⟨rfl, unhide HK1⟩

end Go.Proofs.Yteecnidnlkjehaa
