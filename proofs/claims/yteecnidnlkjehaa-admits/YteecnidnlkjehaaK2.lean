import Derived.Test.YteecnidnlkjehaaK
namespace Go.Proofs.Yteecnidnlkjehaa
open Go.RowKit
attribute [local go_sem ↓] execOp_load38 execOp_load40
attribute [local go_sem] run_load38 run_load40 bigVal_drew hasBig_drew bigVal_ne hasBig_ne bigVal_new hasBig_newB

theorem inB_iff {n lo hi : Int} (h : inB n lo hi = true) : lo ≤ n ∧ n ≤ hi := by simpa [inB] using h

set_option maxHeartbeats 1000000 in
theorem distinctFits_any (c : Cfg) (w : World) : Calls Try.prog 82 #[c.val] w fun e w' => e = .returned (.bool (distinctB c)) ∧ Keeps (fun _ => False) w w' := by
  have HC := hide (show distinctB c = (inB c.bits 1 4 && (windowB c && seedsB c 1)) from rfl)
  unfold Cfg.val
  cases h1 : inB c.bits 1 4
  · go_enter Try.func82, Try.ntmps82
    go_wp2_with (go_at_call 38; refine (within_any _ _ _ _).mono ?_; rintro e w' ⟨rfl, rfl⟩)
    go_ret
    exact ⟨ret_bool (by rw [unhide HC, h1]; rfl), (Keeps.refl _ _).alloc _⟩
  · cases h2 : windowB c
    · go_enter Try.func82, Try.ntmps82
      go_wp2_with (first | (go_at_call 38; refine (within_any _ _ _ _).mono ?_; rintro e w' ⟨rfl, rfl⟩) | (go_at_call 95; refine (window_any c _).mono ?_; rintro e w' ⟨rfl, hk⟩))
      go_ret
      exact ⟨ret_bool (by rw [unhide HC, h1, h2]; rfl), ((Keeps.refl _ _).alloc _).then hk⟩
    · go_enter Try.func82, Try.ntmps82
      go_wp2_with fail
      refine (within_any _ _ _ _).mono ?_
      rintro e w' ⟨rfl, rfl⟩
      go_wp2_with fail
      refine (window_any c _).mono ?_
      rintro e w1 ⟨rfl, hk⟩
      have hB : Blk w1 w.heap.size c.cells 38 := (Blk.new w c.cells 38).keeps hk (fun h => h)
      have HK := hide (((Keeps.refl _ _).alloc _).then hk)
      have c14 : w1.cell? ⟨w.heap.size, 14, none⟩ = some (.int .i64 c.s00) := hB.cell rfl
      have c15 : w1.cell? ⟨w.heap.size, 15, none⟩ = some (.int .i64 c.s01) := hB.cell rfl
      have c16 : w1.cell? ⟨w.heap.size, 16, none⟩ = some (.int .i64 c.s10) := hB.cell rfl
      have c17 : w1.cell? ⟨w.heap.size, 17, none⟩ = some (.int .i64 c.s11) := hB.cell rfl
      have c18 : w1.cell? ⟨w.heap.size, 18, none⟩ = some (.int .i64 c.s20) := hB.cell rfl
      have c19 : w1.cell? ⟨w.heap.size, 19, none⟩ = some (.int .i64 c.s21) := hB.cell rfl
      clear hk hB
      go_wp2_with fail
      refine (seedsFit_any c 1 _ (by omega) (by omega)).mono ?_
      rintro e w2 ⟨rfl, hk2⟩
      go_wp2
      go_ret
      exact ⟨ret_bool (by rw [unhide HC, h1, h2]; rfl), (unhide HK).then hk2⟩

set_option maxHeartbeats 2000000 in
theorem oftenFits_any (c : Cfg) (w : World) : Calls Try.prog 84 #[c.val] w fun e w' => e = .returned (.bool (oftenB c)) ∧ Keeps (fun _ => False) w w' := by
  have HC := hide (show oftenB c = (inB c.rows 1 3 && (inB c.width 1 16 && (inB c.panes 1 8 && (windowB c && ((c.window % c.panes == 0) && seedsB c c.rows.toNat))))) from rfl)
  unfold Cfg.val
  cases h1 : inB c.rows 1 3
  · go_enter Try.func84, Try.ntmps84
    go_wp2_with (go_at_call 38; refine (within_any _ _ _ _).mono ?_; rintro e w' ⟨rfl, rfl⟩)
    go_ret
    exact ⟨ret_bool (by rw [unhide HC, h1]; rfl), (Keeps.refl _ _).alloc _⟩
  · cases h2 : inB c.width 1 16
    · go_enter Try.func84, Try.ntmps84
      go_wp2_with (go_at_call 38; refine (within_any _ _ _ _).mono ?_; rintro e w' ⟨rfl, rfl⟩)
      go_ret
      exact ⟨ret_bool (by rw [unhide HC, h1, h2]; rfl), (Keeps.refl _ _).alloc _⟩
    · cases h3 : inB c.panes 1 8
      · go_enter Try.func84, Try.ntmps84
        go_wp2_with (go_at_call 38; refine (within_any _ _ _ _).mono ?_; rintro e w' ⟨rfl, rfl⟩)
        go_ret
        exact ⟨ret_bool (by rw [unhide HC, h1, h2, h3]; rfl), (Keeps.refl _ _).alloc _⟩
      · cases h4 : windowB c
        · go_enter Try.func84, Try.ntmps84
          go_wp2_with (first | (go_at_call 38; refine (within_any _ _ _ _).mono ?_; rintro e w' ⟨rfl, rfl⟩) | (go_at_call 95; refine (window_any c _).mono ?_; rintro e w' ⟨rfl, hk⟩))
          go_ret
          exact ⟨ret_bool (by rw [unhide HC, h1, h2, h3, h4]; rfl), ((Keeps.refl _ _).alloc _).then hk⟩
        · obtain ⟨p1, p8⟩ := inB_iff h3
          obtain ⟨q1, q8⟩ := inB_iff h4
          obtain ⟨r1, r3⟩ := inB_iff h1
          cases h5 : (c.window % c.panes == 0)
          all_goals
            go_enter Try.func84, Try.ntmps84
            go_wp2_with (first | (go_at_call 38; refine (within_any _ _ _ _).mono ?_; rintro e w' ⟨rfl, rfl⟩))
            refine (window_any c _).mono ?_
            rintro e w1 ⟨rfl, hk⟩
            have hB : Blk w1 w.heap.size c.cells 38 := (Blk.new w c.cells 38).keeps hk (fun h => h)
            have HK := hide (((Keeps.refl _ _).alloc _).then hk)
            have c5 : w1.cell? ⟨w.heap.size, 5, none⟩ = some (.int .i64 c.window) := hB.cell rfl
            have c7 : w1.cell? ⟨w.heap.size, 7, none⟩ = some (.int .i64 c.rows) := hB.cell rfl
            have c9 : w1.cell? ⟨w.heap.size, 9, none⟩ = some (.int .i64 c.panes) := hB.cell rfl
            have c14 : w1.cell? ⟨w.heap.size, 14, none⟩ = some (.int .i64 c.s00) := hB.cell rfl
            have c15 : w1.cell? ⟨w.heap.size, 15, none⟩ = some (.int .i64 c.s01) := hB.cell rfl
            have c16 : w1.cell? ⟨w.heap.size, 16, none⟩ = some (.int .i64 c.s10) := hB.cell rfl
            have c17 : w1.cell? ⟨w.heap.size, 17, none⟩ = some (.int .i64 c.s11) := hB.cell rfl
            have c18 : w1.cell? ⟨w.heap.size, 18, none⟩ = some (.int .i64 c.s20) := hB.cell rfl
            have c19 : w1.cell? ⟨w.heap.size, 19, none⟩ = some (.int .i64 c.s21) := hB.cell rfl
            clear hk hB
            go_wp2_with fail
          · go_ret
            exact ⟨ret_bool (by rw [unhide HC, h1, h2, h3, h4, h5]; rfl), unhide HK⟩
          · refine (seedsFit_any c c.rows _ (by omega) (by omega)).mono ?_
            rintro e w2 ⟨rfl, hk2⟩
            go_wp2
            go_ret
            exact ⟨ret_bool (by rw [unhide HC, h1, h2, h3, h4, h5]; rfl), (unhide HK).then hk2⟩

end Go.Proofs.Yteecnidnlkjehaa
