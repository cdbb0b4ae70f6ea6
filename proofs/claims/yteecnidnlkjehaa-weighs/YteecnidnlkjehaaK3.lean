import Derived.Test.YteecnidnlkjehaaK2
namespace Go.Proofs.Yteecnidnlkjehaa
open Go.RowKit
attribute [local go_sem ↓] execOp_load38 execOp_load40
attribute [local go_sem] run_load38 run_load40 bigVal_drew hasBig_drew bigVal_ne hasBig_ne bigVal_new hasBig_newB

set_option maxRecDepth 100000 in
set_option maxHeartbeats 400000 in
theorem key_any (n : Int) (w : World) :
    Calls Try.prog 99 #[.int .i64 n] w fun e w' => e = .returned (.bool (inB n 0 2147483648)) ∧ w' = w := by
  go_enter Try.func99, Try.ntmps99
  go_wp2_with (go_at_call 38; refine (within_any _ _ _ _).mono ?_; rintro e w' ⟨rfl, rfl⟩)
  go_ret
  exact ⟨rfl, rfl⟩

set_option maxRecDepth 100000 in
set_option maxHeartbeats 400000 in
theorem draw_any (n : Int) (w : World) :
    Calls Try.prog 103 #[.int .i64 n] w fun e w' => e = .returned (.bool (inB n 1 2147483648)) ∧ w' = w := by
  go_enter Try.func103, Try.ntmps103
  go_wp2_with (go_at_call 38; refine (within_any _ _ _ _).mono ?_; rintro e w' ⟨rfl, rfl⟩)
  go_ret
  exact ⟨rfl, rfl⟩

def keyE (x : It) : Int := if inB x.k 0 2147483648 then 0 else 10
def weightE (c : Cfg) (x : It) : Int := if (weightO c x.t).isSome then 0 else 8
def drawnE (c : Cfg) (x : It) : Int := if (weightO c x.t).isSome then (if inB x.k 0 2147483648 then (if inB x.d 1 2147483648 then 0 else 9) else 10) else 8

set_option maxRecDepth 100000 in
set_option maxHeartbeats 400000 in
theorem refuseNothing_any (c : Cfg) (x : It) (w : World) :
    Calls Try.prog 80 #[c.val, x.val] w fun e w' => e = .returned (.int .i64 0) ∧ Keeps (fun _ => False) w w' := by
  unfold Cfg.val It.val
  go_enter Try.func80, Try.ntmps80
  go_wp2
  go_ret
  exact ⟨rfl, by repeat (first | exact Keeps.refl _ _ | apply Keeps.alloc)⟩

set_option maxRecDepth 100000 in
set_option maxHeartbeats 400000 in
theorem refuseKey_any (c : Cfg) (x : It) (w : World) :
    Calls Try.prog 83 #[c.val, x.val] w fun e w' => e = .returned (.int .i64 (keyE x)) ∧ Keeps (fun _ => False) w w' := by
  unfold Cfg.val It.val
  have HE := hide (show keyE x = if inB x.k 0 2147483648 then 0 else 10 from rfl)
  cases h : inB x.k 0 2147483648
  all_goals
    go_enter Try.func83, Try.ntmps83
    go_wp2_with (go_at_call 99; refine (key_any _ _).mono ?_; rintro e w' ⟨rfl, rfl⟩)
    go_ret
    exact ⟨ret_int (by rw [unhide HE, h]; rfl), by repeat (first | exact Keeps.refl _ _ | apply Keeps.alloc)⟩

set_option maxRecDepth 100000 in
set_option maxHeartbeats 400000 in
theorem refuseWeightless_any (c : Cfg) (x : It) (w : World) (hc : c.weighs) (t0 : 0 ≤ x.t) (t1 : x.t ≤ 4611686018427387904) :
    Calls Try.prog 86 #[c.val, x.val] w fun e w' => e = .returned (.int .i64 (weightE c x)) ∧ Keeps (fun _ => False) w w' := by
  unfold Cfg.val It.val
  have HE := hide (show weightE c x = if (weightO c x.t).isSome then 0 else 8 from rfl)
  have HC := hide hc
  cases h : (weightO c x.t).isSome
  all_goals
    clear hc
    go_enter Try.func86, Try.ntmps86
    go_wp2_with fail
    refine (of_any c x.t _ (unhide HC) (by omega) t1).mono ?_
    rintro e w' ⟨rfl, rfl⟩
    unfold optVal
    rw [h]
    go_wp2
    go_ret
    exact ⟨ret_int (by rw [unhide HE, h]; rfl), by repeat (first | exact Keeps.refl _ _ | apply Keeps.alloc)⟩

set_option maxRecDepth 100000 in
set_option maxHeartbeats 1000000 in
theorem refuseDrawn_any (c : Cfg) (x : It) (w : World) (hc : c.weighs) (t0 : 0 ≤ x.t) (t1 : x.t ≤ 4611686018427387904) :
    Calls Try.prog 89 #[c.val, x.val] w fun e w' => e = .returned (.int .i64 (drawnE c x)) ∧ Keeps (fun _ => False) w w' := by
  have HE := hide (show drawnE c x = if (weightO c x.t).isSome then (if inB x.k 0 2147483648 then (if inB x.d 1 2147483648 then 0 else 9) else 10) else 8 from rfl)
  have HC := hide hc
  have HB := hide ((Blk.new w c.cells 38).alloc (.cells x.cells 72))
  have HX := hide (show Blk ((w.alloc (.cells c.cells.toArray 38)).alloc (.cells x.cells 72)) (w.heap.size + 1) [.int .i64 x.t, .int .i64 x.k, .int .i64 x.d, .int .i64 x.n] 72 by
    have := Blk.new (w.alloc (.cells c.cells.toArray 38)) [.int .i64 x.t, .int .i64 x.k, .int .i64 x.d, .int .i64 x.n] 72
    rwa [World.size_alloc] at this)
  have HK := hide (((Keeps.refl (fun _ => False) w).alloc (.cells c.cells.toArray 38)).alloc (.cells x.cells 72))
  unfold Cfg.val It.val
  cases h : (weightO c x.t).isSome
  · have hw : weightE c x = 8 := by unfold weightE; rw [h]; rfl
    clear hc
    go_enter Try.func89, Try.ntmps89
    go_wp2_with fail
    refine (refuseWeightless_any c x _ (unhide HC) t0 t1).mono ?_
    rintro e w1 ⟨rfl, hk1⟩
    rw [hw]
    go_wp2
    go_ret
    exact ⟨ret_int (by rw [unhide HE, h]; rfl), (unhide HK).then hk1⟩
  · have hw : weightE c x = 0 := by unfold weightE; rw [h]; rfl
    clear hc
    go_enter Try.func89, Try.ntmps89
    go_wp2_with fail
    refine (refuseWeightless_any c x _ (unhide HC) t0 t1).mono ?_
    rintro e w1 ⟨rfl, hk1⟩
    rw [hw]
    have hb1 := (unhide HB).keeps hk1 (fun h => h)
    have hx1 := (unhide HX).keeps hk1 (fun h => h)
    obtain ⟨hv1, hh1⟩ := bigVal_Blk hb1 20 rfl
    have a0 : w1.cell? ⟨w.heap.size + 1, 0, none⟩ = some (.int .i64 x.t) := hx1.cell rfl
    have a1 : w1.cell? ⟨w.heap.size + 1, 1, none⟩ = some (.int .i64 x.k) := hx1.cell rfl
    have a2 : w1.cell? ⟨w.heap.size + 1, 2, none⟩ = some (.int .i64 x.d) := hx1.cell rfl
    have a3 : w1.cell? ⟨w.heap.size + 1, 3, none⟩ = some (.int .i64 x.n) := hx1.cell rfl
    have HK1 := hide ((unhide HK).then hk1)
    have HX1 := hide hx1
    clear hk1 hb1 hx1
    go_wp2_with fail
    refine (refuseKey_any c x _).mono ?_
    rintro e w2 ⟨rfl, hk2⟩
    have hx2 := (unhide HX1).keeps hk2 (fun h => h)
    have b2 : w2.cell? ⟨w.heap.size + 1, 2, none⟩ = some (.int .i64 x.d) := hx2.cell rfl
    have HK2 := hide ((unhide HK1).then hk2)
    clear hk2 hx2
    cases h2 : inB x.k 0 2147483648
    · have hw2 : keyE x = 10 := by unfold keyE; rw [h2]; rfl
      rw [hw2]
      go_wp2
      go_ret
      exact ⟨ret_int (by rw [unhide HE, h, h2]; rfl), unhide HK2⟩
    · have hw2 : keyE x = 0 := by unfold keyE; rw [h2]; rfl
      rw [hw2]
      cases h3 : inB x.d 1 2147483648
      all_goals
        go_wp2_with (go_at_call 103; refine (draw_any _ _).mono ?_; rintro e w' ⟨rfl, rfl⟩)
        go_ret
        exact ⟨ret_int (by rw [unhide HE, h, h2, h3]; rfl), unhide HK2⟩

end Go.Proofs.Yteecnidnlkjehaa
