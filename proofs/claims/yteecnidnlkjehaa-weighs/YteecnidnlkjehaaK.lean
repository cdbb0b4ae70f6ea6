import Derived.Test.YteecnidnlkjehaaB
namespace Go.Proofs.Yteecnidnlkjehaa
open Go.RowKit
attribute [local go_sem ↓] execOp_load38 execOp_load40
attribute [local go_sem] run_load38 run_load40 bigVal_drew hasBig_drew bigVal_ne hasBig_ne bigVal_new hasBig_newB

def commonB (c : Cfg) : Bool := inB c.lag 0 100 && (inB c.skew 0 100 && inB c.cap 1 8)
def windowB (c : Cfg) : Bool := inB c.window 1 1000
def countB (c : Cfg) : Bool := inB c.k 1 10 && windowB c
def seedB (a b : Int) : Bool := inB a 1 2305843009213693950 && inB b 0 2305843009213693950
def Cfg.seed (c : Cfg) : Nat → Bool
  | 0 => seedB c.s00 c.s01
  | 1 => seedB c.s10 c.s11
  | _ => seedB c.s20 c.s21
def seedsFrom (c : Cfg) : Nat → Nat → Bool
  | 0, _ => true
  | f + 1, i => c.seed i && seedsFrom c f (i + 1)
def seedsB (c : Cfg) (n : Nat) : Bool := seedsFrom c n 0
def distinctB (c : Cfg) : Bool := inB c.bits 1 4 && (windowB c && seedsB c 1)
def oftenB (c : Cfg) : Bool := inB c.rows 1 3 && (inB c.width 1 16 && (inB c.panes 1 8 && (windowB c && ((c.window % c.panes == 0) && seedsB c c.rows.toNat))))
def decayB (c : Cfg) : Bool := inB c.degree 0 3 && (inB c.half 0 100 && inB c.mark 0 4611686018427387904)
def drawnB (c : Cfg) : Bool := inB c.size 1 5 && decayB c

set_option maxHeartbeats 1000000 in
theorem common_any (c : Cfg) (w : World) : Calls Try.prog 61 #[c.val] w fun e w' => e = .returned (.bool (commonB c)) ∧ Keeps (fun _ => False) w w' := by
  have HC := hide (show commonB c = (inB c.lag 0 100 && (inB c.skew 0 100 && inB c.cap 1 8)) from rfl)
  unfold Cfg.val
  cases h1 : inB c.lag 0 100
  · go_enter Try.func61, Try.ntmps61
    go_wp2_with (go_at_call 38; refine (within_any _ _ _ _).mono ?_; rintro e w' ⟨rfl, rfl⟩)
    go_ret
    exact ⟨ret_bool (by rw [unhide HC, h1]; rfl), (Keeps.refl _ _).alloc _⟩
  · cases h2 : inB c.skew 0 100
    · go_enter Try.func61, Try.ntmps61
      go_wp2_with (go_at_call 38; refine (within_any _ _ _ _).mono ?_; rintro e w' ⟨rfl, rfl⟩)
      go_ret
      exact ⟨ret_bool (by rw [unhide HC, h1, h2]; rfl), (Keeps.refl _ _).alloc _⟩
    · go_enter Try.func61, Try.ntmps61
      go_wp2_with (go_at_call 38; refine (within_any _ _ _ _).mono ?_; rintro e w' ⟨rfl, rfl⟩)
      go_ret
      exact ⟨ret_bool (by rw [unhide HC, h1, h2]; rfl), (Keeps.refl _ _).alloc _⟩

set_option maxHeartbeats 1000000 in
theorem window_any (c : Cfg) (w : World) : Calls Try.prog 95 #[c.val] w fun e w' => e = .returned (.bool (windowB c)) ∧ Keeps (fun _ => False) w w' := by
  have HC := hide (show windowB c = inB c.window 1 1000 from rfl)
  unfold Cfg.val
  go_enter Try.func95, Try.ntmps95
  go_wp2_with (go_at_call 38; refine (within_any _ _ _ _).mono ?_; rintro e w' ⟨rfl, rfl⟩)
  go_ret
  exact ⟨ret_bool (unhide HC).symm, (Keeps.refl _ _).alloc _⟩

set_option maxHeartbeats 1000000 in
theorem decayFits_any (c : Cfg) (w : World) : Calls Try.prog 85 #[c.val] w fun e w' => e = .returned (.bool (decayB c)) ∧ Keeps (fun _ => False) w w' := by
  have HC := hide (show decayB c = (inB c.degree 0 3 && (inB c.half 0 100 && inB c.mark 0 4611686018427387904)) from rfl)
  unfold Cfg.val
  cases h1 : inB c.degree 0 3
  · go_enter Try.func85, Try.ntmps85
    go_wp2_with (go_at_call 38; refine (within_any _ _ _ _).mono ?_; rintro e w' ⟨rfl, rfl⟩)
    go_ret
    exact ⟨ret_bool (by rw [unhide HC, h1]; rfl), (Keeps.refl _ _).alloc _⟩
  · cases h2 : inB c.half 0 100
    all_goals
      go_enter Try.func85, Try.ntmps85
      go_wp2_with (first | (go_at_call 38; refine (within_any _ _ _ _).mono ?_; rintro e w' ⟨rfl, rfl⟩) | (go_at_call 44; refine (time_any _ _).mono ?_; rintro e w' ⟨rfl, rfl⟩))
      go_ret
      exact ⟨ret_bool (by rw [unhide HC, h1, h2]; rfl), (Keeps.refl _ _).alloc _⟩

set_option maxHeartbeats 1000000 in
theorem countFits_any (c : Cfg) (w : World) : Calls Try.prog 79 #[c.val] w fun e w' => e = .returned (.bool (countB c)) ∧ Keeps (fun _ => False) w w' := by
  have HC := hide (show countB c = (inB c.k 1 10 && windowB c) from rfl)
  unfold Cfg.val
  cases h1 : inB c.k 1 10
  · go_enter Try.func79, Try.ntmps79
    go_wp2_with (go_at_call 38; refine (within_any _ _ _ _).mono ?_; rintro e w' ⟨rfl, rfl⟩)
    go_ret
    exact ⟨ret_bool (by rw [unhide HC, h1]; rfl), (Keeps.refl _ _).alloc _⟩
  · go_enter Try.func79, Try.ntmps79
    go_wp2_with (first | (go_at_call 38; refine (within_any _ _ _ _).mono ?_; rintro e w' ⟨rfl, rfl⟩) | (go_at_call 95; refine (window_any c _).mono ?_; rintro e w' ⟨rfl, hk⟩))
    go_ret
    exact ⟨ret_bool (by rw [unhide HC, h1]; rfl), ((Keeps.refl _ _).alloc _).then hk⟩

set_option maxHeartbeats 1000000 in
theorem drawnFits_any (c : Cfg) (w : World) : Calls Try.prog 88 #[c.val] w fun e w' => e = .returned (.bool (drawnB c)) ∧ Keeps (fun _ => False) w w' := by
  have HC := hide (show drawnB c = (inB c.size 1 5 && decayB c) from rfl)
  unfold Cfg.val
  cases h1 : inB c.size 1 5
  · go_enter Try.func88, Try.ntmps88
    go_wp2_with (go_at_call 38; refine (within_any _ _ _ _).mono ?_; rintro e w' ⟨rfl, rfl⟩)
    go_ret
    exact ⟨ret_bool (by rw [unhide HC, h1]; rfl), (Keeps.refl _ _).alloc _⟩
  · go_enter Try.func88, Try.ntmps88
    go_wp2_with (first | (go_at_call 38; refine (within_any _ _ _ _).mono ?_; rintro e w' ⟨rfl, rfl⟩) | (go_at_call 85; refine (decayFits_any c _).mono ?_; rintro e w' ⟨rfl, hk⟩))
    go_ret
    exact ⟨ret_bool (by rw [unhide HC, h1]; rfl), ((Keeps.refl _ _).alloc _).then hk⟩

def Cfg.seeds (c : Cfg) : Value := .agg #[.int .i64 c.s00, .int .i64 c.s01, .int .i64 c.s10, .int .i64 c.s11, .int .i64 c.s20, .int .i64 c.s21]

set_option maxHeartbeats 2000000 in
theorem seedsFit_any (c : Cfg) (n : Int) (w : World) (h0 : 0 ≤ n) (h3 : n ≤ 3) : Calls Try.prog 98 #[c.seeds, .int .i64 n] w fun e w' => e = .returned (.bool (seedsB c n.toNat)) ∧ Keeps (fun _ => False) w w' := by
  obtain ⟨m, rfl⟩ := Int.eq_ofNat_of_zero_le h0
  rw [Int.toNat_natCast]
  have hm3 : m ≤ 3 := by omega
  unfold Cfg.seeds
  go_enter Try.func98, Try.ntmps98
  go_wp2
  go_loop [7] (fun i => ∃ k : Nat, k ≤ m ∧ i = .int .i64 k ∧ Hid (seedsB c m = seedsFrom c (m - k) k)) (fun i => m - (intOf i).toNat)
  case atStart => exact ⟨0, Nat.zero_le _, rfl, rfl⟩
  case round =>
    obtain ⟨k, hk, rfl, HE⟩ := hrel
    by_cases hlt : k < m
    · have HE' := hide (show seedsB c m = (c.seed k && seedsFrom c (m - (k + 1)) (k + 1)) by rw [unhide HE, show m - k = (m - (k + 1)) + 1 by omega]; rfl)
      clear HE
      have hk3 : k = 0 ∨ k = 1 ∨ k = 2 := by omega
      have hlt' : (k : Int) < (m : Int) := by omega
      rcases hk3 with hk3 | hk3 | hk3
      all_goals
        subst hk3
        simp only [Cfg.seed, seedB] at HE'
      · cases h1 : inB c.s00 1 2305843009213693950
        · go_wp2_with (go_at_call 38; refine (within_any _ _ _ _).mono ?_; rintro e w' ⟨rfl, rfl⟩)
          go_ret
          exact ⟨ret_bool (by rw [unhide HE', h1]; rfl), (Keeps.refl _ _).alloc _⟩
        · cases h2 : inB c.s01 0 2305843009213693950
          · go_wp2_with (go_at_call 38; refine (within_any _ _ _ _).mono ?_; rintro e w' ⟨rfl, rfl⟩)
            go_ret
            exact ⟨ret_bool (by rw [unhide HE', h1, h2]; rfl), (Keeps.refl _ _).alloc _⟩
          · go_wp2_with (go_at_call 38; refine (within_any _ _ _ _).mono ?_; rintro e w' ⟨rfl, rfl⟩)
            go_round
            case rel => exact ⟨1, by omega, rfl, by rw [h1, h2] at HE'; exact HE'⟩
            case measure => simp [intOf]; omega
      · cases h1 : inB c.s10 1 2305843009213693950
        · go_wp2_with (go_at_call 38; refine (within_any _ _ _ _).mono ?_; rintro e w' ⟨rfl, rfl⟩)
          go_ret
          exact ⟨ret_bool (by rw [unhide HE', h1]; rfl), (Keeps.refl _ _).alloc _⟩
        · cases h2 : inB c.s11 0 2305843009213693950
          · go_wp2_with (go_at_call 38; refine (within_any _ _ _ _).mono ?_; rintro e w' ⟨rfl, rfl⟩)
            go_ret
            exact ⟨ret_bool (by rw [unhide HE', h1, h2]; rfl), (Keeps.refl _ _).alloc _⟩
          · go_wp2_with (go_at_call 38; refine (within_any _ _ _ _).mono ?_; rintro e w' ⟨rfl, rfl⟩)
            go_round
            case rel => exact ⟨2, by omega, rfl, by rw [h1, h2] at HE'; exact HE'⟩
            case measure => simp [intOf]; omega
      · cases h1 : inB c.s20 1 2305843009213693950
        · go_wp2_with (go_at_call 38; refine (within_any _ _ _ _).mono ?_; rintro e w' ⟨rfl, rfl⟩)
          go_ret
          exact ⟨ret_bool (by rw [unhide HE', h1]; rfl), (Keeps.refl _ _).alloc _⟩
        · cases h2 : inB c.s21 0 2305843009213693950
          · go_wp2_with (go_at_call 38; refine (within_any _ _ _ _).mono ?_; rintro e w' ⟨rfl, rfl⟩)
            go_ret
            exact ⟨ret_bool (by rw [unhide HE', h1, h2]; rfl), (Keeps.refl _ _).alloc _⟩
          · go_wp2_with (go_at_call 38; refine (within_any _ _ _ _).mono ?_; rintro e w' ⟨rfl, rfl⟩)
            go_round
            case rel => exact ⟨3, by omega, rfl, by rw [h1, h2] at HE'; exact HE'⟩
            case measure => simp [intOf]; omega
    · go_wp2
      go_ret
      exact ⟨ret_bool (by rw [unhide HE, show m - k = 0 by omega]; rfl), (Keeps.refl _ _).alloc _⟩

end Go.Proofs.Yteecnidnlkjehaa
