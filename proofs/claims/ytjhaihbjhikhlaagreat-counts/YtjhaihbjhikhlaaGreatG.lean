import Derived.Test.YtjhaihbjhikhlaaGreatXF
namespace Go.Proofs.YtjhaihbjhikhlaaGreat
open Go.RowKit

theorem powGo_two (n k : Nat) (hk : k ≤ 61) : powGo 2 n (2 ^ k) = if 61 < k + n then none else some (2 ^ (k + n)) := by
  induction n generalizing k with
  | zero => rw [if_neg (by omega)]; rfl
  | succ n ih =>
    show (if 2305843009213693952 / 2 < (2 : Int) ^ k then none else powGo 2 n (2 ^ k * 2)) = _
    by_cases h61 : k = 61
    · subst h61
      rw [if_pos (by decide), if_pos (by omega)]
    · have h1 := pow2_bd k hk
      have h2 : (2 : Int) ^ k ≤ 1152921504606846976 := by
        have e : (2 : Int) ^ k = ((2 ^ k : Nat) : Int) := by simp
        have h2 : 2 ^ k ≤ 2 ^ 60 := Nat.pow_le_pow_right (by omega) (by omega)
        have h3 : (2 : Nat) ^ 60 = 1152921504606846976 := by decide
        rw [e]; omega
      rw [if_neg (by omega), ← Int.pow_succ, ih (k + 1) (by omega), show k + 1 + n = k + (n + 1) by omega]

theorem weightO_ref (c : Cfg) (t : Int) (hm : ¬ t < c.mark) (h0 : 0 ≤ c.half) :
    weightO c t = if 0 < c.half then powGo 2 ((t - c.mark) / c.half).toNat 1 else powGo (t - c.mark + 1) c.degree.toNat 1 := by
  unfold weightO
  rw [if_neg hm]
  by_cases hh : c.half = 0
  · rw [if_pos hh, if_neg (by rw [hh]; decide)]
  · have hq : 0 ≤ (t - c.mark) / c.half := Int.ediv_nonneg (by omega) (by omega)
    rw [if_neg hh, if_pos (show 0 < c.half by omega)]
    have := powGo_two ((t - c.mark) / c.half).toNat 0 (by omega)
    rw [Nat.zero_add, Int.pow_zero] at this
    rw [this]
    generalize (t - c.mark) / c.half = q at *
    by_cases h : 61 < q
    · rw [if_pos h, if_pos (show 61 < q.toNat by omega)]
    · rw [if_neg h, if_neg (show ¬ 61 < q.toNat by omega)]

set_option maxHeartbeats 400000 in
theorem rno_any (code : Int) (w : World) :
    Calls Tryz.prog 23 #[.int .i64 code] w fun e w' => e = .returned (ansV code (.slice none 0 0)) ∧ Keeps (fun _ => False) w w' := by
  go_enter Tryz.func23, Tryz.ntmps23
  go_wp2
  refine bodyPost_ret (v := ansV code (.slice none 0 0)) (by simp [results, Tryz.results23, go_sem, ansV]; rfl) rfl ⟨rfl, ?_⟩
  repeat (first | exact Keeps.refl _ _ | apply Keeps.alloc)

set_option maxHeartbeats 400000 in
theorem rnum_any (code : Int) (w : World) : Calls Tryz.prog 29 #[.int .i64 code] w fun e w' => e = .returned (.int .i64 code) ∧ w' = w := by
  go_enter Tryz.func29, Tryz.ntmps29
  go_wp2
  go_ret
  exact ⟨rfl, rfl⟩

set_option maxHeartbeats 400000 in
theorem rin_any (n lo hi : Int) (w : World) :
    Calls Tryz.prog 43 #[.int .i64 n, .int .i64 lo, .int .i64 hi] w fun e w' => e = .returned (.bool (inB n lo hi)) ∧ w' = w := by
  by_cases h : lo ≤ n
  · go_enter Tryz.func43, Tryz.ntmps43
    go_wp2
    go_ret
    exact ⟨by simp [inB, h], rfl⟩
  · have hd : decide (lo ≤ n) = false := by simpa using h
    have HI : Hid (false = inB n lo hi) := by simp [Hid, inB, h]
    go_enter Tryz.func43, Tryz.ntmps43
    go_wp2
    go_ret
    exact ⟨ret_bool HI.out, rfl⟩

set_option maxRecDepth 100000 in
set_option maxHeartbeats 2000000 in
/-- 'sketchref.Weight'. -/
theorem rweight_any (c : Cfg) (t : Int) (w : World) (hc : c.weighs) (t0 : -100 ≤ t) (t1 : t ≤ 4611686018427387904) :
    Calls Tryz.prog 66 #[c.val, .int .i64 t] w fun e w' => e = .returned (.int .i64 (optInt (weightO c t))) ∧ Keeps (fun _ => False) w w' := by
  obtain ⟨d0, d1, h0, h1, m0, m1⟩ := hc
  have HK := hide ((Keeps.refl (fun _ => False) w).alloc (.cells c.cells.toArray 33))
  by_cases hm : t < c.mark
  · have HW := hide (show weightO c t = none by unfold weightO; rw [if_pos hm])
    unfold Cfg.val Cfg.cells at *
    go_enter Tryz.func66, Tryz.ntmps66
    go_wp2
    go_ret
    exact ⟨by rw [unhide HW]; rfl, unhide HK⟩
  · have HW := hide (weightO_ref c t hm h0)
    obtain ⟨b, n, hb1, hb2, hn1, hbn, HWN⟩ : ∃ (b : Int) (n : Nat), 1 ≤ b ∧ b ≤ 4611686018427387905 ∧ (n : Int) ≤ 4611686018427387904 ∧ ((0 < c.half ∧ b = 2 ∧ (t - c.mark).tdiv c.half = n) ∨ (c.half = 0 ∧ b = t - c.mark + 1 ∧ c.degree = n)) ∧ Hid (weightO c t = powGo b n 1) := by
      by_cases hh : 0 < c.half
      · have hq : 0 ≤ (t - c.mark) / c.half := Int.ediv_nonneg (by omega) (by omega)
        have hn2 : (t - c.mark) / c.half ≤ 4611686018427387904 := by
          have := Int.ediv_le_self c.half (show 0 ≤ t - c.mark by omega)
          omega
        have hw := unhide HW
        rw [if_pos hh] at hw
        have htd : (t - c.mark).tdiv c.half = (t - c.mark) / c.half := Int.tdiv_eq_ediv_of_nonneg (by omega)
        refine ⟨2, ((t - c.mark) / c.half).toNat, by omega, by omega, by omega, .inl ⟨hh, rfl, ?_⟩, hw⟩
        rw [htd]; omega
      · have hw := unhide HW
        rw [if_neg hh] at hw
        exact ⟨t - c.mark + 1, c.degree.toNat, by omega, by omega, by omega, .inr ⟨by omega, rfl, by omega⟩, hw⟩
    have HB := hide (show ∀ p : Int, ¬ 2305843009213693952 / b < p → 1 ≤ p → 1 ≤ p * b ∧ p * b ≤ 2305843009213693952 from fun p h1 h2 => mul_ok p b h2 hb1 h1)
    clear HW
    have HBN := hide hbn
    rcases hbn with ⟨hh, rfl, htd⟩ | ⟨hh, hbe, hd⟩
    · have hhb : (c.half == 0) = false := by simp; omega
      unfold Cfg.val Cfg.cells at *
      go_enter Tryz.func66, Tryz.ntmps66
      go_wp2_with fail
      clear HBN
      go_loopw [7, 8] (fun p i wr => ∃ (k : Nat) (q : Int), k ≤ n ∧ i = .int .i64 k ∧ p = .int .i64 q ∧ 1 ≤ q ∧ q ≤ 2305843009213693952 ∧ Hid (powGo 2 (n - k) q = powGo 2 n 1) ∧ Hid (Keeps (fun _ => False) w wr)) (fun _ i _ => n - (intOf i).toNat)
      case atStart => exact ⟨0, 1, by omega, rfl, rfl, by omega, by omega, rfl, HK⟩
      case round =>
        obtain ⟨k, q, hk, rfl, rfl, hq1, hq2, HP, HKr⟩ := hrel
        by_cases hkn : k < n
        · have hkn' : (k : Int) < (n : Int) := by omega
          have HS := hide (show powGo 2 (n - k) q = if 2305843009213693952 / 2 < q then none else powGo 2 (n - (k + 1)) (q * 2) by
            rw [show n - k = (n - (k + 1)) + 1 by omega]; rfl)
          by_cases hc : (1152921504606846976 : Int) < q
          · have HR := hide (show optInt (weightO c t) = 0 by rw [unhide HWN, ← unhide HP, unhide HS, if_pos (by first | exact hc | omega)]; rfl)
            go_wp2
            go_ret
            exact ⟨ret_int (unhide HR).symm, unhide HKr⟩
          · have HS2 := hide (show powGo 2 (n - (k + 1)) (q * 2) = powGo 2 n 1 by rw [← unhide HP, unhide HS, if_neg (by first | exact hc | omega)])
            obtain ⟨hm1, hm2⟩ := unhide HB q (by first | exact hc | exact Int.not_lt.1 hc | omega) hq1
            go_wp2
            go_roundw
            case rel => exact ⟨k + 1, q * 2, by omega, by go_num, by go_num, hm1, hm2, HS2, HKr⟩
            case measure => simp [intOf]; omega
        · have hkk : k = n := by omega
          subst hkk
          have HR := hide (show optInt (weightO c t) = q by rw [unhide HWN, ← unhide HP, Nat.sub_self]; rfl)
          go_wp2
          go_ret
          exact ⟨ret_int (unhide HR).symm, unhide HKr⟩
    · have hhb : (c.half == 0) = true := by simp; omega
      unfold Cfg.val Cfg.cells at *
      go_enter Tryz.func66, Tryz.ntmps66
      go_wp2_with fail
      try rw [← hbe]
      clear HBN hbe hd
      go_loopw [7, 8] (fun p i wr => ∃ (k : Nat) (q : Int), k ≤ n ∧ i = .int .i64 k ∧ p = .int .i64 q ∧ 1 ≤ q ∧ q ≤ 2305843009213693952 ∧ Hid (powGo b (n - k) q = powGo b n 1) ∧ Hid (Keeps (fun _ => False) w wr)) (fun _ i _ => n - (intOf i).toNat)
      case atStart => exact ⟨0, 1, by omega, rfl, rfl, by omega, by omega, rfl, hide ((Keeps.refl (fun _ => False) w).alloc _)⟩
      case round =>
        obtain ⟨k, q, hk, rfl, rfl, hq1, hq2, HP, HKr⟩ := hrel
        by_cases hkn : k < n
        · have hkn' : (k : Int) < (n : Int) := by omega
          have HS := hide (show powGo b (n - k) q = if 2305843009213693952 / b < q then none else powGo b (n - (k + 1)) (q * b) by
            rw [show n - k = (n - (k + 1)) + 1 by omega]; rfl)
          by_cases hc : (2305843009213693952 / b : Int) < q
          · have HR := hide (show optInt (weightO c t) = 0 by rw [unhide HWN, ← unhide HP, unhide HS, if_pos (by first | exact hc | omega)]; rfl)
            go_wp2
            go_ret
            exact ⟨ret_int (unhide HR).symm, unhide HKr⟩
          · have HS2 := hide (show powGo b (n - (k + 1)) (q * b) = powGo b n 1 by rw [← unhide HP, unhide HS, if_neg (by first | exact hc | omega)])
            obtain ⟨hm1, hm2⟩ := unhide HB q (by first | exact hc | exact Int.not_lt.1 hc | omega) hq1
            go_wp2
            go_roundw
            case rel => exact ⟨k + 1, q * b, by omega, by go_num, by go_num, hm1, hm2, HS2, HKr⟩
            case measure => simp [intOf]; omega
        · have hkk : k = n := by omega
          subst hkk
          have HR := hide (show optInt (weightO c t) = q by rw [unhide HWN, ← unhide HP, Nat.sub_self]; rfl)
          go_wp2
          go_ret
          exact ⟨ret_int (unhide HR).symm, unhide HKr⟩

end Go.Proofs.YtjhaihbjhikhlaaGreat
