import Derived.Test.YteecnidnlkjehaaQ6
namespace Go.Proofs.Yteecnidnlkjehaa
open Go.RowKit

structure Cfg where
  kind : Int
  lag : Int
  skew : Int
  cap : Int
  k : Int
  window : Int
  bits : Int
  rows : Int
  width : Int
  panes : Int
  size : Int
  degree : Int
  half : Int
  mark : Int
  s00 : Int
  s01 : Int
  s10 : Int
  s11 : Int
  s20 : Int
  s21 : Int

def Cfg.cells (c : Cfg) : List Value := [.int .i64 c.kind, .int .i64 c.lag, .int .i64 c.skew, .int .i64 c.cap, .int .i64 c.k, .int .i64 c.window, .int .i64 c.bits, .int .i64 c.rows, .int .i64 c.width, .int .i64 c.panes, .int .i64 c.size, .int .i64 c.degree, .int .i64 c.half, .int .i64 c.mark, .int .i64 c.s00, .int .i64 c.s01, .int .i64 c.s10, .int .i64 c.s11, .int .i64 c.s20, .int .i64 c.s21]
def Cfg.val (c : Cfg) : Value := .agg #[.int .i64 c.kind, .int .i64 c.lag, .int .i64 c.skew, .int .i64 c.cap, .int .i64 c.k, .int .i64 c.window, .int .i64 c.bits, .int .i64 c.rows, .int .i64 c.width, .int .i64 c.panes, .int .i64 c.size, .int .i64 c.degree, .int .i64 c.half, .int .i64 c.mark, .int .i64 c.s00, .int .i64 c.s01, .int .i64 c.s10, .int .i64 c.s11, .int .i64 c.s20, .int .i64 c.s21]

theorem pow2_bd (n : Nat) (h : n ≤ 61) : (1 : Int) ≤ 2 ^ n ∧ (2 : Int) ^ n ≤ 2305843009213693952 := by
  have e : (2 : Int) ^ n = ((2 ^ n : Nat) : Int) := by simp
  have h1 : 1 ≤ 2 ^ n := Nat.one_le_two_pow
  have h2 : 2 ^ n ≤ 2 ^ 61 := Nat.pow_le_pow_right (by omega) h
  have h3 : (2 : Nat) ^ 61 = 2305843009213693952 := by decide
  rw [e]
  omega

set_option maxHeartbeats 400000 in
theorem doubled_any (n : Int) (w : World) (h0 : 0 ≤ n) (h : n ≤ 4611686018427387904) :
    Calls Try.prog 107 #[.int .i64 n] w fun e w' => e = .returned (optVal (if 61 < n then none else some (2 ^ n.toNat))) ∧ w' = w := by
  by_cases hc : 61 < n
  · rw [if_pos hc]
    go_enter Try.func107, Try.ntmps107
    go_wp2
    go_ret2
    exact ⟨rfl, rfl⟩
  · rw [if_neg hc]
    go_enter Try.func107, Try.ntmps107
    go_wp2
    go_ret2
    refine ⟨?_, rfl⟩
    have h2 := pow2_bd n.toNat (by omega)
    show Ending.returned (.tuple #[.int .i64 (wrap64 (2 ^ n.toNat)), .bool true]) = _
    rw [show wrap64 (2 ^ n.toNat) = 2 ^ n.toNat by unfold wrap64; omega]
    rfl

theorem power_int (b d : Int) (w : World) (hb : 1 ≤ b) (hb' : b ≤ 4611686018427387905) (d0 : 0 ≤ d) (d3 : d ≤ 3) :
    Calls Try.prog 106 #[.int .i64 b, .int .i64 d] w fun e w' => e = .returned (optVal (powGo b d.toNat 1)) ∧ w' = w := by
  obtain ⟨n, rfl⟩ := Int.eq_ofNat_of_zero_le d0
  rw [Int.toNat_natCast]
  exact power_any b n w hb hb' (by omega)

/-- 'weight.Of'. -/
def weightO (c : Cfg) (t : Int) : Option Int :=
  if t < c.mark then none
  else if c.half = 0 then powGo (t - c.mark + 1) c.degree.toNat 1
  else if 61 < (t - c.mark) / c.half then none else some (2 ^ ((t - c.mark) / c.half).toNat)

/-- The part of a configuration that the weight asks. -/
structure Cfg.weighs (c : Cfg) : Prop where
  d0 : 0 ≤ c.degree
  d1 : c.degree ≤ 3
  h0 : 0 ≤ c.half
  h1 : c.half ≤ 100
  m0 : 0 ≤ c.mark
  m1 : c.mark ≤ 4611686018427387904

set_option maxHeartbeats 1000000 in
theorem of_any (c : Cfg) (t : Int) (w : World) (hc : c.weighs) (t0 : -100 ≤ t) (t1 : t ≤ 4611686018427387904) :
    Calls Try.prog 100 #[c.val, .int .i64 t] w fun e w' => e = .returned (optVal (weightO c t)) ∧ w' = w.alloc (.cells c.cells.toArray 38) := by
  obtain ⟨d0, d1, h0, h1, m0, m1⟩ := hc
  unfold Cfg.val Cfg.cells
  by_cases hm : t < c.mark
  · have HW := hide (show weightO c t = none by unfold weightO; rw [if_pos hm])
    go_enter Try.func100, Try.ntmps100
    go_wp2
    go_ret2
    exact ⟨by rw [unhide HW]; rfl, rfl⟩
  · by_cases hh : c.half = 0
    · have HW := hide (show weightO c t = powGo (t - c.mark + 1) c.degree.toNat 1 by unfold weightO; rw [if_neg hm, if_pos hh])
      have hhb : (c.half == 0) = true := by simp [hh]
      clear hh
      go_enter Try.func100, Try.ntmps100
      go_wp2_with fail
      refine (power_int (t - c.mark + 1) c.degree _ (by omega) (by omega) d0 d1).mono ?_
      rintro e w' ⟨rfl, rfl⟩
      unfold optVal
      go_wp2
      go_ret2
      exact ⟨by rw [unhide HW]; rfl, rfl⟩
    · have HW := hide (show weightO c t = if 61 < (t - c.mark) / c.half then none else some (2 ^ ((t - c.mark) / c.half).toNat) by unfold weightO; rw [if_neg hm, if_neg hh])
      have hhb : (c.half == 0) = false := by simp [hh]
      have hh1 : 1 ≤ c.half := by omega
      have hq0 : 0 ≤ (t - c.mark) / c.half := Int.ediv_nonneg (by omega) (by omega)
      have hq1 : (t - c.mark) / c.half ≤ 4611686018427387904 := by
        have := Int.ediv_le_self c.half (show 0 ≤ t - c.mark by omega)
        omega
      clear hh
      go_enter Try.func100, Try.ntmps100
      go_wp2_with fail
      refine (doubled_any ((t - c.mark) / c.half) _ hq0 hq1).mono ?_
      rintro e w' ⟨rfl, rfl⟩
      rw [← unhide HW]
      unfold optVal
      go_wp2
      go_ret2
      exact ⟨rfl, rfl⟩

end Go.Proofs.Yteecnidnlkjehaa
