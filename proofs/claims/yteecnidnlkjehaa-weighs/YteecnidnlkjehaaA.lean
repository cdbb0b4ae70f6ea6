import Derived.Test.YteecnidnlkjehaaRows
import Derived.WalkKit
import Derived.WalkSpells
import Derived.WalkLawsBesides
namespace Go.Proofs.Yteecnidnlkjehaa
open Go.RowKit

def inB (n lo hi : Int) : Bool := decide (lo ≤ n) && decide (n ≤ hi)

theorem ret_bool {a b : Bool} (h : a = b) : Ending.returned (.bool a) = .returned (.bool b) := by rw [h]
theorem ret_int {k : IntKind} {a b : Int} (h : a = b) : Ending.returned (.int k a) = .returned (.int k b) := by rw [h]

set_option maxHeartbeats 400000 in
theorem within_any (n lo hi : Int) (w : World) :
    Calls Try.prog 38 #[.int .i64 n, .int .i64 lo, .int .i64 hi] w fun e w' => e = .returned (.bool (inB n lo hi)) ∧ w' = w := by
  by_cases h : lo ≤ n
  · go_enter Try.func38, Try.ntmps38
    go_wp2
    go_ret
    exact ⟨by simp [inB, h], rfl⟩
  · have hd : decide (lo ≤ n) = false := by simpa using h
    have HI : Hid (false = inB n lo hi) := by simp [Hid, inB, h]
    go_enter Try.func38, Try.ntmps38
    go_wp2
    go_ret
    exact ⟨ret_bool HI.out, rfl⟩

set_option maxHeartbeats 400000 in
theorem time_any (n : Int) (w : World) :
    Calls Try.prog 44 #[.int .i64 n] w fun e w' => e = .returned (.bool (inB n 0 4611686018427387904)) ∧ w' = w := by
  go_enter Try.func44, Try.ntmps44
  go_wp2_with (go_at_call 38; refine (within_any _ _ _ _).mono ?_; rintro e w' ⟨rfl, rfl⟩)
  go_ret
  exact ⟨rfl, rfl⟩

structure It where
  t : Int
  k : Int
  d : Int
  n : Int

def It.cells (x : It) : Array Value := #[.int .i64 x.t, .int .i64 x.k, .int .i64 x.d, .int .i64 x.n]
def It.val (x : It) : Value := .agg #[.int .i64 x.t, .int .i64 x.k, .int .i64 x.d, .int .i64 x.n]

def aheadB (a b : It) : Bool := if a.t = b.t then decide (a.n < b.n) else decide (a.t < b.t)

set_option maxHeartbeats 400000 in
theorem ahead_any (a b : It) (w : World) :
    Calls Try.prog 63 #[a.val, b.val] w fun e w' => e = .returned (.bool (aheadB a b)) ∧ w' = (w.alloc (.cells a.cells 72)).alloc (.cells b.cells 72) := by
  unfold It.val It.cells
  by_cases h : a.t = b.t
  · have H1 : Hid (decide (a.n < b.n) = aheadB a b) := by simp [Hid, aheadB, h]
    have hb : (a.t != b.t) = false := by simp [h]
    clear h
    go_enter Try.func63, Try.ntmps63
    go_wp2
    go_ret
    exact ⟨ret_bool H1.out, rfl⟩
  · have H1 : Hid (decide (a.t < b.t) = aheadB a b) := by simp [Hid, aheadB, h]
    have hb : (a.t != b.t) = true := by simp [h]
    clear h
    go_enter Try.func63, Try.ntmps63
    go_wp2
    go_ret
    exact ⟨ret_bool H1.out, rfl⟩

/-- `weight.power`: none stands for `0, false`. -/
def powGo (base : Int) : Nat → Int → Option Int
  | 0, p => some p
  | n + 1, p => if 2305843009213693952 / base < p then none else powGo base n (p * base)

def optInt : Option Int → Int | some x => x | none => 0
def optVal (o : Option Int) : Value := .tuple #[.int .i64 (optInt o), .bool o.isSome]

theorem mul_ok (p b : Int) (hp : 1 ≤ p) (hb : 1 ≤ b) (h : ¬ 2305843009213693952 / b < p) : 1 ≤ p * b ∧ p * b ≤ 2305843009213693952 := by
  constructor
  · have := Int.mul_le_mul hp hb (by omega) (by omega); simpa using this
  · have h1 : p ≤ 2305843009213693952 / b := by omega
    exact (Int.le_ediv_iff_mul_le (by omega)).1 h1

set_option maxHeartbeats 400000 in
theorem power_any (b : Int) (n : Nat) (w : World) (hb : 1 ≤ b) (hb' : b ≤ 4611686018427387905) (hn : n ≤ 3) :
    Calls Try.prog 106 #[.int .i64 b, .int .i64 n] w fun e w' => e = .returned (optVal (powGo b n 1)) ∧ w' = w := by
  go_enter Try.func106, Try.ntmps106
  go_wp2
  go_loop [6, 8] (fun p i => ∃ k : Nat, ∃ q : Int, k ≤ n ∧ i = .int .i64 k ∧ p = .int .i64 q ∧ 1 ≤ q ∧ q ≤ 2305843009213693952 ∧ powGo b n 1 = powGo b (n - k) q) (fun _ i => n - (intOf i).toNat)
  case atStart => exact ⟨0, 1, Nat.zero_le _, rfl, rfl, by omega, by omega, rfl⟩
  case round =>
    obtain ⟨k, q, hk, rfl, rfl, hq1, hq2, he⟩ := hrel
    have HE : Hid (powGo b n 1 = powGo b (n - k) q) := he
    clear he
    by_cases hlt : k < n
    · obtain ⟨m, hm⟩ : ∃ m, n - k = m + 1 := ⟨n - k - 1, by omega⟩
      have HM : Hid (n - k = m + 1) := hm
      clear hm
      by_cases hc : 2305843009213693952 / b < q
      · go_wp2
        go_ret2
        refine ⟨?_, rfl⟩
        rw [HE.out, HM.out]; simp [powGo, hc, optVal, optInt]
      · have hmo := mul_ok q b hq1 hb hc
        obtain ⟨hm1, hm2⟩ := hmo
        go_wp2
        go_round
        case rel => exact ⟨k + 1, q * b, by omega, by go_num, by go_num, hm1, hm2, by rw [HE.out, HM.out]; rw [show n - (k + 1) = m from by have := HM.out; omega]; simp [powGo, hc]⟩
        case measure => simp [intOf]; omega
    · go_wp2
      go_ret2
      refine ⟨?_, rfl⟩
      rw [HE.out, show n - k = 0 from by omega]; simp [powGo, optVal, optInt]

end Go.Proofs.Yteecnidnlkjehaa
