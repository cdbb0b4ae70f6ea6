import Derived.Test.YtahnliehdjncdaaGreatDoorXBQ
set_option maxRecDepth 100000
set_option maxHeartbeats 16000000
namespace Go.Proofs.YtahnliehdjncdaaGreatDoor
open Go.RowKit
theorem emod_le' (c n : Int) (hc : 0 ≤ c) (hn : 1 ≤ n) : c % n ≤ c := by
 have h1 := Int.mul_nonneg (show 0 ≤ n by omega) (Int.ediv_nonneg hc (show 0 ≤ n by omega))
 have h2 := Int.emod_add_mul_ediv c n
 omega
theorem pick_big (c n : Int) (w : World) (hn : 1 ≤ n) (c0 : -9223372036854775808 ≤ c) (c1 : c ≤ 9223372036854775807) :
  Calls Tryz.prog 18 #[.int .i64 c, .int .i64 n] w fun e w' => ∃ k : Nat, (k : Int) < n ∧ e = .returned (.int .i64 k) ∧ w' = w := by
 by_cases h : c < 0
 ·obtain ⟨k, hk⟩ : ∃ k : Nat, (k : Int) = (-(c + 1)) % n := ⟨((-(c + 1)) % n).toNat, Int.toNat_of_nonneg (Int.emod_nonneg _ (by omega))⟩
  have hlt := Int.emod_lt_of_pos (-(c + 1)) (show 0 < n by omega)
  have hke := emod_le' (-(c + 1)) n (by omega) hn
  have HK := hide hk
  clear hk
  go_enter Tryz.func18, Tryz.ntmps18
  go_wp2
  go_ret
  exact ⟨k, by rw [uh HK]; exact hlt, ret_int ((Int.neg_tmod (c + 1) n).symm.trans ((Int.tmod_eq_emod_of_nonneg (by omega)).trans (uh HK).symm)), rfl⟩
 ·obtain ⟨k, hk⟩ : ∃ k : Nat, (k : Int) = c % n := ⟨(c % n).toNat, Int.toNat_of_nonneg (Int.emod_nonneg _ (by omega))⟩
  have hlt := Int.emod_lt_of_pos c (show 0 < n by omega)
  have hke := emod_le' c n (by omega) hn
  have HK := hide hk
  clear hk
  go_enter Tryz.func18, Tryz.ntmps18
  go_wp2
  go_ret
  exact ⟨k, by rw [uh HK]; exact hlt, ret_int (uh HK).symm, rfl⟩
def appS (t : TypeId) (x y : Value) : Sem Next := do pure (.value (← Builtin.append_ #[22, 22] t #[x, y]))
theorem execOp_appS (ρ : Operand → Value) (dst : Option Tmp) (x y : Operand) (ty : TypeId) (pos : String) (after : Array Edge) (guard : Option (Nat × Bool)) :
  execOp ρ { dst, op := .call { callee := .builtin .append, args := #[x, y], argTypes := #[22, 22] }, type := ty, pos, after, guard } = appS ty (ρ x) (ρ y) := by
 rw [BigFrame.execOp_builtin, BigFrame.builtin_append]
 simp [appS]
end Go.Proofs.YtahnliehdjncdaaGreatDoor
