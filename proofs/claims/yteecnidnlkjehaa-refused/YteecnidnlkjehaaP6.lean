import Derived.Test.YteecnidnlkjehaaP5
namespace Go.Proofs.Yteecnidnlkjehaa
open Go.RowKit

set_option maxRecDepth 100000 in
set_option maxHeartbeats 4000000 in
theorem pre_nil (a : Option Addr) (cap : Nat) (n : Int) (w : World) (n0 : -9223372036854775808 ≤ n) (n1 : n ≤ 9223372036854775807) :
    Calls Try.prog 5 #[.slice a 0 cap, .int .i64 n] w fun r w' => r = .returned (.bool true) ∧ Keeps (fun _ => False) w w' := by
  go_enter Try.func5, Try.ntmps5
  go_wp2_with fail
  refine (awake_any w).mono ?_
  rintro r w1 ⟨rfl, hk1⟩
  have HK1 := hide hk1
  clear hk1
  go_wp2_with fail
  refine (pick_any n 1 w1 (by omega) (by omega) n0 n1).mono ?_
  rintro r w1' ⟨k, hk, rfl, hw⟩
  rw [hw]
  clear hw w1'
  have hk0 : k = 0 := by omega
  subst hk0
  go_wp2_with fail
  refine (run_nil a cap w1).mono ?_
  rintro r w2 ⟨va, la, rfl, hA, hMA, hk2⟩
  have hla : la = [] := by simpa [runM] using hMA
  subst hla
  have HK2 := hide ((unhide HK1).then hk2)
  obtain ⟨aa, ca, rfl⟩ := row_form hA.row
  clear hA hMA hk2 HK1
  go_wp2_with fail
  refine (run_nil _ _ w2).mono ?_
  rintro r w3 ⟨vb, lb, rfl, hB, hMB, hk3⟩
  have hlb : lb = [] := by simpa [runM] using hMB
  subst hlb
  have HK3 := hide ((unhide HK2).then hk3)
  obtain ⟨ab, cb, rfl⟩ := row_form hB.row
  clear hB hMB hk3 HK2
  go_wp2
  go_loopw [5, 9] (fun okv i wr => i = .int .i64 0 ∧ okv = .bool true ∧ wr = w3) (fun _ _ _ => 0)
  case atStart => exact ⟨rfl, rfl, rfl⟩
  case round =>
    obtain ⟨rfl, rfl, rfl⟩ := hrel
    go_wp2
    go_ret
    exact ⟨rfl, unhide HK3⟩

end Go.Proofs.Yteecnidnlkjehaa
