import Derived.Test.YtjhaihbjhikhlaaGreatK4
namespace Go.Proofs.YtjhaihbjhikhlaaGreat
open Go.RowKit
attribute [local go_sem ↓] execOp_load38 execOp_load40
attribute [local go_sem] run_load38 run_load40 bigVal_drew hasBig_drew bigVal_ne hasBig_ne bigVal_new hasBig_newB

def fn (f : Nat) : Value := .func (.func f) #[] #[]
def fitsF : Nat → Nat | 1 => 72 | 2 => 75 | 3 => 78 | 4 => 79 | _ => 82
def refuseF : Nat → Nat | 1 => 73 | 2 => 76 | 3 => 76 | 4 => 80 | _ => 83
def startF : Nat → Nat | 1 => 74 | 4 => 81 | _ => 77
def kindCells (k : Nat) : List Value := [fn (fitsF k), fn (refuseF k), fn (startF k)]

set_option maxRecDepth 100000 in
set_option maxHeartbeats 2000000 in
theorem find_no (n : Int) (w : World) (h : inB n 1 5 = false) :
    Calls Tryz.prog 53 #[.int .i64 n] w fun e w' => e = .returned (.tuple #[.agg #[.nilFunc, .nilFunc, .nilFunc], .bool false]) ∧ Keeps (fun _ => False) w w' := by
  go_enter Tryz.func53, Tryz.ntmps53
  go_wp2_with (go_at_call 30; refine (within_any _ _ _ _).mono ?_; rintro e w' ⟨rfl, rfl⟩)
  refine bodyPost_ret (v := .tuple #[.agg #[.nilFunc, .nilFunc, .nilFunc], .bool false]) (by simp [results, Tryz.results53, go_sem]) rfl ⟨rfl, ?_⟩
  repeat (first | exact Keeps.refl _ _ | apply Keeps.alloc)


set_option maxRecDepth 100000 in
set_option maxHeartbeats 2000000 in
theorem find_yes (n : Nat) (w : World) (h1 : 1 ≤ n) (h5 : n ≤ 5) :
    Calls Tryz.prog 53 #[.int .i64 n] w fun e w' => e = .returned (.tuple #[.agg (kindCells n).toArray, .bool true]) ∧ Keeps (fun _ => False) w w' := by
  have h : inB (n : Int) 1 5 = true := by simp [inB]; omega
  go_enter Tryz.func53, Tryz.ntmps53
  go_wp2_with fail
  refine (within_any _ _ _ _).mono ?_
  rintro e w' ⟨rfl, rfl⟩
  rw [h]
  have hn : n = 1 ∨ n = 2 ∨ n = 3 ∨ n = 4 ∨ n = 5 := by omega
  rcases hn with hn | hn | hn | hn | hn
  all_goals
    subst hn
    go_wp2
  · refine bodyPost_ret (v := .tuple #[.agg #[fn 72, fn 73, fn 74], .bool true]) (by simp [results, Tryz.results53, go_sem, fn]) rfl ⟨rfl, ?_⟩
    repeat (first | exact Keeps.refl _ _ | apply Keeps.alloc)
  · refine bodyPost_ret (v := .tuple #[.agg #[fn 75, fn 76, fn 77], .bool true]) (by simp [results, Tryz.results53, go_sem, fn]) rfl ⟨rfl, ?_⟩
    repeat (first | exact Keeps.refl _ _ | apply Keeps.alloc)
  · refine bodyPost_ret (v := .tuple #[.agg #[fn 78, fn 76, fn 77], .bool true]) (by simp [results, Tryz.results53, go_sem, fn]) rfl ⟨rfl, ?_⟩
    repeat (first | exact Keeps.refl _ _ | apply Keeps.alloc)
  · refine bodyPost_ret (v := .tuple #[.agg #[fn 79, fn 80, fn 81], .bool true]) (by simp [results, Tryz.results53, go_sem, fn]) rfl ⟨rfl, ?_⟩
    repeat (first | exact Keeps.refl _ _ | apply Keeps.alloc)
  · refine bodyPost_ret (v := .tuple #[.agg #[fn 82, fn 83, fn 77], .bool true]) (by simp [results, Tryz.results53, go_sem, fn]) rfl ⟨rfl, ?_⟩
    repeat (first | exact Keeps.refl _ _ | apply Keeps.alloc)

end Go.Proofs.YtjhaihbjhikhlaaGreat
