import Derived.Test.YtjhaihbjhikhlaaK4
namespace Go.Proofs.Ytjhaihbjhikhlaa
open Go.RowKit
attribute [local go_sem ↓] execOp_load38 execOp_load40
attribute [local go_sem] run_load38 run_load40 bigVal_drew hasBig_drew bigVal_ne hasBig_ne bigVal_new hasBig_newB

def fn (f : Nat) : Value := .func (.func f) #[] #[]
def fitsF : Nat → Nat | 1 => 45 | 2 => 48 | 3 => 51 | 4 => 52 | _ => 55
def refuseF : Nat → Nat | 1 => 46 | 2 => 49 | 3 => 49 | 4 => 53 | _ => 56
def startF : Nat → Nat | 1 => 47 | 4 => 54 | _ => 50
def kindCells (k : Nat) : List Value := [fn (fitsF k), fn (refuseF k), fn (startF k)]

set_option maxRecDepth 100000 in
set_option maxHeartbeats 2000000 in
theorem find_no (n : Int) (w : World) (h : inB n 1 5 = false) :
    Calls Try.prog 37 #[.int .i64 n] w fun e w' => e = .returned (.tuple #[.agg #[.nilFunc, .nilFunc, .nilFunc], .bool false]) ∧ Keeps (fun _ => False) w w' := by
  go_enter Try.func37, Try.ntmps37
  go_wp2_with (go_at_call 26; refine (within_any _ _ _ _).mono ?_; rintro e w' ⟨rfl, rfl⟩)
  refine bodyPost_ret (v := .tuple #[.agg #[.nilFunc, .nilFunc, .nilFunc], .bool false]) (by simp [results, Try.results37, go_sem]) rfl ⟨rfl, ?_⟩
  repeat (first | exact Keeps.refl _ _ | apply Keeps.alloc)


set_option maxRecDepth 100000 in
set_option maxHeartbeats 2000000 in
theorem find_yes (n : Nat) (w : World) (h1 : 1 ≤ n) (h5 : n ≤ 5) :
    Calls Try.prog 37 #[.int .i64 n] w fun e w' => e = .returned (.tuple #[.agg (kindCells n).toArray, .bool true]) ∧ Keeps (fun _ => False) w w' := by
  have h : inB (n : Int) 1 5 = true := by simp [inB]; omega
  go_enter Try.func37, Try.ntmps37
  go_wp2_with fail
  refine (within_any _ _ _ _).mono ?_
  rintro e w' ⟨rfl, rfl⟩
  rw [h]
  have hn : n = 1 ∨ n = 2 ∨ n = 3 ∨ n = 4 ∨ n = 5 := by omega
  rcases hn with hn | hn | hn | hn | hn
  all_goals
    subst hn
    go_wp2
  · refine bodyPost_ret (v := .tuple #[.agg #[fn 45, fn 46, fn 47], .bool true]) (by simp [results, Try.results37, go_sem, fn]) rfl ⟨rfl, ?_⟩
    repeat (first | exact Keeps.refl _ _ | apply Keeps.alloc)
  · refine bodyPost_ret (v := .tuple #[.agg #[fn 48, fn 49, fn 50], .bool true]) (by simp [results, Try.results37, go_sem, fn]) rfl ⟨rfl, ?_⟩
    repeat (first | exact Keeps.refl _ _ | apply Keeps.alloc)
  · refine bodyPost_ret (v := .tuple #[.agg #[fn 51, fn 49, fn 50], .bool true]) (by simp [results, Try.results37, go_sem, fn]) rfl ⟨rfl, ?_⟩
    repeat (first | exact Keeps.refl _ _ | apply Keeps.alloc)
  · refine bodyPost_ret (v := .tuple #[.agg #[fn 52, fn 53, fn 54], .bool true]) (by simp [results, Try.results37, go_sem, fn]) rfl ⟨rfl, ?_⟩
    repeat (first | exact Keeps.refl _ _ | apply Keeps.alloc)
  · refine bodyPost_ret (v := .tuple #[.agg #[fn 55, fn 56, fn 50], .bool true]) (by simp [results, Try.results37, go_sem, fn]) rfl ⟨rfl, ?_⟩
    repeat (first | exact Keeps.refl _ _ | apply Keeps.alloc)

end Go.Proofs.Ytjhaihbjhikhlaa
