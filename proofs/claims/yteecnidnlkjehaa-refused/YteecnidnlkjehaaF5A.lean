import Derived.Test.YteecnidnlkjehaaF4
namespace Go.Proofs.Yteecnidnlkjehaa
open Go.RowKit
attribute [local go_sem ↓] execOp_load38 execOp_load40 execOp_store40 execOp_bs22
attribute [local go_sem] run_load38 run_load40 bigVal_drew hasBig_drew bigVal_ne hasBig_ne bigVal_alloc hasBig_alloc run_bs1

theorem none_script (w : World) : ScriptW w (.slice none 0 0) [] := .inl ⟨⟨_, _, rfl⟩, rfl⟩

set_option maxRecDepth 100000 in
set_option maxHeartbeats 8000000 in
theorem ref_nil (v : Value) (ops : List OpM) (n : Int) (o : OpM) (w : World) (hv : ScriptW w v ops) (hlen : ops.length ≤ 651562446088) (n0 : -9223372036854775808 ≤ n) (n1 : n ≤ 9223372036854775807) (hnil : ops.filter OpM.noLoad = []) :
    Calls Try.prog 6 #[v, .int .i64 n, o.val] w fun r w' => r = .returned (.bool true) ∧ Keeps (fun _ => False) w w' := by
  have HV := hide hv
  clear hv
  unfold OpM.val
  go_enter Try.func6, Try.ntmps6
  go_wp2_with fail
  have HK0 := hide (((Keeps.refl (fun _ => False) w).alloc (.cells o.cells.toArray 40)))
  have HB0 := hide (Blk.new w o.cells 40)
  refine (awake_any _).mono ?_
  rintro r w1 ⟨rfl, hk1⟩
  have HK1 := hide ((unhide HK0).then hk1)
  have HB1 := hide ((unhide HB0).keeps hk1 (fun h => h))
  clear hk1 HK0 HB0
  generalize hwb : w.heap.size = wb at *
  have HWB := hide hwb
  clear hwb
  go_wp2_with fail
  refine (without_any v ops w1 ((unhide HV).keeps (unhide HK1)) (by omega)).mono ?_
  rintro r w2 ⟨sv, rfl, _, hk2, hsv⟩
  obtain rfl := hsv hnil
  have HK2 := hide ((unhide HK1).then hk2)
  have HB2 := hide ((unhide HB1).keeps hk2 (fun h => h))
  clear hk2 HK1 HB1 hsv
  go_wp2_with fail
  refine (pick_any n 1 w2 (by omega) (by omega) n0 n1).mono ?_
  rintro r w2' ⟨k, hk, rfl, hw⟩
  rw [hw]
  clear hw w2'
  have hk0 : k = 0 := by omega
  subst hk0
  have HSL := hide (bigCells_of_range (w := w2) (b := wb) (o := 0) (cs := o.cells) (fun j u hu => by rw [Nat.zero_add]; exact (unhide HB2).cell hu))
  have hv0 : bigVal w2 wb 0 26 = .agg o.cells.toArray := by
    unfold bigVal
    have := (unhide HSL).1
    rw [show o.cells.length = 26 from rfl] at this
    rw [this]
  have hh0 : hasBig w2 wb 0 26 = true := (unhide HSL).2
  go_wp2_with fail
  have hwbl : wb < w2.heap.size := (unhide HB2).lt
  go_region_held3 (fun w' => bigVal w' wb 0 26 = .agg o.cells.toArray ∧ hasBig w' wb 0 26 = true)
    (first
      | (simp [*, bigVal_drew, hasBig_drew, bigVal_alloc, hasBig_alloc]; done)
      | (go_split_ands; exact ⟨(bigVal_keeps hk4 (fun h => h) (by have := hk3.size; simp at this; omega)).1.trans (by assumption), (bigVal_keeps hk4 (fun h => h) (by have := hk3.size; simp at this; omega)).2.trans (by assumption)⟩)
      | (go_split_ands; exact ⟨(bigVal_keeps hk3 (fun h => h) (by simp; omega)).1.trans (by assumption), (bigVal_keeps hk3 (fun h => h) (by simp; omega)).2.trans (by assumption)⟩))
    (first
      | (go_at_call 16; refine (with_any _ _ [] [o] _ (by exact none_script _) (by exact blk_script (Blk.new _ o.cells 40)) (by simp)).mono ?_; rintro r w3 ⟨v3, rfl, hO3, hk3⟩)
      | (go_at_call 16; refine (with_any _ _ ([] ++ [o]) [] _ (by exact own_scriptW hO3) (by exact none_script _) (by simp)).mono ?_; rintro r w4 ⟨v4, rfl, hO4, hk4⟩))
  have hk24 : Keeps (fun _ => False) w2 w4 := ((((Keeps.refl (fun _ => False) w2).drew).alloc _).then hk3).then hk4
  have HK4 := hide ((unhide HK2).then hk24)
  have HB4 := hide ((unhide HB2).keeps hk24 (fun h => h))
  have hO4' : OwnS w4 w3.heap.size v4 [o] := by simpa using hO4
  have HTW := hide (own_scriptW hO4')
  obtain ⟨ta, tc, e4⟩ := row_form hO4'
  rw [List.length_singleton] at e4
  subst e4
  clear hO3 hk3 hO4 hO4' hk4 hk24 HK2 HB2 hwbl
  rename_i hHeld
  clear hHeld
  go_wp2_with fail
  refine (run_nil _ _ w4).mono ?_
  rintro r w5 ⟨va, la, rfl, hA, hMA, hk5⟩
  have hla : la = [] := by simpa [runM] using hMA
  subst hla
  obtain ⟨aa, ca, rfl⟩ := row_form hA.row
  have HK5 := hide ((unhide HK4).then hk5)
  have HB5 := hide ((unhide HB4).keeps hk5 (fun h => h))
  have HT5 := hide ((unhide HTW).keeps hk5)
  clear hA hMA hk5 HK4 HB4 HTW
  go_wp2_with fail
  refine (run_script' _ [o] w5 (unhide HT5) (by simp)).mono ?_
  rintro r w6 ⟨vb, lb, rfl, hB, hMB, hk6⟩
  have hlb : lb.length = 1 := by
    have := congrArg List.length hMB
    rwa [List.length_map, runM_length, List.length_singleton] at this
  have HK6 := hide ((unhide HK5).then hk6)
  have hkind : w6.cell? ⟨wb, 0, none⟩ = some (.int .i64 o.kind) := ((unhide HB5).keeps hk6 (fun h => h)).cell rfl
  obtain ⟨ab, cb, eb⟩ := row_form hB.row
  rw [hlb] at eb
  subst eb
  obtain ⟨xk, hxk⟩ : ∃ xk, lb[0]? = some xk := ⟨lb[0]'(by omega), List.getElem?_eq_getElem _⟩
  obtain ⟨gb, rfl, hcode, _, _⟩ := ans_cells hB 0 xk hxk
  rw [Nat.zero_mul] at hcode
  clear hB hMB hk6 HK5 HB5 HT5 hxk hlb
  have hfive : (xk.code == 0) = false ∨ (xk.code = 0 ∧ o.kind = 4) ∨ (xk.code = 0 ∧ o.kind = 5) ∨ (xk.code = 0 ∧ o.kind = 6) ∨ (xk.code = 0 ∧ o.kind ≠ 4 ∧ o.kind ≠ 5 ∧ o.kind ≠ 6) := by
    by_cases h0 : xk.code = 0
    · right; omega
    · left; simp [h0]
  rcases hfive with hz | ⟨hz, hk4⟩ | ⟨hz, hk4⟩ | ⟨hz, hk4⟩ | ⟨f0, f4, f5, f6⟩
  case inr.inr.inr.inr =>
    rw [f0] at hcode
    have g4 : (o.kind != 4) = true := by simp [f4]
    have g5 : (o.kind != 5) = true := by simp [f5]
    have g6 : (o.kind != 6) = true := by simp [f6]
    go_wp2
    go_ret
    exact ⟨rfl, unhide HK6⟩
  all_goals
    first
      | (rw [hz] at hcode; rw [hk4] at hkind; clear hz hk4)
      | skip
    go_wp2_with fail
    clear hcode hkind
    go_loopw [13] (fun i wr => i = .int .i64 0 ∧ wr = w6) (fun _ _ => 0)
    case atStart => exact ⟨rfl, rfl⟩
    obtain ⟨rfl, rfl⟩ := hrel
    go_wp2
    go_ret
    exact ⟨rfl, unhide HK6⟩

end Go.Proofs.Yteecnidnlkjehaa
