import Derived.Test.YtjhaihbjhikhlaaXF
import Derived.Test.YtjhaihbjhikhlaaXQ
namespace Go.Proofs.Ytjhaihbjhikhlaa
open Go.RowKit
attribute [local go_sem ↓] execOp_load38 execOp_load40 execOp_store40 execOp_bs22
attribute [local go_sem] run_load38 run_load40 bigVal_drew hasBig_drew bigVal_ne hasBig_ne bigVal_alloc hasBig_alloc run_bs1

theorem none_script (w : World) : ScriptW w (.slice none 0 0) [] := .inl ⟨⟨_, _, rfl⟩, rfl⟩

set_option maxRecDepth 100000 in
set_option maxHeartbeats 8000000 in
theorem ref_nil (v : Value) (ops : List OpM) (n : Int) (o : OpM) (w : World) (hv : ScriptW w v ops) (hlen : ops.length ≤ 651562446088) (n0 : -9223372036854775808 ≤ n) (n1 : n ≤ 9223372036854775807) (hnil : ops.filter OpM.noLoad = []) :
    Calls Try.prog 4 #[v, .int .i64 n, o.val] w fun r w' => r = .returned (.bool true) ∧ Keeps (fun _ => False) w w' := by
  have HV := hide hv
  clear hv
  unfold OpM.val
  go_enter Try.func4, Try.ntmps4
  go_wp2_with fail
  have HK0 := hide (((Keeps.refl (fun _ => False) w).alloc (.cells o.cells.toArray 38)))
  have HB0 := hide (Blk.new w o.cells 38)
  refine (awake_any _).mono ?_
  rintro r w1 ⟨rfl, hk1⟩
  have HK1 := hide ((unhide HK0).then hk1)
  have HB1 := hide ((unhide HB0).keeps hk1 (fun h => h))
  clear hk1 HK0 HB0
  generalize hwb : w.heap.size = wb at *
  have HWB := hide hwb
  clear hwb
  go_wp2_with fail
  refine (without_any v ops w1 ((unhide HV).keeps (unhide HK1)) (by omega)).mono ?_
  rintro r w2 ⟨sv, rfl, _, hk2, hsv⟩
  obtain rfl := hsv hnil
  have HK2 := hide ((unhide HK1).then hk2)
  have HB2 := hide ((unhide HB1).keeps hk2 (fun h => h))
  clear hk2 HK1 HB1 hsv
  go_wp2_with fail
  refine (pick_any n 1 w2 (by omega) (by omega) n0 n1).mono ?_
  rintro r w2' ⟨k, hk, rfl, hw⟩
  rw [hw]
  clear hw w2'
  have hk0 : k = 0 := by omega
  subst hk0
  have HSL := hide (bigCells_of_range (w := w2) (b := wb) (o := 0) (cs := o.cells) (fun j u hu => by rw [Nat.zero_add]; exact (unhide HB2).cell hu))
  have hv0 : bigVal w2 wb 0 26 = .agg o.cells.toArray := by
    unfold bigVal
    have := (unhide HSL).1
    rw [show o.cells.length = 26 from rfl] at this
    rw [this]
  have hh0 : hasBig w2 wb 0 26 = true := (unhide HSL).2
  go_wp2_with fail
  have hwbl : wb < w2.heap.size := (unhide HB2).lt
  go_region_held3 (fun w' => bigVal w' wb 0 26 = .agg o.cells.toArray ∧ hasBig w' wb 0 26 = true)
    (first
      | (simp [*, bigVal_drew, hasBig_drew, bigVal_alloc, hasBig_alloc]; done)
      | (go_split_ands; exact ⟨(bigVal_keeps hk4 (fun h => h) (by have := hk3.size; simp at this; omega)).1.trans (by assumption), (bigVal_keeps hk4 (fun h => h) (by have := hk3.size; simp at this; omega)).2.trans (by assumption)⟩)
      | (go_split_ands; exact ⟨(bigVal_keeps hk3 (fun h => h) (by simp; omega)).1.trans (by assumption), (bigVal_keeps hk3 (fun h => h) (by simp; omega)).2.trans (by assumption)⟩))
    (first
      | (go_at_call 12; refine (with_any _ _ [] [o] _ (by exact none_script _) (by exact blk_script (Blk.new _ o.cells 38)) (by simp)).mono ?_; rintro r w3 ⟨v3, rfl, hO3, hk3⟩)
      | (go_at_call 12; refine (with_any _ _ ([] ++ [o]) [] _ (by exact own_scriptW hO3) (by exact none_script _) (by simp)).mono ?_; rintro r w4 ⟨v4, rfl, hO4, hk4⟩))
  have hk24 : Keeps (fun _ => False) w2 w4 := ((((Keeps.refl (fun _ => False) w2).drew).alloc _).then hk3).then hk4
  have HK4 := hide ((unhide HK2).then hk24)
  have HB4 := hide ((unhide HB2).keeps hk24 (fun h => h))
  have hO4' : OwnS w4 w3.heap.size v4 [o] := by simpa using hO4
  have HTW := hide (own_scriptW hO4')
  obtain ⟨ta, tc, e4⟩ := row_form hO4'
  rw [List.length_singleton] at e4
  subst e4
  clear hO3 hk3 hO4 hO4' hk4 hk24 HK2 HB2 hwbl
  rename_i hHeld
  clear hHeld
  go_wp2_with fail
  refine (run_nil _ _ w4).mono ?_
  rintro r w5 ⟨va, la, rfl, hA, hMA, hk5⟩
  have hla : la = [] := by simpa [runM] using hMA
  subst hla
  obtain ⟨aa, ca, rfl⟩ := row_form hA.row
  have HK5 := hide ((unhide HK4).then hk5)
  have HB5 := hide ((unhide HB4).keeps hk5 (fun h => h))
  have HT5 := hide ((unhide HTW).keeps hk5)
  clear hA hMA hk5 HK4 HB4 HTW
  go_wp2_with fail
  refine (run_script' _ [o] w5 (unhide HT5) (by simp)).mono ?_
  rintro r w6 ⟨vb, lb, rfl, hB, hMB, hk6⟩
  have hlb : lb.length = 1 := by
    have := congrArg List.length hMB
    rwa [List.length_map, runM_length, List.length_singleton] at this
  have HK6 := hide ((unhide HK5).then hk6)
  have hkind : w6.cell? ⟨wb, 0, none⟩ = some (.int .i64 o.kind) := ((unhide HB5).keeps hk6 (fun h => h)).cell rfl
  obtain ⟨ab, cb, eb⟩ := row_form hB.row
  rw [hlb] at eb
  subst eb
  obtain ⟨xk, hxk⟩ : ∃ xk, lb[0]? = some xk := ⟨lb[0]'(by omega), List.getElem?_eq_getElem _⟩
  obtain ⟨gb, rfl, hcode, _, _⟩ := ans_cells hB 0 xk hxk
  rw [Nat.zero_mul] at hcode
  clear hB hMB hk6 HK5 HB5 HT5 hxk hlb
  have hfive : (xk.code == 0) = false ∨ (xk.code = 0 ∧ o.kind = 4) ∨ (xk.code = 0 ∧ o.kind = 5) ∨ (xk.code = 0 ∧ o.kind = 6) ∨ (xk.code = 0 ∧ o.kind ≠ 4 ∧ o.kind ≠ 5 ∧ o.kind ≠ 6) := by
    by_cases h0 : xk.code = 0
    · right; omega
    · left; simp [h0]
  rcases hfive with hz | ⟨hz, hk4⟩ | ⟨hz, hk4⟩ | ⟨hz, hk4⟩ | ⟨f0, f4, f5, f6⟩
  case inr.inr.inr.inr =>
    rw [f0] at hcode
    have g4 : (o.kind != 4) = true := by simp [f4]
    have g5 : (o.kind != 5) = true := by simp [f5]
    have g6 : (o.kind != 6) = true := by simp [f6]
    go_wp2
    go_ret
    exact ⟨rfl, unhide HK6⟩
  all_goals
    first
      | (rw [hz] at hcode; rw [hk4] at hkind; clear hz hk4)
      | skip
    go_wp2_with fail
    clear hcode hkind
    go_loopw [13] (fun i wr => i = .int .i64 0 ∧ wr = w6) (fun _ _ => 0)
    case atStart => exact ⟨rfl, rfl⟩
    obtain ⟨rfl, rfl⟩ := hrel
    go_wp2
    go_ret
    exact ⟨rfl, unhide HK6⟩

end Go.Proofs.Ytjhaihbjhikhlaa

namespace Go.Proofs.Ytjhaihbjhikhlaa
open Go.RowKit
attribute [local go_sem ↓] execOp_load38 execOp_load40 execOp_store40 execOp_bs22
attribute [local go_sem] run_load38 run_load40 bigVal_drew hasBig_drew bigVal_ne hasBig_ne bigVal_alloc hasBig_alloc run_bs1

theorem drop_script {w : World} {sb so : Nat} {ops : List OpM} (h : ScriptAt w sb so ops) (k : Nat) : ScriptAt w sb (so + k * 26) (ops.drop k) := by
  intro i o ho
  rw [List.getElem?_drop] at ho
  have := h (k + i) o ho
  rwa [show so + (k + i) * 26 = so + k * 26 + i * 26 by omega] at this
theorem take_script {w : World} {sb so : Nat} {ops : List OpM} (h : ScriptAt w sb so ops) (k : Nat) : ScriptAt w sb so (ops.take k) := by
  intro i o ho
  rw [List.getElem?_take] at ho
  split at ho
  · exact h i o ho
  · cases ho

set_option maxRecDepth 100000 in
set_option maxHeartbeats 8000000 in
theorem ref_any (v : Value) (ops : List OpM) (n : Int) (o : OpM) (w : World) (hv : ScriptW w v ops) (hlen : ops.length ≤ 651562446088) (n0 : -9223372036854775808 ≤ n) (n1 : n ≤ 9223372036854775807) :
    Calls Try.prog 4 #[v, .int .i64 n, o.val] w fun r w' => r = .returned (.bool true) ∧ Keeps (fun _ => False) w w' := by
  by_cases hnil : ops.filter OpM.noLoad = []
  · exact ref_nil v ops n o w hv hlen n0 n1 hnil
  have HV := hide hv
  clear hv
  unfold OpM.val
  go_enter Try.func4, Try.ntmps4
  go_wp2_with fail
  have HK0 := hide (((Keeps.refl (fun _ => False) w).alloc (.cells o.cells.toArray 38)))
  have HB0 := hide (Blk.new w o.cells 38)
  refine (awake_any _).mono ?_
  rintro r w1 ⟨rfl, hk1⟩
  have HK1 := hide ((unhide HK0).then hk1)
  have HB1 := hide ((unhide HB0).keeps hk1 (fun h => h))
  clear hk1 HK0 HB0
  generalize hwb : w.heap.size = wb at *
  have HWB := hide hwb
  clear hwb
  go_wp2_with fail
  refine (without_any v ops w1 ((unhide HV).keeps (unhide HK1)) (by omega)).mono ?_
  rintro r w2 ⟨sv, rfl, hO, hk2, _⟩
  have HO2 := hide hO
  have HK2 := hide ((unhide HK1).then hk2)
  have HB2 := hide ((unhide HB1).keeps hk2 (fun h => h))
  have hle : (ops.filter OpM.noLoad).length ≤ 651562446088 := by have := List.length_filter_le OpM.noLoad ops; omega
  clear hk2 hO HK1 HB1
  generalize hs : ops.filter OpM.noLoad = s at *
  clear hs
  rcases own_script (unhide HO2) with ⟨rfl, rfl⟩ | ⟨g, cap, rfl, hcap, hsc, hlt, hbase, hmax⟩
  · exact absurd rfl hnil
  · have HSC := hide hsc
    clear hsc
    generalize hL : s.length = L at *
    have HL := hide hL
    clear hL
    go_wp2_with fail
    refine (pick_any n ((L : Int) + 1) w2 (by omega) (by omega) n0 n1).mono ?_
    rintro r w2' ⟨k, hk, rfl, hw⟩
    rw [hw]
    clear hw w2'
    have hkc : (k : Int) ≤ (cap : Int) := by omega
    have hkL : (k : Int) ≤ (L : Int) := by omega
    have HSL := hide (bigCells_of_range (w := w2) (b := wb) (o := 0) (cs := o.cells) (fun j u hu => by rw [Nat.zero_add]; exact (unhide HB2).cell hu))
    have hv0 : bigVal w2 wb 0 26 = .agg o.cells.toArray := by
      unfold bigVal
      have := (unhide HSL).1
      rw [show o.cells.length = 26 from rfl] at this
      rw [this]
    have hh0 : hasBig w2 wb 0 26 = true := (unhide HSL).2
    by_cases hck : cap = k
    · have hLc : L = cap := by omega
      subst hck
      subst hLc
      clear hkc hkL hk hcap
      have hkl : (s.take L).length = L := by rw [List.length_take, unhide HL]; omega
      have HT := hide (show ScriptW w2 (.slice (some ⟨g, 0, none⟩) L L) (s.take L) from .inr ⟨g, 0, L, by rw [hkl], by omega, take_script (unhide HSC) L, hlt⟩)
      have HD := hide (show ScriptW w2 (.slice (some ⟨g, 0, none⟩) 0 0) (s.drop L) from .inl ⟨⟨_, _, rfl⟩, List.drop_eq_nil_of_le (by rw [unhide HL]; omega)⟩)
      go_wp2_with fail
      have hwbl : wb < w2.heap.size := (unhide HB2).lt
      go_region_held3 (fun w' => bigVal w' wb 0 26 = .agg o.cells.toArray ∧ hasBig w' wb 0 26 = true)
        (first
          | (simp [*, bigVal_drew, hasBig_drew, bigVal_alloc, hasBig_alloc]; done)
          | (go_split_ands; exact ⟨(bigVal_keeps hk4 (fun h => h) (by have := hk3.size; simp at this; omega)).1.trans (by assumption), (bigVal_keeps hk4 (fun h => h) (by have := hk3.size; simp at this; omega)).2.trans (by assumption)⟩)
          | (go_split_ands; exact ⟨(bigVal_keeps hk3 (fun h => h) (by simp; omega)).1.trans (by assumption), (bigVal_keeps hk3 (fun h => h) (by simp; omega)).2.trans (by assumption)⟩))
        (first
          | (go_at_call 12; refine (with_any _ _ (s.take L) [o] _ (by exact (unhide HT).keeps (((Keeps.refl (fun _ => False) w2).drew).alloc _)) (by exact blk_script (Blk.new _ o.cells 38)) (by rw [hkl, List.length_singleton]; omega)).mono ?_; rintro r w3 ⟨v3, rfl, hO3, hk3⟩)
          | (go_at_call 12; refine (with_any _ _ (s.take L ++ [o]) (s.drop L) _ (by exact own_scriptW hO3) (by exact (unhide HD).keeps ((((Keeps.refl (fun _ => False) w2).drew).alloc _).then hk3)) (by rw [List.length_append, List.length_drop, hkl, List.length_singleton, unhide HL]; omega)).mono ?_; rintro r w4 ⟨v4, rfl, hO4, hk4⟩))
      have hk24 : Keeps (fun _ => False) w2 w4 := ((((Keeps.refl (fun _ => False) w2).drew).alloc _).then hk3).then hk4
      have HK4 := hide ((unhide HK2).then hk24)
      have HB4 := hide ((unhide HB2).keeps hk24 (fun h => h))
      have HSC4 := hide ((unhide HSC).keeps hk24)
      have HTW := hide (own_scriptW hO4)
      obtain ⟨ta, tc, e4⟩ := row_form hO4
      have hTl : (s.take L ++ [o] ++ s.drop L).length = L + 1 := by rw [List.length_append, List.length_append, List.length_drop, hkl, List.length_singleton, unhide HL]; omega
      rw [hTl] at e4
      subst e4
      have hlt4 : g < w4.heap.size := by have := hk24.size; omega
      clear hO3 hk3 hO4 hk4 hk24 HT HD HSC HK2 HB2 HO2 hwbl hbase hmax
      generalize hTE : s.take L ++ [o] ++ s.drop L = T at *
      have HTE := hide hTE
      clear hTE hkl
      rename_i hHeld
      clear hHeld
      go_wp2_with fail
      refine (run_script' _ s w4 (.inr ⟨g, 0, L, by rw [unhide HL], by rw [unhide HL]; omega, unhide HSC4, hlt4⟩) (by rw [unhide HL]; omega)).mono ?_
      rintro r w5 ⟨va, la, rfl, hA, hMA, hk5⟩
      have HA5 := hide hA
      have HMA := hide hMA
      have HLA := hide (show la.length = L by
        have := congrArg List.length hMA
        rwa [List.length_map, runM_length, unhide HL] at this)
      have HK5 := hide ((unhide HK4).then hk5)
      have HB5 := hide ((unhide HB4).keeps hk5 (fun h => h))
      have HSC5 := hide ((unhide HSC4).keeps hk5)
      have HT5 := hide ((unhide HTW).keeps hk5)
      clear hA hMA hk5 HK4 HB4 HSC4 HTW
      go_wp2_with fail
      refine (run_script' _ T w5 (unhide HT5) (by omega)).mono ?_
      rintro r w6 ⟨vb, lb, rfl, hB, hMB, hk6⟩
      have HLB := hide (show lb.length = L + 1 by
        have := congrArg List.length hMB
        rwa [List.length_map, runM_length, hTl] at this)
      have HMB := hide hMB
      have HK6 := hide ((unhide HK5).then hk6)
      have HSC6 := hide ((unhide HSC5).keeps hk6)
      have hkind : w6.cell? ⟨wb, 0, none⟩ = some (.int .i64 o.kind) := ((unhide HB5).keeps hk6 (fun h => h)).cell rfl
      have hA6 := (unhide HA5).keeps hk6 (fun _ _ h => h)
      obtain ⟨aa, ca, ea⟩ := row_form hA6.row
      obtain ⟨ab, cb, eb⟩ := row_form hB.row
      rw [unhide HLA] at ea
      rw [unhide HLB] at eb
      subst ea eb
      have HA6 := hide hA6
      have HB6 := hide hB
      obtain ⟨xk, hxk⟩ : ∃ xk, lb[L]? = some xk := ⟨lb[L]'(by rw [unhide HLB]; omega), List.getElem?_eq_getElem _⟩
      obtain ⟨gb, rfl, hcode, _, _⟩ := ans_cells hB L xk hxk
      have HXK := hide hxk
      have hk00 : (0 : Int) ≤ (L : Int) := by omega
      have hkL1 : (L : Int) < (L : Int) + 1 := by omega
      clear hA6 hB hMB hk6 HK5 HB5 HSC5 HT5 HA5 hxk hTl
      by_cases hfree : xk.code = 0 ∧ o.kind ≠ 4 ∧ o.kind ≠ 5 ∧ o.kind ≠ 6
      · obtain ⟨f0, f4, f5, f6⟩ := hfree
        rw [f0] at hcode
        have g4 : (o.kind != 4) = true := by simp [f4]
        have g5 : (o.kind != 5) = true := by simp [f5]
        have g6 : (o.kind != 6) = true := by simp [f6]
        go_wp2
        go_ret
        exact ⟨rfl, unhide HK6⟩
      have HID := hide (show xk.code ≠ 0 ∨ o.kind = 4 ∨ o.kind = 5 ∨ o.kind = 6 by omega)
      have hfour : (xk.code == 0) = false ∨ (xk.code = 0 ∧ o.kind = 4) ∨ (xk.code = 0 ∧ o.kind = 5) ∨ (xk.code = 0 ∧ o.kind = 6) := by
        by_cases h0 : xk.code = 0
        · right; omega
        · left; simp [h0]
      clear hfree
      have hloop : ∀ z : Int, (w6.cell? ⟨gb, L * 3, none⟩ = some (.int .i64 z)) → True := fun _ _ => trivial
      clear hloop
      rcases hfour with hz | ⟨hz, hk4⟩ | ⟨hz, hk4⟩ | ⟨hz, hk4⟩
      all_goals
        first
          | (rw [hz] at hcode; rw [hk4] at hkind; clear hz hk4)
          | skip
        go_wp2_with fail
        clear hcode hkind
        go_loopw [13] (fun i wr => ∃ j : Nat, j ≤ L ∧ i = .int .i64 j ∧ Hid (Keeps (fun _ => False) w6 wr)) (fun i _ => L - (intOf i).toNat)
        case atStart => exact ⟨0, by omega, rfl, Keeps.refl _ _⟩
        obtain ⟨i, hi, rfl, HK⟩ := hrel
        by_cases hiL : i < L
        · obtain ⟨xa, hxa⟩ : ∃ xa, la[i]? = some xa := ⟨la[i]'(by rw [unhide HLA]; omega), List.getElem?_eq_getElem _⟩
          have hif : (if L ≤ i then i + 1 else i) = i := by rw [if_neg (by omega)]
          obtain ⟨xb, hxb⟩ : ∃ xb, lb[i]? = some xb := ⟨lb[i]'(by rw [unhide HLB]; omega), List.getElem?_eq_getElem _⟩
          have hra := refused_ans s L o (by rw [unhide HL]; omega) xk.code (by rw [unhide HTE, ← unhide HMB, List.getElem?_map, unhide HXK]; rfl) (unhide HID) i (by rw [unhide HL]; omega) (xa.code, xa.nums) (xb.code, xb.nums) (by rw [← unhide HMA, List.getElem?_map, hxa]; rfl) (by rw [hif, unhide HTE, ← unhide HMB, List.getElem?_map, hxb]; rfl)
          have hAr := (unhide HA6).keeps (unhide HK) (fun _ _ h => h)
          have hBr := (unhide HB6).keeps (unhide HK) (fun _ _ h => h)
          obtain ⟨ga, rfl, a0, a1, _⟩ := ans_cells hAr i xa hxa
          obtain ⟨gb', egb, b0, b1, _⟩ := ans_cells hBr (i) xb hxb
          obtain rfl : gb = gb' := by injection egb with egb; injection egb
          clear egb
          have HNA := hide (hAr.nums xa (List.mem_of_getElem? hxa))
          have HNB := hide (hBr.nums xb (List.mem_of_getElem? hxb))
          have HN9 := hide (show xa.nums.length ≤ 1000 ∧ xb.nums.length ≤ 1000 by
            have h1 : (xa.code, xa.nums) ∈ runM ws0 s := by rw [← unhide HMA]; exact List.mem_map_of_mem (f := fun x : Ans => (x.code, x.nums)) (List.mem_of_getElem? hxa)
            have h2 : (xb.code, xb.nums) ∈ runM ws0 T := by rw [← unhide HMB]; exact List.mem_map_of_mem (f := fun x : Ans => (x.code, x.nums)) (List.mem_of_getElem? hxb)
            have h3 := runM_nums _ _ _ h1
            have h4 := runM_nums _ _ _ h2
            simp only at h3 h4; omega)
          obtain ⟨os, hs1⟩ : ∃ os, s[i]? = some os := ⟨s[i]'(by rw [unhide HL]; omega), List.getElem?_eq_getElem _⟩
          have hos : wr.cell? ⟨g, i * 26, none⟩ = some (.int .i64 os.kind) := by
            have := ((unhide HSC6).keeps (unhide HK)) i os hs1 0 _ rfl
            simpa using this
          have hgd : s.getD i o1 = os := by rw [List.getD_eq_getElem?_getD, hs1]; rfl
          rw [hgd] at hra
          have HNUM := hide hra.2
          have hcode := hra.1
          simp only at hcode
          rw [hcode] at a0
          obtain ⟨na, nca, ena⟩ := row_form (unhide HNA)
          obtain ⟨nb, ncb, enb⟩ := row_form (unhide HNB)
          rw [ena] at HNA a1
          rw [enb] at HNB b1
          clear ena enb hAr hBr hra hgd hs1 hxa hxb hcode hif
          have hi0 : (0 : Int) ≤ (i : Int) := by omega
          have hiL' : (i : Int) < (L : Int) := by omega
          have hiL1 : (i : Int) < (L : Int) + 1 := by omega
          have hiL2 : (i : Int) ≤ (L : Int) := by omega
          have hiL3 : (i : Int) + 1 < (L : Int) + 1 := by omega
          have hiL4 : (0 : Int) ≤ (i : Int) + 1 := by omega
          go_wp2_with fail
          go_region_held3 (fun w' => w'.cell? ⟨ga, i * 3 + 1, none⟩ = some (.slice na xa.nums.length nca) ∧ w'.cell? ⟨gb, (i) * 3 + 1, none⟩ = some (.slice nb xb.nums.length ncb))
            (first | (simp [*]; done) | (go_split_ands; exact ⟨hk7.cell (by assumption) (fun h => h), hk7.cell (by assumption) (fun h => h)⟩))
            (first | (go_at_call 13; refine (sameN_some _ _ _ _ xa.nums xb.nums _ (by exact owns_keeps (unhide HNA) ((Keeps.refl (fun _ => False) wr).drew) (fun _ _ h => h)) (by exact owns_keeps (unhide HNB) ((Keeps.refl (fun _ => False) wr).drew) (fun _ _ h => h)) (unhide HN9).1 (unhide HN9).2).mono ?_; rintro r w7 ⟨bx, rfl, hbx, hk7⟩))
          have hk67 : Keeps (fun _ => False) wr w7 := ((Keeps.refl (fun _ => False) wr).drew).then hk7
          have HK7 := hide ((unhide HK).then hk67)
          have c0 : w7.cell? ⟨ga, i * 3, none⟩ = some (.int .i64 xb.code) := hk67.cell a0 (fun h => h)
          have c1 : w7.cell? ⟨gb, (i) * 3, none⟩ = some (.int .i64 xb.code) := hk67.cell b0 (fun h => h)
          have c2 : w7.cell? ⟨g, i * 26, none⟩ = some (.int .i64 os.kind) := hk67.cell hos (fun h => h)
          have hcc : (xb.code != xb.code) = false := by simp
          clear hk7 hk67 a0 b0 hos a1 b1
          cases bx with
          | true =>
            go_wp2_with fail
            go_quiet (fail)
            go_wp2
            go_roundw
            case rel => exact ⟨i + 1, by omega, by go_num, hide ((unhide HK7).then (Keeps.drewN _ _ _))⟩
            case measure => simp [intOf]; omega
          | false =>
            have h5 : os.kind = 5 := by
              by_cases h5 : os.kind = 5
              · exact h5
              · exact absurd (hbx (unhide HNUM h5)) (by simp)
            rw [h5] at c2
            go_wp2_with fail
            go_quiet (fail)
            go_wp2
            go_roundw
            case rel => exact ⟨i + 1, by omega, by go_num, hide ((unhide HK7).then (Keeps.drewN _ _ _))⟩
            case measure => simp [intOf]; omega
        · go_wp2
          go_ret
          exact ⟨rfl, (unhide HK6).then (unhide HK)⟩
    · have hck' : ¬ (cap : Int) = (k : Int) := by omega
      have hkl : (s.take k).length = k := by rw [List.length_take, unhide HL]; omega
      have HT := hide (show ScriptW w2 (.slice (some ⟨g, 0, none⟩) k cap) (s.take k) from .inr ⟨g, 0, cap, by rw [hkl], by omega, take_script (unhide HSC) k, hlt⟩)
      have HD := hide (show ScriptW w2 (.slice (some ⟨g, k * 26, none⟩) (L - k) (cap - k)) (s.drop k) from .inr ⟨g, k * 26, cap - k, by rw [List.length_drop, unhide HL], by rw [List.length_drop, unhide HL]; omega, by have := drop_script (unhide HSC) k; rwa [Nat.zero_add] at this, hlt⟩)
      go_wp2_with fail
      have hwbl : wb < w2.heap.size := (unhide HB2).lt
      go_region_held3 (fun w' => bigVal w' wb 0 26 = .agg o.cells.toArray ∧ hasBig w' wb 0 26 = true)
        (first
          | (simp [*, bigVal_drew, hasBig_drew, bigVal_alloc, hasBig_alloc]; done)
          | (go_split_ands; exact ⟨(bigVal_keeps hk4 (fun h => h) (by have := hk3.size; simp at this; omega)).1.trans (by assumption), (bigVal_keeps hk4 (fun h => h) (by have := hk3.size; simp at this; omega)).2.trans (by assumption)⟩)
          | (go_split_ands; exact ⟨(bigVal_keeps hk3 (fun h => h) (by simp; omega)).1.trans (by assumption), (bigVal_keeps hk3 (fun h => h) (by simp; omega)).2.trans (by assumption)⟩))
        (first
          | (go_at_call 12; refine (with_any _ _ (s.take k) [o] _ (by exact (unhide HT).keeps (((Keeps.refl (fun _ => False) w2).drew).alloc _)) (by exact blk_script (Blk.new _ o.cells 38)) (by rw [hkl, List.length_singleton]; omega)).mono ?_; rintro r w3 ⟨v3, rfl, hO3, hk3⟩)
          | (go_at_call 12; refine (with_any _ _ (s.take k ++ [o]) (s.drop k) _ (by exact own_scriptW hO3) (by exact (unhide HD).keeps ((((Keeps.refl (fun _ => False) w2).drew).alloc _).then hk3)) (by rw [List.length_append, List.length_drop, hkl, List.length_singleton, unhide HL]; omega)).mono ?_; rintro r w4 ⟨v4, rfl, hO4, hk4⟩))
      have hk24 : Keeps (fun _ => False) w2 w4 := ((((Keeps.refl (fun _ => False) w2).drew).alloc _).then hk3).then hk4
      have HK4 := hide ((unhide HK2).then hk24)
      have HB4 := hide ((unhide HB2).keeps hk24 (fun h => h))
      have HSC4 := hide ((unhide HSC).keeps hk24)
      have HTW := hide (own_scriptW hO4)
      obtain ⟨ta, tc, e4⟩ := row_form hO4
      have hTl : (s.take k ++ [o] ++ s.drop k).length = L + 1 := by rw [List.length_append, List.length_append, List.length_drop, hkl, List.length_singleton, unhide HL]; omega
      rw [hTl] at e4
      subst e4
      have hlt4 : g < w4.heap.size := by have := hk24.size; omega
      clear hO3 hk3 hO4 hk4 hk24 HT HD HSC HK2 HB2 HO2 hwbl hbase hmax
      generalize hTE : s.take k ++ [o] ++ s.drop k = T at *
      have HTE := hide hTE
      clear hTE hkl
      rename_i hHeld
      clear hHeld
      go_wp2_with fail
      refine (run_script' _ s w4 (.inr ⟨g, 0, cap, by rw [unhide HL], by rw [unhide HL]; omega, unhide HSC4, hlt4⟩) (by rw [unhide HL]; omega)).mono ?_
      rintro r w5 ⟨va, la, rfl, hA, hMA, hk5⟩
      have HA5 := hide hA
      have HMA := hide hMA
      have HLA := hide (show la.length = L by
        have := congrArg List.length hMA
        rwa [List.length_map, runM_length, unhide HL] at this)
      have HK5 := hide ((unhide HK4).then hk5)
      have HB5 := hide ((unhide HB4).keeps hk5 (fun h => h))
      have HSC5 := hide ((unhide HSC4).keeps hk5)
      have HT5 := hide ((unhide HTW).keeps hk5)
      clear hA hMA hk5 HK4 HB4 HSC4 HTW
      go_wp2_with fail
      refine (run_script' _ T w5 (unhide HT5) (by omega)).mono ?_
      rintro r w6 ⟨vb, lb, rfl, hB, hMB, hk6⟩
      have HLB := hide (show lb.length = L + 1 by
        have := congrArg List.length hMB
        rwa [List.length_map, runM_length, hTl] at this)
      have HMB := hide hMB
      have HK6 := hide ((unhide HK5).then hk6)
      have HSC6 := hide ((unhide HSC5).keeps hk6)
      have hkind : w6.cell? ⟨wb, 0, none⟩ = some (.int .i64 o.kind) := ((unhide HB5).keeps hk6 (fun h => h)).cell rfl
      have hA6 := (unhide HA5).keeps hk6 (fun _ _ h => h)
      obtain ⟨aa, ca, ea⟩ := row_form hA6.row
      obtain ⟨ab, cb, eb⟩ := row_form hB.row
      rw [unhide HLA] at ea
      rw [unhide HLB] at eb
      subst ea eb
      have HA6 := hide hA6
      have HB6 := hide hB
      obtain ⟨xk, hxk⟩ : ∃ xk, lb[k]? = some xk := ⟨lb[k]'(by rw [unhide HLB]; omega), List.getElem?_eq_getElem _⟩
      obtain ⟨gb, rfl, hcode, _, _⟩ := ans_cells hB k xk hxk
      have HXK := hide hxk
      have hk00 : (0 : Int) ≤ (k : Int) := by omega
      have hkL1 : (k : Int) < (L : Int) + 1 := by omega
      clear hA6 hB hMB hk6 HK5 HB5 HSC5 HT5 HA5 hxk hTl
      by_cases hfree : xk.code = 0 ∧ o.kind ≠ 4 ∧ o.kind ≠ 5 ∧ o.kind ≠ 6
      · obtain ⟨f0, f4, f5, f6⟩ := hfree
        rw [f0] at hcode
        have g4 : (o.kind != 4) = true := by simp [f4]
        have g5 : (o.kind != 5) = true := by simp [f5]
        have g6 : (o.kind != 6) = true := by simp [f6]
        go_wp2
        go_ret
        exact ⟨rfl, unhide HK6⟩
      have HID := hide (show xk.code ≠ 0 ∨ o.kind = 4 ∨ o.kind = 5 ∨ o.kind = 6 by omega)
      have hfour : (xk.code == 0) = false ∨ (xk.code = 0 ∧ o.kind = 4) ∨ (xk.code = 0 ∧ o.kind = 5) ∨ (xk.code = 0 ∧ o.kind = 6) := by
        by_cases h0 : xk.code = 0
        · right; omega
        · left; simp [h0]
      clear hfree
      have hloop : ∀ z : Int, (w6.cell? ⟨gb, k * 3, none⟩ = some (.int .i64 z)) → True := fun _ _ => trivial
      clear hloop
      rcases hfour with hz | ⟨hz, hk4⟩ | ⟨hz, hk4⟩ | ⟨hz, hk4⟩
      all_goals
        first
          | (rw [hz] at hcode; rw [hk4] at hkind; clear hz hk4)
          | skip
        go_wp2_with fail
        clear hcode hkind
        go_loopw [13] (fun i wr => ∃ j : Nat, j ≤ L ∧ i = .int .i64 j ∧ Hid (Keeps (fun _ => False) w6 wr)) (fun i _ => L - (intOf i).toNat)
        case atStart => exact ⟨0, by omega, rfl, Keeps.refl _ _⟩
        obtain ⟨i, hi, rfl, HK⟩ := hrel
        by_cases hiL : i < L
        · obtain ⟨xa, hxa⟩ : ∃ xa, la[i]? = some xa := ⟨la[i]'(by rw [unhide HLA]; omega), List.getElem?_eq_getElem _⟩
          by_cases hki : k ≤ i
          · have hki' : (k : Int) ≤ (i : Int) := by omega
            have hif : (if k ≤ i then i + 1 else i) = i + 1 := by rw [if_pos hki]
            obtain ⟨xb, hxb⟩ : ∃ xb, lb[i + 1]? = some xb := ⟨lb[i + 1]'(by rw [unhide HLB]; omega), List.getElem?_eq_getElem _⟩
            have hra := refused_ans s k o (by rw [unhide HL]; omega) xk.code (by rw [unhide HTE, ← unhide HMB, List.getElem?_map, unhide HXK]; rfl) (unhide HID) i (by rw [unhide HL]; omega) (xa.code, xa.nums) (xb.code, xb.nums) (by rw [← unhide HMA, List.getElem?_map, hxa]; rfl) (by rw [hif, unhide HTE, ← unhide HMB, List.getElem?_map, hxb]; rfl)
            have hAr := (unhide HA6).keeps (unhide HK) (fun _ _ h => h)
            have hBr := (unhide HB6).keeps (unhide HK) (fun _ _ h => h)
            obtain ⟨ga, rfl, a0, a1, _⟩ := ans_cells hAr i xa hxa
            obtain ⟨gb', egb, b0, b1, _⟩ := ans_cells hBr (i + 1) xb hxb
            obtain rfl : gb = gb' := by injection egb with egb; injection egb
            clear egb
            have HNA := hide (hAr.nums xa (List.mem_of_getElem? hxa))
            have HNB := hide (hBr.nums xb (List.mem_of_getElem? hxb))
            have HN9 := hide (show xa.nums.length ≤ 1000 ∧ xb.nums.length ≤ 1000 by
              have h1 : (xa.code, xa.nums) ∈ runM ws0 s := by rw [← unhide HMA]; exact List.mem_map_of_mem (f := fun x : Ans => (x.code, x.nums)) (List.mem_of_getElem? hxa)
              have h2 : (xb.code, xb.nums) ∈ runM ws0 T := by rw [← unhide HMB]; exact List.mem_map_of_mem (f := fun x : Ans => (x.code, x.nums)) (List.mem_of_getElem? hxb)
              have h3 := runM_nums _ _ _ h1
              have h4 := runM_nums _ _ _ h2
              simp only at h3 h4; omega)
            obtain ⟨os, hs1⟩ : ∃ os, s[i]? = some os := ⟨s[i]'(by rw [unhide HL]; omega), List.getElem?_eq_getElem _⟩
            have hos : wr.cell? ⟨g, i * 26, none⟩ = some (.int .i64 os.kind) := by
              have := ((unhide HSC6).keeps (unhide HK)) i os hs1 0 _ rfl
              simpa using this
            have hgd : s.getD i o1 = os := by rw [List.getD_eq_getElem?_getD, hs1]; rfl
            rw [hgd] at hra
            have HNUM := hide hra.2
            have hcode := hra.1
            simp only at hcode
            rw [hcode] at a0
            obtain ⟨na, nca, ena⟩ := row_form (unhide HNA)
            obtain ⟨nb, ncb, enb⟩ := row_form (unhide HNB)
            rw [ena] at HNA a1
            rw [enb] at HNB b1
            clear ena enb hAr hBr hra hgd hs1 hxa hxb hcode hif
            have hi0 : (0 : Int) ≤ (i : Int) := by omega
            have hiL' : (i : Int) < (L : Int) := by omega
            have hiL1 : (i : Int) < (L : Int) + 1 := by omega
            have hiL2 : (i : Int) ≤ (L : Int) := by omega
            have hiL3 : (i : Int) + 1 < (L : Int) + 1 := by omega
            have hiL4 : (0 : Int) ≤ (i : Int) + 1 := by omega
            go_wp2_with fail
            go_region_held3 (fun w' => w'.cell? ⟨ga, i * 3 + 1, none⟩ = some (.slice na xa.nums.length nca) ∧ w'.cell? ⟨gb, (i + 1) * 3 + 1, none⟩ = some (.slice nb xb.nums.length ncb))
              (first | (simp [*]; done) | (go_split_ands; exact ⟨hk7.cell (by assumption) (fun h => h), hk7.cell (by assumption) (fun h => h)⟩))
              (first | (go_at_call 13; refine (sameN_some _ _ _ _ xa.nums xb.nums _ (by exact owns_keeps (unhide HNA) ((Keeps.refl (fun _ => False) wr).drew) (fun _ _ h => h)) (by exact owns_keeps (unhide HNB) ((Keeps.refl (fun _ => False) wr).drew) (fun _ _ h => h)) (unhide HN9).1 (unhide HN9).2).mono ?_; rintro r w7 ⟨bx, rfl, hbx, hk7⟩))
            have hk67 : Keeps (fun _ => False) wr w7 := ((Keeps.refl (fun _ => False) wr).drew).then hk7
            have HK7 := hide ((unhide HK).then hk67)
            have c0 : w7.cell? ⟨ga, i * 3, none⟩ = some (.int .i64 xb.code) := hk67.cell a0 (fun h => h)
            have c1 : w7.cell? ⟨gb, (i + 1) * 3, none⟩ = some (.int .i64 xb.code) := hk67.cell b0 (fun h => h)
            have c2 : w7.cell? ⟨g, i * 26, none⟩ = some (.int .i64 os.kind) := hk67.cell hos (fun h => h)
            have hcc : (xb.code != xb.code) = false := by simp
            clear hk7 hk67 a0 b0 hos a1 b1
            cases bx with
            | true =>
              go_wp2_with fail
              go_quiet (fail)
              go_wp2
              go_roundw
              case rel => exact ⟨i + 1, by omega, by go_num, hide ((unhide HK7).then (Keeps.drewN _ _ _))⟩
              case measure => simp [intOf]; omega
            | false =>
              have h5 : os.kind = 5 := by
                by_cases h5 : os.kind = 5
                · exact h5
                · exact absurd (hbx (unhide HNUM h5)) (by simp)
              rw [h5] at c2
              go_wp2_with fail
              go_quiet (fail)
              go_wp2
              go_roundw
              case rel => exact ⟨i + 1, by omega, by go_num, hide ((unhide HK7).then (Keeps.drewN _ _ _))⟩
              case measure => simp [intOf]; omega
          · have hki' : (i : Int) < (k : Int) := by omega
            have hif : (if k ≤ i then i + 1 else i) = i := by rw [if_neg hki]
            obtain ⟨xb, hxb⟩ : ∃ xb, lb[i]? = some xb := ⟨lb[i]'(by rw [unhide HLB]; omega), List.getElem?_eq_getElem _⟩
            have hra := refused_ans s k o (by rw [unhide HL]; omega) xk.code (by rw [unhide HTE, ← unhide HMB, List.getElem?_map, unhide HXK]; rfl) (unhide HID) i (by rw [unhide HL]; omega) (xa.code, xa.nums) (xb.code, xb.nums) (by rw [← unhide HMA, List.getElem?_map, hxa]; rfl) (by rw [hif, unhide HTE, ← unhide HMB, List.getElem?_map, hxb]; rfl)
            have hAr := (unhide HA6).keeps (unhide HK) (fun _ _ h => h)
            have hBr := (unhide HB6).keeps (unhide HK) (fun _ _ h => h)
            obtain ⟨ga, rfl, a0, a1, _⟩ := ans_cells hAr i xa hxa
            obtain ⟨gb', egb, b0, b1, _⟩ := ans_cells hBr (i) xb hxb
            obtain rfl : gb = gb' := by injection egb with egb; injection egb
            clear egb
            have HNA := hide (hAr.nums xa (List.mem_of_getElem? hxa))
            have HNB := hide (hBr.nums xb (List.mem_of_getElem? hxb))
            have HN9 := hide (show xa.nums.length ≤ 1000 ∧ xb.nums.length ≤ 1000 by
              have h1 : (xa.code, xa.nums) ∈ runM ws0 s := by rw [← unhide HMA]; exact List.mem_map_of_mem (f := fun x : Ans => (x.code, x.nums)) (List.mem_of_getElem? hxa)
              have h2 : (xb.code, xb.nums) ∈ runM ws0 T := by rw [← unhide HMB]; exact List.mem_map_of_mem (f := fun x : Ans => (x.code, x.nums)) (List.mem_of_getElem? hxb)
              have h3 := runM_nums _ _ _ h1
              have h4 := runM_nums _ _ _ h2
              simp only at h3 h4; omega)
            obtain ⟨os, hs1⟩ : ∃ os, s[i]? = some os := ⟨s[i]'(by rw [unhide HL]; omega), List.getElem?_eq_getElem _⟩
            have hos : wr.cell? ⟨g, i * 26, none⟩ = some (.int .i64 os.kind) := by
              have := ((unhide HSC6).keeps (unhide HK)) i os hs1 0 _ rfl
              simpa using this
            have hgd : s.getD i o1 = os := by rw [List.getD_eq_getElem?_getD, hs1]; rfl
            rw [hgd] at hra
            have HNUM := hide hra.2
            have hcode := hra.1
            simp only at hcode
            rw [hcode] at a0
            obtain ⟨na, nca, ena⟩ := row_form (unhide HNA)
            obtain ⟨nb, ncb, enb⟩ := row_form (unhide HNB)
            rw [ena] at HNA a1
            rw [enb] at HNB b1
            clear ena enb hAr hBr hra hgd hs1 hxa hxb hcode hif
            have hi0 : (0 : Int) ≤ (i : Int) := by omega
            have hiL' : (i : Int) < (L : Int) := by omega
            have hiL1 : (i : Int) < (L : Int) + 1 := by omega
            have hiL2 : (i : Int) ≤ (L : Int) := by omega
            have hiL3 : (i : Int) + 1 < (L : Int) + 1 := by omega
            have hiL4 : (0 : Int) ≤ (i : Int) + 1 := by omega
            go_wp2_with fail
            go_region_held3 (fun w' => w'.cell? ⟨ga, i * 3 + 1, none⟩ = some (.slice na xa.nums.length nca) ∧ w'.cell? ⟨gb, (i) * 3 + 1, none⟩ = some (.slice nb xb.nums.length ncb))
              (first | (simp [*]; done) | (go_split_ands; exact ⟨hk7.cell (by assumption) (fun h => h), hk7.cell (by assumption) (fun h => h)⟩))
              (first | (go_at_call 13; refine (sameN_some _ _ _ _ xa.nums xb.nums _ (by exact owns_keeps (unhide HNA) ((Keeps.refl (fun _ => False) wr).drew) (fun _ _ h => h)) (by exact owns_keeps (unhide HNB) ((Keeps.refl (fun _ => False) wr).drew) (fun _ _ h => h)) (unhide HN9).1 (unhide HN9).2).mono ?_; rintro r w7 ⟨bx, rfl, hbx, hk7⟩))
            have hk67 : Keeps (fun _ => False) wr w7 := ((Keeps.refl (fun _ => False) wr).drew).then hk7
            have HK7 := hide ((unhide HK).then hk67)
            have c0 : w7.cell? ⟨ga, i * 3, none⟩ = some (.int .i64 xb.code) := hk67.cell a0 (fun h => h)
            have c1 : w7.cell? ⟨gb, (i) * 3, none⟩ = some (.int .i64 xb.code) := hk67.cell b0 (fun h => h)
            have c2 : w7.cell? ⟨g, i * 26, none⟩ = some (.int .i64 os.kind) := hk67.cell hos (fun h => h)
            have hcc : (xb.code != xb.code) = false := by simp
            clear hk7 hk67 a0 b0 hos a1 b1
            cases bx with
            | true =>
              go_wp2_with fail
              go_quiet (fail)
              go_wp2
              go_roundw
              case rel => exact ⟨i + 1, by omega, by go_num, hide ((unhide HK7).then (Keeps.drewN _ _ _))⟩
              case measure => simp [intOf]; omega
            | false =>
              have h5 : os.kind = 5 := by
                by_cases h5 : os.kind = 5
                · exact h5
                · exact absurd (hbx (unhide HNUM h5)) (by simp)
              rw [h5] at c2
              go_wp2_with fail
              go_quiet (fail)
              go_wp2
              go_roundw
              case rel => exact ⟨i + 1, by omega, by go_num, hide ((unhide HK7).then (Keeps.drewN _ _ _))⟩
              case measure => simp [intOf]; omega
        · go_wp2
          go_ret
          exact ⟨rfl, (unhide HK6).then (unhide HK)⟩

end Go.Proofs.Ytjhaihbjhikhlaa

namespace Go.Proofs.Ytjhaihbjhikhlaa
open Go.ChangeShapes Go.WideShapes Go.ChangeAt Go.RowKit Go.Deep

set_option maxRecDepth 100000 in
/-- A script that came in, opened. -/
theorem script_open {H : Type} {enc : TypeId × Value → H} {W : World} {fuel : Nat} {a0 : Option Addr} {len cap : Nat} {d : DataW H} {p : List MemPlace}
    (hf : DataW.trod enc Try.prog W 0 (fun _ => true) true fuel 22 (Value.slice a0 len cap).cells.toList = some (d, p)) (hlt : ∀ x ∈ p, x.block < W.heap.size) :
    ∃ ops, ScriptW W (.slice a0 len cap) ops ∧ ops.length = len ∧ (len ≠ 0 → ∃ elems spare, d = .slice elems spare ∧ len ≤ elems.length + spare.length) := by
  by_cases hl0 : len = 0
  · subst hl0
    exact ⟨[], .inl ⟨⟨_, _, rfl⟩, rfl⟩, rfl, fun h => absurd rfl h⟩
  · rcases open_slice Try.underlying22 hf with ⟨hcs, hx⟩ | ⟨a, len', cap', k, n, D, Pl, hcs, _, hl, hm, hk, hx, hcell⟩
    · simp [Value.cells] at hcs
      exact absurd hcs.2.1 hl0
    · simp [Value.cells] at hcs
      obtain ⟨rfl, rfl, rfl⟩ := hcs
      simp only [Prod.mk.injEq] at hx
      obtain ⟨rfl, rfl⟩ := hx
      simp only [if_true] at hk
      subst k
      rw [cells40] at hcell
      obtain ⟨b, off, spot⟩ := a
      have hspot : spot = none := by
        obtain ⟨cs', h1, _⟩ := hcell 0 (by omega)
        obtain ⟨_, h2, h3⟩ := World.cells?_some h1
        have h4 := h3 0 (by omega)
        rw [List.getElem?_eq_getElem (by omega)] at h4
        simpa [Addr.add] using World.cell?_spot h4
      subst hspot
      have hbW : b < W.heap.size := hlt (.cell b off) (List.mem_append_left _ (MemPlace.mem_row.2 ⟨0, by rw [cells40]; omega, by simp⟩))
      have hops : ∀ i, i < len → ∃ o : OpM, W.rangeAt b (off + i * 26) o.cells := by
        intro i hi
        obtain ⟨cs', h1, h2⟩ := hcell i (by omega)
        obtain ⟨V, bs, rfl, _⟩ := op_open h2
        obtain ⟨_, h3, h4⟩ := World.cells?_some h1
        refine ⟨opOf V bs, fun j v hv => ?_⟩
        have hj : j < 26 := by have := (List.getElem?_eq_some_iff.1 hv).1; omega
        have := h4 j hj
        rw [add_add, add_plain, hv, ← Nat.add_assoc] at this
        exact this
      haveI : Inhabited OpM := ⟨o1⟩
      obtain ⟨O, hO⟩ := choose_lt (α := OpM) hops
      refine ⟨(List.range len).map O, .inr ⟨b, off, cap, by simp, by simpa using hl, ?_, hbW⟩, by simp, fun _ => ⟨_, _, rfl, by simp⟩⟩
      intro i o ho
      have hi : i < len := by have := (List.getElem?_eq_some_iff.1 ho).1; simpa using this
      have : O i = o := by simpa [hi] using ho
      rw [← this]
      exact hO i hi

set_option maxRecDepth 100000 in
theorem refused_lifted (os : Os) (started : os.Started) (H : Type) (enc : TypeId × Value → H) :
    ReturnsInHanded {} Try.checked os 4 .any (Rows.refusedSpec.pre6 enc Try.prog Try.f4 Rows.refusedRow.domain false) (Rows.refusedSpec.post enc Try.prog Try.f4 false true false false) := by
  refine returnsInHanded_of_change_sized (C := Try.checked) Try.own started (by kernel_rfl) Try.func4
    (ChangeSpec.witness6 (enc := enc) (C := Try.checked) false ⟨#[], #[.slice none 0 0, .int .i64 0, .agg cz0.toArray], []⟩ 8 (by kernel_rfl) (by kernel_rfl) (by kernel_rfl) (by kernel_rfl)) ?_
  intro W base args ds gs before hval0 hW _ hsz0 _
  have hsz : (DataW.weightsEach Try.prog (Try.f4.params.toList ++ Rows.refusedSpec.plain.varTypes Try.prog) (ds ++ gs)).all (· ≤ reachBytes) = true := hsz0
  clear hsz0
  have hval : ∀ (j : Nat) t v, Try.f4.params[j]? = some t → args[j]? = some v → Value.okWide Try.prog W .any base t v := hval0
  have hW' := hW
  obtain ⟨p, q, hA0, hV, rfl, _, _⟩ := hW
  have hA : DataW.TrodAll enc Try.prog W 0 (fun _ => true) true Try.f4.params.toList args.toList ds p := hA0
  rw [Try.params4] at hA hval hsz
  obtain ⟨v0, v1, v2, d0, d1, d2, p0, p1, p2, rfl, rfl, rfl, h0, h1, h2⟩ := trodAll_three hA
  obtain ⟨rfl, rfl⟩ := trodVars_none hV
  obtain ⟨m, rfl, rfl, rfl, wm⟩ := open_int Try.underlying3 (hval 1 3 v1 rfl rfl) h1
  obtain ⟨a0, len, cap, rfl⟩ := okWide_slice Try.underlying22 (hval 0 22 v0 rfl rfl)
  obtain ⟨cs, rfl, _⟩ := okWide_struct Try.underlying38 (hval 2 38 v2 rfl rfl)
  have h0k := h0
  have h2k := h2
  obtain ⟨fuel, hf⟩ := h0
  obtain ⟨fuel2, hf2⟩ := h2
  clear hA0 hval0
  simp only [List.append_nil] at hW'
  have hlt : ∀ x ∈ p0, x.block < W.heap.size := fun x hx => by simpa using hW'.lt x (List.mem_append_left _ hx)
  have hlt2 : ∀ x ∈ p2, x.block < W.heap.size := fun x hx => by simpa using hW'.lt x (List.mem_append_right _ hx)
  obtain ⟨m0, m1⟩ := i64_of_wf wm
  obtain ⟨ops, hsc, hol, hd⟩ := script_open hf hlt
  obtain ⟨V, bs, hcs, _⟩ := op_open hf2
  have hlen : ops.length ≤ 651562446088 := by
    by_cases hl0 : len = 0
    · omega
    · obtain ⟨elems, spare, rfl, hle⟩ := hd hl0
      have := sized_slice hsz (j := 0) (t := 22) (e := 38) rfl rfl Try.underlying22
      rw [bytes40] at this
      simp only [reachBytes] at this
      omega
  have hcs' : cs = (opOf V bs).cells.toArray := by
    rw [← hcs]; simp [Value.cells]
  have hrun := ref_any (.slice a0 len cap) ops m (opOf V bs) W hsc hlen m0 m1
  unfold OpM.val at hrun
  rw [← hcs'] at hrun
  refine hrun.mono ?_
  rintro e W' ⟨rfl, hk⟩
  have hb := hk.below
  have hargs : DataW.Trod enc Try.prog W' 0 (fun b => decide (b < W.heap.size)) true 22 (.slice a0 len cap) d0 p0 :=
    Below.trod Try.laidOut (by kernel_rfl) (of_decide_eq_true (by kernel_rfl)) h0k hb hlt
  have hargs2 : DataW.Trod enc Try.prog W' 0 (fun b => decide (b < W.heap.size)) true 38 (.agg cs) d2 p2 :=
    Below.trod Try.laidOut (by kernel_rfl) (of_decide_eq_true (by kernel_rfl)) h2k hb hlt2
  exact ⟨_, rfl, _, _, _, [], p0 ++ ([] ++ p2), [], hW', trodAll_mk1 (shut_bool Try.underlying4 _), trodAll_mk3 hargs (shut_int Try.underlying3 wm) hargs2, rfl, hb.frame _, fun h => by cases h⟩

theorem refused_holds : Rows.RefusedSaid :=
  OpenClaim.holds_of_wide 4 Try.f4 rfl rfl rfl rfl rfl rfl rfl ⟨rfl, rfl, rfl, rfl, rfl⟩ rfl rfl rfl rfl rfl (by kernel_rfl) Try.func4 (by kernel_rfl)
    (of_decide_eq_true (by kernel_rfl)) (by unfold Func.isWrapper; first | (rw [if_pos (by decide +kernel)]; kernel_rfl) | (rw [if_neg (by decide +kernel)]; exact ⟨rfl, rfl⟩))
    (fun os started H enc _ => refused_lifted os started H enc)

end Go.Proofs.Ytjhaihbjhikhlaa
