import Derived.Test.YteecnidnlkjehaaP4
namespace Go.Proofs.Yteecnidnlkjehaa
open Go.RowKit
attribute [local go_sem ↓] execOp_load38 execOp_load40 execOp_store40
attribute [local go_sem] run_load38 run_load40 bigVal_drew hasBig_drew bigVal_ne hasBig_ne bigVal_alloc hasBig_alloc

theorem ansFlat_get (l : List Ans) (i j : Nat) (x : Ans) (h : l[i]? = some x) (hj : j < 3) : (ansFlat l)[i * 3 + j]? = x.cells[j]? := by
  induction l generalizing i with
  | nil => simp at h
  | cons a l ih =>
    have hc : ansFlat (a :: l) = a.cells ++ ansFlat l := by simp [ansFlat]
    rw [hc]
    cases i with
    | zero =>
      have : a = x := by simpa using h
      subst this
      rw [List.getElem?_append_left (by simp [Ans.cells]; omega)]
      simp
    | succ i =>
      rw [List.getElem?_append_right (by simp [Ans.cells]; omega)]
      have := ih i (by simpa using h)
      rw [← this]
      congr 1
      simp [Ans.cells]; omega
theorem row_form {w : World} {base T c : Nat} {v : Value} {n : Nat} {l : List Value} (h : w.ownsRow base T c v n l) : ∃ a cap, v = .slice a n cap := by
  rcases h.2 with ⟨h1, h2⟩ | ⟨g, cap, cur, h1, _⟩
  · exact ⟨none, 0, by rw [h1, h2]⟩
  · exact ⟨_, _, h1⟩
theorem ans_cells {w : World} {base : Nat} {a : Option Addr} {n cap : Nat} {l : List Ans} (h : ARep w base (.slice a n cap) l) (i : Nat) (x : Ans) (hx : l[i]? = some x) :
    ∃ g, a = some ⟨g, 0, none⟩ ∧ w.cell? ⟨g, i * 3, none⟩ = some (.int .i64 x.code) ∧ w.cell? ⟨g, i * 3 + 1, none⟩ = some x.nv ∧ w.cell? ⟨g, i * 3 + 2, none⟩ = some (.string noBytes) := by
  obtain ⟨g, cap', hv, hc⟩ := ans_row h (by intro h; rw [h] at hx; simp at hx)
  injection hv with h1 h2 h3
  exact ⟨g, h1, hc _ _ (ansFlat_get l i 0 x hx (by omega)), hc _ _ (ansFlat_get l i 1 x hx (by omega)), hc _ _ (ansFlat_get l i 2 x hx (by omega))⟩
theorem two_ans {la lb : List Ans} {r : List (Int × List Int)} {k i : Nat} (hA : la.map (fun x => (x.code, x.nums)) = r) (hB : lb.map (fun x => (x.code, x.nums)) = r.take k) (hi : i < k) (ha : i < la.length) (hb : i < lb.length) :
    ∃ xa xb, la[i]? = some xa ∧ lb[i]? = some xb ∧ xa.code = xb.code ∧ xa.nums = xb.nums := by
  refine ⟨la[i], lb[i], List.getElem?_eq_getElem ha, List.getElem?_eq_getElem hb, ?_⟩
  have h1 : (la.map (fun x => (x.code, x.nums)))[i]? = some (la[i].code, la[i].nums) := by rw [List.getElem?_map, List.getElem?_eq_getElem ha]; rfl
  have h2 : (lb.map (fun x => (x.code, x.nums)))[i]? = some (lb[i].code, lb[i].nums) := by rw [List.getElem?_map, List.getElem?_eq_getElem hb]; rfl
  rw [hA] at h1
  rw [hB, List.getElem?_take, if_pos hi, h1] at h2
  injection h2 with h2
  injection h2 with h3 h4
  exact ⟨h3, h4⟩
theorem runM_take (s : WS) (ops : List OpM) (k : Nat) : runM s (ops.take k) = (runM s ops).take k := by
  by_cases h : k ≤ ops.length
  · have h1 := runM_append s (ops.take k) (ops.drop k)
    rw [List.take_append_drop] at h1
    rw [h1, List.take_append_of_le_length (by rw [runM_length, List.length_take]; omega)]
    exact (List.take_of_length_le (by rw [runM_length, List.length_take]; omega)).symm
  · rw [List.take_of_length_le (by omega), List.take_of_length_le (by rw [runM_length]; omega)]

set_option maxRecDepth 100000 in
set_option maxHeartbeats 4000000 in
theorem pre_some (sb so cap : Nat) (ops : List OpM) (n : Int) (w : World) (hcap : ops.length ≤ cap) (hcap2 : cap ≤ 651562446090) (hsc : ScriptAt w sb so ops) (hlt : sb < w.heap.size) (n0 : -9223372036854775808 ≤ n) (n1 : n ≤ 9223372036854775807) :
    Calls Try.prog 5 #[.slice (some ⟨sb, so, none⟩) ops.length cap, .int .i64 n] w fun r w' => r = .returned (.bool true) ∧ Keeps (fun _ => False) w w' := by
  have HSC := hide hsc
  clear hsc
  generalize hL : ops.length = L at *
  have HL := hide hL
  clear hL
  go_enter Try.func5, Try.ntmps5
  go_wp2_with fail
  refine (awake_any w).mono ?_
  rintro r w1 ⟨rfl, hk1⟩
  have HK1 := hide hk1
  clear hk1
  go_wp2_with fail
  refine (pick_any n ((L : Int) + 1) w1 (by omega) (by omega) n0 n1).mono ?_
  rintro r w1' ⟨k, hk, rfl, hw⟩
  rw [hw]
  clear hw w1'
  go_wp2_with fail
  have hs1 : ScriptAt w1 sb so ops := by
    intro i o ho j u hu
    exact (unhide HK1).cell (unhide HSC i o ho j u hu) (fun h => h)
  have hlt1 : sb < w1.heap.size := by have := (unhide HK1).size; omega
  have ha := run_all sb so cap ops w1 hs1 hlt1 (by have := unhide HL; omega)
  rw [unhide HL] at ha
  refine ha.mono ?_
  clear ha hs1
  rintro r w2 ⟨va, la, rfl, hA, hMA, hk2⟩
  have HK2 := hide ((unhide HK1).then hk2)
  have HA := hide hA
  have HMA := hide hMA
  clear hA hMA
  have hkc : (k : Int) ≤ (cap : Int) := by omega
  go_wp2_with fail
  have hs2 : ScriptAt w2 sb so (ops.take k) := by
    intro i o ho j u hu
    have ho' : ops[i]? = some o := by
      rw [List.getElem?_take] at ho
      split at ho
      · exact ho
      · cases ho
    exact (unhide HK2).cell (unhide HSC i o ho' j u hu) (fun h => h)
  have hlt2 : sb < w2.heap.size := by have := hk2.size; omega
  have hkl : (ops.take k).length = k := by rw [List.length_take, unhide HL]; omega
  have hb := run_all sb so cap (ops.take k) w2 hs2 hlt2 (by omega)
  rw [hkl] at hb
  refine hb.mono ?_
  clear hb hs2 hk2
  rintro r w3 ⟨vb, lb, rfl, hB, hMB, hk3⟩
  have hA := (unhide HA).keeps hk3 (fun _ _ h => h)
  have HK3 := hide ((unhide HK2).then hk3)
  have hla : la.length = L := by
    have := congrArg List.length (unhide HMA)
    rw [List.length_map, runM_length, unhide HL] at this
    exact this
  have hlb : lb.length = k := by
    have := congrArg List.length hMB
    rw [List.length_map, runM_length, hkl] at this
    exact this
  have HLA := hide hla
  have HLB := hide hlb
  rw [runM_take] at hMB
  have HMB := hide hMB
  obtain ⟨aa, ca, ea⟩ := row_form hA.row
  obtain ⟨ab, cb, eb⟩ := row_form hB.row
  have HEA := hide ea
  have HEB := hide eb
  rw [hla] at ea
  rw [hlb] at eb
  have HA3 := hide hA
  have HB3 := hide hB
  clear hA hB hk3 hMB hla hlb HA HK2 HK1
  subst ea eb
  go_wp2
  clear HEA HEB
  go_loopw [5, 9] (fun okv i wr => ∃ j : Nat, j ≤ k ∧ i = .int .i64 j ∧ okv = .bool true ∧ Hid (Keeps (fun _ => False) w3 wr)) (fun _ i _ => k - (intOf i).toNat)
  case atStart => exact ⟨0, by omega, rfl, rfl, Keeps.refl _ _⟩
  case round =>
    obtain ⟨j, hj, rfl, rfl, HK⟩ := hrel
    by_cases hjk : j < k
    · obtain ⟨xa, xb, hxa, hxb, hcode, hnums⟩ := two_ans (unhide HMA) (unhide HMB) hjk (by rw [unhide HLA]; omega) (by rw [unhide HLB]; omega)
      have hAr := (unhide HA3).keeps (unhide HK) (fun _ _ h => h)
      have hBr := (unhide HB3).keeps (unhide HK) (fun _ _ h => h)
      obtain ⟨ga, rfl, a0, a1, a2⟩ := ans_cells hAr j xa hxa
      obtain ⟨gb, rfl, b0, b1, b2⟩ := ans_cells hBr j xb hxb
      have HNA := hide (hAr.nums xa (List.mem_of_getElem? hxa))
      have hnb := hBr.nums xb (List.mem_of_getElem? hxb)
      rw [← hnums] at hnb
      have HNB := hide hnb
      rw [← hcode] at b0
      have HN9 := hide (show xa.nums.length ≤ 1000 by
        have : (xa.code, xa.nums) ∈ runM ws0 ops := by rw [← unhide HMA]; exact List.mem_map_of_mem (f := fun x : Ans => (x.code, x.nums)) (List.mem_of_getElem? hxa)
        have := runM_nums _ _ _ this
        simp only at this; omega)
      clear hAr hBr hnb hxa hxb hcode hnums
      generalize xa.code = code at *
      obtain ⟨na, nca, ena⟩ := row_form (unhide HNA)
      obtain ⟨nb, ncb, enb⟩ := row_form (unhide HNB)
      rw [ena] at HNA a1
      rw [enb] at HNB b1
      clear ena enb
      generalize xa.nums = nums at *
      have hj0 : (0 : Int) ≤ (j : Int) := by omega
      have hjL : (j : Int) < (L : Int) := by omega
      have hjk' : (j : Int) < (k : Int) := by omega
      go_wp2_with fail
      go_region_held3 (fun w' => w'.cell? ⟨ga, j * 3, none⟩ = some (.int .i64 code) ∧ w'.cell? ⟨ga, j * 3 + 1, none⟩ = some (.slice na nums.length nca) ∧ w'.cell? ⟨ga, j * 3 + 2, none⟩ = some (.string noBytes) ∧
          w'.cell? ⟨gb, j * 3, none⟩ = some (.int .i64 code) ∧ w'.cell? ⟨gb, j * 3 + 1, none⟩ = some (.slice nb nums.length ncb) ∧ w'.cell? ⟨gb, j * 3 + 2, none⟩ = some (.string noBytes))
        (first | (simp [*]; done) | (go_split_ands; exact ⟨hk4.cell (by assumption) (fun h => h), hk4.cell (by assumption) (fun h => h), hk4.cell (by assumption) (fun h => h), hk4.cell (by assumption) (fun h => h), hk4.cell (by assumption) (fun h => h), hk4.cell (by assumption) (fun h => h)⟩))
        (first | (go_at_call 14; refine (same_any _ _ code _ _ nums _ (by exact owns_keeps (unhide HNA) ((Keeps.refl (fun _ => False) wr).drew) (fun _ _ h => h)) (by exact owns_keeps (unhide HNB) ((Keeps.refl (fun _ => False) wr).drew) (fun _ _ h => h)) (unhide HN9)).mono ?_; rintro r w4 ⟨rfl, hk4⟩))
      have HK4 := hide ((unhide HK).then (((Keeps.refl (fun _ => False) wr).drew).then hk4))
      clear hk4
      go_wp2
      go_roundw
      case rel => exact ⟨j + 1, by omega, by go_num, rfl, HK4⟩
      case measure => simp [intOf]; omega
    · go_wp2
      go_ret
      exact ⟨rfl, (unhide HK3).then (unhide HK)⟩

end Go.Proofs.Yteecnidnlkjehaa
