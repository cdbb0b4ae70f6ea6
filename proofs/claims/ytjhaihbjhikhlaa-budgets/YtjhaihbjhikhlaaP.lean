import Derived.Test.YtjhaihbjhikhlaaR2
namespace Go.Proofs.Ytjhaihbjhikhlaa
open Go.RowKit

theorem num_cells {w : World} {base : Nat} {v : Value} {l : List Int} (h : w.ownsRow base 3 1 v l.length (ints l)) : (l = [] ∧ ∃ a c, v = .slice a 0 c) ∨ ∃ g c, v = .slice (some ⟨g, 0, none⟩) l.length c ∧ ∀ i, i < l.length → w.cell? ⟨g, i, none⟩ = some (.int .i64 (l.getD i 0)) := by
  rcases h.2 with ⟨h1, h2⟩ | ⟨g, cap, cur, h1, _, h3, h4, h5, h6, h7⟩
  · exact .inl ⟨List.length_eq_zero_iff.1 h2, none, 0, h1⟩
  · refine .inr ⟨g, cap, h1, fun i hi => ?_⟩
    have hc : cur[i]? = (ints l)[i]? := by
      rw [← h7, List.getElem?_take, if_pos (by omega)]; simp
    have : cur[i]? = some (.int .i64 (l.getD i 0)) := by
      rw [hc]; unfold ints; rw [List.getElem?_map, List.getElem?_eq_getElem hi, List.getD_eq_getElem?_getD, List.getElem?_eq_getElem hi]; rfl
    simp [World.cell?, h3, this]

set_option maxRecDepth 100000 in
set_option maxHeartbeats 2000000 in
theorem sameN_any (b1 b2 : Nat) (v1 v2 : Value) (l : List Int) (w : World) (h1 : w.ownsRow b1 3 1 v1 l.length (ints l)) (h2 : w.ownsRow b2 3 1 v2 l.length (ints l)) (hl : l.length ≤ 1000) :
    Calls Try.prog 13 #[v1, v2] w fun e w' => e = .returned (.bool true) ∧ Keeps (fun _ => False) w w' := by
  rcases num_cells h1 with ⟨rfl, a1, c1, rfl⟩ | ⟨g1, c1, rfl, hc1⟩
  · rcases num_cells h2 with ⟨_, a2, c2, rfl⟩ | ⟨g2, c2, rfl, hc2⟩
    all_goals
      clear h1 h2
      go_enter Try.func13, Try.ntmps13
      go_wp2
      go_loopw [5] (fun i wr => i = .int .i64 0 ∧ wr = w) (fun _ _ => 0)
      case atStart => exact ⟨rfl, rfl⟩
      case round =>
        obtain ⟨rfl, rfl⟩ := hrel
        go_wp2
        go_ret
        exact ⟨rfl, Keeps.refl _ _⟩
  · rcases num_cells h2 with ⟨h0, a2, c2, rfl⟩ | ⟨g2, c2, rfl, hc2⟩
    · subst h0
      clear h1 h2 hc1
      go_enter Try.func13, Try.ntmps13
      go_wp2
      go_loopw [5] (fun i wr => i = .int .i64 0 ∧ wr = w) (fun _ _ => 0)
      case atStart => exact ⟨rfl, rfl⟩
      case round =>
        obtain ⟨rfl, rfl⟩ := hrel
        go_wp2
        go_ret
        exact ⟨rfl, Keeps.refl _ _⟩
    · have HC1 := hide hc1
      have HC2 := hide hc2
      clear h1 h2 hc1 hc2
      generalize hn : l.length = n at *
      clear hn
      go_enter Try.func13, Try.ntmps13
      go_wp2
      go_loopw [5] (fun i wr => ∃ k : Nat, k ≤ n ∧ i = .int .i64 k ∧ Hid (Keeps (fun _ => False) w wr)) (fun i _ => n - (intOf i).toNat)
      case atStart => exact ⟨0, by omega, rfl, Keeps.refl _ _⟩
      case round =>
        obtain ⟨k, hk, rfl, HK⟩ := hrel
        by_cases hlt : k < n
        · have x1 : wr.cell? ⟨g1, k, none⟩ = some (.int .i64 (l.getD k 0)) := (unhide HK).cell (unhide HC1 k hlt) (fun h => h)
          have x2 : wr.cell? ⟨g2, k, none⟩ = some (.int .i64 (l.getD k 0)) := (unhide HK).cell (unhide HC2 k hlt) (fun h => h)
          generalize l.getD k 0 = y at *
          have hk0 : (0 : Int) ≤ (k : Int) := by omega
          have hkn : (k : Int) < (n : Int) := by omega
          have hne : (y != y) = false := by simp
          go_wp2
          go_quiet (fail)
          go_wp2
          go_roundw
          case rel => exact ⟨k + 1, by omega, by go_num, hide ((unhide HK).then (Keeps.drewN _ _ _))⟩
          case measure => simp [intOf]; omega
        · go_wp2
          go_ret
          exact ⟨rfl, unhide HK⟩

set_option maxRecDepth 100000 in
set_option maxHeartbeats 2000000 in
theorem same_any (b1 b2 : Nat) (code : Int) (v1 v2 : Value) (l : List Int) (w : World) (h1 : w.ownsRow b1 3 1 v1 l.length (ints l)) (h2 : w.ownsRow b2 3 1 v2 l.length (ints l)) (hl : l.length ≤ 1000) :
    Calls Try.prog 10 #[.agg #[.int .i64 code, v1, .string noBytes], .agg #[.int .i64 code, v2, .string noBytes]] w fun e w' => e = .returned (.bool true) ∧ Keeps (fun _ => False) w w' := by
  have HK := hide (((Keeps.refl (fun _ => False) w).alloc (.cells #[.int .i64 code, v1, .string noBytes] 31)).alloc (.cells #[.int .i64 code, v2, .string noBytes] 31))
  have HA := hide (show Blk ((w.alloc (.cells #[.int .i64 code, v1, .string noBytes] 31)).alloc (.cells #[.int .i64 code, v2, .string noBytes] 31)) w.heap.size [.int .i64 code, v1, .string noBytes] 31 from (Blk.new w [_, _, _] 31).alloc _)
  have HB := hide (show Blk ((w.alloc (.cells #[.int .i64 code, v1, .string noBytes] 31)).alloc (.cells #[.int .i64 code, v2, .string noBytes] 31)) (w.heap.size + 1) [.int .i64 code, v2, .string noBytes] 31 from Blk.newAt (by simp) [_, _, _] 31)
  have hcc : (code == code) = true := by simp
  obtain ⟨a1, c1, e1⟩ := nv_form h1
  obtain ⟨a2, c2, e2⟩ := nv_form h2
  subst e1 e2
  have H1 := hide h1
  have H2 := hide h2
  clear h1 h2
  go_enter Try.func10, Try.ntmps10
  go_wp2_with fail
  refine (sameN_any b1 b2 _ _ l _ (owns_keeps (unhide H1) (unhide HK) (fun _ _ h => h)) (owns_keeps (unhide H2) (unhide HK) (fun _ _ h => h)) hl).mono ?_
  rintro e w1 ⟨rfl, hk1⟩
  have hA := (unhide HA).keeps hk1 (fun h => h)
  have hB := (unhide HB).keeps hk1 (fun h => h)
  have a0 : w1.cell? ⟨w.heap.size, 0, none⟩ = some (.int .i64 code) := hA.cell rfl
  have a2 : w1.cell? ⟨w.heap.size, 2, none⟩ = some (.string noBytes) := hA.cell rfl
  have b0 : w1.cell? ⟨w.heap.size + 1, 0, none⟩ = some (.int .i64 code) := hB.cell rfl
  have b2' : w1.cell? ⟨w.heap.size + 1, 2, none⟩ = some (.string noBytes) := hB.cell rfl
  have HK1 := hide ((unhide HK).then hk1)
  clear hk1 hA hB
  go_wp2
  go_ret
  exact ⟨by simp, unhide HK1⟩

set_option maxHeartbeats 1000000 in
theorem pick_any (c n : Int) (w : World) (hn : 1 ≤ n) (hn' : n ≤ 4611686018427387904) (c0 : -9223372036854775808 ≤ c) (c1 : c ≤ 9223372036854775807) :
    Calls Try.prog 8 #[.int .i64 c, .int .i64 n] w fun e w' => ∃ k : Nat, (k : Int) < n ∧ e = .returned (.int .i64 k) ∧ w' = w := by
  by_cases h : c < 0
  · obtain ⟨k, hk⟩ : ∃ k : Nat, (k : Int) = (-(c + 1)) % n := ⟨((-(c + 1)) % n).toNat, Int.toNat_of_nonneg (Int.emod_nonneg _ (by omega))⟩
    have hlt := Int.emod_lt_of_pos (-(c + 1)) (show 0 < n by omega)
    have HK := hide hk
    clear hk
    go_enter Try.func8, Try.ntmps8
    go_wp2
    go_ret
    exact ⟨k, by rw [unhide HK]; exact hlt, ret_int ((Int.neg_tmod (c + 1) n).symm.trans ((Int.tmod_eq_emod_of_nonneg (by omega)).trans (unhide HK).symm)), rfl⟩
  · obtain ⟨k, hk⟩ : ∃ k : Nat, (k : Int) = c % n := ⟨(c % n).toNat, Int.toNat_of_nonneg (Int.emod_nonneg _ (by omega))⟩
    have hlt := Int.emod_lt_of_pos c (show 0 < n by omega)
    have HK := hide hk
    clear hk
    go_enter Try.func8, Try.ntmps8
    go_wp2
    go_ret
    exact ⟨k, by rw [unhide HK]; exact hlt, ret_int (unhide HK).symm, rfl⟩

end Go.Proofs.Ytjhaihbjhikhlaa
