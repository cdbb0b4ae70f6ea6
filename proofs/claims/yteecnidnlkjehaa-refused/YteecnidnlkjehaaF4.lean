import Derived.Test.YteecnidnlkjehaaF3
namespace Go.Proofs.Yteecnidnlkjehaa
open Go.RowKit

set_option maxRecDepth 100000 in
set_option maxHeartbeats 2000000 in
theorem sameN_some (b1 b2 : Nat) (v1 v2 : Value) (l1 l2 : List Int) (w : World) (h1 : w.ownsRow b1 3 1 v1 l1.length (ints l1)) (h2 : w.ownsRow b2 3 1 v2 l2.length (ints l2)) (hl1 : l1.length ≤ 1000) (hl2 : l2.length ≤ 1000) :
    Calls Try.prog 17 #[v1, v2] w fun e w' => ∃ b, e = .returned (.bool b) ∧ (l1 = l2 → b = true) ∧ Keeps (fun _ => False) w w' := by
  by_cases he : l1 = l2
  · subst he
    exact (sameN_any b1 b2 v1 v2 l1 w h1 h2 hl1).mono fun e w' ⟨h, hk⟩ => ⟨true, h, fun _ => rfl, hk⟩
  by_cases hlen : l1.length = l2.length
  · rcases num_cells h1 with ⟨rfl, _⟩ | ⟨g1, c1, rfl, hc1⟩
    · have : l2 = [] := List.length_eq_zero_iff.1 hlen.symm
      exact absurd this.symm he
    rcases num_cells h2 with ⟨rfl, _⟩ | ⟨g2, c2, rfl, hc2⟩
    · have : l1 = [] := List.length_eq_zero_iff.1 hlen
      exact absurd this he
    rw [← hlen] at hc2 ⊢
    have HC1 := hide hc1
    have HC2 := hide hc2
    clear h1 h2 hc1 hc2 hl2 hlen
    generalize hn : l1.length = n at *
    clear hn
    go_enter Try.func17, Try.ntmps17
    go_wp2
    go_loopw [5] (fun i wr => ∃ k : Nat, k ≤ n ∧ i = .int .i64 k ∧ Hid (Keeps (fun _ => False) w wr)) (fun i _ => n - (intOf i).toNat)
    case atStart => exact ⟨0, by omega, rfl, Keeps.refl _ _⟩
    case round =>
      obtain ⟨k, hk, rfl, HK⟩ := hrel
      by_cases hlt : k < n
      · have x1 : wr.cell? ⟨g1, k, none⟩ = some (.int .i64 (l1.getD k 0)) := (unhide HK).cell (unhide HC1 k hlt) (fun h => h)
        have x2 : wr.cell? ⟨g2, k, none⟩ = some (.int .i64 (l2.getD k 0)) := (unhide HK).cell (unhide HC2 k hlt) (fun h => h)
        have hk0 : (0 : Int) ≤ (k : Int) := by omega
        have hkn : (k : Int) < (n : Int) := by omega
        by_cases hxy : l1.getD k 0 = l2.getD k 0
        · rw [hxy] at x1
          generalize l2.getD k 0 = y at *
          have hne : (y != y) = false := by simp
          go_wp2
          go_quiet (fail)
          go_wp2
          go_roundw
          case rel => exact ⟨k + 1, by omega, by go_num, hide ((unhide HK).then (Keeps.drewN _ _ _))⟩
          case measure => simp [intOf]; omega
        · generalize l2.getD k 0 = y at *
          generalize l1.getD k 0 = x at *
          have hne : (x != y) = true := by simp [hxy]
          go_wp2
          go_quiet (fail)
          go_wp2
          go_ret
          exact ⟨false, rfl, fun h => absurd h he, (unhide HK).then (Keeps.drewN _ _ _)⟩
      · go_wp2
        go_ret
        exact ⟨true, rfl, fun h => absurd h he, unhide HK⟩
  · obtain ⟨a1, c1, rfl⟩ := row_form h1
    obtain ⟨a2, c2, rfl⟩ := row_form h2
    clear h1 h2
    generalize l1.length = n1 at *
    generalize l2.length = n2 at *
    have hne : ((n1 : Int) != (n2 : Int)) = true := by simp; omega
    go_enter Try.func17, Try.ntmps17
    go_wp2
    go_ret
    exact ⟨false, rfl, fun h => absurd h he, Keeps.refl _ _⟩

/-- What Refused says, of the model's answers. -/
theorem refused_ans (s : List OpM) (k : Nat) (o : OpM) (hk : k ≤ s.length) (code : Int) (hB : ((runM ws0 (s.take k ++ [o] ++ s.drop k))[k]?).map (·.1) = some code) (h : code ≠ 0 ∨ o.kind = 4 ∨ o.kind = 5 ∨ o.kind = 6) (i : Nat) (hi : i < s.length) (x y : Int × List Int)
    (hx : (runM ws0 s)[i]? = some x) (hy : (runM ws0 (s.take k ++ [o] ++ s.drop k))[if k ≤ i then i + 1 else i]? = some y) : x.1 = y.1 ∧ ((s.getD i o1).kind ≠ 5 → x.2 = y.2) := by
  have hA : runM ws0 s = runM ws0 (s.take k) ++ runM (endM ws0 (s.take k)) (s.drop k) := by
    have := runM_append ws0 (s.take k) (s.drop k)
    rwa [List.take_append_drop] at this
  have hlk : (runM ws0 (s.take k)).length = k := by rw [runM_length, List.length_take]; omega
  have hBB : runM ws0 (s.take k ++ [o] ++ s.drop k) = runM ws0 (s.take k) ++ ((stepM (endM ws0 (s.take k)) o).2 :: runM (stepM (endM ws0 (s.take k)) o).1 (s.drop k)) := by
    rw [runM_append, runM_snoc, endM_snoc, List.append_assoc]; rfl
  rw [hBB] at hB hy
  rw [hA] at hx
  rw [List.getElem?_append_right (by omega), hlk, Nat.sub_self] at hB
  have hc : (stepM (endM ws0 (s.take k)) o).2.1 = code := by simpa using hB
  have hb := step_idle (endM ws0 (s.take k)) o (by rw [hc]; exact h)
  by_cases hki : k ≤ i
  · rw [if_pos hki, List.getElem?_append_right (by omega), hlk, show i + 1 - k = (i - k) + 1 by omega, List.getElem?_cons_succ] at hy
    rw [List.getElem?_append_right (by omega), hlk] at hx
    obtain ⟨r1, r2⟩ := run_bare (s.drop k) _ _ hb (i - k) (by rw [List.length_drop]; omega)
    rw [hx, hy] at r1 r2
    have hg : (s.drop k).getD (i - k) o1 = s.getD i o1 := by
      rw [List.getD_eq_getElem?_getD, List.getElem?_drop, show k + (i - k) = i by omega, ← List.getD_eq_getElem?_getD]
    rw [hg] at r2
    refine ⟨by simpa using r1.symm, fun h5 => ?_⟩
    have := r2 h5
    simp at this
    rw [this]
  · rw [if_neg hki, List.getElem?_append_left (by omega)] at hy
    rw [List.getElem?_append_left (by omega)] at hx
    rw [hx] at hy
    injection hy with hy
    subst hy
    exact ⟨rfl, fun _ => rfl⟩

end Go.Proofs.Yteecnidnlkjehaa
