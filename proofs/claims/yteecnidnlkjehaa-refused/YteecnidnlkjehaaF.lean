import Derived.Test.YteecnidnlkjehaaP6
namespace Go.Proofs.Yteecnidnlkjehaa

/-- A series without what was refused. -/
def Ser.bare (x : Ser) : Ser := { x with ref := [] }
def WS.bare (s : WS) : WS := ⟨s.clock, s.xs.map Ser.bare⟩
theorem bare_bare (x : Ser) : x.bare.bare = x.bare := rfl
theorem WS.bare_bare (s : WS) : s.bare.bare = s.bare := by
  unfold WS.bare
  simp only [List.map_map]
  congr 1

theorem find_bare (xs : List Ser) (id : Int) : findS (xs.map Ser.bare) id = (findS xs id).map Ser.bare := by
  induction xs with
  | nil => rfl
  | cons a l ih =>
    unfold findS at *
    rw [List.map_cons, List.find?_cons, List.find?_cons]
    have : (a.bare.id == id) = (a.id == id) := rfl
    rw [this]
    split
    · rfl
    · exact ih
theorem updS_cons (a : Ser) (l : List Ser) (id : Int) (y : Ser) : updS (a :: l) id y = if a.id == id then y :: l else a :: updS l id y := rfl
theorem upd_bare (xs : List Ser) (id : Int) (y : Ser) : (updS xs id y).map Ser.bare = updS (xs.map Ser.bare) id y.bare := by
  induction xs with
  | nil => rfl
  | cons a l ih =>
    rw [List.map_cons, updS_cons, updS_cons]
    have : (a.bare.id == id) = (a.id == id) := rfl
    rw [this]
    split
    · rfl
    · rw [List.map_cons, ih]
theorem upd_self (xs : List Ser) (id : Int) (y : Ser) (h : findS xs id = some y) : updS xs id y = xs := by
  induction xs with
  | nil => rfl
  | cons a l ih =>
    unfold findS at h ih
    rw [List.find?_cons] at h
    unfold updS
    split at h
    · rename_i hc
      rw [if_pos hc]
      injection h with h
      rw [h]
    · rename_i hc
      rw [if_neg (by simp [hc])]
      rw [ih h]
theorem relOne_bare (x : Ser) : (relOne x).bare = relOne x.bare := rfl
theorem relS_succ (n : Nat) (x : Ser) (t : Int) : relS (n + 1) x t = if x.l.isEmpty then x else if t < (itAt x.l 0).t then x else relS n (relOne x) t := rfl
theorem relS_bare (n : Nat) (x : Ser) (t : Int) : (relS n x t).bare = relS n x.bare t := by
  induction n generalizing x with
  | zero => rfl
  | succ n ih =>
    rw [relS_succ, relS_succ]
    show _ = if x.l.isEmpty then x.bare else if t < (itAt x.l 0).t then x.bare else relS n (relOne x.bare) t
    split
    · rfl
    · split
      · rfl
      · rw [ih, relOne_bare]

theorem step_bare (s : WS) (o : OpM) : (stepM s.bare o).2.1 = (stepM s o).2.1 ∧ (o.kind ≠ 5 → (stepM s.bare o).2.2 = (stepM s o).2.2) ∧ (stepM s.bare o).1.bare = (stepM s o).1.bare := by
  unfold stepM
  by_cases h1 : o.kind = 1
  · simp only [if_pos h1]
    unfold createM
    have hf : (findS s.bare.xs o.id).isNone = (findS s.xs o.id).isNone := by
      show (findS (s.xs.map Ser.bare) o.id).isNone = _
      rw [find_bare]; cases findS s.xs o.id <;> rfl
    have hl : s.bare.xs.length = s.xs.length := by show (s.xs.map Ser.bare).length = _; simp
    rw [hf, hl]
    split
    · split
      · split
        · refine ⟨rfl, fun _ => rfl, ?_⟩
          show (⟨s.clock, (s.bare.xs ++ [_]).map Ser.bare⟩ : WS) = ⟨s.clock, (s.xs ++ [_]).map Ser.bare⟩
          rw [List.map_append, List.map_append]
          show (⟨s.clock, (s.xs.map Ser.bare).map Ser.bare ++ _⟩ : WS) = _
          rw [List.map_map]
          rfl
        · exact ⟨rfl, fun _ => rfl, s.bare_bare⟩
      · exact ⟨rfl, fun _ => rfl, s.bare_bare⟩
    · exact ⟨rfl, fun _ => rfl, s.bare_bare⟩
  simp only [if_neg h1]
  by_cases h2 : o.kind = 2
  · simp only [if_pos h2]
    unfold addM
    show _ ∧ _
    have hf : findS s.bare.xs o.id = (findS s.xs o.id).map Ser.bare := find_bare _ _
    rw [hf]
    cases hx : findS s.xs o.id with
    | none => exact ⟨rfl, fun _ => rfl, s.bare_bare⟩
    | some x =>
      have hr : refE x.bare s.bare.clock o.item = refE x s.clock o.item := rfl
      simp only [Option.map_some]
      rw [hr]
      split
      · refine ⟨rfl, fun _ => rfl, ?_⟩
        show (⟨s.clock, (updS s.bare.xs o.id (accS x.bare o.item)).map Ser.bare⟩ : WS) = ⟨s.clock, (updS s.xs o.id (accS x o.item)).map Ser.bare⟩
        rw [upd_bare, upd_bare]
        show (⟨s.clock, updS ((s.xs.map Ser.bare).map Ser.bare) _ _⟩ : WS) = _
        rw [List.map_map]
        rfl
      · refine ⟨rfl, fun _ => rfl, ?_⟩
        show (⟨s.clock, (updS s.bare.xs o.id (refS x.bare _)).map Ser.bare⟩ : WS) = ⟨s.clock, (updS s.xs o.id (refS x _)).map Ser.bare⟩
        rw [upd_bare, upd_bare]
        show (⟨s.clock, updS ((s.xs.map Ser.bare).map Ser.bare) _ _⟩ : WS) = _
        rw [List.map_map]
        rfl
  simp only [if_neg h2]
  by_cases h3 : o.kind = 3
  · simp only [if_pos h3]
    unfold tickM
    split
    · split
      · refine ⟨rfl, fun _ => rfl, ?_⟩
        show (⟨maxC s.clock o.a, ((s.xs.map Ser.bare).map (tickOne (maxC s.clock o.a))).map Ser.bare⟩ : WS) = ⟨maxC s.clock o.a, (s.xs.map (tickOne (maxC s.clock o.a))).map Ser.bare⟩
        rw [List.map_map, List.map_map, List.map_map]
        congr 1
        refine List.map_congr_left fun x _ => ?_
        show (relS (x.l.length + 1) x.bare (maxC s.clock o.a - x.c.lag)).bare = (relS (x.l.length + 1) x (maxC s.clock o.a - x.c.lag)).bare
        rw [relS_bare, relS_bare]
        rfl
      · exact ⟨rfl, fun _ => rfl, s.bare_bare⟩
    · exact ⟨rfl, fun _ => rfl, s.bare_bare⟩
  simp only [if_neg h3]
  by_cases h4 : o.kind = 4
  · simp only [if_pos h4]
    unfold queryM
    show _ ∧ _
    have hf : findS s.bare.xs o.id = (findS s.xs o.id).map Ser.bare := find_bare _ _
    rw [hf]
    cases hx : findS s.xs o.id with
    | none => exact ⟨rfl, fun _ => rfl, s.bare_bare⟩
    | some x =>
      simp only [Option.map_some]
      have hk : x.bare.k = x.k := rfl
      rw [hk]
      split
      · exact ⟨rfl, fun _ => rfl, s.bare_bare⟩
      · exact ⟨rfl, fun _ => rfl, s.bare_bare⟩
  simp only [if_neg h4]
  by_cases h5 : o.kind = 5
  · simp only [if_pos h5]
    unfold statsM
    show _ ∧ _
    have hf : findS s.bare.xs o.id = (findS s.xs o.id).map Ser.bare := find_bare _ _
    rw [hf]
    cases hx : findS s.xs o.id with
    | none => exact ⟨rfl, fun _ => rfl, s.bare_bare⟩
    | some x => exact ⟨rfl, fun h => absurd h5 h, s.bare_bare⟩
  simp only [if_neg h5]
  exact ⟨trivial, fun _ => trivial, s.bare_bare⟩

/-- What is refused, and what only asks, leaves all but counts as it was. -/
theorem step_idle (s : WS) (o : OpM) (h : (stepM s o).2.1 ≠ 0 ∨ o.kind = 4 ∨ o.kind = 5 ∨ o.kind = 6) : (stepM s o).1.bare = s.bare := by
  unfold stepM at *
  by_cases h1 : o.kind = 1
  · have h0 : (stepM s o).2.1 ≠ 0 := by
      rcases h with h | h | h | h
      · unfold stepM; exact h
      all_goals omega
    unfold stepM at h0
    simp only [if_pos h1] at h0 ⊢
    unfold createM at h0 ⊢
    revert h0
    (repeat' split) <;> intro h0
    · exact absurd rfl h0
    all_goals rfl
  simp only [if_neg h1] at h ⊢
  by_cases h2 : o.kind = 2
  · have h0 : (addM s o).2.1 ≠ 0 := by
      rcases h with h | h | h | h
      · simpa only [if_pos h2] using h
      all_goals omega
    simp only [if_pos h2]
    clear h
    unfold addM at h0 ⊢
    revert h0
    cases hx : findS s.xs o.id with
    | none => intro _; rfl
    | some x =>
      simp only
      split
      · intro h0; exact absurd rfl h0
      · intro _
        show (⟨s.clock, (updS s.xs o.id (refS x _)).map Ser.bare⟩ : WS) = ⟨s.clock, s.xs.map Ser.bare⟩
        rw [upd_bare]
        show (⟨s.clock, updS (s.xs.map Ser.bare) o.id x.bare⟩ : WS) = _
        rw [upd_self _ _ _ (by rw [find_bare, hx]; rfl)]
  simp only [if_neg h2] at h ⊢
  by_cases h3 : o.kind = 3
  · have h0 : (tickM s o).2.1 ≠ 0 := by
      rcases h with h | h | h | h
      · simpa only [if_pos h3] using h
      all_goals omega
    simp only [if_pos h3]
    clear h
    unfold tickM at h0 ⊢
    revert h0
    (repeat' split) <;> intro h0
    · exact absurd rfl h0
    all_goals rfl
  simp only [if_neg h3]
  clear h
  split
  · unfold queryM; (repeat' split) <;> rfl
  split
  · unfold statsM; (repeat' split) <;> rfl
  · rfl

/-- Two runs from wholes that are alike but for counts. -/
theorem run_bare (l : List OpM) : ∀ (s s' : WS), s.bare = s'.bare → ∀ i, i < l.length → ((runM s l)[i]?.map (·.1) = (runM s' l)[i]?.map (·.1)) ∧ ((l.getD i o1).kind ≠ 5 → (runM s l)[i]? = (runM s' l)[i]?) := by
  induction l with
  | nil => intro s s' _ i hi; simp at hi
  | cons o l ih =>
    intro s s' h i hi
    obtain ⟨a1, a2, a3⟩ := step_bare s o
    obtain ⟨b1, b2, b3⟩ := step_bare s' o
    rw [h] at a1 a2 a3
    cases i with
    | zero =>
      refine ⟨?_, fun hk => ?_⟩
      · show some (stepM s o).2.1 = some (stepM s' o).2.1
        rw [← a1, b1]
      · show some (stepM s o).2 = some (stepM s' o).2
        have hk' : o.kind ≠ 5 := hk
        rw [show (stepM s o).2 = ((stepM s o).2.1, (stepM s o).2.2) from rfl, show (stepM s' o).2 = ((stepM s' o).2.1, (stepM s' o).2.2) from rfl, ← a1, b1, ← a2 hk', b2 hk']
    | succ i =>
      exact ih _ _ (by rw [← a3, b3]) i (by simpa using hi)

end Go.Proofs.Yteecnidnlkjehaa
