import Derived.Test.YtjhaihbjhikhlaaGreatL
namespace Go.Proofs.YtjhaihbjhikhlaaGreat

/-! ### Buckets whose sizes are powers of 2 and fall from the oldest to the newest -/
structure PB (q : List Bk) : Prop where
  sorted : ∀ i j, i ≤ j → j < q.length → (bkAt q j).sz ≤ (bkAt q i).sz
  pow : ∀ i, i < q.length → ∃ k : Nat, (bkAt q i).sz = (2 : Int) ^ k

/-- Where the joining stands: those from e on are done. -/
structure PI (q : List Bk) (sz : Int) (e : Nat) : Prop where
  pb : PB q
  he : e ≤ q.length
  hi : ∀ i, i < e → sz ≤ (bkAt q i).sz
  lo : ∀ i, e ≤ i → i < q.length → (bkAt q i).sz < sz
  szp : ∃ k : Nat, sz = (2 : Int) ^ k

theorem pow_pos2 (k : Nat) : (1 : Int) ≤ 2 ^ k := by
  induction k with
  | zero => decide
  | succ k ih => rw [Int.pow_succ]; omega
theorem pow_gap {a b : Nat} (h : (2 : Int) ^ a < 2 ^ b) : 2 * (2 : Int) ^ a ≤ 2 ^ b := by
  have hab : a < b := by
    rcases Nat.lt_or_ge a b with h1 | h1
    · exact h1
    · exfalso
      obtain ⟨d, rfl⟩ := Nat.exists_eq_add_of_le h1
      have h2 : (2 : Int) ^ (b + d) = 2 ^ b * 2 ^ d := Int.pow_add 2 b d
      have h3 := pow_pos2 d
      have h4 := pow_pos2 b
      have h5 : (2 : Int) ^ b * 1 ≤ 2 ^ b * 2 ^ d := Int.mul_le_mul_of_nonneg_left h3 (by omega)
      omega
  obtain ⟨d, rfl⟩ := Nat.exists_eq_add_of_le hab
  have h2 : (2 : Int) ^ (a + 1 + d) = 2 ^ a * 2 * 2 ^ d := by rw [Int.pow_add, Int.pow_succ]
  have h3 := pow_pos2 d
  have h4 := pow_pos2 a
  have h5 : (2 : Int) ^ a * 2 * 1 ≤ 2 ^ a * 2 * 2 ^ d := Int.mul_le_mul_of_nonneg_left h3 (by omega)
  rw [h2]
  omega

theorem bkAt_append_left (a b : List Bk) (i : Nat) (h : i < a.length) : bkAt (a ++ b) i = bkAt a i := by
  unfold bkAt; rw [List.getD_eq_getElem?_getD, List.getD_eq_getElem?_getD, List.getElem?_append_left h]
theorem bkAt_append_right (a b : List Bk) (i : Nat) (h : a.length ≤ i) : bkAt (a ++ b) i = bkAt b (i - a.length) := by
  unfold bkAt; rw [List.getD_eq_getElem?_getD, List.getD_eq_getElem?_getD, List.getElem?_append_right h]
theorem bkAt_take (l : List Bk) (n i : Nat) (h : i < n) : bkAt (l.take n) i = bkAt l i := by
  unfold bkAt; rw [List.getD_eq_getElem?_getD, List.getD_eq_getElem?_getD, List.getElem?_take, if_pos h]
theorem bkAt_dropN (l : List Bk) (n i : Nat) : bkAt (l.drop n) i = bkAt l (n + i) := by
  unfold bkAt; rw [List.getD_eq_getElem?_getD, List.getD_eq_getElem?_getD, List.getElem?_drop]
theorem bkAt_join (l : List Bk) (s : Nat) (x : Bk) (h : s + 2 ≤ l.length) (i : Nat) : bkAt (joinAt l s x) i = if i < s then bkAt l i else if i = s then x else bkAt l (i + 1) := by
  have hl : (l.take s).length = s := by simp; omega
  unfold joinAt
  by_cases h1 : i < s
  · rw [if_pos h1, List.append_assoc, bkAt_append_left _ _ _ (by omega), bkAt_take _ _ _ h1]
  · rw [if_neg h1]
    by_cases h2 : i = s
    · rw [if_pos h2, List.append_assoc, bkAt_append_right _ _ _ (by omega), hl, h2, Nat.sub_self]; rfl
    · rw [if_neg h2, bkAt_append_right _ _ _ (by simp; omega), bkAt_dropN]
      congr 1
      simp; omega

theorem PB.drop {q : List Bk} (h : PB q) (n : Nat) : PB (q.drop n) := by
  refine ⟨fun i j hij hj => ?_, fun i hi => ?_⟩
  · rw [bkAt_dropN, bkAt_dropN]
    exact h.sorted _ _ (by omega) (by rw [List.length_drop] at hj; omega)
  · rw [bkAt_dropN]
    exact h.pow _ (by rw [List.length_drop] at hi; omega)
theorem PI.start {q : List Bk} (h : PB q) (t : Int) : PI (q ++ [⟨1, t⟩]) 1 (q ++ [(⟨1, t⟩ : Bk)]).length := by
  have hone : ∀ i, i < (q ++ [(⟨1, t⟩ : Bk)]).length → ∃ k : Nat, (bkAt (q ++ [⟨1, t⟩]) i).sz = (2 : Int) ^ k := by
    intro i hi
    by_cases h1 : i < q.length
    · rw [bkAt_append_left _ _ _ h1]; exact h.pow i h1
    · rw [bkAt_append_right _ _ _ (by omega)]
      have : i - q.length = 0 := by simp at hi; omega
      rw [this]
      exact ⟨0, rfl⟩
  refine ⟨⟨fun i j hij hj => ?_, hone⟩, Nat.le_refl _, fun i hi => ?_, fun i h1 h2 => by omega, 0, rfl⟩
  · by_cases h1 : j < q.length
    · rw [bkAt_append_left _ _ _ h1, bkAt_append_left _ _ _ (by omega)]; exact h.sorted i j hij h1
    · have : j - q.length = 0 := by simp at hj; omega
      rw [bkAt_append_right _ _ j (by omega), this]
      show (1 : Int) ≤ _
      obtain ⟨k, hk⟩ := hone i (by omega)
      rw [hk]; exact pow_pos2 k
  · obtain ⟨k, hk⟩ := hone i hi
    rw [hk]; exact pow_pos2 k
theorem startN_below {q : List Bk} {sz : Int} {e : Nat} (h : PI q sz e) (i : Nat) (hi : i < startN q sz e) : sz < (bkAt q i).sz := by
  have hle := startN_le q sz e
  have h1 := h.hi i (by omega)
  have hne : (bkAt q (startN q sz e - 1)).sz ≠ sz := by
    generalize hs : startN q sz e = s at *
    clear h1 h
    induction e with
    | zero => simp [startN] at hs; omega
    | succ e ih =>
      unfold startN at hs
      split at hs
      · exact ih hs (by have := startN_le q sz e; omega)
      · rename_i hc
        rw [← hs]; exact hc
  have h2 := h.hi (startN q sz e - 1) (by omega)
  have h3 := h.pb.sorted i (startN q sz e - 1) (by omega) (by have := h.he; omega)
  omega
theorem PI.step {q : List Bk} {sz : Int} {e : Nat} (h : PI q sz e) (h2 : startN q sz e + 2 ≤ e) (t : Int) : PI (joinAt q (startN q sz e) ⟨2 * sz, t⟩) (2 * sz) (startN q sz e + 1) := by
  have hb := startN_below h
  have hin := startN_in q sz e
  obtain ⟨kz, hkz⟩ := h.szp
  have hz1 := pow_pos2 kz
  generalize startN q sz e = s at *
  have hlen := joinAt_length (⟨2 * sz, t⟩ : Bk) (l := q) (i := s) (by have := h.he; omega)
  have he := h.he
  have hat := bkAt_join q s ⟨2 * sz, t⟩ (by omega)
  have hbig : ∀ i, i < s → 2 * sz ≤ (bkAt q i).sz := by
    intro i hi
    obtain ⟨k, hk⟩ := h.pb.pow i (by omega)
    have := hb i hi
    rw [hk, hkz] at this ⊢
    exact pow_gap this
  have hsm : ∀ i, s ≤ i → i < q.length → (bkAt q i).sz ≤ sz := by
    intro i h1 h3
    have := h.pb.sorted s i h1 h3
    rw [hin s (Nat.le_refl _) (by omega)] at this
    exact this
  refine ⟨⟨fun i j hij hj => ?_, fun i hi => ?_⟩, by omega, fun i hi => ?_, fun i h1 h3 => ?_, kz + 1, by rw [Int.pow_succ, ← hkz]; omega⟩
  · rw [hat, hat]
    by_cases j1 : j < s
    · rw [if_pos j1, if_pos (by omega)]; exact h.pb.sorted i j hij (by omega)
    · rw [if_neg j1]
      by_cases j2 : j = s
      · rw [if_pos j2]
        by_cases i1 : i < s
        · rw [if_pos i1]; exact hbig i i1
        · rw [if_neg i1, if_pos (by omega)]; exact Int.le_refl _
      · rw [if_neg j2]
        have hj' := hsm (j + 1) (by omega) (by omega)
        by_cases i1 : i < s
        · rw [if_pos i1]; have := hbig i i1; omega
        · rw [if_neg i1]
          by_cases i2 : i = s
          · rw [if_pos i2]; show _ ≤ 2 * sz; omega
          · rw [if_neg i2]; exact h.pb.sorted (i + 1) (j + 1) (by omega) (by omega)
  · rw [hat]
    by_cases i1 : i < s
    · rw [if_pos i1]; exact h.pb.pow i (by omega)
    · rw [if_neg i1]
      by_cases i2 : i = s
      · rw [if_pos i2]; exact ⟨kz + 1, by show 2 * sz = _; rw [Int.pow_succ, ← hkz]; omega⟩
      · rw [if_neg i2]; exact h.pb.pow (i + 1) (by omega)
  · rw [hat]
    by_cases i1 : i < s
    · rw [if_pos i1]; exact hbig i i1
    · rw [if_neg i1, if_pos (by omega)]; exact Int.le_refl _
  · rw [hat, if_neg (by omega), if_neg (by omega)]
    have := hsm (i + 1) (by omega) (by omega)
    omega
theorem joinL_PB {K : Int} (hK : 0 ≤ K) (f : Nat) (q : List Bk) (sz : Int) (e : Nat) (h : PI q sz e) : PB (joinL K f q sz e) := by
  induction f generalizing q sz e with
  | zero => exact h.pb
  | succ f ih =>
    unfold joinL
    split
    · exact h.pb
    · exact ih _ _ _ (h.step (by omega) _)
theorem relB_PB {c : Cfg} (hK : 0 ≤ c.k) {q : List Bk} (h : PB q) (t m : Int) : PB (relB c q t m) := by
  unfold relB putB liveB
  exact joinL_PB hK _ _ _ _ (PI.start (h.drop _) t)

/-! ### As the document counts them, from the newest on -/
def cntN (l : List Bk) (sz : Int) : Nat → Nat
  | 0 => 0
  | i + 1 => cntN l sz i + (if (bkAt l i).sz = sz then 1 else 0)
def endN (l : List Bk) (sz : Int) : Nat → Nat
  | 0 => 0
  | i + 1 => if (bkAt l i).sz = sz then i + 1 else endN l sz i

theorem bkAt_reverse (q : List Bk) (i : Nat) (h : i < q.length) : bkAt q.reverse i = bkAt q (q.length - 1 - i) := by
  unfold bkAt
  rw [List.getD_eq_getElem?_getD, List.getD_eq_getElem?_getD, List.getElem?_reverse h]
theorem cnt_end {q : List Bk} {sz : Int} {e : Nat} (h : PI q sz e) : ∀ i, i ≤ q.length →
    cntN q.reverse sz i = min i (q.length - startN q sz e) - min i (q.length - e) ∧ endN q.reverse sz i = (if q.length - e < i ∧ startN q sz e < e then min i (q.length - startN q sz e) else 0) := by
  have hb := startN_below h
  have hin := startN_in q sz e
  have hsle := startN_le q sz e
  have he := h.he
  have hlo := h.lo
  generalize startN q sz e = s at *
  intro i
  induction i with
  | zero => intro _; simp [cntN, endN]
  | succ i ih =>
    intro hi
    obtain ⟨i1, i2⟩ := ih (by omega)
    have hat := bkAt_reverse q i (by omega)
    have hcase : ((bkAt q.reverse i).sz = sz) ↔ (q.length - e ≤ i ∧ i < q.length - s) := by
      rw [hat]
      constructor
      · intro hz
        constructor
        · rcases Nat.lt_or_ge i (q.length - e) with h1 | h1
          · have := hlo (q.length - 1 - i) (by omega) (by omega); omega
          · exact h1
        · rcases Nat.lt_or_ge i (q.length - s) with h1 | h1
          · exact h1
          · have := hb (q.length - 1 - i) (by omega); omega
      · rintro ⟨h1, h2⟩
        exact hin _ (by omega) (by omega)
    unfold cntN endN
    rw [i1, i2]
    by_cases hc : (bkAt q.reverse i).sz = sz
    · have hc' := hcase.1 hc
      rw [if_pos hc, if_pos hc, if_pos (by omega)]
      omega
    · have hc' : ¬ (q.length - e ≤ i ∧ i < q.length - s) := fun h => hc (hcase.2 h)
      rw [if_neg hc, if_neg hc]
      refine ⟨by omega, ?_⟩
      by_cases h1 : q.length - e < i ∧ s < e
      · rw [if_pos h1, if_pos (by omega)]; omega
      · rw [if_neg h1, if_neg (by omega)]
theorem join_reverse (q : List Bk) (s : Nat) (x : Bk) (h : s + 2 ≤ q.length) : q.reverse.take (q.length - s - 2) ++ [x] ++ q.reverse.drop (q.length - s) = (joinAt q s x).reverse := by
  unfold joinAt
  rw [List.reverse_append, List.reverse_append, List.take_reverse, List.drop_reverse]
  rw [show q.length - (q.length - s - 2) = s + 2 by omega, show q.length - (q.length - s) = s by omega]
  simp
theorem past_reverse (q : List Bk) (n : Nat) (hn : n < q.length) : bkAt q.reverse (q.length - 1 - n) = bkAt q n := by
  rw [bkAt_reverse _ _ (by omega)]
  congr 1
  omega
theorem pastN_step (q : List Bk) (t : Int) (n : Nat) (h : pastN q t = n + pastN (q.drop n) t) (hn : n < q.length) : (if (bkAt q n).t ≤ t then pastN q t = (n + 1) + pastN (q.drop (n + 1)) t else pastN q t = n) := by
  rw [bkAt_drop q n hn] at h
  unfold pastN at h ⊢
  rw [List.takeWhile_cons] at h
  split
  · rename_i hb
    rw [if_pos (by simpa using hb)] at h
    simp only [List.length_cons] at h
    omega
  · rename_i hb
    rw [if_neg (by simpa using hb)] at h
    simpa using h

end Go.Proofs.YtjhaihbjhikhlaaGreat
