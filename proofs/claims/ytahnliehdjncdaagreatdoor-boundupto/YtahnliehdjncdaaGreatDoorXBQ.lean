import Derived.Test.YtahnliehdjncdaaGreatDoorXBP
set_option maxRecDepth 100000
set_option maxHeartbeats 16000000
namespace Go.Proofs.YtahnliehdjncdaaGreatDoor
theorem last_le {s : List Int} {t : Int} (h : s.getLast? = some t) (hp : s.Pairwise (· ≤ ·)) : t ∈ s ∧ ∀ d ∈ s, d ≤ t := by
 obtain ⟨ys, rfl⟩ := List.getLast?_eq_some_iff.1 h
 refine ⟨by simp, fun d hd => ?_⟩
 rcases List.mem_append.1 hd with hd | hd
 ·exact (List.pairwise_append.1 hp).2.2 d hd t (by simp)
 ·rw [List.mem_singleton] at hd; omega
theorem seg_le {T : Int} (l : List Bk) : ∀ L, segB l L → L.Pairwise (· ≤ ·) → (∀ b ∈ l, b.t ≤ T) → ∀ d ∈ L, d ≤ T := by
 induction l with
 | nil => intro L h _ _ d hd; have : L = [] := h; subst this; simp at hd
 | cons b l ih =>
  rintro L ⟨s, r, rfl, h1, h2, h3⟩ hp hb d hd
  obtain ⟨p1, p2, _⟩ := List.pairwise_append.1 hp
  rcases List.mem_append.1 hd with hd | hd
  ·have := (last_le h2 p1).2 d hd
   have := hb b (by simp)
   omega
  ·exact ih r h3 p2 (fun x hx => hb x (by simp [hx])) d hd
theorem while_mem {T : Int} (l : List Bk) : ∀ b ∈ l.takeWhile (fun b => decide (b.t ≤ T)), b.t ≤ T := by
 induction l with
 | nil => intro b hb; simp at hb
 | cons x l ih =>
  intro b hb
  rw [List.takeWhile_cons] at hb
  split at hb
  ·rename_i hx
   rcases List.mem_cons.1 hb with hb | hb
   ·rw [hb]; simpa using hx
   ·exact ih b hb
  ·simp at hb
theorem past_take (l : List Bk) (T : Int) : ∀ b ∈ l.take (pastN l T), b.t ≤ T := by
 unfold pastN
 intro b hb
 rw [← List.prefix_iff_eq_take.1 (List.takeWhile_prefix _)] at hb
 exact while_mem l b hb
theorem relB_HB {c : Cfg} (hK : 1 ≤ c.k) (l : List Bk) (L : List Int) (t m : Int) (h : HB c.k l) (hs : segB l L) (hp : L.Pairwise (· ≤ ·)) :
  ∃ D L', L = D ++ L' ∧ (∀ d ∈ D, d ≤ m - c.window) ∧ HB c.k (relB c l t m) ∧ segB (relB c l t m) (L' ++ [t]) := by
 have hs' := hs
 rw [← List.take_append_drop (pastN l (m - c.window)) l] at hs'
 obtain ⟨D, L', rfl, h1, h2⟩ := (segB_append _ _ _).1 hs'
 refine ⟨D, L', rfl, seg_le _ D h1 (List.pairwise_append.1 hp).1 (past_take l _), ?_⟩
 exact joinL_HB hK _ _ 1 _ (by omega) (Nat.le_refl _) (HB_snoc _ t (HB_drop l h _)) _ ((segB_append _ _ _).2 ⟨L', [t], rfl, h2, [t], [], rfl, rfl, rfl, rfl⟩)
def cntA (T : Int) (L : List Int) : Int := ((L.filter (fun t => decide (T < t))).length : Int)
theorem cntA_append (T : Int) (a b : List Int) : cntA T (a ++ b) = cntA T a + cntA T b := by
 unfold cntA; rw [List.filter_append, List.length_append]; omega
theorem cntA_none {T : Int} {a : List Int} (h : ∀ d ∈ a, d ≤ T) : cntA T a = 0 := by
 unfold cntA
 rw [List.filter_eq_nil_iff.2 (fun d hd => by have := h d hd; simp; omega)]; rfl
theorem cntA_all {T : Int} {a : List Int} (h : ∀ d ∈ a, T < d) : cntA T a = a.length := by
 unfold cntA
 rw [List.filter_eq_self.2 (fun d hd => by have := h d hd; simpa using this)]
theorem cntA_le (T : Int) (a : List Int) : cntA T a ≤ a.length := by
 unfold cntA
 have := List.length_filter_le (fun t => decide (T < t)) a
 omega
theorem cntA_one {T t : Int} {a : List Int} (h : t ∈ a) (ht : T < t) : 1 ≤ cntA T a := by
 unfold cntA
 have : t ∈ a.filter (fun t => decide (T < t)) := List.mem_filter.2 ⟨h, by simpa using ht⟩
 have := List.length_pos_of_mem this
 omega
theorem est_cases {T : Int} (l : List Bk) : ∀ L, segB l L → L.Pairwise (· ≤ ·) →
  (pastN l T = l.length ∧ cntA T L = 0) ∨ (pastN l T < l.length ∧ ∃ x, 1 ≤ x ∧ x ≤ (bkAt l (pastN l T)).sz ∧ cntA T L = sumB (l.drop (pastN l T + 1)) + x) := by
 induction l with
 | nil => intro L h _; have : L = [] := h; subst this; exact .inl ⟨rfl, rfl⟩
 | cons b l ih =>
  rintro L ⟨s, r, rfl, h1, h2, h3⟩ hp
  obtain ⟨p1, p2, p3⟩ := List.pairwise_append.1 hp
  obtain ⟨l1, l2⟩ := last_le h2 p1
  by_cases hb : b.t ≤ T
  ·have hpn : pastN (b :: l) T = pastN l T + 1 := by
    unfold pastN; rw [List.takeWhile_cons, if_pos (by simpa using hb)]; rfl
   have hc : cntA T (s ++ r) = cntA T r := by
    rw [cntA_append, cntA_none (fun d hd => by have := l2 d hd; omega)]; omega
   rw [hpn, hc]
   rcases ih r h3 p2 with ⟨a1, a2⟩ | ⟨a1, x, x1, x2, x3⟩
   ·exact .inl ⟨by rw [List.length_cons]; omega, a2⟩
   ·exact .inr ⟨by rw [List.length_cons]; omega, x, x1, x2, x3⟩
  ·have hpn : pastN (b :: l) T = 0 := by
    unfold pastN; rw [List.takeWhile_cons, if_neg (by simpa using hb)]; rfl
   rw [hpn]
   refine .inr ⟨by simp, cntA T s, cntA_one l1 (by omega), ?_, ?_⟩
   ·have := cntA_le T s
    show cntA T s ≤ b.sz
    omega
   ·rw [cntA_append, cntA_all (a := r) (fun d hd => by have := p3 _ l1 d hd; omega)]
    show cntA T s + _ = sumB l + _
    rw [segB_sum h3]; omega
theorem est_bound {K T : Int} (hK : 0 ≤ K) (l : List Bk) (L : List Int) (hs : segB l L) (hp : L.Pairwise (· ≤ ·)) (hb : HB K l) (hz : ∀ b ∈ l, b.sz = 1 ∨ (1 ≤ b.sz / 2 ∧ b.sz = 2 * (b.sz / 2))) :
  K * (estN l T - cntA T L) ≤ cntA T L ∧ K * (cntA T L - estN l T) ≤ cntA T L := by
 rcases est_cases l L hs hp with ⟨a1, a2⟩ | ⟨a1, x, x1, x2, x3⟩
 ·have : estN l T = 0 := by
   unfold estN
   rw [if_pos a1, a1, List.drop_eq_nil_of_le (Nat.le_refl _)]; rfl
  rw [this, a2]
  exact ⟨by omega, by omega⟩
 ·generalize hpe : pastN l T = p at *
  have hd := HB_drop l hb p
  rw [bkAt_drop l p a1] at hd
  have hN := hd.1
  have he : estN l T = (bkAt l p).sz + sumB (l.drop (p + 1)) - (bkAt l p).sz / 2 := by
   unfold estN
   rw [hpe, if_neg (by omega), bkAt_drop l p a1]; rfl
  have hsz := hz _ (bkAt_mem a1)
  rw [he, x3]
  generalize (bkAt l p).sz = s at *
  generalize sumB (l.drop (p + 1)) = N at *
  rcases hsz with h1 | ⟨h1, h2⟩
  ·subst h1
   have hx : x = 1 := by omega
   subst hx
   have n0 : 0 ≤ N := by simpa using hN
   have e1 : (1 : Int) + N - 1 / 2 - (N + 1) = 0 := by omega
   have e2 : N + 1 - ((1 : Int) + N - 1 / 2) = 0 := by omega
   rw [e1, e2, Int.mul_zero]
   exact ⟨by omega, by omega⟩
  ·generalize s / 2 = q at *
   have hq : K * q ≤ K * (s - 1) := Int.mul_le_mul_of_nonneg_left (by omega) hK
   have a3 : K * (s + N - q - (N + x)) ≤ K * q := Int.mul_le_mul_of_nonneg_left (by omega) hK
   have a4 : K * (N + x - (s + N - q)) ≤ K * q := Int.mul_le_mul_of_nonneg_left (by omega) hK
   exact ⟨by omega, by omega⟩
end Go.Proofs.YtahnliehdjncdaaGreatDoor
namespace Go.Proofs.YtahnliehdjncdaaGreatDoor
structure Whole (c : Cfg) (T : Int) (l : List Bk) (R : List Int) : Prop where
 hb : HB c.k l
 sorted : R.Pairwise (· ≤ ·)
 parts : ∃ D L, R = D ++ L ∧ (∀ d ∈ D, d ≤ T) ∧ segB l L
theorem Whole.nil (c : Cfg) (T : Int) : Whole c T [] [] := ⟨trivial, List.Pairwise.nil, [], [], rfl, fun d hd => by simp at hd, rfl⟩
theorem Whole.later {c : Cfg} {T T' : Int} {l : List Bk} {R : List Int} (h : Whole c T l R) (ht : T ≤ T') : Whole c T' l R := by
 obtain ⟨D, L, h1, h2, h3⟩ := h.parts
 exact ⟨h.hb, h.sorted, D, L, h1, fun d hd => by have := h2 d hd; omega, h3⟩
theorem Whole.rel {c : Cfg} {m : Int} {l : List Bk} {R : List Int} (hK : 1 ≤ c.k) (h : Whole c (m - c.window) l R) (t : Int) (ht : ∀ r ∈ R, r ≤ t) : Whole c (m - c.window) (relB c l t m) (R ++ [t]) := by
 obtain ⟨D, L, rfl, h2, h3⟩ := h.parts
 obtain ⟨D', L', rfl, g2, g3, g4⟩ := relB_HB hK l L t m h.hb h3 (List.pairwise_append.1 h.sorted).2.1
 refine ⟨g3, ?_, D ++ D', L' ++ [t], by simp [List.append_assoc], ?_, g4⟩
 ·refine List.pairwise_append.2 ⟨h.sorted, List.pairwise_singleton _ _, fun a ha b hb => ?_⟩
  rw [List.mem_singleton] at hb
  subst hb
  exact ht a ha
 ·intro d hd
  rcases List.mem_append.1 hd with hd | hd
  ·exact h2 d hd
  ·exact g2 d hd
theorem Whole.fold {c : Cfg} {m : Int} (hK : 1 ≤ c.k) : ∀ (N : List Int) {l : List Bk} {R : List Int}, Whole c (m - c.window) l R → (R ++ N).Pairwise (· ≤ ·) → Whole c (m - c.window) (N.foldl (fun l t => relB c l t m) l) (R ++ N) := by
 intro N
 induction N with
 | nil => intro l R h _; simpa using h
 | cons t N ih =>
  intro l R h hp
  have h1 := h.rel hK t (fun r hr => (List.pairwise_append.1 hp).2.2 r hr t (by simp))
  have h2 := ih h1 (by simpa [List.append_assoc] using hp)
  simpa [List.append_assoc] using h2
theorem Whole.drop {c : Cfg} {T : Int} {l : List Bk} {R : List Int} (h : Whole c T l R) (n : Nat) (hn : n ≤ pastN l T) : Whole c T (l.drop n) R := by
 obtain ⟨D, L, rfl, h2, h3⟩ := h.parts
 rw [← List.take_append_drop n l] at h3
 obtain ⟨L1, L2, rfl, g1, g2⟩ := (segB_append _ _ _).1 h3
 have hs := (List.pairwise_append.1 (List.pairwise_append.1 h.sorted).2.1).1
 refine ⟨HB_drop l h.hb n, h.sorted, D ++ L1, L2, by rw [List.append_assoc], ?_, g2⟩
 intro d hd
 rcases List.mem_append.1 hd with hd | hd
 ·exact h2 d hd
 ·refine seg_le _ L1 g1 hs (fun b hb => past_take l T b ?_) d hd
  exact (List.take_sublist_take_left hn).subset hb
theorem Whole.bound {c : Cfg} {T T' : Int} {l : List Bk} {R : List Int} (hK : 0 ≤ c.k) (h : Whole c T l R) (ht : T ≤ T') (hz : ∀ b ∈ l, b.sz = 1 ∨ (1 ≤ b.sz / 2 ∧ b.sz = 2 * (b.sz / 2))) :
  c.k * (estN l T' - cntA T' R) ≤ cntA T' R ∧ c.k * (cntA T' R - estN l T') ≤ cntA T' R := by
 obtain ⟨D, L, rfl, h2, h3⟩ := h.parts
 have : cntA T' (D ++ L) = cntA T' L := by
  rw [cntA_append, cntA_none (fun d hd => by have := h2 d hd; omega)]; omega
 rw [this]
 exact est_bound hK l L h3 (List.pairwise_append.1 h.sorted).2.1 h.hb hz
end Go.Proofs.YtahnliehdjncdaaGreatDoor
