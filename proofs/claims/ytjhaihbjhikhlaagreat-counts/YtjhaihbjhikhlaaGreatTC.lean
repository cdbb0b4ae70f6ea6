import Derived.Test.YtjhaihbjhikhlaaGreatXH
import Derived.Test.YtjhaihbjhikhlaaGreatD
import Derived.Test.YtjhaihbjhikhlaaGreatR2
namespace Go.Proofs.YtjhaihbjhikhlaaGreat

theorem sorted_eq {a b : List Int} (h : a.Perm b) (ha : a.Pairwise (· ≤ ·)) (hb : b.Pairwise (· ≤ ·)) : a = b := by
  induction a generalizing b with
  | nil => exact (List.nil_perm.1 h).symm
  | cons x a ih =>
    cases b with
    | nil => exact absurd h.length_eq (by simp)
    | cons y b =>
      have hx := List.pairwise_cons.1 ha
      have hy := List.pairwise_cons.1 hb
      have h1 : x ≤ y := by
        have : y ∈ x :: a := h.mem_iff.2 (by simp)
        rcases List.mem_cons.1 this with e | e
        · omega
        · exact hx.1 y e
      have h2 : y ≤ x := by
        have : x ∈ y :: b := h.mem_iff.1 (by simp)
        rcases List.mem_cons.1 this with e | e
        · omega
        · exact hy.1 x e
      obtain rfl : x = y := by omega
      rw [ih ((List.perm_cons x).1 h) hx.2 hy.2]

/-! ### What one TICK releases, on both sides -/
def relTimes : Nat → Ser → Int → List Int
  | 0, _, _ => []
  | f + 1, x, m => if x.l.isEmpty then [] else if m < (itAt x.l 0).t then [] else (itAt x.l 0).t :: relTimes f (relOne x m) m
theorem relTimes_spec (m : Int) (f : Nat) : ∀ x : Ser, x.l.length < f → HeapL x.l →
    (x.l.map (·.t)).Perm (relTimes f x m ++ (relS f x m).l.map (·.t)) ∧ (∀ t, t ∈ relTimes f x m → t ≤ m) ∧ (∀ t, t ∈ (relS f x m).l.map (·.t) → m < t) ∧ (relTimes f x m).Pairwise (· ≤ ·) ∧
      (x.k = 1 → (relS f x m).nt.bs = (relTimes f x m).foldl (fun l t => relB x.c l t m) x.nt.bs) := by
  induction f with
  | zero => intro x h; omega
  | succ f ih =>
    intro x hf hh
    unfold relS relTimes
    split
    · rename_i he
      have hnil : x.l = [] := List.isEmpty_iff.1 he
      exact ⟨List.Perm.refl _, by simp, by simp [hnil], List.Pairwise.nil, fun _ => rfl⟩
    · rename_i he
      have hne : x.l ≠ [] := fun h => he (by rw [h]; rfl)
      split
      · rename_i hm
        refine ⟨List.Perm.refl _, by simp, ?_, List.Pairwise.nil, fun _ => rfl⟩
        intro t ht
        obtain ⟨y, hy, rfl⟩ := List.mem_map.1 ht
        have := hh.first_mem hy
        omega
      · rename_i hm
        obtain ⟨th, tp⟩ := take_heap x.l hh hne
        have hlen : (relOne x m).l.length = x.l.length - 1 := takeL_length _
        have hpos : 0 < x.l.length := List.length_pos_iff.2 hne
        obtain ⟨h1, h2, h3, h4, h5⟩ := ih (relOne x m) (by omega) th
        have hperm : (x.l.map (·.t)).Perm ((itAt x.l 0).t :: (relOne x m).l.map (·.t)) := by
          have := (tp.map (·.t)).symm
          rw [List.map_cons] at this
          exact this
        refine ⟨?_, ?_, h3, ?_, ?_⟩
        · refine hperm.trans ?_
          rw [List.cons_append]
          exact List.Perm.cons _ h1
        · intro t ht
          rcases List.mem_cons.1 ht with ht | ht
          · omega
          · exact h2 t ht
        · refine List.pairwise_cons.2 ⟨fun t ht => ?_, h4⟩
          have h6 : t ∈ (relOne x m).l.map (·.t) := h1.mem_iff.2 (List.mem_append.2 (.inl ht))
          have h7 : t ∈ x.l.map (·.t) := hperm.mem_iff.2 (List.mem_cons.2 (.inr h6))
          obtain ⟨y, hy, rfl⟩ := List.mem_map.1 h7
          exact hh.first_mem hy
        · intro hk
          rw [h5 hk, List.foldl_cons]
          congr 1
          show (relN x.k x.c x.nt (itAt x.l 0).t m).bs = _
          unfold relN
          rw [if_neg (by omega), if_pos hk]

theorem nextL_min (all : List RIt) (mark : Int) (l : List RIt) : ∀ (i : Nat) (k : Int), l = all.drop i → (k = -1 ∨ Due all mark k) →
    (∀ j, j < i → j < all.length → (rAt all j).tick = 0 → (rAt all j).t ≤ mark → 0 ≤ k ∧ (rAt all k.toNat).t ≤ (rAt all j).t) →
    ∀ j, j < all.length → (rAt all j).tick = 0 → (rAt all j).t ≤ mark → 0 ≤ nextL all mark l i k ∧ (rAt all (nextL all mark l i k).toNat).t ≤ (rAt all j).t := by
  induction l with
  | nil =>
    intro i k hd _ hb j hj
    have hlen : all.length ≤ i := by
      have := congrArg List.length hd
      simp at this; omega
    unfold nextL
    exact hb j (by omega) hj
  | cons x r ih =>
    intro i k hd hk hb
    have hi : i < all.length := by
      have := congrArg List.length hd
      simp at this; omega
    rw [List.drop_eq_getElem_cons hi] at hd
    injection hd with hx hr
    have hxa : rAt all i = x := by rw [rAt_get _ _ hi, hx]
    unfold nextL
    by_cases hc : x.tick = 0 ∧ x.t ≤ mark ∧ (k < 0 ∨ x.t < (rAt all k.toNat).t)
    · rw [if_pos hc]
      refine ih (i + 1) i hr (.inr ⟨by omega, by simpa using hi, by rw [Int.toNat_natCast, hxa]; exact hc.1, by rw [Int.toNat_natCast, hxa]; exact hc.2.1⟩) ?_
      intro j hj hjl ht hm
      rw [Int.toNat_natCast, hxa]
      refine ⟨by omega, ?_⟩
      by_cases hji : j = i
      · rw [hji, hxa]; exact Int.le_refl _
      · have := hb j (by omega) hjl ht hm
        rcases hc.2.2 with h1 | h1
        · omega
        · omega
    · rw [if_neg hc]
      refine ih (i + 1) k hr hk ?_
      intro j hj hjl ht hm
      by_cases hji : j = i
      · rw [hji, hxa] at ht hm ⊢
        have h1 : ¬ (k < 0 ∨ x.t < (rAt all k.toNat).t) := fun h => hc ⟨ht, hm, h⟩
        omega
      · exact hb j (by omega) hjl ht hm
theorem nextR_min (all : List RIt) (mark : Int) (j : Nat) (hj : j < all.length) (ht : (rAt all j).tick = 0) (hm : (rAt all j).t ≤ mark) : (rAt all (nextR all mark).toNat).t ≤ (rAt all j).t :=
  (nextL_min all mark all 0 (-1) rfl (.inl rfl) (fun _ h => by omega) j hj ht hm).2

def relTimesR : Nat → RSer → Int → Int → List Int
  | 0, _, _, _ => []
  | f + 1, y, mark, ticks => if nextR y.items mark < 0 then []
    else (rAt y.items (nextR y.items mark).toNat).t :: relTimesR f { y with items := tickAt y.items (nextR y.items mark).toNat ticks, events := y.events ++ [⟨(rAt y.items (nextR y.items mark).toNat).t, mark, false, 0⟩] } mark ticks

theorem waitT_mem {l : List RIt} {t : Int} (h : t ∈ waitT l) : ∃ j, j < l.length ∧ (rAt l j).tick = 0 ∧ (rAt l j).t = t := by
  unfold waitT at h
  obtain ⟨z, hz, rfl⟩ := List.mem_map.1 h
  obtain ⟨hz1, hz2⟩ := List.mem_filter.1 hz
  obtain ⟨j, hj, rfl⟩ := List.mem_iff_getElem.1 hz1
  exact ⟨j, hj, by rw [rAt_get _ _ hj]; simpa using hz2, by rw [rAt_get _ _ hj]⟩
theorem waitT_set {l : List RIt} {j : Nat} {ticks : Int} (ht : ticks ≠ 0) (hj : j < l.length) (h0 : (rAt l j).tick = 0) : (waitT l).Perm ((rAt l j).t :: waitT (tickAt l j ticks)) := by
  induction l generalizing j with
  | nil => simp at hj
  | cons z l ih =>
    cases j with
    | zero =>
      have hz : z.tick = 0 := h0
      have e1 : waitT (z :: l) = z.t :: waitT l := by unfold waitT; rw [List.filter_cons]; simp [hz]
      have e2 : waitT (tickAt (z :: l) 0 ticks) = waitT l := by
        show waitT ({ z with tick := ticks } :: l) = _
        unfold waitT; rw [List.filter_cons]; simp [ht]
      rw [e1, e2]
      exact List.Perm.refl _
    | succ j =>
      have e3 : rAt (z :: l) (j + 1) = rAt l j := rfl
      have hp := ih (j := j) (by simpa using hj) h0
      have e2 : tickAt (z :: l) (j + 1) ticks = z :: tickAt l j ticks := rfl
      rw [e2, e3]
      by_cases hz : z.tick = 0
      · have e1 : ∀ l, waitT (z :: l) = z.t :: waitT l := fun l => by unfold waitT; rw [List.filter_cons]; simp [hz]
        rw [e1, e1]
        exact (List.Perm.cons _ hp).trans (List.Perm.swap _ _ _)
      · have e1 : ∀ l, waitT (z :: l) = waitT l := fun l => by unfold waitT; rw [List.filter_cons]; simp [hz]
        rw [e1, e1]
        exact hp
theorem relTimesR_spec (mark ticks : Int) (ht : ticks ≠ 0) (f : Nat) : ∀ y : RSer, (waitT y.items).length < f →
    (waitT y.items).Perm (relTimesR f y mark ticks ++ waitT (releaseR f y mark ticks).items) ∧ (∀ t, t ∈ relTimesR f y mark ticks → t ≤ mark) ∧ (∀ t, t ∈ waitT (releaseR f y mark ticks).items → mark < t) ∧ (relTimesR f y mark ticks).Pairwise (· ≤ ·) ∧
      (releaseR f y mark ticks).events = y.events ++ (relTimesR f y mark ticks).map (fun t => ⟨t, mark, false, 0⟩) := by
  induction f with
  | zero => intro y h; omega
  | succ f ih =>
    intro y hf
    unfold releaseR relTimesR
    rcases nextR_spec y.items mark with ⟨h, hb⟩ | ⟨h1, h2, h3, h4⟩
    · rw [if_pos (by omega), if_pos (by omega)]
      refine ⟨List.Perm.refl _, by simp, ?_, List.Pairwise.nil, by simp⟩
      intro t htm
      obtain ⟨j, hj, hj0, rfl⟩ := waitT_mem htm
      exact hb _ (by rw [rAt_get _ _ hj]; exact List.getElem_mem _) hj0
    · rw [if_neg (by omega), if_neg (by omega)]
      have hw := wait_one ticks ht y.items _ h2 h3
      have hmin := nextR_min y.items mark
      have hset := waitT_set ht h2 h3
      generalize (nextR y.items mark).toNat = k at *
      obtain ⟨i1, i2, i3, i4, i5⟩ := ih { y with items := tickAt y.items k ticks, events := y.events ++ [⟨(rAt y.items k).t, mark, false, 0⟩] } (by show (waitT (tickAt _ _ _)).length < f; omega)
      refine ⟨?_, ?_, i3, ?_, ?_⟩
      · refine hset.trans ?_
        rw [List.cons_append]
        exact List.Perm.cons _ i1
      · intro t htm
        rcases List.mem_cons.1 htm with e | e
        · rw [e]; exact h4
        · exact i2 t e
      · refine List.pairwise_cons.2 ⟨fun t htm => ?_, i4⟩
        have h6 : t ∈ waitT (tickAt y.items k ticks) := i1.mem_iff.2 (List.mem_append.2 (.inl htm))
        have h7 : t ∈ waitT y.items := hset.mem_iff.2 (List.mem_cons.2 (.inr h6))
        obtain ⟨j, hj, hj0, rfl⟩ := waitT_mem h7
        exact hmin j hj hj0 (i2 _ htm)
      · rw [i5]
        simp

/-- Both release the same times in the same order. -/
theorem times_same (m ticks : Int) (ht : ticks ≠ 0) (x : Ser) (y : RSer) (hh : HeapL x.l) (hw : (x.l.map (·.t)).Perm (waitT y.items)) :
    relTimes (x.l.length + 1) x m = relTimesR (y.items.length + 1) y m ticks := by
  obtain ⟨a1, a2, a3, a4, _⟩ := relTimes_spec m (x.l.length + 1) x (by omega) hh
  obtain ⟨b1, b2, b3, b4, _⟩ := relTimesR_spec m ticks ht (y.items.length + 1) y (by have := wait_rel y.items; omega)
  refine sorted_eq ?_ a4 b4
  have hp := a1.symm.trans (hw.trans b1)
  have h := hp.filter (fun t => decide (t ≤ m))
  rw [List.filter_append, List.filter_append] at h
  have c1 : (relTimes (x.l.length + 1) x m).filter (fun t => decide (t ≤ m)) = relTimes (x.l.length + 1) x m := List.filter_eq_self.2 (fun t ht => by simpa using a2 t ht)
  have c2 : ((relS (x.l.length + 1) x m).l.map (·.t)).filter (fun t => decide (t ≤ m)) = [] := List.filter_eq_nil_iff.2 (fun t ht => by have := a3 t ht; simp; omega)
  have c3 : (relTimesR (y.items.length + 1) y m ticks).filter (fun t => decide (t ≤ m)) = relTimesR (y.items.length + 1) y m ticks := List.filter_eq_self.2 (fun t ht => by simpa using b2 t ht)
  have c4 : (waitT (releaseR (y.items.length + 1) y m ticks).items).filter (fun t => decide (t ≤ m)) = [] := List.filter_eq_nil_iff.2 (fun t ht => by have := b3 t ht; simp; omega)
  rw [c1, c2, c3, c4, List.append_nil, List.append_nil] at h
  exact h

/-- So the buckets stay the same. -/
theorem buckets_same (clock ticks : Int) (ht : ticks ≠ 0) (x : Ser) (y : RSer) (hk : x.k = 1) (hc : x.c = y.c) (hh : HeapL x.l) (hw : (x.l.map (·.t)).Perm (waitT y.items)) (hb : x.nt.bs = bucketsE y.c y.events) :
    (tickOne clock x).nt.bs = bucketsE (tickOneR clock ticks y).c (tickOneR clock ticks y).events := by
  unfold tickOne tickOneR
  rw [← hc]
  obtain ⟨_, _, _, _, a5⟩ := relTimes_spec (clock - x.c.lag) (x.l.length + 1) x (by omega) hh
  obtain ⟨_, _, _, _, b5⟩ := relTimesR_spec (clock - x.c.lag) ticks ht (y.items.length + 1) y (by have := wait_rel y.items; omega)
  obtain ⟨_, _, i3, _⟩ := releaseR_spec (clock - x.c.lag) ticks ht (y.items.length + 1) y (by have := wait_rel y.items; omega)
  rw [a5 hk, b5, i3, times_same (clock - x.c.lag) ticks ht x y hh hw, hb, ← hc]
  unfold bucketsE
  rw [List.foldl_append, List.foldl_map]
  rfl

end Go.Proofs.YtjhaihbjhikhlaaGreat
