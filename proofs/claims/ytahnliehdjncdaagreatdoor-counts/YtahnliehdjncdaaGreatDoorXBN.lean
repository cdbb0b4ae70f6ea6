import Derived.Test.YtahnliehdjncdaaGreatDoorXBK
import Derived.Test.YtahnliehdjncdaaGreatDoorXBD
import Derived.Test.YtahnliehdjncdaaGreatDoorXBF
set_option maxRecDepth 100000
set_option maxHeartbeats 16000000
namespace Go.Proofs.YtahnliehdjncdaaGreatDoor
theorem sorted_eq {a b : List Int} (h : a.Perm b) (ha : a.Pairwise (· ≤ ·)) (hb : b.Pairwise (· ≤ ·)) : a = b := by
 induction a generalizing b with
 | nil => exact (List.nil_perm.1 h).symm
 | cons x a ih =>
  cases b with
  | nil => exact absurd h.length_eq (by simp)
  | cons y b =>
   have hx := List.pairwise_cons.1 ha
   have hy := List.pairwise_cons.1 hb
   have h1 : x ≤ y := by
    have : y ∈ x :: a := h.mem_iff.2 (by simp)
    rcases List.mem_cons.1 this with e | e
    ·omega
    ·exact hx.1 y e
   have h2 : y ≤ x := by
    have : x ∈ y :: b := h.mem_iff.1 (by simp)
    rcases List.mem_cons.1 this with e | e
    ·omega
    ·exact hy.1 x e
   obtain rfl : x = y := by omega
   rw [ih ((List.perm_cons x).1 h) hx.2 hy.2]
def relTimes : Nat → Ser → Int → List Int
 | 0, _, _ => []
 | f + 1, x, m => if x.l.isEmpty then [] else if m < (itAt x.l 0).t then [] else (itAt x.l 0).t :: relTimes f (relOne x m) m
theorem relTimes_spec (m : Int) (f : Nat) : ∀ x : Ser, x.l.length < f → HeapL x.l →
  (x.l.map (·.t)).Perm (relTimes f x m ++ (relS f x m).l.map (·.t)) ∧ (∀ t, t ∈ relTimes f x m → t ≤ m) ∧ (∀ t, t ∈ (relS f x m).l.map (·.t) → m < t) ∧ (relTimes f x m).Pairwise (· ≤ ·) ∧
   (x.k = 1 → (relS f x m).nt.bs = (relTimes f x m).foldl (fun l t => relB x.c l t m) x.nt.bs) := by
 induction f with
 | zero => intro x h; omega
 | succ f ih =>
  intro x hf hh
  unfold relS relTimes
  split
  ·rename_i he
   have hnil : x.l = [] := List.isEmpty_iff.1 he
   exact ⟨List.Perm.refl _, by simp, by simp [hnil], List.Pairwise.nil, fun _ => rfl⟩
  ·rename_i he
   have hne : x.l ≠ [] := fun h => he (by rw [h]; rfl)
   split
   ·rename_i hm
    refine ⟨List.Perm.refl _, by simp, ?_, List.Pairwise.nil, fun _ => rfl⟩
    intro t ht
    obtain ⟨y, hy, rfl⟩ := List.mem_map.1 ht
    have := hh.first_mem hy
    omega
   ·rename_i hm
    obtain ⟨th, tp⟩ := take_heap x.l hh hne
    have hlen : (relOne x m).l.length = x.l.length - 1 := takeL_length _
    have hpos : 0 < x.l.length := List.length_pos_iff.2 hne
    obtain ⟨h1, h2, h3, h4, h5⟩ := ih (relOne x m) (by omega) th
    have hperm : (x.l.map (·.t)).Perm ((itAt x.l 0).t :: (relOne x m).l.map (·.t)) := by
     have := (tp.map (·.t)).symm
     rw [List.map_cons] at this
     exact this
    refine ⟨?_, ?_, h3, ?_, ?_⟩
    ·refine hperm.trans ?_
     rw [List.cons_append]
     exact List.Perm.cons _ h1
    ·intro t ht
     rcases List.mem_cons.1 ht with ht | ht
     ·omega
     ·exact h2 t ht
    ·refine List.pairwise_cons.2 ⟨fun t ht => ?_, h4⟩
     have h6 : t ∈ (relOne x m).l.map (·.t) := h1.mem_iff.2 (List.mem_append.2 (.inl ht))
     have h7 : t ∈ x.l.map (·.t) := hperm.mem_iff.2 (List.mem_cons.2 (.inr h6))
     obtain ⟨y, hy, rfl⟩ := List.mem_map.1 h7
     exact hh.first_mem hy
    ·intro hk
     rw [h5 hk, List.foldl_cons]
     congr 1
     show (relN x.k x.c x.nt (itAt x.l 0) m).bs = _
     unfold relN
     rw [if_neg (by omega), if_pos hk]
theorem nextL_min (all : List RIt) (mark : Int) (l : List RIt) : ∀ (i : Nat) (k : Int), l = all.drop i → (k = -1 ∨ Due all mark k) →
  (∀ j, j < i → j < all.length → (rAt all j).tick = 0 → (rAt all j).t ≤ mark → 0 ≤ k ∧ (rAt all k.toNat).t ≤ (rAt all j).t) →
  ∀ j, j < all.length → (rAt all j).tick = 0 → (rAt all j).t ≤ mark → 0 ≤ nextL all mark l i k ∧ (rAt all (nextL all mark l i k).toNat).t ≤ (rAt all j).t := by
 induction l with
 | nil =>
  intro i k hd _ hb j hj
  have hlen : all.length ≤ i := by
   have := congrArg List.length hd
   simp at this; omega
  unfold nextL
  exact hb j (by omega) hj
 | cons x r ih =>
  intro i k hd hk hb
  have hi : i < all.length := by
   have := congrArg List.length hd
   simp at this; omega
  rw [List.drop_eq_getElem_cons hi] at hd
  injection hd with hx hr
  have hxa : rAt all i = x := by rw [rAt_get _ _ hi, hx]
  unfold nextL
  by_cases hc : x.tick = 0 ∧ x.t ≤ mark ∧ (k < 0 ∨ x.t < (rAt all k.toNat).t)
  ·rw [if_pos hc]
   refine ih (i + 1) i hr (.inr ⟨by omega, by simpa using hi, by rw [Int.toNat_natCast, hxa]; exact hc.1, by rw [Int.toNat_natCast, hxa]; exact hc.2.1⟩) ?_
   intro j hj hjl ht hm
   rw [Int.toNat_natCast, hxa]
   refine ⟨by omega, ?_⟩
   by_cases hji : j = i
   ·rw [hji, hxa]; exact Int.le_refl _
   ·have := hb j (by omega) hjl ht hm
    rcases hc.2.2 with h1 | h1
    ·omega
    ·omega
  ·rw [if_neg hc]
   refine ih (i + 1) k hr hk ?_
   intro j hj hjl ht hm
   by_cases hji : j = i
   ·rw [hji, hxa] at ht hm ⊢
    have h1 : ¬ (k < 0 ∨ x.t < (rAt all k.toNat).t) := fun h => hc ⟨ht, hm, h⟩
    omega
   ·exact hb j (by omega) hjl ht hm
theorem nextR_min (all : List RIt) (mark : Int) (j : Nat) (hj : j < all.length) (ht : (rAt all j).tick = 0) (hm : (rAt all j).t ≤ mark) : (rAt all (nextR all mark).toNat).t ≤ (rAt all j).t :=
 (nextL_min all mark all 0 (-1) rfl (.inl rfl) (fun _ h => by omega) j hj ht hm).2
def relTimesR : Nat → RSer → Int → Int → List Int
 | 0, _, _, _ => []
 | f + 1, y, mark, ticks => if nextR y.items mark < 0 then []
  else (rAt y.items (nextR y.items mark).toNat).t :: relTimesR f { y with items := tickAt y.items (nextR y.items mark).toNat ticks, events := y.events ++ [⟨(rAt y.items (nextR y.items mark).toNat).t, mark, false, 0⟩] } mark ticks
theorem waitT_mem {l : List RIt} {t : Int} (h : t ∈ waitT l) : ∃ j, j < l.length ∧ (rAt l j).tick = 0 ∧ (rAt l j).t = t := by
 unfold waitT at h
 obtain ⟨z, hz, rfl⟩ := List.mem_map.1 h
 obtain ⟨hz1, hz2⟩ := List.mem_filter.1 hz
 obtain ⟨j, hj, rfl⟩ := List.mem_iff_getElem.1 hz1
 exact ⟨j, hj, by rw [rAt_get _ _ hj]; simpa using hz2, by rw [rAt_get _ _ hj]⟩
theorem waitT_set {l : List RIt} {j : Nat} {ticks : Int} (ht : ticks ≠ 0) (hj : j < l.length) (h0 : (rAt l j).tick = 0) : (waitT l).Perm ((rAt l j).t :: waitT (tickAt l j ticks)) := by
 induction l generalizing j with
 | nil => simp at hj
 | cons z l ih =>
  cases j with
  | zero =>
   have hz : z.tick = 0 := h0
   have e1 : waitT (z :: l) = z.t :: waitT l := by unfold waitT; rw [List.filter_cons]; simp [hz]
   have e2 : waitT (tickAt (z :: l) 0 ticks) = waitT l := by
    show waitT ({ z with tick := ticks } :: l) = _
    unfold waitT; rw [List.filter_cons]; simp [ht]
   rw [e1, e2]
   exact List.Perm.refl _
  | succ j =>
   have e3 : rAt (z :: l) (j + 1) = rAt l j := rfl
   have hp := ih (j := j) (by simpa using hj) h0
   have e2 : tickAt (z :: l) (j + 1) ticks = z :: tickAt l j ticks := rfl
   rw [e2, e3]
   by_cases hz : z.tick = 0
   ·have e1 : ∀ l, waitT (z :: l) = z.t :: waitT l := fun l => by unfold waitT; rw [List.filter_cons]; simp [hz]
    rw [e1, e1]
    exact (List.Perm.cons _ hp).trans (List.Perm.swap _ _ _)
   ·have e1 : ∀ l, waitT (z :: l) = waitT l := fun l => by unfold waitT; rw [List.filter_cons]; simp [hz]
    rw [e1, e1]
    exact hp
theorem relTimesR_spec (mark ticks : Int) (ht : ticks ≠ 0) (f : Nat) : ∀ y : RSer, (waitT y.items).length < f →
  (waitT y.items).Perm (relTimesR f y mark ticks ++ waitT (releaseR f y mark ticks).items) ∧ (∀ t, t ∈ relTimesR f y mark ticks → t ≤ mark) ∧ (∀ t, t ∈ waitT (releaseR f y mark ticks).items → mark < t) ∧ (relTimesR f y mark ticks).Pairwise (· ≤ ·) ∧
   (releaseR f y mark ticks).events = y.events ++ (relTimesR f y mark ticks).map (fun t => ⟨t, mark, false, 0⟩) := by
 induction f with
 | zero => intro y h; omega
 | succ f ih =>
  intro y hf
  unfold releaseR relTimesR
  rcases nextR_spec y.items mark with ⟨h, hb⟩ | ⟨h1, h2, h3, h4⟩
  ·rw [if_pos (by omega), if_pos (by omega)]
   refine ⟨List.Perm.refl _, by simp, ?_, List.Pairwise.nil, by simp⟩
   intro t htm
   obtain ⟨j, hj, hj0, rfl⟩ := waitT_mem htm
   exact hb _ (by rw [rAt_get _ _ hj]; exact List.getElem_mem _) hj0
  ·rw [if_neg (by omega), if_neg (by omega)]
   have hw := wait_one ticks ht y.items _ h2 h3
   have hmin := nextR_min y.items mark
   have hset := waitT_set ht h2 h3
   generalize (nextR y.items mark).toNat = k at *
   obtain ⟨i1, i2, i3, i4, i5⟩ := ih { y with items := tickAt y.items k ticks, events := y.events ++ [⟨(rAt y.items k).t, mark, false, 0⟩] } (by show (waitT (tickAt _ _ _)).length < f; omega)
   refine ⟨?_, ?_, i3, ?_, ?_⟩
   ·refine hset.trans ?_
    rw [List.cons_append]
    exact List.Perm.cons _ i1
   ·intro t htm
    rcases List.mem_cons.1 htm with e | e
    ·rw [e]; exact h4
    ·exact i2 t e
   ·refine List.pairwise_cons.2 ⟨fun t htm => ?_, i4⟩
    have h6 : t ∈ waitT (tickAt y.items k ticks) := i1.mem_iff.2 (List.mem_append.2 (.inl htm))
    have h7 : t ∈ waitT y.items := hset.mem_iff.2 (List.mem_cons.2 (.inr h6))
    obtain ⟨j, hj, hj0, rfl⟩ := waitT_mem h7
    exact hmin j hj hj0 (i2 _ htm)
   ·rw [i5]
    simp
theorem times_same (m ticks : Int) (ht : ticks ≠ 0) (x : Ser) (y : RSer) (hh : HeapL x.l) (hw : (x.l.map (·.t)).Perm (waitT y.items)) :
  relTimes (x.l.length + 1) x m = relTimesR (y.items.length + 1) y m ticks := by
 obtain ⟨a1, a2, a3, a4, _⟩ := relTimes_spec m (x.l.length + 1) x (by omega) hh
 obtain ⟨b1, b2, b3, b4, _⟩ := relTimesR_spec m ticks ht (y.items.length + 1) y (by have := wait_rel y.items; omega)
 refine sorted_eq ?_ a4 b4
 have hp := a1.symm.trans (hw.trans b1)
 have h := hp.filter (fun t => decide (t ≤ m))
 rw [List.filter_append, List.filter_append] at h
 have c1 : (relTimes (x.l.length + 1) x m).filter (fun t => decide (t ≤ m)) = relTimes (x.l.length + 1) x m := List.filter_eq_self.2 (fun t ht => by simpa using a2 t ht)
 have c2 : ((relS (x.l.length + 1) x m).l.map (·.t)).filter (fun t => decide (t ≤ m)) = [] := List.filter_eq_nil_iff.2 (fun t ht => by have := a3 t ht; simp; omega)
 have c3 : (relTimesR (y.items.length + 1) y m ticks).filter (fun t => decide (t ≤ m)) = relTimesR (y.items.length + 1) y m ticks := List.filter_eq_self.2 (fun t ht => by simpa using b2 t ht)
 have c4 : (waitT (releaseR (y.items.length + 1) y m ticks).items).filter (fun t => decide (t ≤ m)) = [] := List.filter_eq_nil_iff.2 (fun t ht => by have := b3 t ht; simp; omega)
 rw [c1, c2, c3, c4, List.append_nil, List.append_nil] at h
 exact h
theorem buckets_same (clock ticks : Int) (ht : ticks ≠ 0) (x : Ser) (y : RSer) (hk : x.k = 1) (hc : x.c = y.c) (hh : HeapL x.l) (hw : (x.l.map (·.t)).Perm (waitT y.items)) (hb : x.nt.bs = bucketsE y.c y.events) :
  (tickOne clock x).nt.bs = bucketsE (tickOneR clock ticks y).c (tickOneR clock ticks y).events := by
 unfold tickOne tickOneR
 rw [← hc]
 obtain ⟨_, _, _, _, a5⟩ := relTimes_spec (clock - x.c.lag) (x.l.length + 1) x (by omega) hh
 obtain ⟨_, _, _, _, b5⟩ := relTimesR_spec (clock - x.c.lag) ticks ht (y.items.length + 1) y (by have := wait_rel y.items; omega)
 obtain ⟨_, _, i3, _⟩ := releaseR_spec (clock - x.c.lag) ticks ht (y.items.length + 1) y (by have := wait_rel y.items; omega)
 rw [a5 hk, b5, i3, times_same (clock - x.c.lag) ticks ht x y hh hw, hb, ← hc]
 unfold bucketsE
 rw [List.foldl_append, List.foldl_map]
 rfl
end Go.Proofs.YtahnliehdjncdaaGreatDoor
namespace Go.Proofs.YtahnliehdjncdaaGreatDoor
theorem TS.drop {q : List Bk} (h : TS q) (n : Nat) : TS (q.drop n) := by
 intro i j hij hj
 rw [bkAt_dropN, bkAt_dropN]
 exact h _ _ (by omega) (by rw [List.length_drop] at hj; omega)
theorem TS.snoc {q : List Bk} (h : TS q) (x : Bk) (hx : ∀ b, b ∈ q → b.t ≤ x.t) : TS (q ++ [x]) := by
 intro i j hij hj
 by_cases h1 : j < q.length
 ·rw [bkAt_append_left _ _ _ h1, bkAt_append_left _ _ _ (by omega)]; exact h i j hij h1
 ·have hj0 : j - q.length = 0 := by simp at hj; omega
  rw [bkAt_append_right _ _ j (by omega), hj0]
  show _ ≤ x.t
  by_cases h2 : i < q.length
  ·rw [bkAt_append_left _ _ _ h2]; exact hx _ (bkAt_mem h2)
  ·have hi0 : i - q.length = 0 := by simp at hj; omega
   rw [bkAt_append_right _ _ i (by omega), hi0]; exact Int.le_refl _
theorem TS.join {q : List Bk} (h : TS q) (s : Nat) (hs : s + 2 ≤ q.length) (z : Int) : TS (joinAt q s ⟨z, (bkAt q (s + 1)).t⟩) := by
 have hat := bkAt_join q s ⟨z, (bkAt q (s + 1)).t⟩ hs
 have hlen := joinAt_length (⟨z, (bkAt q (s + 1)).t⟩ : Bk) (l := q) (i := s) hs
 intro i j hij hj
 rw [hat, hat]
 by_cases j1 : j < s
 ·rw [if_pos j1, if_pos (by omega)]; exact h i j hij (by omega)
 ·rw [if_neg j1]
  by_cases j2 : j = s
  ·rw [if_pos j2]
   by_cases i1 : i < s
   ·rw [if_pos i1]; exact h i (s + 1) (by omega) (by omega)
   ·rw [if_neg i1, if_pos (by omega)]; exact Int.le_refl _
  ·rw [if_neg j2]
   by_cases i1 : i < s
   ·rw [if_pos i1]; exact h i (j + 1) (by omega) (by omega)
   ·rw [if_neg i1]
    by_cases i2 : i = s
    ·rw [if_pos i2]; exact h (s + 1) (j + 1) (by omega) (by omega)
    ·rw [if_neg i2]; exact h (i + 1) (j + 1) (by omega) (by omega)
theorem joinL_TS {K : Int} (hK : 0 ≤ K) (T : Int) (f : Nat) (q : List Bk) (sz : Int) (e : Nat) (he : e ≤ q.length) (h : TS q) (hT : ∀ b, b ∈ q → b.t ≤ T) : TS (joinL K f q sz e) ∧ ∀ b, b ∈ joinL K f q sz e → b.t ≤ T := by
 induction f generalizing q sz e with
 | zero => exact ⟨h, hT⟩
 | succ f ih =>
  unfold joinL
  split
  ·exact ⟨h, hT⟩
  ·rename_i hn
   have hs := startN_le q sz e
   have h2 : startN q sz e + 2 ≤ q.length := by omega
   have hlen := joinAt_length (⟨2 * sz, (bkAt q (startN q sz e + 1)).t⟩ : Bk) (l := q) (i := startN q sz e) h2
   refine ih _ _ _ (by omega) (h.join _ h2 _) ?_
   exact joinAt_all (P := fun b => b.t ≤ T) q _ _ hT (by show (bkAt q (startN q sz e + 1)).t ≤ T; exact hT _ (bkAt_mem (l := q) (i := startN q sz e + 1) (by omega)))
theorem relB_TS {c : Cfg} (hK : 0 ≤ c.k) {q : List Bk} (h : TS q) (t m : Int) (ht : ∀ b, b ∈ q → b.t ≤ t) : TS (relB c q t m) ∧ ∀ b, b ∈ relB c q t m → b.t ≤ t := by
 unfold relB putB liveB
 refine joinL_TS hK t _ _ _ _ (Nat.le_refl _) ((h.drop _).snoc _ (fun b hb => ht b (List.mem_of_mem_drop hb))) ?_
 intro b hb
 rcases List.mem_append.1 hb with hb | hb
 ·exact ht b (List.mem_of_mem_drop hb)
 ·rw [List.mem_singleton] at hb; rw [hb]; exact Int.le_refl _
theorem fold_TS {c : Cfg} (hK : 0 ≤ c.k) (m : Int) : ∀ (R : List Int) (q : List Bk), TS q → (∀ b, b ∈ q → ∀ t, t ∈ R → b.t ≤ t) → (∀ b, b ∈ q → b.t ≤ m) → R.Pairwise (· ≤ ·) → (∀ t, t ∈ R → t ≤ m) →
  TS (R.foldl (fun l t => relB c l t m) q) ∧ ∀ b, b ∈ R.foldl (fun l t => relB c l t m) q → b.t ≤ m := by
 intro R
 induction R with
 | nil => intro q h _ hm _ _; exact ⟨h, hm⟩
 | cons r R ih =>
  intro q h hq hm hR hRm
  obtain ⟨p1, p2⟩ := List.pairwise_cons.1 hR
  obtain ⟨t1, t2⟩ := relB_TS hK h r m (fun b hb => hq b hb r (by simp))
  rw [List.foldl_cons]
  refine ih _ t1 (fun b hb t ht => ?_) (fun b hb => ?_) p2 (fun t ht => hRm t (by simp [ht]))
  ·have h1 := t2 b hb
   have h2 := p1 t ht
   omega
  ·have h1 := t2 b hb
   have h2 := hRm r (by simp)
   omega
theorem bucketsE_evs (c : Cfg) (evs : List REv) (R : List Int) (m : Int) : bucketsE c (evs ++ R.map (fun t => ⟨t, m, false, 0⟩)) = R.foldl (fun l t => relB c l t m) (bucketsE c evs) := by
 unfold bucketsE
 rw [List.foldl_append, List.foldl_map]
 rfl
theorem OkE.append {c : Cfg} {evs : List REv} (h : OkE c evs) {e : REv} (he : e.away = true → 0 ≤ e.throw ∧ e.throw ≤ (bucketsE c evs).length) (hm : -100 ≤ e.m ∧ e.m ≤ 4611686018427387904) : OkE c (evs ++ [e]) := by
 refine ⟨fun i x hx ha => ?_, fun x hx => ?_⟩
 ·by_cases hi : i < evs.length
  ·rw [List.getElem?_append_left hi] at hx
   rw [List.take_append_of_le_length (by omega)]
   exact h.thr i x hx ha
  ·rw [List.getElem?_append_right (by omega)] at hx
   have hi0 : i = evs.length := by
    have := (List.getElem?_eq_some_iff.1 hx).1
    simp at this; omega
   subst hi0
   rw [Nat.sub_self] at hx
   injection hx with hx
   subst hx
   rw [List.take_append_of_le_length (by omega), List.take_of_length_le (by omega)]
   exact he ha
 ·rcases List.mem_append.1 hx with hx | hx
  ·exact h.mark x hx
  ·rw [List.mem_singleton] at hx; rw [hx]; exact hm
theorem OkE.many {c : Cfg} (m : Int) (hm : -100 ≤ m ∧ m ≤ 4611686018427387904) : ∀ (R : List Int) (evs : List REv), OkE c evs → OkE c (evs ++ R.map (fun t => ⟨t, m, false, 0⟩)) := by
 intro R
 induction R with
 | nil => intro evs h; simpa using h
 | cons r R ih =>
  intro evs h
  have := ih (evs ++ [⟨r, m, false, 0⟩]) (h.append (fun h => by cases h) hm)
  simpa using this
theorem tickOneR_c (clock ticks : Int) (y : RSer) (ht : ticks ≠ 0) : (tickOneR clock ticks y).c = y.c := by
 unfold tickOneR
 exact (releaseR_spec _ ticks ht (y.items.length + 1) y (by have := wait_rel y.items; omega)).2.2.1
theorem tick_CInv {clock nc ticks : Int} (ht : ticks ≠ 0) {y : RSer} (hc : CInv clock y) (hcn : clock ≤ nc) (hK : 0 ≤ y.c.k) (hm : -100 ≤ nc - y.c.lag ∧ nc - y.c.lag ≤ 4611686018427387904) : CInv nc (tickOneR nc ticks y) := by
 have hcc := tickOneR_c nc ticks y ht
 have hsp := relTimesR_spec (nc - y.c.lag) ticks ht (y.items.length + 1) y (by have := wait_rel y.items; omega)
 obtain ⟨b1, b2, b3, b4, b5⟩ := hsp
 have hev : (tickOneR nc ticks y).events = y.events ++ (relTimesR (y.items.length + 1) y (nc - y.c.lag) ticks).map (fun t => ⟨t, nc - y.c.lag, false, 0⟩) := b5
 have hR : ∀ t, t ∈ relTimesR (y.items.length + 1) y (nc - y.c.lag) ticks → clock - y.c.lag < t := fun t htm => hc.wt t (b1.mem_iff.2 (List.mem_append.2 (.inl htm)))
 have hf := fold_TS hK (nc - y.c.lag) (relTimesR (y.items.length + 1) y (nc - y.c.lag) ticks) (bucketsE y.c y.events) hc.ts (fun b hb t htm => by have h1 := hc.le b hb; have h2 := hR t htm; omega) (fun b hb => by have := hc.le b hb; omega) b4 b2
 rw [← bucketsE_evs] at hf
 refine ⟨?_, ?_, ?_, ?_⟩
 ·rw [hcc, hev]; exact OkE.many _ hm _ _ hc.ok
 ·rw [hcc, hev]; exact hf.1
 ·rw [hcc, hev]; exact hf.2
 ·rw [hcc]; exact b3
theorem away_CInv {clock b : Int} {y : RSer} (hc : CInv clock y) (hb : 0 ≤ b) : CInv clock (awayR clock b y) := by
 have hle := pastN_le (bucketsE y.c y.events) (clock - y.c.lag - y.c.window)
 have e : bucketsE y.c (y.events ++ [⟨0, 0, true, min (deadR clock y) b⟩]) = (bucketsE y.c y.events).drop (min (deadR clock y) b).toNat := by
  unfold bucketsE; rw [List.foldl_append]; rfl
 refine ⟨?_, ?_, ?_, hc.wt⟩
 ·exact hc.ok.append (fun _ => by show 0 ≤ min (deadR clock y) b ∧ min (deadR clock y) b ≤ _; unfold deadR; omega) (by show (-100 : Int) ≤ 0 ∧ (0 : Int) ≤ _; omega)
 ·show TS (bucketsE y.c (y.events ++ _)); rw [e]; exact hc.ts.drop _
 ·intro x hx
  have hx' : x ∈ bucketsE y.c (y.events ++ [⟨0, 0, true, min (deadR clock y) b⟩]) := hx
  rw [e] at hx'
  exact hc.le x (List.mem_of_mem_drop hx')
theorem later_CInv {clock : Int} {y : RSer} (hc : CInv clock y) (o : OpM) (h : clock - y.c.lag < o.a) : CInv clock (accR y o) := by
 refine ⟨hc.ok, hc.ts, hc.le, fun t htm => ?_⟩
 have : waitT (accR y o).items = waitT y.items ++ [o.a] := by
  show waitT (y.items ++ [_]) = _
  unfold waitT
  rw [List.filter_append, List.map_append]; rfl
 rw [this] at htm
 rcases List.mem_append.1 htm with htm | htm
 ·exact hc.wt t htm
 ·rw [List.mem_singleton] at htm; rw [htm]; exact h
theorem new_CInv (clock id : Int) (c : Cfg) : CInv clock (newR id c) :=
 ⟨⟨fun i e h => by simp [newR] at h, fun e h => by simp [newR] at h⟩, fun i j _ hj => by simp [newR, bucketsE] at hj, fun b hb => by simp [newR, bucketsE] at hb, fun t htm => by simp [newR, waitT] at htm⟩
end Go.Proofs.YtahnliehdjncdaaGreatDoor
