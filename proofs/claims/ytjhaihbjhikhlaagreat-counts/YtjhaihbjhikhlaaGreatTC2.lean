import Derived.Test.YtjhaihbjhikhlaaGreatTC
namespace Go.Proofs.YtjhaihbjhikhlaaGreat

theorem TS.drop {q : List Bk} (h : TS q) (n : Nat) : TS (q.drop n) := by
  intro i j hij hj
  rw [bkAt_dropN, bkAt_dropN]
  exact h _ _ (by omega) (by rw [List.length_drop] at hj; omega)
theorem TS.snoc {q : List Bk} (h : TS q) (x : Bk) (hx : ∀ b, b ∈ q → b.t ≤ x.t) : TS (q ++ [x]) := by
  intro i j hij hj
  by_cases h1 : j < q.length
  · rw [bkAt_append_left _ _ _ h1, bkAt_append_left _ _ _ (by omega)]; exact h i j hij h1
  · have hj0 : j - q.length = 0 := by simp at hj; omega
    rw [bkAt_append_right _ _ j (by omega), hj0]
    show _ ≤ x.t
    by_cases h2 : i < q.length
    · rw [bkAt_append_left _ _ _ h2]; exact hx _ (bkAt_mem h2)
    · have hi0 : i - q.length = 0 := by simp at hj; omega
      rw [bkAt_append_right _ _ i (by omega), hi0]; exact Int.le_refl _
theorem TS.join {q : List Bk} (h : TS q) (s : Nat) (hs : s + 2 ≤ q.length) (z : Int) : TS (joinAt q s ⟨z, (bkAt q (s + 1)).t⟩) := by
  have hat := bkAt_join q s ⟨z, (bkAt q (s + 1)).t⟩ hs
  have hlen := joinAt_length (⟨z, (bkAt q (s + 1)).t⟩ : Bk) (l := q) (i := s) hs
  intro i j hij hj
  rw [hat, hat]
  by_cases j1 : j < s
  · rw [if_pos j1, if_pos (by omega)]; exact h i j hij (by omega)
  · rw [if_neg j1]
    by_cases j2 : j = s
    · rw [if_pos j2]
      by_cases i1 : i < s
      · rw [if_pos i1]; exact h i (s + 1) (by omega) (by omega)
      · rw [if_neg i1, if_pos (by omega)]; exact Int.le_refl _
    · rw [if_neg j2]
      by_cases i1 : i < s
      · rw [if_pos i1]; exact h i (j + 1) (by omega) (by omega)
      · rw [if_neg i1]
        by_cases i2 : i = s
        · rw [if_pos i2]; exact h (s + 1) (j + 1) (by omega) (by omega)
        · rw [if_neg i2]; exact h (i + 1) (j + 1) (by omega) (by omega)
theorem joinL_TS {K : Int} (hK : 0 ≤ K) (T : Int) (f : Nat) (q : List Bk) (sz : Int) (e : Nat) (he : e ≤ q.length) (h : TS q) (hT : ∀ b, b ∈ q → b.t ≤ T) : TS (joinL K f q sz e) ∧ ∀ b, b ∈ joinL K f q sz e → b.t ≤ T := by
  induction f generalizing q sz e with
  | zero => exact ⟨h, hT⟩
  | succ f ih =>
    unfold joinL
    split
    · exact ⟨h, hT⟩
    · rename_i hn
      have hs := startN_le q sz e
      have h2 : startN q sz e + 2 ≤ q.length := by omega
      have hlen := joinAt_length (⟨2 * sz, (bkAt q (startN q sz e + 1)).t⟩ : Bk) (l := q) (i := startN q sz e) h2
      refine ih _ _ _ (by omega) (h.join _ h2 _) ?_
      exact joinAt_all (P := fun b => b.t ≤ T) q _ _ hT (by show (bkAt q (startN q sz e + 1)).t ≤ T; exact hT _ (bkAt_mem (l := q) (i := startN q sz e + 1) (by omega)))
theorem relB_TS {c : Cfg} (hK : 0 ≤ c.k) {q : List Bk} (h : TS q) (t m : Int) (ht : ∀ b, b ∈ q → b.t ≤ t) : TS (relB c q t m) ∧ ∀ b, b ∈ relB c q t m → b.t ≤ t := by
  unfold relB putB liveB
  refine joinL_TS hK t _ _ _ _ (Nat.le_refl _) ((h.drop _).snoc _ (fun b hb => ht b (List.mem_of_mem_drop hb))) ?_
  intro b hb
  rcases List.mem_append.1 hb with hb | hb
  · exact ht b (List.mem_of_mem_drop hb)
  · rw [List.mem_singleton] at hb; rw [hb]; exact Int.le_refl _
theorem fold_TS {c : Cfg} (hK : 0 ≤ c.k) (m : Int) : ∀ (R : List Int) (q : List Bk), TS q → (∀ b, b ∈ q → ∀ t, t ∈ R → b.t ≤ t) → (∀ b, b ∈ q → b.t ≤ m) → R.Pairwise (· ≤ ·) → (∀ t, t ∈ R → t ≤ m) →
    TS (R.foldl (fun l t => relB c l t m) q) ∧ ∀ b, b ∈ R.foldl (fun l t => relB c l t m) q → b.t ≤ m := by
  intro R
  induction R with
  | nil => intro q h _ hm _ _; exact ⟨h, hm⟩
  | cons r R ih =>
    intro q h hq hm hR hRm
    obtain ⟨p1, p2⟩ := List.pairwise_cons.1 hR
    obtain ⟨t1, t2⟩ := relB_TS hK h r m (fun b hb => hq b hb r (by simp))
    rw [List.foldl_cons]
    refine ih _ t1 (fun b hb t ht => ?_) (fun b hb => ?_) p2 (fun t ht => hRm t (by simp [ht]))
    · have h1 := t2 b hb
      have h2 := p1 t ht
      omega
    · have h1 := t2 b hb
      have h2 := hRm r (by simp)
      omega

theorem bucketsE_evs (c : Cfg) (evs : List REv) (R : List Int) (m : Int) : bucketsE c (evs ++ R.map (fun t => ⟨t, m, false, 0⟩)) = R.foldl (fun l t => relB c l t m) (bucketsE c evs) := by
  unfold bucketsE
  rw [List.foldl_append, List.foldl_map]
  rfl
theorem OkE.append {c : Cfg} {evs : List REv} (h : OkE c evs) {e : REv} (he : e.away = true → 0 ≤ e.throw ∧ e.throw ≤ (bucketsE c evs).length) (hm : -100 ≤ e.m ∧ e.m ≤ 4611686018427387904) : OkE c (evs ++ [e]) := by
  refine ⟨fun i x hx ha => ?_, fun x hx => ?_⟩
  · by_cases hi : i < evs.length
    · rw [List.getElem?_append_left hi] at hx
      rw [List.take_append_of_le_length (by omega)]
      exact h.thr i x hx ha
    · rw [List.getElem?_append_right (by omega)] at hx
      have hi0 : i = evs.length := by
        have := (List.getElem?_eq_some_iff.1 hx).1
        simp at this; omega
      subst hi0
      rw [Nat.sub_self] at hx
      injection hx with hx
      subst hx
      rw [List.take_append_of_le_length (by omega), List.take_of_length_le (by omega)]
      exact he ha
  · rcases List.mem_append.1 hx with hx | hx
    · exact h.mark x hx
    · rw [List.mem_singleton] at hx; rw [hx]; exact hm
theorem OkE.many {c : Cfg} (m : Int) (hm : -100 ≤ m ∧ m ≤ 4611686018427387904) : ∀ (R : List Int) (evs : List REv), OkE c evs → OkE c (evs ++ R.map (fun t => ⟨t, m, false, 0⟩)) := by
  intro R
  induction R with
  | nil => intro evs h; simpa using h
  | cons r R ih =>
    intro evs h
    have := ih (evs ++ [⟨r, m, false, 0⟩]) (h.append (fun h => by cases h) hm)
    simpa using this

theorem tickOneR_c (clock ticks : Int) (y : RSer) (ht : ticks ≠ 0) : (tickOneR clock ticks y).c = y.c := by
  unfold tickOneR
  exact (releaseR_spec _ ticks ht (y.items.length + 1) y (by have := wait_rel y.items; omega)).2.2.1
theorem tick_CInv {clock nc ticks : Int} (ht : ticks ≠ 0) {y : RSer} (hc : CInv clock y) (hcn : clock ≤ nc) (hK : 0 ≤ y.c.k) (hm : -100 ≤ nc - y.c.lag ∧ nc - y.c.lag ≤ 4611686018427387904) : CInv nc (tickOneR nc ticks y) := by
  have hcc := tickOneR_c nc ticks y ht
  have hsp := relTimesR_spec (nc - y.c.lag) ticks ht (y.items.length + 1) y (by have := wait_rel y.items; omega)
  obtain ⟨b1, b2, b3, b4, b5⟩ := hsp
  have hev : (tickOneR nc ticks y).events = y.events ++ (relTimesR (y.items.length + 1) y (nc - y.c.lag) ticks).map (fun t => ⟨t, nc - y.c.lag, false, 0⟩) := b5
  have hR : ∀ t, t ∈ relTimesR (y.items.length + 1) y (nc - y.c.lag) ticks → clock - y.c.lag < t := fun t htm => hc.wt t (b1.mem_iff.2 (List.mem_append.2 (.inl htm)))
  have hf := fold_TS hK (nc - y.c.lag) (relTimesR (y.items.length + 1) y (nc - y.c.lag) ticks) (bucketsE y.c y.events) hc.ts (fun b hb t htm => by have h1 := hc.le b hb; have h2 := hR t htm; omega) (fun b hb => by have := hc.le b hb; omega) b4 b2
  rw [← bucketsE_evs] at hf
  refine ⟨?_, ?_, ?_, ?_⟩
  · rw [hcc, hev]; exact OkE.many _ hm _ _ hc.ok
  · rw [hcc, hev]; exact hf.1
  · rw [hcc, hev]; exact hf.2
  · rw [hcc]; exact b3
theorem away_CInv {clock b : Int} {y : RSer} (hc : CInv clock y) (hb : 0 ≤ b) : CInv clock (awayR clock b y) := by
  have hle := pastN_le (bucketsE y.c y.events) (clock - y.c.lag - y.c.window)
  have e : bucketsE y.c (y.events ++ [⟨0, 0, true, min (deadR clock y) b⟩]) = (bucketsE y.c y.events).drop (min (deadR clock y) b).toNat := by
    unfold bucketsE; rw [List.foldl_append]; rfl
  refine ⟨?_, ?_, ?_, hc.wt⟩
  · exact hc.ok.append (fun _ => by show 0 ≤ min (deadR clock y) b ∧ min (deadR clock y) b ≤ _; unfold deadR; omega) (by show (-100 : Int) ≤ 0 ∧ (0 : Int) ≤ _; omega)
  · show TS (bucketsE y.c (y.events ++ _)); rw [e]; exact hc.ts.drop _
  · intro x hx
    have hx' : x ∈ bucketsE y.c (y.events ++ [⟨0, 0, true, min (deadR clock y) b⟩]) := hx
    rw [e] at hx'
    exact hc.le x (List.mem_of_mem_drop hx')
theorem later_CInv {clock : Int} {y : RSer} (hc : CInv clock y) (o : OpM) (h : clock - y.c.lag < o.a) : CInv clock (accR y o) := by
  refine ⟨hc.ok, hc.ts, hc.le, fun t htm => ?_⟩
  have : waitT (accR y o).items = waitT y.items ++ [o.a] := by
    show waitT (y.items ++ [_]) = _
    unfold waitT
    rw [List.filter_append, List.map_append]; rfl
  rw [this] at htm
  rcases List.mem_append.1 htm with htm | htm
  · exact hc.wt t htm
  · rw [List.mem_singleton] at htm; rw [htm]; exact h
theorem new_CInv (clock id : Int) (c : Cfg) : CInv clock (newR id c) :=
  ⟨⟨fun i e h => by simp [newR] at h, fun e h => by simp [newR] at h⟩, fun i j _ hj => by simp [newR, bucketsE] at hj, fun b hb => by simp [newR, bucketsE] at hb, fun t htm => by simp [newR, waitT] at htm⟩

end Go.Proofs.YtjhaihbjhikhlaaGreat
