import Derived.Test.YtjhaihbjhikhlaaGreatTC2
namespace Go.Proofs.YtjhaihbjhikhlaaGreat

/-! ### the program's series and the document's -/
structure RelS (x : Ser) (y : RSer) : Prop where
  id : x.id = y.id
  c : x.c = y.c
  kind : x.c.kind = x.k
  acc : x.acc = y.items.length
  rel : x.rel = (relT y.items).length
  wait : (x.l.map (·.t)).Perm (waitT y.items)
  heap : HeapL x.l
  tick : ∀ z, z ∈ y.items → 0 ≤ z.tick
  refs : ∀ j, j < 12 → refAt x.ref j = refAt y.ref j
  xr : x.ref.length = 12
  yr : y.ref.length = 15
  sum : x.k = 4 → x.nt.q * 2305843009213693952 + x.nt.r = sumF (fun t => optInt (weightO x.c t)) (relT y.items)
  r0 : 0 ≤ x.nt.r
  r1 : x.nt.r < 2305843009213693952
  bks : x.k = 1 → x.nt.bs = bucketsE y.c y.events
def RelL : List Ser → List RSer → Prop
  | [], [] => True
  | x :: xs, y :: ys => RelS x y ∧ RelL xs ys
  | _, _ => False
theorem RelL.length {xs : List Ser} {ys : List RSer} (h : RelL xs ys) : xs.length = ys.length := by
  induction xs generalizing ys with
  | nil => cases ys with | nil => rfl | cons y ys => exact h.elim
  | cons x xs ih => cases ys with | nil => exact h.elim | cons y ys => simp [ih h.2]
theorem RelL.append {xs : List Ser} {ys : List RSer} (h : RelL xs ys) {x : Ser} {y : RSer} (hr : RelS x y) : RelL (xs ++ [x]) (ys ++ [y]) := by
  induction xs generalizing ys with
  | nil => cases ys with | nil => exact ⟨hr, trivial⟩ | cons y ys => exact h.elim
  | cons x xs ih => cases ys with | nil => exact h.elim | cons y ys => exact ⟨h.1, ih h.2⟩
theorem RelL.find {xs : List Ser} {ys : List RSer} (h : RelL xs ys) (id : Int) : (findS xs id = none ∧ findR ys id = none) ∨ ∃ x y, findS xs id = some x ∧ findR ys id = some y ∧ RelS x y := by
  unfold findS findR
  induction xs generalizing ys with
  | nil => cases ys with | nil => exact .inl ⟨rfl, rfl⟩ | cons y ys => exact h.elim
  | cons x xs ih =>
    cases ys with
    | nil => exact h.elim
    | cons y ys =>
      rw [List.find?_cons, List.find?_cons, ← h.1.id]
      cases (x.id == id) with
      | true => exact .inr ⟨x, y, rfl, rfl, h.1⟩
      | false => exact ih h.2
theorem RelL.upd {xs : List Ser} {ys : List RSer} (h : RelL xs ys) (id : Int) {x' : Ser} {y' : RSer} (hr : RelS x' y') : RelL (updS xs id x') (updR ys id y') := by
  induction xs generalizing ys with
  | nil => cases ys with | nil => trivial | cons y ys => exact h.elim
  | cons x xs ih =>
    cases ys with
    | nil => exact h.elim
    | cons y ys =>
      unfold updS updR
      rw [← h.1.id]
      cases (x.id == id) with
      | true => exact ⟨hr, h.2⟩
      | false => exact ⟨h.1, ih h.2⟩
theorem RelL.map {xs : List Ser} {ys : List RSer} (h : RelL xs ys) (f : Ser → Ser) (g : RSer → RSer) (hr : ∀ x y, RelS x y → RelS (f x) (g y)) : RelL (xs.map f) (ys.map g) := by
  induction xs generalizing ys with
  | nil => cases ys with | nil => trivial | cons y ys => exact h.elim
  | cons x xs ih => cases ys with | nil => exact h.elim | cons y ys => exact ⟨hr x y h.1, ih h.2⟩

/-! ### the release -/
theorem relS_spec (m : Int) (f : Nat) : ∀ x : Ser, x.l.length < f → HeapL x.l → 0 ≤ x.nt.r → x.nt.r < 2305843009213693952 →
    ∃ R : List Int, (x.l.map (·.t)).Perm (R ++ (relS f x m).l.map (·.t)) ∧ (∀ t, t ∈ R → t ≤ m) ∧ (∀ t, t ∈ (relS f x m).l.map (·.t) → m < t) ∧ HeapL (relS f x m).l ∧
      (relS f x m).rel = x.rel + R.length ∧ (x.k = 4 → (relS f x m).nt.q * 2305843009213693952 + (relS f x m).nt.r = x.nt.q * 2305843009213693952 + x.nt.r + sumF (fun t => optInt (weightO x.c t)) R) ∧
      0 ≤ (relS f x m).nt.r ∧ (relS f x m).nt.r < 2305843009213693952 ∧ (relS f x m).acc = x.acc ∧ (relS f x m).ref = x.ref := by
  induction f with
  | zero => intro x h; omega
  | succ f ih =>
    intro x hf hh r0 r1
    unfold relS
    split
    · rename_i he
      have hnil : x.l = [] := List.isEmpty_iff.1 he
      exact ⟨[], List.Perm.refl _, by simp, by simp [hnil], hh, by simp, fun _ => by simp [sumF], r0, r1, rfl, rfl⟩
    · rename_i he
      have hne : x.l ≠ [] := fun h => he (by rw [h]; rfl)
      split
      · rename_i hm
        refine ⟨[], List.Perm.refl _, by simp, ?_, hh, by simp, fun _ => by simp [sumF], r0, r1, rfl, rfl⟩
        intro t ht
        obtain ⟨y, hy, rfl⟩ := List.mem_map.1 ht
        have := hh.first_mem hy
        omega
      · rename_i hm
        obtain ⟨th, tp⟩ := take_heap x.l hh hne
        have hlen : (relOne x m).l.length = x.l.length - 1 := takeL_length _
        have hpos : 0 < x.l.length := List.length_pos_iff.2 hne
        have hr : 0 ≤ (relOne x m).nt.r ∧ (relOne x m).nt.r < 2305843009213693952 := by
          show 0 ≤ (relN x.k x.c x.nt (itAt x.l 0).t m).r ∧ (relN x.k x.c x.nt (itAt x.l 0).t m).r < 2305843009213693952
          unfold relN
          split
          · show 0 ≤ _ % _ ∧ _ % _ < _; omega
          · split
            · exact ⟨r0, r1⟩
            · exact ⟨r0, r1⟩
        obtain ⟨R, h1, h2, h3, h4, h5, h6, h7, h8, h9, h10⟩ := ih (relOne x m) (by omega) th hr.1 hr.2
        refine ⟨(itAt x.l 0).t :: R, ?_, ?_, h3, h4, ?_, ?_, h7, h8, h9, h10⟩
        · have := (tp.map (·.t)).symm
          refine this.trans ?_
          rw [List.map_cons, List.cons_append]
          exact List.Perm.cons _ h1
        · intro t ht
          rcases List.mem_cons.1 ht with ht | ht
          · omega
          · exact h2 t ht
        · rw [h5]
          show x.rel + 1 + (R.length : Int) = _
          simp only [List.length_cons]; omega
        · intro hk
          have := h6 hk
          have e1 : (relOne x m).nt.q = x.nt.q + (x.nt.r + optInt (weightO x.c (itAt x.l 0).t)) / 2305843009213693952 := by
            show (relN x.k x.c x.nt (itAt x.l 0).t m).q = _; unfold relN; rw [if_pos hk]
          have e2 : (relOne x m).nt.r = (x.nt.r + optInt (weightO x.c (itAt x.l 0).t)) % 2305843009213693952 := by
            show (relN x.k x.c x.nt (itAt x.l 0).t m).r = _; unfold relN; rw [if_pos hk]
          rw [this, e1, e2]
          show _ + sumF (fun t => optInt (weightO x.c t)) R = _
          simp only [sumF]
          omega
theorem split_perm (m : Int) {T W R L : List Int} (h1 : T.Perm W) (h2 : T.Perm (R ++ L)) (hR : ∀ t, t ∈ R → t ≤ m) (hL : ∀ t, t ∈ L → m < t) :
    (W.filter (fun t => decide (t ≤ m))).Perm R ∧ (W.filter (fun t => decide (m < t))).Perm L := by
  have h := h1.symm.trans h2
  have a1 : R.filter (fun t => decide (t ≤ m)) = R := List.filter_eq_self.2 (fun t ht => by simpa using hR t ht)
  have a2 : L.filter (fun t => decide (t ≤ m)) = [] := List.filter_eq_nil_iff.2 (fun t ht => by have := hL t ht; simp; omega)
  have a3 : R.filter (fun t => decide (m < t)) = [] := List.filter_eq_nil_iff.2 (fun t ht => by have := hR t ht; simp; omega)
  have a4 : L.filter (fun t => decide (m < t)) = L := List.filter_eq_self.2 (fun t ht => by simpa using hL t ht)
  constructor
  · have := h.filter (fun t => decide (t ≤ m))
    rw [List.filter_append, a1, a2, List.append_nil] at this
    exact this
  · have := h.filter (fun t => decide (m < t))
    rw [List.filter_append, a3, a4, List.nil_append] at this
    exact this
theorem tick_rel (clock ticks : Int) (ht : 0 < ticks) (x : Ser) (y : RSer) (h : RelS x y) : RelS (tickOne clock x) (tickOneR clock ticks y) := by
  unfold tickOne tickOneR
  rw [← h.c]
  obtain ⟨i1, i2, i3, i4⟩ := releaseR_spec (clock - x.c.lag) ticks (by omega) (y.items.length + 1) y (by have := wait_rel y.items; omega)
  obtain ⟨R, h1, h2, h3, h4, h5, h6, h7, h8, h9, h10⟩ := relS_spec (clock - x.c.lag) (x.l.length + 1) x (by omega) h.heap h.r0 h.r1
  obtain ⟨k1, k2, k3⟩ := relS_k (x.l.length + 1) x (clock - x.c.lag)
  obtain ⟨pR, pL⟩ := split_perm (clock - x.c.lag) h.wait h1 h2 h3
  have hrt := relT_turn (clock - x.c.lag) ticks (by omega) y.items
  refine ⟨by rw [k3, i2]; exact h.id, by rw [k2, i3]; exact h.c, by rw [k2, k1]; exact h.kind, ?_, ?_, ?_, h4, ?_, ?_, by rw [h10]; exact h.xr, by rw [i4]; exact h.yr, ?_, h7, h8, ?_⟩
  · rw [h9, i1, List.length_map]; exact h.acc
  · rw [h5, i1, hrt.length_eq, List.length_append, pR.length_eq, h.rel]; simp
  · rw [i1, waitT_turn _ _ (by omega)]; exact pL.symm
  · intro z hz
    rw [i1] at hz
    obtain ⟨z', hz', rfl⟩ := List.mem_map.1 hz
    unfold turnT
    split
    · show 0 ≤ ticks; omega
    · exact h.tick z' hz'
  · intro j hj; rw [h10, i4]; exact h.refs j hj
  · intro hk
    rw [k1] at hk
    rw [h6 hk, k2, i1, sumF_perm _ hrt, sumF_append, sumF_perm _ pR, h.sum hk]
  · intro hk
    rw [k1] at hk
    have := buckets_same clock ticks (by omega) x y hk h.c h.heap h.wait (h.bks hk)
    unfold tickOne tickOneR at this
    rw [← h.c] at this
    exact this

/-! ### refusals -/
theorem powGo_ge (b : Int) (hb : 1 ≤ b) (n : Nat) : ∀ (p v : Int), 1 ≤ p → powGo b n p = some v → 1 ≤ v := by
  induction n with
  | zero => intro p v hp h; simp [powGo] at h; omega
  | succ n ih =>
    intro p v hp h
    unfold powGo at h
    split at h
    · cases h
    · refine ih _ v ?_ h
      have := Int.mul_le_mul hp hb (by omega) (by omega)
      omega
theorem weightO_ge (c : Cfg) (t v : Int) (h : weightO c t = some v) : 1 ≤ v := by
  unfold weightO at h
  split at h
  · cases h
  · split at h
    · exact powGo_ge _ (by omega) _ 1 v (by omega) h
    · split at h
      · cases h
      · rename_i h1 h2 h3
        have := pow2_bd ((t - c.mark) / c.half).toNat (by omega)
        injection h with h
        omega
theorem weightO_pos (c : Cfg) (t : Int) : (optInt (weightO c t) = 0) ↔ weightO c t = none := by
  cases h : weightO c t with
  | none => simp [optInt]
  | some v =>
    have hv : 1 ≤ v := weightO_ge c t v h
    simp [optInt]; omega
theorem kind_same (c : Cfg) (k : Nat) (o : OpM) (z : Int) (hkind : c.kind = k) (h1 : 1 ≤ k) (h5 : k ≤ 5) (ha : inB o.a 0 4611686018427387904 = true) :
    (if kindE c k o.item ≠ 0 then kindE c k o.item else z) = (if weighR c o.a = 0 then 8 else if (keyedR c && !inB o.b 0 2147483648) = true then 10 else if (c.kind == 5 && !inB o.c 1 2147483648) = true then 9 else z) := by
  have hwp := weightO_pos c o.a
  have hcases : k = 1 ∨ k = 2 ∨ k = 3 ∨ k = 4 ∨ k = 5 := by omega
  unfold weighR keyedR
  rw [ha, hkind]
  rcases hcases with hk | hk | hk | hk | hk <;> subst hk
  · show (if (0 : Int) ≠ 0 then 0 else z) = _
    simp
  · show (if keyE o.item ≠ 0 then keyE o.item else z) = _
    unfold keyE OpM.item
    cases inB o.b 0 2147483648 <;> simp
  · show (if keyE o.item ≠ 0 then keyE o.item else z) = _
    unfold keyE OpM.item
    cases inB o.b 0 2147483648 <;> simp
  · show (if weightE c o.item ≠ 0 then weightE c o.item else z) = _
    unfold weightE OpM.item
    simp only
    cases hq : weightO c o.a with
    | none => simp [optInt]
    | some v => rw [hq] at hwp; simp [optInt] at hwp ⊢; simp [hwp]
  · show (if drawnE c o.item ≠ 0 then drawnE c o.item else z) = _
    unfold drawnE OpM.item
    simp only
    cases hq : weightO c o.a with
    | none => simp [optInt]
    | some v =>
      rw [hq] at hwp
      simp [optInt] at hwp ⊢
      cases inB o.b 0 2147483648 <;> cases inB o.c 1 2147483648 <;> simp [hwp]
theorem refu_same (x : Ser) (y : RSer) (clock : Int) (o : OpM) (h : RelS x y) (h1 : 1 ≤ x.k) (h5 : x.k ≤ 5) : refE x clock o.item = refuR y clock o := by
  have hw : x.l.length = (waitT y.items).length := by have := h.wait.length_eq; simpa using this
  unfold refE refuR
  rw [← h.c, ← hw]
  show (if inB o.a 0 4611686018427387904 = true then if o.a ≤ clock - x.c.lag then 6 else if clock + x.c.skew < o.a then 7 else if kindE x.c x.k o.item ≠ 0 then kindE x.c x.k o.item else if x.c.cap ≤ x.l.length then 11 else 0 else 5) = _
  by_cases ha : inB o.a 0 4611686018427387904 = true
  · rw [if_pos ha, if_pos ha]
    by_cases hl : o.a ≤ clock - x.c.lag
    · rw [if_pos hl, if_pos hl]
    · rw [if_neg hl, if_neg hl]
      by_cases hs : clock + x.c.skew < o.a
      · rw [if_pos hs, if_pos (show clock < o.a - x.c.skew by omega)]
      · rw [if_neg hs, if_neg (show ¬ clock < o.a - x.c.skew by omega)]
        exact kind_same x.c x.k o _ h.kind h1 h5 ha
  · rw [if_neg ha, if_neg ha]

/-! ### a step, a script -/
structure RelW (D : Bool) (s : WS) (r : RWS) : Prop where
  clock : s.clock = r.clock
  ticks : 0 ≤ r.ticks
  xs : RelL s.xs r.xs
  kinds : ∀ x, x ∈ s.xs → 1 ≤ x.k ∧ x.k ≤ 5 ∧ (D = true → x.k = 1 ∨ x.k = 4)
  six : s.xs.length ≤ 6
/-- The steps that a statement leaves in. -/
def okOp (D : Bool) (o : OpM) : Prop := (o.kind = 5 ∨ o.kind ≤ (if D then 4 else 3)) ∧ (o.kind = 1 → validB o.cfg = true → D = true → o.cfg.kind = 1 ∨ o.cfg.kind = 4)

theorem new_rel (id : Int) (c : Cfg) (h : 0 ≤ c.kind) : RelS (newSer id c c.kind.toNat) (newR id c) := by
  refine ⟨rfl, rfl, ?_, rfl, rfl, List.Perm.refl _, ?_, ?_, ?_, rfl, rfl, ?_, Int.le_refl _, by show (0 : Int) < _; omega, fun _ => rfl⟩
  · show c.kind = (c.kind.toNat : Int); omega
  · intro i _ hi; exact absurd hi (by simp [newSer])
  · intro z hz; simp [newR] at hz
  · intro j hj
    have hc : j = 0 ∨ j = 1 ∨ j = 2 ∨ j = 3 ∨ j = 4 ∨ j = 5 ∨ j = 6 ∨ j = 7 ∨ j = 8 ∨ j = 9 ∨ j = 10 ∨ j = 11 := by omega
    rcases hc with rfl | rfl | rfl | rfl | rfl | rfl | rfl | rfl | rfl | rfl | rfl | rfl <;> rfl
  · intro _; rfl
theorem acc_rel (x : Ser) (y : RSer) (o : OpM) (h : RelS x y) : RelS (accS x o.item) (accR y o) := by
  obtain ⟨ph, pp⟩ := put_heap x.l (numbered o.item (x.acc + 1)) h.heap
  have e1 : waitT (accR y o).items = waitT y.items ++ [o.a] := by
    show waitT (y.items ++ [_]) = _
    unfold waitT
    rw [List.filter_append, List.map_append]; rfl
  have e2 : relT (accR y o).items = relT y.items := by
    show relT (y.items ++ [_]) = _
    unfold relT
    rw [List.filter_append, List.map_append]; simp
  refine ⟨h.id, h.c, h.kind, ?_, by rw [e2]; exact h.rel, ?_, ph, ?_, h.refs, h.xr, h.yr, by rw [e2]; exact h.sum, h.r0, h.r1, h.bks⟩
  · show x.acc + 1 = ((y.items ++ [_]).length : Int)
    rw [List.length_append, h.acc]; simp
  · rw [e1]
    refine (pp.map (·.t)).trans ?_
    rw [List.map_cons]
    exact (List.Perm.cons _ h.wait).trans (List.perm_append_singleton _ _).symm
  · intro z hz
    rcases List.mem_append.1 hz with hz | hz
    · exact h.tick z hz
    · rw [List.mem_singleton] at hz; subst hz; exact Int.le_refl _
theorem ref_rel (x : Ser) (y : RSer) (c : Nat) (h : RelS x y) (hc : c < 12) : RelS (refS x c) (refR y c) := by
  refine ⟨h.id, h.c, h.kind, h.acc, h.rel, h.wait, h.heap, h.tick, ?_, by simp [refS, h.xr], by simp [refR, h.yr], h.sum, h.r0, h.r1, h.bks⟩
  intro j hj
  have hx := h.xr
  have hy := h.yr
  show refAt (x.ref.set c (refAt x.ref c + 1)) j = refAt (y.ref.set c (refAt y.ref c + 1)) j
  have hs : ∀ (l : List Int) (v : Int), c < l.length → refAt (l.set c v) j = if c = j then v else refAt l j := by
    intro l v hl
    unfold refAt
    rw [List.getD_eq_getElem?_getD, List.getElem?_set, List.getD_eq_getElem?_getD]
    by_cases he : c = j
    · subst he; simp [hl]
    · rw [if_neg he, if_neg he]
  rw [hs _ _ (by omega), hs _ _ (by omega), h.refs j hj, h.refs c hc]

theorem decGo_sum (c : Cfg) (l : List RIt) : ∀ (hi lo : Int), (∀ z, z ∈ l → 0 ≤ z.tick) → 0 ≤ lo → lo < 2305843009213693952 →
    (decGo c l hi lo).1 * 2305843009213693952 + (decGo c l hi lo).2 = hi * 2305843009213693952 + lo + sumF (fun t => optInt (weightO c t)) (relT l) ∧ 0 ≤ (decGo c l hi lo).2 ∧ (decGo c l hi lo).2 < 2305843009213693952 := by
  induction l with
  | nil => intro hi lo _ h0 h1; exact ⟨by simp [decGo, relT, sumF], h0, h1⟩
  | cons z l ih =>
    intro hi lo hz h0 h1
    have hz0 := hz z (by simp)
    unfold decGo
    split
    · rename_i ht
      obtain ⟨i1, i2, i3⟩ := ih (hi + optInt (weightO c z.t) / 2305843009213693952 + (lo + optInt (weightO c z.t) % 2305843009213693952) / 2305843009213693952) ((lo + optInt (weightO c z.t) % 2305843009213693952) % 2305843009213693952) (fun y hy => hz y (by simp [hy])) (by omega) (by omega)
      refine ⟨?_, i2, i3⟩
      have e : relT (z :: l) = z.t :: relT l := by
        unfold relT; rw [List.filter_cons]
        have : (z.tick == 0) = false := by simp; omega
        simp [this]
      rw [i1, e]
      simp only [sumF]
      omega
    · rename_i ht
      obtain ⟨i1, i2, i3⟩ := ih hi lo (fun y hy => hz y (by simp [hy])) h0 h1
      refine ⟨?_, i2, i3⟩
      have e : relT (z :: l) = relT l := by
        unfold relT; rw [List.filter_cons]
        have : z.tick = 0 := by omega
        simp [this]
      rw [i1, e]

theorem away_rel (nc b : Int) (x : Ser) (y : RSer) (h : RelS x y) (hk : x.k = 1) : RelS (swpS nc b x) (awayR nc b y) ∧ thrS nc b x = min (deadR nc y) b ∧ leftS nc b x = deadR nc y - min (deadR nc y) b := by
  have hd : thrownB x.c x.nt.bs (nc - x.c.lag) b = min (deadR nc y) b := by
    unfold thrownB deadR
    rw [h.bks hk, h.c]
  have e1 : swpN x.k x.c x.nt (nc - x.c.lag) b = ({ x.nt with bs := x.nt.bs.drop (min (deadR nc y) b).toNat }, min (deadR nc y) b, deadR nc y - min (deadR nc y) b) := by
    unfold swpN
    rw [if_pos hk, hd]
    have : (pastN x.nt.bs (nc - x.c.lag - x.c.window) : Int) = deadR nc y := by unfold deadR; rw [h.bks hk, h.c]
    rw [this]
  refine ⟨?_, by unfold thrS; rw [e1], by unfold leftS; rw [e1]⟩
  refine ⟨h.id, h.c, h.kind, h.acc, h.rel, h.wait, h.heap, h.tick, h.refs, h.xr, h.yr, fun h4 => ?_, ?_, ?_, fun _ => ?_⟩
  · have h4' : x.k = 4 := h4
    omega
  · show 0 ≤ (swpN x.k x.c x.nt (nc - x.c.lag) b).1.r; rw [e1]; exact h.r0
  · show (swpN x.k x.c x.nt (nc - x.c.lag) b).1.r < _; rw [e1]; exact h.r1
  · show (swpN x.k x.c x.nt (nc - x.c.lag) b).1.bs = bucketsE y.c (y.events ++ [⟨0, 0, true, min (deadR nc y) b⟩])
    rw [e1]
    unfold bucketsE
    rw [List.foldl_append]
    show x.nt.bs.drop _ = _
    rw [h.bks hk]
    rfl
theorem tick_all (nc tk : Int) (htk : 0 < tk) : ∀ (xs : List Ser) (ys : List RSer) (b : Int), RelL xs ys → 0 ≤ b → RelL (sweepL nc b (xs.map (tickOne nc))).1 (tickAllR nc tk b ys).1 ∧ (sweepL nc b (xs.map (tickOne nc))).2 = (tickAllR nc tk b ys).2 := by
  intro xs
  induction xs with
  | nil => intro ys b h _; cases ys with | nil => exact ⟨trivial, rfl⟩ | cons y ys => exact h.elim
  | cons x xs ih =>
    intro ys b h hb
    cases ys with
    | nil => exact h.elim
    | cons y ys =>
      have hr := tick_rel nc tk htk x y h.1
      have hkx := (relS_k (x.l.length + 1) x (nc - x.c.lag)).1
      have hkx' : (tickOne nc x).k = x.k := hkx
      have hkk : (y.c.kind = 1) ↔ x.k = 1 := by rw [← h.1.c, h.1.kind]; omega
      rw [List.map_cons]
      simp only [sweepL, tickAllR]
      by_cases hk : x.k = 1
      · obtain ⟨r1, r2, r3⟩ := away_rel nc b _ _ hr (by rw [hkx']; exact hk)
        rw [if_pos (hkk.2 hk), r2, r3]
        obtain ⟨i1, i2⟩ := ih ys (b - min (deadR nc (tickOneR nc tk y)) b) h.2 (by omega)
        exact ⟨⟨r1, i1⟩, by rw [i2]⟩
      · have hk' : (tickOne nc x).k ≠ 1 := by rw [hkx']; exact hk
        have e1 : swpS nc b (tickOne nc x) = tickOne nc x := by unfold swpS swpN; rw [if_neg hk']
        have e2 : leftS nc b (tickOne nc x) = 0 := by unfold leftS swpN; rw [if_neg hk']
        have e3 : thrS nc b (tickOne nc x) = 0 := by unfold thrS swpN; rw [if_neg hk']
        rw [if_neg (fun hh => hk (hkk.1 hh)), e1, e2, e3, Int.sub_zero, Int.zero_add]
        obtain ⟨i1, i2⟩ := ih ys b h.2 hb
        exact ⟨⟨hr, i1⟩, i2⟩
theorem step_same (D : Bool) (s : WS) (r : RWS) (o : OpM) (h : RelW D s r) (ho : okOp D o) : (stepM s o).2 = ansR r o ∧ RelW D (stepM s o).1 (goR r o) := by
  unfold stepM ansR goR stepR
  by_cases h1 : o.kind = 1
  · rw [if_pos h1, if_neg (by omega), if_neg (by omega), if_pos h1, if_neg (by omega)]
    unfold createM createR
    have hl := h.xs.length
    have hfind : (findS s.xs o.id).isNone = (findR r.xs o.id).isNone := by
      rcases h.xs.find o.id with ⟨a, b⟩ | ⟨x, y, a, b, _⟩ <;> rw [a, b] <;> rfl
    rw [hfind]
    split
    · split
      · rename_i hv
        rw [hl]
        obtain ⟨k, hk, k1, k5, _, _⟩ := valid_parts hv
        have n4 := ho.2 h1 hv
        by_cases h6 : r.xs.length < 6
        · rw [if_pos h6, if_neg (by omega)]
          refine ⟨rfl, h.clock, h.ticks, h.xs.append (new_rel _ _ (by omega)), fun x hx => ?_, ?_⟩
          · rcases List.mem_append.1 hx with hx | hx
            · exact h.kinds x hx
            · rw [List.mem_singleton] at hx; subst hx
              show 1 ≤ o.cfg.kind.toNat ∧ o.cfg.kind.toNat ≤ 5 ∧ (D = true → o.cfg.kind.toNat = 1 ∨ o.cfg.kind.toNat = 4)
              exact ⟨by omega, by omega, fun hD => by have := n4 hD; omega⟩
          · show (s.xs ++ [_]).length ≤ 6
            rw [List.length_append]; simp; omega
        · have h7 := h.six
          rw [if_neg h6, if_pos (by omega)]
          exact ⟨rfl, h⟩
      · exact ⟨rfl, h⟩
    · exact ⟨rfl, h⟩
  · rw [if_neg h1]
    by_cases h2 : o.kind = 2
    · rw [if_pos h2, if_neg (by omega), if_neg (by omega), if_neg h1, if_pos h2, if_neg (by omega)]
      unfold addM addR
      rcases h.xs.find o.id with ⟨a, b⟩ | ⟨x, y, a, b, hr⟩
      · rw [a, b]; exact ⟨rfl, h⟩
      · rw [a, b]
        have hk := h.kinds x (List.mem_of_find?_eq_some a)
        have he := refu_same x y s.clock o hr (by omega) (by omega)
        simp only
        rw [← h.clock, ← he]
        split
        · refine ⟨by simp [hr.acc], rfl, h.ticks, h.xs.upd o.id (acc_rel x y o hr), fun z hz => ?_, by show (updS _ _ _).length ≤ 6; rw [updS_length]; exact h.six⟩
          rcases updS_mem hz with hz | hz
          · exact h.kinds z hz
          · subst hz; exact hk
        · refine ⟨rfl, rfl, h.ticks, h.xs.upd o.id (ref_rel x y _ hr (by have := refE_range x s.clock o.item; omega)), fun z hz => ?_, by show (updS _ _ _).length ≤ 6; rw [updS_length]; exact h.six⟩
          rcases updS_mem hz with hz | hz
          · exact h.kinds z hz
          · subst hz; exact hk
    · rw [if_neg h2]
      by_cases h3 : o.kind = 3
      · rw [if_pos h3, if_neg (by omega), if_neg (by omega), if_neg h1, if_neg h2, if_pos h3, if_neg (by omega)]
        unfold tickM tickR
        rw [← h.clock]
        have ht := h.ticks
        split
        · split
          · rename_i hbb
            obtain ⟨hb0, _⟩ := inB_iff hbb
            obtain ⟨a1, a2⟩ := tick_all (maxC s.clock o.a) (r.ticks + 1) (by omega) s.xs r.xs o.b h.xs hb0
            refine ⟨by rw [a2], rfl, by show 0 ≤ r.ticks + 1; omega, a1, ?_, by show (sweepL _ _ _).1.length ≤ 6; rw [sweepL_length, List.length_map]; exact h.six⟩
            refine sweepL_mem (P := fun z => 1 ≤ z.k ∧ z.k ≤ 5 ∧ (D = true → z.k = 1 ∨ z.k = 4)) _ (fun b x hx => hx) _ _ (fun z hz => ?_)
            obtain ⟨x, hx, rfl⟩ := List.mem_map.1 hz
            have hk := h.kinds x hx
            have := (relS_k (x.l.length + 1) x (maxC s.clock o.a - x.c.lag)).1
            unfold tickOne
            rw [this]; exact hk
          · exact ⟨rfl, h⟩
        · exact ⟨rfl, h⟩
      · rw [if_neg h3]
        by_cases h4 : o.kind = 4
        · rw [if_pos h4, if_pos h4, if_pos (.inl h4)]
          have hD : D = true := by
            cases D with
            | true => rfl
            | false => have := ho.1; simp at this; omega
          unfold queryM queryR
          rcases h.xs.find o.id with ⟨a, b⟩ | ⟨x, y, a, b, hr⟩
          · rw [a, b]; exact ⟨rfl, h⟩
          · rw [a, b]
            have hk := (h.kinds x (List.mem_of_find?_eq_some a)).2.2 hD
            refine ⟨?_, h⟩
            show qryN x.k x.c x.nt o.a (s.clock - x.c.lag) = _
            have hkind : y.c.kind = x.k := by rw [← hr.c]; exact hr.kind
            rcases hk with hk | hk
            · unfold qryN
              rw [if_neg (by omega), if_pos hk]
              simp only
              have hy1 : y.c.kind = 1 := by rw [hkind, hk]; rfl
              rw [if_pos hy1, hr.bks hk, ← h.clock, ← hr.c]
            · unfold qryN
              rw [if_pos hk]
              simp only
              rw [if_neg (by rw [hkind, hk]; omega)]
              obtain ⟨d1, d2, d3⟩ := decGo_sum y.c y.items 0 0 hr.tick (by omega) (by omega)
              have hs := hr.sum hk
              have r0 := hr.r0
              have r1 := hr.r1
              rw [← hr.c] at d1 d2 d3 ⊢
              rw [← h.clock]
              have e1 : x.nt.q = (decGo x.c y.items 0 0).1 := by omega
              have e2 : x.nt.r = (decGo x.c y.items 0 0).2 := by omega
              rw [e1, e2]
        · rw [if_neg h4, if_neg h4]
          by_cases h5 : o.kind = 5
          · rw [if_pos h5, if_pos h5, if_pos (.inr h5)]
            unfold statsM statsR
            rcases h.xs.find o.id with ⟨a, b⟩ | ⟨x, y, a, b, hr⟩
            · rw [a, b]; exact ⟨rfl, h⟩
            · rw [a, b]
              refine ⟨?_, h⟩
              have hwr := wait_rel y.items
              have e : x.rel = (y.items.length : Int) - (waitT y.items).length := by rw [hr.rel]; omega
              have e2 : toldL.map (refAt x.ref) = toldL.map (refAt y.ref) := List.map_congr_left fun j hj => hr.refs j (by simp [toldL] at hj; omega)
              simp only [statsL]
              rw [hr.acc, e, e2]
          · rw [if_neg h5, if_neg h5, if_neg h1, if_neg h2, if_neg h3]
            refine ⟨rfl, ?_⟩
            rw [if_neg (by omega)]
            exact h

theorem run_same (D : Bool) (ops : List OpM) : ∀ (s : WS) (r : RWS), RelW D s r → (∀ o, o ∈ ops → okOp D o) → runM s ops = runR r ops := by
  induction ops with
  | nil => intro s r _ _; rfl
  | cons o l ih =>
    intro s r h ho
    obtain ⟨h1, h2⟩ := step_same D s r o h (ho o (by simp))
    unfold runM runR
    rw [h1, ih _ _ h2 (fun x hx => ho x (by simp [hx]))]

end Go.Proofs.YtjhaihbjhikhlaaGreat
