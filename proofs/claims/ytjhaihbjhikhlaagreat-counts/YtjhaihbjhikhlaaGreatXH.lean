import Derived.Test.YtjhaihbjhikhlaaGreatXB
import Derived.Test.YtjhaihbjhikhlaaGreatE8
namespace Go.Proofs.YtjhaihbjhikhlaaGreat

/-! ### the queue's row is a heap -/
def leP (a b : It) : Prop := a.t < b.t ∨ (a.t = b.t ∧ a.n ≤ b.n)
theorem leP.refl (a : It) : leP a a := .inr ⟨rfl, Int.le_refl _⟩
theorem leP.trans {a b c : It} (h : leP a b) (k : leP b c) : leP a c := by
  unfold leP at *; omega
theorem ahead_leP {a b : It} (h : aheadB a b = true) : leP a b := by
  unfold aheadB at h; unfold leP
  split at h
  · rename_i he; simp at h; omega
  · simp at h; omega
theorem not_ahead_leP {a b : It} (h : aheadB a b = false) : leP b a := by
  unfold aheadB at h; unfold leP
  split at h
  · rename_i he; simp at h; omega
  · simp at h; omega

def HeapL (l : List It) : Prop := ∀ i, 0 < i → i < l.length → leP (itAt l ((i - 1) / 2)) (itAt l i)

theorem itAt_swap (l : List It) (i j k : Nat) (hi : i < l.length) (hj : j < l.length) (hk : k < l.length) :
    itAt (swapL l i j) k = if k = j then itAt l i else if k = i then itAt l j else itAt l k := by
  unfold swapL itAt
  rw [List.getD_eq_getElem?_getD, List.getElem?_set]
  by_cases h1 : j = k
  · subst h1; simp [hj]
  · rw [if_neg h1, if_neg (Ne.symm h1), List.getElem?_set]
    by_cases h2 : i = k
    · subst h2; simp [hi]
    · rw [if_neg h2, if_neg (Ne.symm h2), List.getD_eq_getElem?_getD]

structure RiseAt (l : List It) (i : Nat) : Prop where
  up : ∀ j, 0 < j → j < l.length → j ≠ i → leP (itAt l ((j - 1) / 2)) (itAt l j)
  over : ∀ c, 0 < i → c < l.length → 0 < c → (c - 1) / 2 = i → leP (itAt l ((i - 1) / 2)) (itAt l c)

theorem riseL_heap (f : Nat) : ∀ (l : List It) (i : Nat), i < l.length → i < f → RiseAt l i → HeapL (riseL f l i) := by
  induction f with
  | zero => intro l i _ h; omega
  | succ f ih =>
    intro l i hl hf h
    unfold riseL
    split
    · rename_i h0
      intro j hj hjl
      exact h.up j hj hjl (by omega)
    · rename_i h0
      split
      · rename_i ha
        have hle := ahead_leP ha
        have hp : (i - 1) / 2 < i := by omega
        generalize hpp : (i - 1) / 2 = p at *
        refine ih _ p (by rw [swapL_length]; omega) (by omega) ⟨?_, ?_⟩
        · intro j hj hjl hjp
          rw [swapL_length] at hjl
          rw [itAt_swap l i p _ hl (by omega) (by omega), itAt_swap l i p j hl (by omega) hjl]
          rw [if_neg hjp]
          by_cases hji : j = i
          · subst hji
            rw [if_pos hpp, if_pos rfl]; exact hle
          · rw [if_neg hji]
            by_cases h1 : (j - 1) / 2 = p
            · rw [if_pos h1]
              have := h.up j hj hjl hji
              rw [h1] at this
              exact hle.trans this
            · rw [if_neg h1]
              by_cases h2 : (j - 1) / 2 = i
              · rw [if_pos h2]
                have := h.over j (by omega) hjl hj h2
                rw [hpp] at this
                exact this
              · rw [if_neg h2]
                exact h.up j hj hjl hji
        · intro c hp0 hcl hc0 hcp
          rw [swapL_length] at hcl
          rw [itAt_swap l i p _ hl (by omega) (by omega), itAt_swap l i p c hl (by omega) hcl]
          rw [if_neg (show (p - 1) / 2 ≠ p by omega), if_neg (show (p - 1) / 2 ≠ i by omega), if_neg (show c ≠ p by omega)]
          have hpp' := h.up p hp0 (by omega) (by omega)
          by_cases hci : c = i
          · rw [if_pos hci]; exact hpp'
          · rw [if_neg hci]
            have := h.up c hc0 hcl hci
            rw [hcp] at this
            exact hpp'.trans this
      · rename_i ha
        have hle := not_ahead_leP (by simpa using ha)
        intro j hj hjl
        by_cases hji : j = i
        · subst hji; exact hle
        · exact h.up j hj hjl hji

structure SinkAt (l : List It) (i : Nat) : Prop where
  up : ∀ j, 0 < j → j < l.length → (j - 1) / 2 ≠ i → leP (itAt l ((j - 1) / 2)) (itAt l j)
  over : ∀ c, 0 < i → c < l.length → 0 < c → (c - 1) / 2 = i → leP (itAt l ((i - 1) / 2)) (itAt l c)

theorem childL_least (l : List It) (i c : Nat) (h : childL l i = c) : 0 < c ∧ (c - 1) / 2 = i ∧ ∀ d, d < l.length → 0 < d → (d - 1) / 2 = i → leP (itAt l c) (itAt l d) := by
  unfold childL at h
  split at h
  · split at h
    · split at h
      · rename_i h1 h2 h3
        have hc : c = 2 * i + 2 := by omega
        subst hc
        refine ⟨by omega, by omega, fun d hd h0 hp => ?_⟩
        have : d = 2 * i + 1 ∨ d = 2 * i + 2 := by omega
        rcases this with rfl | rfl
        · exact ahead_leP h3
        · exact leP.refl _
      · rename_i h1 h2 h3
        have hc : c = 2 * i + 1 := by omega
        subst hc
        refine ⟨by omega, by omega, fun d hd h0 hp => ?_⟩
        have : d = 2 * i + 1 ∨ d = 2 * i + 2 := by omega
        rcases this with rfl | rfl
        · exact leP.refl _
        · exact not_ahead_leP (by simpa using h3)
    · rename_i h1 h2
      have hc : c = 2 * i + 1 := by omega
      subst hc
      refine ⟨by omega, by omega, fun d hd h0 hp => ?_⟩
      have : d = 2 * i + 1 := by omega
      subst this
      exact leP.refl _
  · omega
theorem childL_none (l : List It) (i : Nat) (h : childL l i < 0) : ∀ d, d < l.length → 0 < d → (d - 1) / 2 ≠ i := by
  intro d hd h0 hp
  unfold childL at h
  split at h
  · split at h
    · split at h <;> omega
    · omega
  · omega

theorem sinkL_heap (f : Nat) : ∀ (l : List It) (i : Nat), i < l.length → l.length ≤ f + i → SinkAt l i → HeapL (sinkL f l i) := by
  induction f with
  | zero => intro l i _ h; omega
  | succ f ih =>
    intro l i hl hf h
    unfold sinkL
    split
    · rename_i h0
      intro j hj hjl
      exact h.up j hj hjl (childL_none l i h0 j hjl hj)
    · rename_i h0
      rcases childL_range l i with hc | ⟨c, hc, hic, hcl⟩
      · omega
      · rw [hc, Int.toNat_natCast]
        obtain ⟨hc0, hcp, hcm⟩ := childL_least l i c hc
        split
        · rename_i ha
          have hle := ahead_leP ha
          refine ih _ c (by rw [swapL_length]; omega) (by rw [swapL_length]; omega) ⟨?_, ?_⟩
          · intro j hj hjl hjp
            rw [swapL_length] at hjl
            rw [itAt_swap l i c _ hl hcl (by omega), itAt_swap l i c j hl hcl hjl, if_neg hjp]
            by_cases hjc : j = c
            · subst hjc
              rw [if_pos hcp, if_pos rfl]; exact hle
            · rw [if_neg hjc]
              by_cases hji : j = i
              · subst hji
                rw [if_neg (show (j - 1) / 2 ≠ j by omega), if_pos rfl]
                exact h.over c hj hcl hc0 hcp
              · rw [if_neg hji]
                by_cases h2 : (j - 1) / 2 = i
                · rw [if_pos h2]; exact hcm j hjl hj h2
                · rw [if_neg h2]; exact h.up j hj hjl h2
          · intro d hc' hdl hd0 hdp
            rw [swapL_length] at hdl
            rw [itAt_swap l i c _ hl hcl (by omega), itAt_swap l i c d hl hcl hdl]
            rw [if_neg (show (c - 1) / 2 ≠ c by omega), if_pos hcp, if_neg (show d ≠ c by omega), if_neg (show d ≠ i by omega)]
            have := h.up d hd0 hdl (by omega)
            rw [hdp] at this
            exact this
        · rename_i ha
          have hle := not_ahead_leP (by simpa using ha)
          intro j hj hjl
          by_cases h2 : (j - 1) / 2 = i
          · rw [h2]; exact hle.trans (hcm j hjl hj h2)
          · exact h.up j hj hjl h2

theorem HeapL.first {l : List It} (h : HeapL l) (j : Nat) (hj : j < l.length) : leP (itAt l 0) (itAt l j) := by
  induction j using Nat.strongRecOn with
  | _ j ih =>
    by_cases h0 : j = 0
    · subst h0; exact leP.refl _
    · exact (ih ((j - 1) / 2) (by omega) (by omega)).trans (h j (by omega) hj)
theorem HeapL.first_mem {l : List It} (h : HeapL l) {y : It} (hy : y ∈ l) : (itAt l 0).t ≤ y.t := by
  obtain ⟨j, hj, rfl⟩ := List.mem_iff_getElem.1 hy
  have h1 := h.first j hj
  have h2 : itAt l j = l[j] := by unfold itAt; rw [List.getD_eq_getElem?_getD, List.getElem?_eq_getElem hj]; rfl
  rw [h2] at h1
  unfold leP at h1
  omega

/-! ### the same items -/
theorem itAt_get (l : List It) (j : Nat) (hj : j < l.length) : itAt l j = l[j] := by
  unfold itAt; rw [List.getD_eq_getElem?_getD, List.getElem?_eq_getElem hj]; rfl
theorem swapL_perm (l : List It) (i j : Nat) (hi : i < l.length) (hj : j < l.length) : (swapL l i j).Perm l := by
  unfold swapL
  rw [itAt_get l i hi, itAt_get l j hj]
  exact List.set_set_perm hi hj
theorem riseL_perm (f : Nat) : ∀ (l : List It) (i : Nat), i < l.length → (riseL f l i).Perm l := by
  induction f with
  | zero => intro l i _; exact List.Perm.refl _
  | succ f ih =>
    intro l i hl
    unfold riseL
    split
    · exact List.Perm.refl _
    · split
      · exact (ih _ _ (by rw [swapL_length]; omega)).trans (swapL_perm l _ _ hl (by omega))
      · exact List.Perm.refl _
theorem sinkL_perm (f : Nat) : ∀ (l : List It) (i : Nat), i < l.length → (sinkL f l i).Perm l := by
  induction f with
  | zero => intro l i _; exact List.Perm.refl _
  | succ f ih =>
    intro l i hl
    unfold sinkL
    split
    · exact List.Perm.refl _
    · rename_i h0
      rcases childL_range l i with hc | ⟨c, hc, hic, hcl⟩
      · omega
      · rw [hc, Int.toNat_natCast]
        split
        · exact (ih _ _ (by rw [swapL_length]; omega)).trans (swapL_perm l _ _ hl hcl)
        · exact List.Perm.refl _

/-- What 'Put' leaves. -/
theorem put_heap (l : List It) (x : It) (h : HeapL l) : HeapL (riseL (l.length + 1) (l ++ [x]) l.length) ∧ (riseL (l.length + 1) (l ++ [x]) l.length).Perm (x :: l) := by
  have hat : ∀ j, j < l.length → itAt (l ++ [x]) j = itAt l j := by
    intro j hj
    unfold itAt
    rw [List.getD_eq_getElem?_getD, List.getD_eq_getElem?_getD, List.getElem?_append_left hj]
  refine ⟨riseL_heap _ _ _ (by simp) (by omega) ⟨?_, ?_⟩, (riseL_perm _ _ _ (by simp)).trans (List.perm_append_singleton x l)⟩
  · intro j hj hjl hne
    rw [List.length_append, List.length_singleton] at hjl
    rw [hat _ (by omega), hat j (by omega)]
    exact h j hj (by omega)
  · intro c h0 hcl hc0 hcp
    rw [List.length_append, List.length_singleton] at hcl
    omega
/-- What 'Take' leaves. -/
theorem take_heap (l : List It) (h : HeapL l) (hl : l ≠ []) : HeapL (takeL l) ∧ (itAt l 0 :: takeL l).Perm l := by
  have hpos : 0 < l.length := List.length_pos_iff.2 hl
  unfold takeL
  by_cases h1 : l.length = 1
  · obtain ⟨a, rfl⟩ := List.length_eq_one_iff.1 h1
    refine ⟨?_, ?_⟩
    · intro i _ hi
      rw [show (([a].set 0 (itAt [a] ([a].length - 1))).take ([a].length - 1)) = [] from rfl] at hi
      have : (sinkL [a].length [] 0).length = 0 := rfl
      omega
    · exact List.Perm.refl _
  · obtain ⟨a, m, rfl⟩ : ∃ a m, l = a :: m := by cases l with | nil => exact absurd rfl hl | cons a m => exact ⟨a, m, rfl⟩
    obtain ⟨m', z, rfl⟩ : ∃ m' z, m = m' ++ [z] := by
      refine ⟨m.dropLast, m.getLast (by intro e; subst e; simp at h1), ?_⟩
      rw [List.dropLast_concat_getLast]
    have hz : itAt (a :: (m' ++ [z])) ((a :: (m' ++ [z])).length - 1) = z := by
      rw [itAt_get _ _ (by simp)]
      simp
    have he : ((a :: (m' ++ [z])).set 0 (itAt (a :: (m' ++ [z])) ((a :: (m' ++ [z])).length - 1))).take ((a :: (m' ++ [z])).length - 1) = z :: m' := by
      rw [hz]; simp
    rw [he]
    have hat : ∀ j, 0 < j → j < (z :: m').length → itAt (z :: m') j = itAt (a :: (m' ++ [z])) j := by
      intro j h0 hj
      simp only [List.length_cons] at hj
      rw [itAt_get _ _ (by simpa using hj), itAt_get _ _ (by simp; omega)]
      obtain ⟨j, rfl⟩ : ∃ k, j = k + 1 := ⟨j - 1, by omega⟩
      simp only [List.getElem_cons_succ]
      rw [List.getElem_append_left (by omega)]
    refine ⟨sinkL_heap _ _ 0 (by simp) (by simp) ⟨?_, ?_⟩, ?_⟩
    · intro j hj hjl hne
      rw [hat _ (by omega) (by omega), hat j hj hjl]
      exact h j hj (by simp at hjl ⊢; omega)
    · intro c h0; omega
    · refine (List.Perm.cons _ (sinkL_perm _ _ 0 (by simp))).trans ?_
      show (a :: z :: m').Perm (a :: (m' ++ [z]))
      exact List.Perm.cons a (List.perm_append_singleton z m').symm

end Go.Proofs.YtjhaihbjhikhlaaGreat

namespace Go.Proofs.YtjhaihbjhikhlaaGreat

/-! ### the document's answer, as data -/
structure RIt where
  t : Int
  k : Int
  d : Int
  n : Int
  tick : Int
structure REv where
  t : Int
  m : Int
  away : Bool
  throw : Int
structure RSer where
  id : Int
  c : Cfg
  items : List RIt
  events : List REv
  ref : List Int
structure RWS where
  clock : Int
  ticks : Int
  xs : List RSer

def waitT (l : List RIt) : List Int := (l.filter (fun z => z.tick == 0)).map (·.t)
def relT (l : List RIt) : List Int := (l.filter (fun z => !(z.tick == 0))).map (·.t)
def rAt (l : List RIt) (i : Nat) : RIt := l.getD i ⟨0, 0, 0, 0, 0⟩

def weighR (c : Cfg) (a : Int) : Int := if (c.kind == 4 || c.kind == 5) && inB a 0 4611686018427387904 then optInt (weightO c a) else 1
def keyedR (c : Cfg) : Bool := c.kind == 2 || (c.kind == 3 || c.kind == 5)
/-- Why an item is refused; 0: it is not. -/
def refuR (y : RSer) (clock : Int) (o : OpM) : Int :=
  if inB o.a 0 4611686018427387904 then
    if o.a ≤ clock - y.c.lag then 6
    else if clock < o.a - y.c.skew then 7
    else if weighR y.c o.a = 0 then 8
    else if keyedR y.c && !inB o.b 0 2147483648 then 10
    else if y.c.kind == 5 && !inB o.c 1 2147483648 then 9
    else if y.c.cap ≤ (waitT y.items).length then 11 else 0
  else 5

/-- Which item is released next, by its place; -1: none is. -/
def nextL (all : List RIt) (mark : Int) : List RIt → Nat → Int → Int
  | [], _, k => k
  | x :: r, i, k => nextL all mark r (i + 1) (if x.tick = 0 ∧ x.t ≤ mark ∧ (k < 0 ∨ x.t < (rAt all k.toNat).t) then (i : Int) else k)
def nextR (all : List RIt) (mark : Int) : Int := nextL all mark all 0 (-1)
def tickAt (l : List RIt) (i : Nat) (ticks : Int) : List RIt := l.set i { rAt l i with tick := ticks }
def releaseR : Nat → RSer → Int → Int → RSer
  | 0, y, _, _ => y
  | f + 1, y, mark, ticks => if nextR y.items mark < 0 then y
    else releaseR f { y with items := tickAt y.items (nextR y.items mark).toNat ticks, events := y.events ++ [⟨(rAt y.items (nextR y.items mark).toNat).t, mark, false, 0⟩] } mark ticks
def tickOneR (clock ticks : Int) (y : RSer) : RSer := releaseR (y.items.length + 1) y (clock - y.c.lag) ticks

/-! the buckets by all that happened -/
def stepE (c : Cfg) (l : List Bk) (e : REv) : List Bk := if e.away then l.drop e.throw.toNat else relB c l e.t e.m
def bucketsE (c : Cfg) (evs : List REv) : List Bk := evs.foldl (stepE c) []
/-- What holds of the events of a COUNT. -/
structure OkE (c : Cfg) (evs : List REv) : Prop where
  thr : ∀ (i : Nat) e, evs[i]? = some e → e.away = true → 0 ≤ e.throw ∧ e.throw ≤ (bucketsE c (evs.take i)).length
  mark : ∀ e, e ∈ evs → -100 ≤ e.m ∧ e.m ≤ 4611686018427387904
/-- Times do not fall from the oldest to the newest. -/
def TS (q : List Bk) : Prop := ∀ i j, i ≤ j → j < q.length → (bkAt q i).t ≤ (bkAt q j).t
/-- What holds of a COUNT. -/
structure CInv (clock : Int) (y : RSer) : Prop where
  ok : OkE y.c y.events
  ts : TS (bucketsE y.c y.events)
  le : ∀ b, b ∈ bucketsE y.c y.events → b.t ≤ clock - y.c.lag
  wt : ∀ t, t ∈ waitT y.items → clock - y.c.lag < t

def deadR (clock : Int) (y : RSer) : Int := pastN (bucketsE y.c y.events) (clock - y.c.lag - y.c.window)
/-- A COUNT behind its releases: up to b buckets are thrown away. -/
def awayR (clock b : Int) (y : RSer) : RSer := { y with events := y.events ++ [⟨0, 0, true, min (deadR clock y) b⟩] }
def tickAllR (clock ticks : Int) : Int → List RSer → List RSer × Int
  | _, [] => ([], 0)
  | b, y :: ys => if y.c.kind = 1 then
      (awayR clock b (tickOneR clock ticks y) :: (tickAllR clock ticks (b - min (deadR clock (tickOneR clock ticks y)) b) ys).1,
       deadR clock (tickOneR clock ticks y) - min (deadR clock (tickOneR clock ticks y)) b + (tickAllR clock ticks (b - min (deadR clock (tickOneR clock ticks y)) b) ys).2)
    else (tickOneR clock ticks y :: (tickAllR clock ticks b ys).1, (tickAllR clock ticks b ys).2)

def updR : List RSer → Int → RSer → List RSer
  | [], _, _ => []
  | x :: r, id, y => if x.id == id then y :: r else x :: updR r id y
def findR (xs : List RSer) (id : Int) : Option RSer := xs.find? (fun x => x.id == id)
def newR (id : Int) (c : Cfg) : RSer := ⟨id, c, [], [], List.replicate 15 0⟩
def refR (x : RSer) (c : Nat) : RSer := { x with ref := x.ref.set c (refAt x.ref c + 1) }
def accR (x : RSer) (o : OpM) : RSer := { x with items := x.items ++ [⟨o.a, o.b, o.c, x.items.length + 1, 0⟩] }

def createR (s : RWS) (o : OpM) : RWS × Int × List Int :=
  if inB o.id 0 99 = true ∧ (findR s.xs o.id).isNone = true then
    if validB o.cfg = true then (if s.xs.length = 6 then (s, 4, []) else (⟨s.clock, s.ticks, s.xs ++ [newR o.id o.cfg]⟩, 0, [])) else (s, 3, [])
  else (s, 2, [])
def addR (s : RWS) (o : OpM) : RWS × Int × List Int :=
  match findR s.xs o.id with
  | none => (s, 2, [])
  | some y => if refuR y s.clock o = 0 then (⟨s.clock, s.ticks, updR s.xs o.id (accR y o)⟩, 0, [(y.items.length : Int) + 1])
    else (⟨s.clock, s.ticks, updR s.xs o.id (refR y (refuR y s.clock o).toNat)⟩, refuR y s.clock o, [])
def tickR (s : RWS) (o : OpM) : RWS × Int × List Int :=
  if inB o.a 0 4611686018427387904 = true then
    if inB o.b 0 100 = true then (⟨maxC s.clock o.a, s.ticks + 1, (tickAllR (maxC s.clock o.a) (s.ticks + 1) o.b s.xs).1⟩, 0, [(tickAllR (maxC s.clock o.a) (s.ticks + 1) o.b s.xs).2]) else (s, 12, [])
  else (s, 5, [])
def stepR (s : RWS) (o : OpM) : RWS × Int × List Int :=
  if o.kind = 1 then createR s o else if o.kind = 2 then addR s o else if o.kind = 3 then tickR s o else (s, 1, [])
def decGo (c : Cfg) : List RIt → Int → Int → Int × Int
  | [], hi, lo => (hi, lo)
  | z :: r, hi, lo => if 0 < z.tick then decGo c r (hi + optInt (weightO c z.t) / 2305843009213693952 + (lo + optInt (weightO c z.t) % 2305843009213693952) / 2305843009213693952) ((lo + optInt (weightO c z.t) % 2305843009213693952) % 2305843009213693952) else decGo c r hi lo
def queryR (s : RWS) (o : OpM) : Int × List Int :=
  match findR s.xs o.id with
  | none => (2, [])
  | some y => if y.c.kind = 1 then (if inB o.a 1 y.c.window = true then (0, [estN (bucketsE y.c y.events) (s.clock - y.c.lag - o.a)]) else (13, [])) else (0, [(decGo y.c y.items 0 0).1, (decGo y.c y.items 0 0).2, optInt (weightO y.c (s.clock - y.c.lag))])
def statsR (s : RWS) (o : OpM) : Int × List Int :=
  match findR s.xs o.id with
  | none => (2, [])
  | some y => (0, (y.items.length : Int) :: ((y.items.length : Int) - (waitT y.items).length) :: toldL.map (refAt y.ref))
def ansR (s : RWS) (o : OpM) : Int × List Int := if o.kind = 4 then queryR s o else if o.kind = 5 then statsR s o else (stepR s o).2
def goR (s : RWS) (o : OpM) : RWS := if o.kind = 4 ∨ o.kind = 5 then s else (stepR s o).1
def runR : RWS → List OpM → List (Int × List Int)
  | _, [] => []
  | s, o :: r => ansR s o :: runR (goR s o) r
def rs0 : RWS := ⟨0, 0, []⟩

/-! ### sums -/
def sumF (f : Int → Int) : List Int → Int
  | [] => 0
  | a :: l => f a + sumF f l
theorem sumF_append (f : Int → Int) (a b : List Int) : sumF f (a ++ b) = sumF f a + sumF f b := by
  induction a with
  | nil => simp [sumF]
  | cons x a ih => simp only [List.cons_append, sumF, ih]; omega
theorem sumF_perm (f : Int → Int) {a b : List Int} (h : a.Perm b) : sumF f a = sumF f b := by
  induction h with
  | nil => rfl
  | cons x _ ih => simp only [sumF, ih]
  | swap x y l => simp only [sumF]; omega
  | trans _ _ h1 h2 => exact h1.trans h2

/-! ### what a tick does to the items -/
def turnT (m ticks : Int) (z : RIt) : RIt := if z.tick = 0 ∧ z.t ≤ m then { z with tick := ticks } else z
theorem waitT_turn (m ticks : Int) (ht : ticks ≠ 0) (l : List RIt) : waitT (l.map (turnT m ticks)) = (waitT l).filter (fun t => decide (m < t)) := by
  induction l with
  | nil => rfl
  | cons z l ih =>
    have ih' : (List.filter (fun z => z.tick == 0) (l.map (turnT m ticks))).map (·.t) = (waitT l).filter (fun t => decide (m < t)) := ih
    unfold waitT
    rw [List.map_cons, List.filter_cons]
    by_cases h0 : z.tick = 0
    · by_cases h1 : z.t ≤ m
      · have : turnT m ticks z = { z with tick := ticks } := by unfold turnT; rw [if_pos ⟨h0, h1⟩]
        rw [this, List.filter_cons]
        have hb : (ticks == 0) = false := by simpa using ht
        have hd : decide (m < z.t) = false := by simp; omega
        simp only [hb, h0, beq_self_eq_true, if_true, List.map_cons, List.filter_cons, hd, Bool.false_eq_true, if_false]
        exact ih'
      · have : turnT m ticks z = z := by unfold turnT; rw [if_neg (fun h => h1 h.2)]
        rw [this, List.filter_cons]
        have hd : decide (m < z.t) = true := by simp; omega
        simp only [h0, beq_self_eq_true, if_true, List.map_cons, List.filter_cons, hd]
        rw [ih']; rfl
    · have : turnT m ticks z = z := by unfold turnT; rw [if_neg (fun h => h0 h.1)]
      have hb : (z.tick == 0) = false := by simpa using h0
      rw [this, List.filter_cons]
      simp only [hb, Bool.false_eq_true, if_false]
      exact ih'
theorem relT_turn (m ticks : Int) (ht : ticks ≠ 0) (l : List RIt) : (relT (l.map (turnT m ticks))).Perm (relT l ++ (waitT l).filter (fun t => decide (t ≤ m))) := by
  induction l with
  | nil => exact List.Perm.refl _
  | cons z l ih =>
    by_cases h0 : z.tick = 0
    · have e1 : relT (z :: l) = relT l := by unfold relT; rw [List.filter_cons]; simp [h0]
      have e2 : waitT (z :: l) = z.t :: waitT l := by unfold waitT; rw [List.filter_cons]; simp [h0]
      rw [e1, e2, List.map_cons, List.filter_cons]
      by_cases h1 : z.t ≤ m
      · have : turnT m ticks z = { z with tick := ticks } := by unfold turnT; rw [if_pos ⟨h0, h1⟩]
        have e3 : relT (turnT m ticks z :: l.map (turnT m ticks)) = z.t :: relT (l.map (turnT m ticks)) := by
          rw [this]; unfold relT; rw [List.filter_cons]; simp [ht]
        rw [e3, if_pos (by simpa using h1)]
        exact (List.Perm.cons _ ih).trans List.perm_middle.symm
      · have : turnT m ticks z = z := by unfold turnT; rw [if_neg (fun h => h1 h.2)]
        have e3 : relT (turnT m ticks z :: l.map (turnT m ticks)) = relT (l.map (turnT m ticks)) := by
          rw [this]; unfold relT; rw [List.filter_cons]; simp [h0]
        rw [e3, if_neg (by simpa using h1)]
        exact ih
    · have e1 : relT (z :: l) = z.t :: relT l := by unfold relT; rw [List.filter_cons]; simp [h0]
      have e2 : waitT (z :: l) = waitT l := by unfold waitT; rw [List.filter_cons]; simp [h0]
      have : turnT m ticks z = z := by unfold turnT; rw [if_neg (fun h => h0 h.1)]
      have e3 : relT (turnT m ticks z :: l.map (turnT m ticks)) = z.t :: relT (l.map (turnT m ticks)) := by
        rw [this]; unfold relT; rw [List.filter_cons]; simp [h0]
      rw [e1, e2, List.map_cons, e3, List.cons_append]
      exact List.Perm.cons _ ih
theorem wait_rel (l : List RIt) : (waitT l).length + (relT l).length = l.length := by
  induction l with
  | nil => rfl
  | cons z l ih =>
    unfold waitT relT at *
    rw [List.filter_cons, List.filter_cons]
    cases (z.tick == 0) <;> simp at ih ⊢ <;> omega

/-! ### the next one -/
theorem rAt_get (l : List RIt) (j : Nat) (hj : j < l.length) : rAt l j = l[j] := by
  unfold rAt; rw [List.getD_eq_getElem?_getD, List.getElem?_eq_getElem hj]; rfl
/-- It waits, its time is up, and none such ahead of it or behind it goes before it. -/
def Due (all : List RIt) (mark : Int) (k : Int) : Prop := (0 ≤ k ∧ k.toNat < all.length ∧ (rAt all k.toNat).tick = 0 ∧ (rAt all k.toNat).t ≤ mark)
theorem nextL_spec (all : List RIt) (mark : Int) (l : List RIt) : ∀ (i : Nat) (k : Int), l = all.drop i → (k = -1 ∨ Due all mark k) → (k = -1 → ∀ j, j < i → j < all.length → (rAt all j).tick = 0 → mark < (rAt all j).t) →
    (nextL all mark l i k = -1 ∧ ∀ j, j < all.length → (rAt all j).tick = 0 → mark < (rAt all j).t) ∨ Due all mark (nextL all mark l i k) := by
  induction l with
  | nil =>
    intro i k hd hk hb
    have hlen : all.length ≤ i := by
      have := congrArg List.length hd
      simp at this; omega
    unfold nextL
    rcases hk with hk | hk
    · exact .inl ⟨hk, fun j hj => hb hk j (by omega) hj⟩
    · exact .inr hk
  | cons x r ih =>
    intro i k hd hk hb
    have hi : i < all.length := by
      have := congrArg List.length hd
      simp at this; omega
    rw [List.drop_eq_getElem_cons hi] at hd
    injection hd with hx hr
    have hxa : rAt all i = x := by rw [rAt_get _ _ hi, hx]
    unfold nextL
    by_cases hc : x.tick = 0 ∧ x.t ≤ mark ∧ (k < 0 ∨ x.t < (rAt all k.toNat).t)
    · rw [if_pos hc]
      refine ih (i + 1) i hr (.inr ⟨by omega, by simpa using hi, ?_, ?_⟩) (fun h => by omega)
      · rw [Int.toNat_natCast, hxa]; exact hc.1
      · rw [Int.toNat_natCast, hxa]; exact hc.2.1
    · rw [if_neg hc]
      refine ih (i + 1) k hr hk (fun h j hj hja ht => ?_)
      by_cases hji : j = i
      · subst hji
        rw [hxa] at ht ⊢
        by_cases h1 : x.t ≤ mark
        · exact absurd ⟨ht, h1, .inl (by omega)⟩ hc
        · omega
      · exact hb h j (by omega) hja ht
theorem nextR_spec (all : List RIt) (mark : Int) : (nextR all mark = -1 ∧ ∀ z, z ∈ all → z.tick = 0 → mark < z.t) ∨ Due all mark (nextR all mark) := by
  rcases nextL_spec all mark all 0 (-1) rfl (.inl rfl) (fun _ j hj => absurd hj (by omega)) with ⟨h, hb⟩ | h
  · refine .inl ⟨h, fun z hz ht => ?_⟩
    obtain ⟨j, hj, rfl⟩ := List.mem_iff_getElem.1 hz
    have := hb j hj
    rw [rAt_get _ _ hj] at this
    exact this ht
  · exact .inr h
theorem nextR_range (all : List RIt) (mark : Int) : -1 ≤ nextR all mark ∧ nextR all mark < (all.length : Int) := by
  rcases nextR_spec all mark with ⟨h, _⟩ | ⟨h1, h2, _, _⟩ <;> omega
theorem turn_none (mark ticks : Int) (all : List RIt) (h : ∀ z, z ∈ all → z.tick = 0 → mark < z.t) : all.map (turnT mark ticks) = all := by
  conv => rhs; rw [← List.map_id all]
  refine List.map_congr_left fun z hz => ?_
  unfold turnT
  rw [if_neg (fun hc => by have := h z hz hc.1; omega)]
  rfl
theorem turn_one (mark ticks : Int) (ht : ticks ≠ 0) (all : List RIt) (k : Nat) (hk : k < all.length) (h0 : (rAt all k).tick = 0) (h1 : (rAt all k).t ≤ mark) : (tickAt all k ticks).map (turnT mark ticks) = all.map (turnT mark ticks) := by
  unfold tickAt
  rw [List.map_set]
  have e1 : turnT mark ticks (rAt all k) = { rAt all k with tick := ticks } := by unfold turnT; rw [if_pos ⟨h0, h1⟩]
  have e2 : turnT mark ticks { rAt all k with tick := ticks } = { rAt all k with tick := ticks } := by unfold turnT; rw [if_neg (fun h => ht h.1)]
  rw [e2, ← e1, rAt_get _ _ hk]
  apply List.ext_getElem?
  intro j
  rw [List.getElem?_set]
  by_cases hj : k = j
  · subst hj; simp [hk]
  · rw [if_neg hj]
theorem wait_one (ticks : Int) (ht : ticks ≠ 0) (all : List RIt) (k : Nat) (hk : k < all.length) (h0 : (rAt all k).tick = 0) : (waitT (tickAt all k ticks)).length + 1 = (waitT all).length := by
  unfold tickAt waitT
  rw [rAt_get _ _ hk] at h0 ⊢
  rw [List.set_eq_take_append_cons_drop, if_pos hk]
  conv => rhs; rw [← List.take_append_drop k all, List.drop_eq_getElem_cons hk]
  rw [List.filter_append, List.filter_append, List.filter_cons, List.filter_cons]
  simp [ht, h0]
  omega
theorem releaseR_spec (mark ticks : Int) (ht : ticks ≠ 0) (f : Nat) : ∀ y : RSer, (waitT y.items).length < f →
    (releaseR f y mark ticks).items = y.items.map (turnT mark ticks) ∧ (releaseR f y mark ticks).id = y.id ∧ (releaseR f y mark ticks).c = y.c ∧ (releaseR f y mark ticks).ref = y.ref := by
  induction f with
  | zero => intro y h; omega
  | succ f ih =>
    intro y hf
    unfold releaseR
    rcases nextR_spec y.items mark with ⟨h, hb⟩ | ⟨h1, h2, h3, h4⟩
    · rw [if_pos (by omega)]
      exact ⟨(turn_none mark ticks _ hb).symm, rfl, rfl, rfl⟩
    · rw [if_neg (by omega)]
      have hw := wait_one ticks ht y.items _ h2 h3
      obtain ⟨i1, i2, i3, i4⟩ := ih { y with items := tickAt y.items (nextR y.items mark).toNat ticks, events := y.events ++ [⟨(rAt y.items (nextR y.items mark).toNat).t, mark, false, 0⟩] } (by show (waitT (tickAt _ _ _)).length < f; omega)
      exact ⟨i1.trans (turn_one mark ticks ht _ _ h2 h3 h4), i2, i3, i4⟩

end Go.Proofs.YtjhaihbjhikhlaaGreat
