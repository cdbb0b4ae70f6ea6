import Derived.Test.YtahnliehdjncdaaGreatDoorXBU
set_option maxRecDepth 100000
set_option maxHeartbeats 16000000
namespace Go.Proofs.YtahnliehdjncdaaGreatDoor
def isM (v : Int) (p : Int → Prop) : Prop := (v = 0 ∧ ∀ k, ¬ p k) ∨ (p v ∧ ∀ k, p k → k ≤ v)
theorem isM.to {v : Int} {p q : Int → Prop} (h : isM v p) (h1 : ∀ k, p k → q k) (h2 : ∀ k, q k → ∃ k', p k' ∧ k ≤ k') : isM v q := by
 rcases h with ⟨h, hn⟩ | ⟨h, hm⟩
 ·left
  refine ⟨h, fun k hk => ?_⟩
  obtain ⟨k', hp, _⟩ := h2 k hk
  exact hn k' hp
 ·right
  refine ⟨h1 v h, fun k hk => ?_⟩
  obtain ⟨k', hp, hle⟩ := h2 k hk
  have := hm k' hp
  omega
def rkI (c : Cfg) (n : Nat) (r : It) : Int := rankD (hashD c.s00 c.s01 r.k / n)
def hasK (c : Cfg) (n : Nat) (R : List It) (T : Int) (j : Nat) (k : Int) : Prop := ∃ r ∈ R, T < r.t ∧ regI c n r.k = j ∧ rkI c n r = k
def SortB (l : List Bk) : Prop := l.Pairwise (fun a b => a.sz < b.sz ∧ b.t < a.t)
theorem past_split (l : List Bk) (T : Int) : (∀ b ∈ l.take (Mk.pastN l T), b.sz ≤ T) ∧ (SortB l → ∀ b ∈ l.drop (Mk.pastN l T), T < b.sz) := by
 induction l with
 | nil => exact ⟨fun b hb => by simp at hb, fun _ b hb => by simp at hb⟩
 | cons a l ih =>
  unfold Mk.pastN at *
  rw [List.takeWhile_cons]
  split
  ·rename_i ha
   have ha' : a.sz ≤ T := by simpa using ha
   rw [List.length_cons, List.take_succ_cons, List.drop_succ_cons]
   refine ⟨fun b hb => ?_, fun hs => ih.2 (List.pairwise_cons.1 hs).2⟩
   rcases List.mem_cons.1 hb with e | e
   ·rw [e]; exact ha'
   ·exact ih.1 b e
  ·rename_i ha
   have ha' : T < a.sz := by simpa using ha
   refine ⟨fun b hb => by simp at hb, fun hs b hb => ?_⟩
   rw [List.length_nil, List.drop_zero] at hb
   rcases List.mem_cons.1 hb with e | e
   ·rw [e]; exact ha'
   ·have := (List.pairwise_cons.1 hs).1 b e; omega
theorem great_is (l : List Bk) (hs : SortB l) (T : Int) : isM (greatD l T) (fun k => ∃ b ∈ l, T < b.sz ∧ b.t = k) := by
 obtain ⟨h1, h2⟩ := past_split l T
 have h2 := h2 hs
 unfold greatD
 have hle := Mk.pastN_le l T
 by_cases h : Mk.pastN l T = l.length
 ·rw [if_pos h]
  left
  refine ⟨rfl, fun k hk => ?_⟩
  obtain ⟨b, hb, hT, _⟩ := hk
  rw [h, List.take_length] at h1
  have := h1 b hb
  omega
 ·rw [if_neg h]
  right
  have hlt : Mk.pastN l T < l.length := by omega
  have hd : l.drop (Mk.pastN l T) = bkAt l (Mk.pastN l T) :: l.drop (Mk.pastN l T + 1) := by
   rw [List.drop_eq_getElem_cons hlt]
   congr 1
   simp [bkAt, List.getD_eq_getElem?_getD, List.getElem?_eq_getElem hlt]
  have hm : bkAt l (Mk.pastN l T) ∈ l.drop (Mk.pastN l T) := by rw [hd]; simp
  refine ⟨⟨_, List.mem_of_mem_drop hm, h2 _ hm, rfl⟩, fun k hk => ?_⟩
  obtain ⟨b, hb, hT, rfl⟩ := hk
  have hb' : b ∈ l.drop (Mk.pastN l T) := by
   rw [← List.take_append_drop (Mk.pastN l T) l] at hb
   rcases List.mem_append.1 hb with e | e
   ·have := h1 b e; omega
   ·exact e
  have hs2 : SortB (l.drop (Mk.pastN l T)) := List.Pairwise.sublist (List.drop_sublist _ _) hs
  rw [hd] at hs2 hb'
  rcases List.mem_cons.1 hb' with e | e
  ·rw [e]; exact Int.le_refl _
  ·have := (List.pairwise_cons.1 hs2).1 b e; omega
theorem dropT_or (r : Int) (l : List Bk) : ∀ b ∈ l, b ∈ dropT r l ∨ b.t ≤ r := by
 intro b hb
 unfold dropT
 have hb' : b ∈ l.reverse := List.mem_reverse.2 hb
 rw [← List.takeWhile_append_dropWhile (p := fun b : Bk => decide (b.t ≤ r)) (l := l.reverse)] at hb'
 rcases List.mem_append.1 hb' with e | e
 ·right
  have : ∀ (l : List Bk), b ∈ l.takeWhile (fun b : Bk => decide (b.t ≤ r)) → b.t ≤ r := by
   intro l
   induction l with
   | nil => intro h; simp at h
   | cons a l ih =>
    intro h
    rw [List.takeWhile_cons] at h
    split at h
    ·rename_i ha
     rcases List.mem_cons.1 h with e | e
     ·rw [e]; simpa using ha
     ·exact ih e
    ·simp at h
  exact this _ e
 ·exact .inl (List.mem_reverse.2 e)
theorem dropT_last (r : Int) (l : List Bk) (h : 0 < (dropT r l).length) : r < (bkAt (dropT r l) ((dropT r l).length - 1)).t := by
 by_cases hl : 0 < l.length
 ·by_cases hb : (bkAt l (l.length - 1)).t ≤ r
  ·have e := dropT_step hl hb
   rw [e] at h ⊢
   have : (l.take (l.length - 1)).length < l.length := by rw [List.length_take]; omega
   exact dropT_last r (l.take (l.length - 1)) h
  ·rw [dropT_stop hl hb]; omega
 ·have : l = [] := List.eq_nil_of_length_eq_zero (by omega)
  rw [this] at h; simp [dropT_nil] at h
termination_by l.length
theorem keep_dom {l : List Bk} {x : Bk} (hle : ∀ b ∈ l, b.sz ≤ x.sz) (b : Bk) (hb : b ∈ l ∨ b = x) : ∃ b' ∈ keepL l x, b.t ≤ b'.t ∧ b.sz ≤ b'.sz := by
 unfold keepL
 by_cases h : 0 < (dropT x.t l).length ∧ (bkAt (dropT x.t l) ((dropT x.t l).length - 1)).sz = x.sz
 ·rw [if_pos h]
  have hm : bkAt (dropT x.t l) ((dropT x.t l).length - 1) ∈ dropT x.t l := by
   have h1 : (dropT x.t l).length - 1 < (dropT x.t l).length := by omega
   simp [bkAt, List.getD_eq_getElem?_getD, List.getElem?_eq_getElem h1]
  have hlast := dropT_last x.t l h.1
  rcases hb with hb | hb
  ·rcases dropT_or x.t l b hb with e | e
   ·exact ⟨b, e, Int.le_refl _, Int.le_refl _⟩
   ·exact ⟨_, hm, by omega, by rw [h.2]; exact hle b hb⟩
  ·exact ⟨_, hm, by rw [hb]; omega, by rw [hb, h.2]; exact Int.le_refl _⟩
 ·rw [if_neg h]
  rcases hb with hb | hb
  ·rcases dropT_or x.t l b hb with e | e
   ·exact ⟨b, by simp [e], Int.le_refl _, Int.le_refl _⟩
   ·exact ⟨x, by simp, e, hle b hb⟩
  ·exact ⟨x, by simp, by rw [hb]; exact Int.le_refl _, by rw [hb]; exact Int.le_refl _⟩
theorem keep_sort {l : List Bk} {x : Bk} (hs : SortB l) (hle : ∀ b ∈ l, b.sz ≤ x.sz) : SortB (keepL l x) := by
 obtain ⟨k, hk, _⟩ := dropT_pre x.t l
 have hs2 : SortB (dropT x.t l) := by rw [hk]; exact List.Pairwise.sublist (List.take_sublist _ _) hs
 have hsub : ∀ b ∈ dropT x.t l, b ∈ l := fun b hb => by rw [hk] at hb; exact List.mem_of_mem_take hb
 unfold keepL
 by_cases h : 0 < (dropT x.t l).length ∧ (bkAt (dropT x.t l) ((dropT x.t l).length - 1)).sz = x.sz
 ·rw [if_pos h]; exact hs2
 ·rw [if_neg h]
  refine List.pairwise_append.2 ⟨hs2, by simp, fun a ha b hb => ?_⟩
  rw [List.mem_singleton] at hb
  subst hb
  have hpos : 0 < (dropT b.t l).length := List.length_pos_of_mem ha
  have hlast := dropT_last b.t l hpos
  have hne : (bkAt (dropT b.t l) ((dropT b.t l).length - 1)).sz ≠ b.sz := fun e => h ⟨hpos, e⟩
  have hm : bkAt (dropT b.t l) ((dropT b.t l).length - 1) ∈ dropT b.t l := by
   have h1 : (dropT b.t l).length - 1 < (dropT b.t l).length := by omega
   simp [bkAt, List.getD_eq_getElem?_getD, List.getElem?_eq_getElem h1]
  have hlz := hle _ (hsub _ hm)
  have hsp := last_split (dropT b.t l) hpos
  generalize bkAt (dropT b.t l) ((dropT b.t l).length - 1) = z at *
  generalize (dropT b.t l).take ((dropT b.t l).length - 1) = fr at *
  rw [hsp] at ha hs2
  rcases List.mem_append.1 ha with e | e
  ·have := (List.pairwise_append.1 hs2).2.2 a e z (by simp); omega
  ·rw [List.mem_singleton] at e; rw [e]; omega
structure DG (c : Cfg) (n : Nat) (m : Int) (ls : Nat → List Bk) (R : List It) : Prop where
 srt : ∀ j, SortB (ls j)
 src : ∀ j, ∀ b ∈ ls j, ∃ r ∈ R, r.t = b.sz ∧ regI c n r.k = j ∧ rkI c n r = b.t
 ex : ∀ j T, m - c.window ≤ T → isM (greatD (ls j) T) (hasK c n R T j)
theorem DG.rel {c : Cfg} {n : Nat} {m : Int} {ls : Nat → List Bk} {R : List It} (h : DG c n m ls R) (y : It) (hy : ∀ r ∈ R, r.t ≤ y.t) : DG c n m (relD c n ls y m) (R ++ [y]) := by
 have hsub : ∀ j T k, hasK c n R T j k → hasK c n (R ++ [y]) T j k := fun j T k ⟨r, hr, h1⟩ => ⟨r, by simp [hr], h1⟩
 have hl1 : ∀ b ∈ (ls (regI c n y.k)).drop (Mk.pastN (ls (regI c n y.k)) (m - c.window)), b.sz ≤ y.t := fun b hb => by
  obtain ⟨r, hr, h1, _⟩ := h.src _ b (List.mem_of_mem_drop hb)
  rw [← h1]; exact hy r hr
 have hs1 : SortB ((ls (regI c n y.k)).drop (Mk.pastN (ls (regI c n y.k)) (m - c.window))) := List.Pairwise.sublist (List.drop_sublist _ _) (h.srt _)
 refine ⟨fun j => ?_, fun j b hb => ?_, fun j T hT => ?_⟩
 ·unfold relD
  split
  ·rename_i hj
   rw [hj]
   exact keep_sort hs1 hl1
  ·exact h.srt j
 ·unfold relD at hb
  split at hb
  ·rename_i hj
   rcases keepL_mem hb with e | e
   ·obtain ⟨r, hr, h1⟩ := h.src j b (List.mem_of_mem_drop e)
    exact ⟨r, by simp [hr], h1⟩
   ·rw [e]; exact ⟨y, by simp, rfl, hj.symm, rfl⟩
  ·obtain ⟨r, hr, h1⟩ := h.src j b hb
   exact ⟨r, by simp [hr], h1⟩
 ·by_cases hj : j = regI c n y.k
  ·subst hj
   have e : relD c n ls y m (regI c n y.k) = keepL ((ls (regI c n y.k)).drop (Mk.pastN (ls (regI c n y.k)) (m - c.window))) ⟨y.t, rkI c n y⟩ := by unfold relD; rw [if_pos rfl]; rfl
   rw [e]
   refine (great_is _ (keep_sort hs1 hl1) T).to (fun k ⟨b, hb, hbT, hbk⟩ => ?_) (fun k ⟨r, hr, hrT, hrj, hrk⟩ => ?_)
   ·rcases keepL_mem hb with e2 | e2
    ·obtain ⟨r, hr, h1, h2, h3⟩ := h.src _ b (List.mem_of_mem_drop e2)
     exact ⟨r, by simp [hr], by rw [h1]; exact hbT, h2, h3.trans hbk⟩
    ·subst e2; exact ⟨y, by simp, hbT, rfl, hbk⟩
   ·have key : ∃ b, (b ∈ (ls (regI c n y.k)).drop (Mk.pastN (ls (regI c n y.k)) (m - c.window)) ∨ b = ⟨y.t, rkI c n y⟩) ∧ T < b.sz ∧ k ≤ b.t := by
     rcases List.mem_append.1 hr with hr | hr
     ·have hk0 := (rankD_bd (hashD c.s00 c.s01 r.k / n)).1
      have hk1 : 1 ≤ k := by rw [← hrk]; exact hk0
      have hold : hasK c n R T (regI c n y.k) k := ⟨r, hr, hrT, hrj, hrk⟩
      have hv : k ≤ greatD (ls (regI c n y.k)) T := by
       rcases h.ex (regI c n y.k) T hT with ⟨_, hn⟩ | ⟨_, hm⟩
       ·exact absurd hold (hn k)
       ·exact hm k hold
      rcases great_is (ls (regI c n y.k)) (h.srt _) T with ⟨h0, _⟩ | ⟨⟨b, hb, hbT, hbk⟩, _⟩
      ·omega
      ·refine ⟨b, .inl ?_, hbT, by omega⟩
       rw [← List.take_append_drop (Mk.pastN (ls (regI c n y.k)) (m - c.window)) (ls (regI c n y.k))] at hb
       rcases List.mem_append.1 hb with e2 | e2
       ·have := (past_split (ls (regI c n y.k)) (m - c.window)).1 b e2; omega
       ·exact e2
     ·rw [List.mem_singleton] at hr
      subst hr
      exact ⟨_, .inr rfl, hrT, by show k ≤ rkI c n r; omega⟩
    obtain ⟨b, hb, hbT, hbk⟩ := key
    obtain ⟨b', hb', h1, h2⟩ := keep_dom hl1 b hb
    exact ⟨b'.t, ⟨b', hb', by omega, rfl⟩, by omega⟩
  ·have e : relD c n ls y m j = ls j := by unfold relD; rw [if_neg hj]
   rw [e]
   refine (h.ex j T hT).to (fun k hk => hsub _ _ _ hk) (fun k ⟨r, hr, hrT, hrj, hrk⟩ => ⟨k, ⟨r, ?_, hrT, hrj, hrk⟩, Int.le_refl _⟩)
   rcases List.mem_append.1 hr with hr | hr
   ·exact hr
   ·rw [List.mem_singleton] at hr; rw [hr] at hrj; exact absurd hrj.symm hj
def PD (c : Cfg) (m : Int) (nt : Note) (R : List It) : Prop := DG c (regN c) m nt.rg R
theorem PD_law : NLaw 2 PD where
 zero := fun c m _ _ => ⟨fun j => List.Pairwise.nil, fun j b hb => by simp [note0] at hb, fun j T _ => .inl ⟨rfl, fun k hk => by obtain ⟨r, hr, _⟩ := hk; simp at hr⟩⟩
 later := fun c m m' nt R _ _ hm h => ⟨h.srt, h.src, fun j T hT => h.ex j T (by omega)⟩
 rel := fun c m nt R y hv hk h hr hy _ => DG.rel h y (fun r hrm => by have := (hr r hrm).2.1; unfold leP at this; omega)
 swp := fun c m nt R b _ _ h => h
end Go.Proofs.YtahnliehdjncdaaGreatDoor
namespace Go.Proofs.YtahnliehdjncdaaGreatDoor
def posN (l : List Int) : Nat := (l.filter (fun g => decide (0 < g))).length
theorem posN_snoc (l : List Int) (g : Int) : posN (l ++ [g]) = posN l + if decide (0 < g) = true then 1 else 0 := by
 unfold posN
 rw [List.filter_append, List.length_append, List.filter_cons]
 by_cases h : decide (0 < g) = true
 ·rw [if_pos h, if_pos h]; simp
 ·rw [if_neg h, if_neg h]; simp
theorem nodup_len (l : List Nat) : ∀ S : List Nat, l.Nodup → (∀ x ∈ l, x ∈ S) → l.length ≤ S.length := by
 induction l with
 | nil => intro S _ _; simp
 | cons x l ih =>
  intro S hn hs
  have hx := hs x (by simp)
  have hn2 := List.nodup_cons.1 hn
  have h1 := ih (S.erase x) hn2.2 (fun y hy => (List.mem_erase_of_ne (fun e => hn2.1 (by rw [← e]; exact hy))).2 (hs y (by simp [hy])))
  rw [List.length_erase_of_mem hx] at h1
  have := List.length_pos_of_mem hx
  simp only [List.length_cons]; omega
theorem posN_greats (ls : Nat → List Bk) (n : Nat) (T : Int) : posN (greats ls n T) = ((List.range n).filter (fun i => decide (0 < greatD (ls i) T))).length := by
 unfold posN greats
 rw [List.filter_map, List.length_map]; rfl
theorem DG.pos {c : Cfg} {n : Nat} {m : Int} {ls : Nat → List Bk} {R : List It} (h : DG c n m ls R) (hn : 1 ≤ n) (T : Int) (hT : m - c.window ≤ T) :
  posN (greats ls n T) ≤ (R.filter (fun y => decide (T < y.t))).length ∧ (0 < (R.filter (fun y => decide (T < y.t))).length → 0 < posN (greats ls n T)) := by
 rw [posN_greats]
 refine ⟨?_, fun hp => ?_⟩
 ·have := nodup_len ((List.range n).filter (fun i => decide (0 < greatD (ls i) T))) ((R.filter (fun y => decide (T < y.t))).map (fun r => regI c n r.k)) (List.Nodup.sublist List.filter_sublist List.nodup_range) (fun i hi => ?_)
  ·rwa [List.length_map] at this
  ·have hi2 := (List.mem_filter.1 hi).2
   have hg : 0 < greatD (ls i) T := by simpa using hi2
   rcases h.ex i T hT with ⟨h0, _⟩ | ⟨⟨r, hr, hrT, hri, _⟩, _⟩
   ·omega
   ·exact List.mem_map.2 ⟨r, List.mem_filter.2 ⟨hr, by simpa using hrT⟩, hri⟩
 ·obtain ⟨r, hr⟩ := List.exists_mem_of_length_pos hp
  obtain ⟨hrm, hrT⟩ := List.mem_filter.1 hr
  have hrT' : T < r.t := by simpa using hrT
  have hlt : regI c n r.k < n := by
   unfold regI
   have := Int.emod_lt_of_pos (hashD c.s00 c.s01 r.k) (b := (n : Int)) (by omega)
   have := Int.emod_nonneg (hashD c.s00 c.s01 r.k) (b := (n : Int)) (by omega)
   omega
  have hk : hasK c n R T (regI c n r.k) (rkI c n r) := ⟨r, hrm, hrT', rfl, rfl⟩
  have hg : 0 < greatD (ls (regI c n r.k)) T := by
   have h1 : 1 ≤ rkI c n r := (rankD_bd _).1
   rcases h.ex (regI c n r.k) T hT with ⟨_, hno⟩ | ⟨_, hm⟩
   ·exact absurd hk (hno _)
   ·have := hm _ hk; omega
  exact List.length_pos_of_mem (List.mem_filter.2 ⟨List.mem_range.2 hlt, by simpa using hg⟩)
theorem DG.wider {c : Cfg} {n : Nat} {m : Int} {ls : Nat → List Bk} {R : List It} (h : DG c n m ls R) (T T' : Int) (hT : m - c.window ≤ T) (hle : T ≤ T') (j : Nat) : greatD (ls j) T' ≤ greatD (ls j) T := by
 rcases h.ex j T' (by omega) with ⟨h0, _⟩ | ⟨⟨r, hr, hrT, hrj, hrk⟩, _⟩
 ·rw [h0]
  rcases h.ex j T hT with ⟨h1, _⟩ | ⟨⟨r, _, _, _, hrk⟩, _⟩
  ·omega
  ·rw [← hrk]; have := (rankD_bd (hashD c.s00 c.s01 r.k / n)).1; unfold rkI; omega
 ·rcases h.ex j T hT with ⟨_, hno⟩ | ⟨_, hm⟩
  ·exact absurd ⟨r, hr, by omega, hrj, hrk⟩ (hno (greatD (ls j) T'))
  ·exact hm _ ⟨r, hr, by omega, hrj, hrk⟩
theorem take_queries (t : List OpM) (i : Nat) : ∀ j, i ≤ j → j ≤ t.length → (∀ k, i ≤ k → k < j → (opAt t k).kind = 4) → endM ws0 (t.take j) = endM ws0 (t.take i) := by
 intro j
 induction j with
 | zero =>
  intro hij _ _
  have : i = 0 := by omega
  subst this
  rfl
 | succ j ih =>
  intro hij hjl hq
  by_cases h : i = j + 1
  ·rw [h]
  ·have hj : j < t.length := by omega
   rw [take_opAt hj, endM_snoc, ih (by omega) (by omega) (fun k h1 h2 => hq k h1 (by omega))]
   have h4 := hq j (by omega) (by omega)
   unfold stepM
   rw [if_neg (by omega), if_neg (by omega), if_neg (by omega), if_pos h4]
   unfold queryM
   split <;> rfl
theorem windows_data (t : List OpM) (hok : OkRun t) (i : Nat) (hi : i < t.length) (h4 : (opAt t i).kind = 4) (c : Cfg) (hc : configD t (codesOf t) (opAt t i).id i = some c) (hk : c.kind = 2) (h0 : codeAt (codesOf t) i = 0) :
  (0 ≤ clockD t (codesOf t) i ∧ clockD t (codesOf t) i ≤ 4611686018427387904) ∧ (0 ≤ c.lag ∧ c.lag ≤ 100) ∧ (1 ≤ c.bits ∧ c.bits ≤ 4) ∧ (1 ≤ (opAt t i).a ∧ (opAt t i).a ≤ 1000) ∧
  ∃ (G : List Int) (e : Int), (runM ws0 t)[i]? = some (0, G ++ [e]) ∧ G.length = 2 ^ c.bits.toNat ∧
   posN G ≤ (itemsD t (codesOf t) (opAt t i).id (clockD t (codesOf t) i - c.lag - (opAt t i).a) (clockD t (codesOf t) i - c.lag) i).length ∧
   (0 < (itemsD t (codesOf t) (opAt t i).id (clockD t (codesOf t) i - c.lag - (opAt t i).a) (clockD t (codesOf t) i - c.lag) i).length → 0 < posN G) ∧
   ∀ j, i ≤ j → j < t.length → (∀ k, i ≤ k → k ≤ j → (opAt t k).kind = 4) → (opAt t j).id = (opAt t i).id → codeAt (codesOf t) j = 0 →
    ∃ (H : List Int) (e' : Int), (runM ws0 t)[j]? = some (0, H ++ [e']) ∧ H.length = 2 ^ c.bits.toNat ∧ ((opAt t j).a ≤ (opAt t i).a → ∀ k, k < 2 ^ c.bits.toNat → H.getD k 0 ≤ G.getD k 0) ∧ ((opAt t i).a ≤ (opAt t j).a → ∀ k, k < 2 ^ c.bits.toNat → G.getD k 0 ≤ H.getD k 0) := by
 obtain ⟨b1, b2, hv, x, R, L, A, hfx, hxc, hxk, hans, hP, hs, hR, hL, hperm, hAl, _, hA⟩ := ask_data PD_law t hok i hi h4 c hc hk
 obtain ⟨_, bt1, bt2, w1, w2⟩ := valid_distinct (k := 2) hv hk rfl
 have hcode := codeAt_is t i hi
 rw [h0] at hcode
 have hq : ∀ a m, qryN 2 c x.nt a m = qryD c (regN c) x.nt.rg a m := fun a m => by unfold qryN; rw [if_neg (by omega), if_neg (by omega), if_pos rfl]
 rw [hq] at hans
 have hn1 : 1 ≤ regN c := Nat.one_le_two_pow
 have hin : inB (opAt t i).a 1 c.window = true := by
  cases hb : inB (opAt t i).a 1 c.window with
  | true => rfl
  | false =>
   exfalso
   have h1 := runM_at ws0 t i _ (opAt_get hi)
   rw [hans] at h1
   unfold qryD at h1
   rw [hb] at h1
   simp at h1
   rw [← h1] at hcode
   simp at hcode
 have hab := inB_iff hin
 have hat : ∀ a, inB a 1 c.window = true → qryD c (regN c) x.nt.rg a (clockD t (codesOf t) i - c.lag) = (0, greats x.nt.rg (regN c) (clockD t (codesOf t) i - c.lag - a) ++ [7 * (regN c) * (regN c) * 1099511627776 / (10 * sumG (greats x.nt.rg (regN c) (clockD t (codesOf t) i - c.lag - a)))]) := fun a ha => by unfold qryD; rw [if_pos ha]
 rw [hat _ hin] at hans
 have hgd : ∀ T k, k < regN c → (greats x.nt.rg (regN c) T).getD k 0 = greatD (x.nt.rg k) T := fun T k hk => by
  rw [List.getD_eq_getElem?_getD, List.getElem?_eq_getElem (by rw [greats_length]; exact hk)]
  simp [greats]
 have hitems := itemsI_is t (opAt t i).id (clockD t (codesOf t) i - c.lag - (opAt t i).a) (clockD t (codesOf t) i - c.lag) i (by omega)
 rw [← hA] at hitems
 have h3 := congrArg List.length hitems
 rw [List.length_map, List.length_map, (items_rel (fr := clockD t (codesOf t) i - c.lag - (opAt t i).a) hperm (fun r hr => (hR r hr).1) hL).length_eq] at h3
 have hpos := DG.pos hP hn1 (clockD t (codesOf t) i - c.lag - (opAt t i).a) (by omega)
 refine ⟨b1, b2, ⟨bt1, bt2⟩, ⟨hab.1, by omega⟩, _, _, hans, greats_length _ _ _, by rw [h3]; exact hpos.1, by rw [h3]; exact hpos.2, fun j hij hj hqs hid hcj => ?_⟩
 have hsame := take_queries t i j hij (by omega) (fun k h1 h2 => hqs k h1 (by omega))
 have h4j := hqs j hij (Nat.le_refl _)
 have hansj := runM_at ws0 t j _ (opAt_get hj)
 have hstep : stepM (endM ws0 (t.take j)) (opAt t j) = (endM ws0 (t.take j), qryD c (regN c) x.nt.rg (opAt t j).a (clockD t (codesOf t) i - c.lag)) := by
  unfold stepM
  rw [if_neg (by omega), if_neg (by omega), if_neg (by omega), if_pos h4j]
  unfold queryM
  rw [hsame, hid, hfx]
  simp only [hxk, hxc, hq]
  rw [clockD_is t hok i (by omega)]
 have hcodej := codeAt_is t j hj
 rw [hcj, hstep] at hcodej
 rw [hstep] at hansj
 have hinj : inB (opAt t j).a 1 c.window = true := by
  cases hb : inB (opAt t j).a 1 c.window with
  | true => rfl
  | false =>
   exfalso
   unfold qryD at hcodej
   rw [hb] at hcodej
   simp at hcodej
 have habj := inB_iff hinj
 rw [hat _ hinj] at hansj
 refine ⟨_, _, hansj, greats_length _ _ _, fun hle k hk => ?_, fun hle k hk => ?_⟩
 ·rw [hgd _ k hk, hgd _ k hk]
  exact DG.wider hP _ _ (by omega) (by omega) k
 ·rw [hgd _ k hk, hgd _ k hk]
  exact DG.wider hP _ _ (by omega) (by omega) k
end Go.Proofs.YtahnliehdjncdaaGreatDoor
