import Derived.Test.YtahnliehdjncdaaGreatDoorXBC
import Derived.Test.YtahnliehdjncdaaGreatDoorXAI
set_option maxRecDepth 100000
set_option maxHeartbeats 16000000
namespace Go.Proofs.YtahnliehdjncdaaGreatDoor
open Go.RowKit
theorem start_any (c : Cfg) (k : Nat) (w : World) (h1 : 1 ≤ k) (h5 : k ≤ 5) (hv : validB c = true) (hkd : c.kind = k) :
  Calls Tryz.prog (startF k) #[c.val] w fun e w' => ∃ b : NB, e = .returned (.agg #[relV k b.d, qryV k b.d, swpV k b.d, savV k b.d, lodV k b.d]) ∧ (∀ i, nfoot k b i → w.heap.size ≤ i) ∧ NRep w' k b c note0 ∧ Keeps (fun _ => False) w w' := by
 rcases five h1 h5 with hk | hk | hk | hk | hk
 ·subst hk
  refine (startCount_any c w).mono ?_
  rintro e w' ⟨d, r, rfl, hd, hr, hc, hk⟩
  refine ⟨⟨d, r, none, []⟩, rfl, ?_, ⟨(fun h => by omega), (fun _ => hc), (fun h => by omega), (fun h => by omega), (fun h => by omega)⟩, hk⟩
  rintro i (⟨_, hi | hi | hi⟩ | ⟨h4, _⟩ | ⟨h4, _⟩ | ⟨h4, _⟩ | ⟨h4, _⟩)
  ·have : i = d := hi; omega
  ·have : i = r := hi; omega
  ·cases hi
  all_goals omega
 ·subst hk
  obtain ⟨a1, a2, a3, a4, a5⟩ := valid_distinct hv hkd rfl
  refine (startDistinct_any c (regN c) w (by omega) a3 rfl).mono ?_
  rintro e w' ⟨d, rg, qs, rfl, hd, hr, hq, hn, hc, hk⟩
  refine ⟨⟨d, rg, none, qs⟩, rfl, ?_, ⟨(fun h => by omega), (fun h => by omega), (fun _ => ⟨hc, hn⟩), (fun h => by omega), (fun h => by omega)⟩, hk⟩
  rintro i (⟨h4, _⟩ | ⟨h4, _⟩ | ⟨_, hi | hi | ⟨j, hj, hi⟩⟩ | ⟨h4, _⟩ | ⟨h4, _⟩)
  ·omega
  ·omega
  ·have : i = d := hi; omega
  ·have : i = rg := hi; omega
  ·exact hq j i hj hi
  all_goals omega
 ·subst hk
  refine (startOften_any c w).mono ?_
  rintro e w' ⟨d, r, rfl, hd, hr, hc, hk⟩
  refine ⟨⟨d, r, none, []⟩, rfl, ?_, ⟨(fun h => by omega), (fun h => by omega), (fun h => by omega), (fun _ => hc), (fun h => by omega)⟩, hk⟩
  rintro i (⟨h4, _⟩ | ⟨h4, _⟩ | ⟨h4, _⟩ | ⟨_, hi | hi | hi⟩ | ⟨h4, _⟩)
  ·omega
  ·omega
  ·omega
  ·have : i = d := hi; omega
  ·have : i = r := hi; omega
  ·cases hi
  ·omega
 ·subst hk
  refine (startDecay_any c w).mono ?_
  rintro e w' ⟨d, rfl, hd, hb, hk⟩
  refine ⟨⟨d, 0, none, []⟩, rfl, ?_, ⟨(fun _ => hb), (fun h => by omega), (fun h => by omega), (fun h => by omega), (fun h => by omega)⟩, hk⟩
  rintro i (⟨h4, _⟩ | ⟨_, hi⟩ | ⟨h4, _⟩ | ⟨h4, _⟩ | ⟨h4, _⟩)
  ·omega
  ·have : i = d := hi; omega
  all_goals omega
 ·subst hk
  refine (startDrawn_any c w).mono ?_
  rintro e w' ⟨d, r, rfl, hd, hr, hc, hk⟩
  refine ⟨⟨d, r, none, []⟩, rfl, ?_, ⟨(fun h => by omega), (fun h => by omega), (fun h => by omega), (fun h => by omega), (fun _ => hc)⟩, hk⟩
  rintro i (⟨h4, _⟩ | ⟨h4, _⟩ | ⟨h4, _⟩ | ⟨h4, _⟩ | ⟨_, hi | hi | hi⟩)
  ·omega
  ·omega
  ·omega
  ·omega
  ·have : i = d := hi; omega
  ·have : i = r := hi; omega
  ·cases hi
end Go.Proofs.YtahnliehdjncdaaGreatDoor
namespace Go.Proofs.YtahnliehdjncdaaGreatDoor
def leP (a b : It) : Prop := a.t < b.t ∨ (a.t = b.t ∧ a.n ≤ b.n)
theorem leP.refl (a : It) : leP a a := .inr ⟨rfl, Int.le_refl _⟩
theorem leP.trans {a b c : It} (h : leP a b) (k : leP b c) : leP a c := by
 unfold leP at *; omega
theorem ahead_leP {a b : It} (h : aheadB a b = true) : leP a b := by
 unfold aheadB at h; unfold leP
 split at h
 ·rename_i he; simp at h; omega
 ·simp at h; omega
theorem not_ahead_leP {a b : It} (h : aheadB a b = false) : leP b a := by
 unfold aheadB at h; unfold leP
 split at h
 ·rename_i he; simp at h; omega
 ·simp at h; omega
def HeapL (l : List It) : Prop := ∀ i, 0 < i → i < l.length → leP (itAt l ((i - 1) / 2)) (itAt l i)
theorem itAt_swap (l : List It) (i j k : Nat) (hi : i < l.length) (hj : j < l.length) (hk : k < l.length) :
  itAt (swapL l i j) k = if k = j then itAt l i else if k = i then itAt l j else itAt l k := by
 unfold swapL itAt
 rw [List.getD_eq_getElem?_getD, List.getElem?_set]
 by_cases h1 : j = k
 ·subst h1; simp [hj]
 ·rw [if_neg h1, if_neg (Ne.symm h1), List.getElem?_set]
  by_cases h2 : i = k
  ·subst h2; simp [hi]
  ·rw [if_neg h2, if_neg (Ne.symm h2), List.getD_eq_getElem?_getD]
structure RiseAt (l : List It) (i : Nat) : Prop where
 up : ∀ j, 0 < j → j < l.length → j ≠ i → leP (itAt l ((j - 1) / 2)) (itAt l j)
 over : ∀ c, 0 < i → c < l.length → 0 < c → (c - 1) / 2 = i → leP (itAt l ((i - 1) / 2)) (itAt l c)
theorem riseL_heap (f : Nat) : ∀ (l : List It) (i : Nat), i < l.length → i < f → RiseAt l i → HeapL (riseL f l i) := by
 induction f with
 | zero => intro l i _ h; omega
 | succ f ih =>
  intro l i hl hf h
  unfold riseL
  split
  ·rename_i h0
   intro j hj hjl
   exact h.up j hj hjl (by omega)
  ·rename_i h0
   split
   ·rename_i ha
    have hle := ahead_leP ha
    have hp : (i - 1) / 2 < i := by omega
    generalize hpp : (i - 1) / 2 = p at *
    refine ih _ p (by rw [swapL_length]; omega) (by omega) ⟨?_, ?_⟩
    ·intro j hj hjl hjp
     rw [swapL_length] at hjl
     rw [itAt_swap l i p _ hl (by omega) (by omega), itAt_swap l i p j hl (by omega) hjl]
     rw [if_neg hjp]
     by_cases hji : j = i
     ·subst hji
      rw [if_pos hpp, if_pos rfl]; exact hle
     ·rw [if_neg hji]
      by_cases h1 : (j - 1) / 2 = p
      ·rw [if_pos h1]
       have := h.up j hj hjl hji
       rw [h1] at this
       exact hle.trans this
      ·rw [if_neg h1]
       by_cases h2 : (j - 1) / 2 = i
       ·rw [if_pos h2]
        have := h.over j (by omega) hjl hj h2
        rw [hpp] at this
        exact this
       ·rw [if_neg h2]
        exact h.up j hj hjl hji
    ·intro c hp0 hcl hc0 hcp
     rw [swapL_length] at hcl
     rw [itAt_swap l i p _ hl (by omega) (by omega), itAt_swap l i p c hl (by omega) hcl]
     rw [if_neg (show (p - 1) / 2 ≠ p by omega), if_neg (show (p - 1) / 2 ≠ i by omega), if_neg (show c ≠ p by omega)]
     have hpp' := h.up p hp0 (by omega) (by omega)
     by_cases hci : c = i
     ·rw [if_pos hci]; exact hpp'
     ·rw [if_neg hci]
      have := h.up c hc0 hcl hci
      rw [hcp] at this
      exact hpp'.trans this
   ·rename_i ha
    have hle := not_ahead_leP (by simpa using ha)
    intro j hj hjl
    by_cases hji : j = i
    ·subst hji; exact hle
    ·exact h.up j hj hjl hji
structure SinkAt (l : List It) (i : Nat) : Prop where
 up : ∀ j, 0 < j → j < l.length → (j - 1) / 2 ≠ i → leP (itAt l ((j - 1) / 2)) (itAt l j)
 over : ∀ c, 0 < i → c < l.length → 0 < c → (c - 1) / 2 = i → leP (itAt l ((i - 1) / 2)) (itAt l c)
theorem childL_least (l : List It) (i c : Nat) (h : childL l i = c) : 0 < c ∧ (c - 1) / 2 = i ∧ ∀ d, d < l.length → 0 < d → (d - 1) / 2 = i → leP (itAt l c) (itAt l d) := by
 unfold childL at h
 split at h
 ·split at h
  ·split at h
   ·rename_i h1 h2 h3
    have hc : c = 2 * i + 2 := by omega
    subst hc
    refine ⟨by omega, by omega, fun d hd h0 hp => ?_⟩
    have : d = 2 * i + 1 ∨ d = 2 * i + 2 := by omega
    rcases this with rfl | rfl
    ·exact ahead_leP h3
    ·exact leP.refl _
   ·rename_i h1 h2 h3
    have hc : c = 2 * i + 1 := by omega
    subst hc
    refine ⟨by omega, by omega, fun d hd h0 hp => ?_⟩
    have : d = 2 * i + 1 ∨ d = 2 * i + 2 := by omega
    rcases this with rfl | rfl
    ·exact leP.refl _
    ·exact not_ahead_leP (by simpa using h3)
  ·rename_i h1 h2
   have hc : c = 2 * i + 1 := by omega
   subst hc
   refine ⟨by omega, by omega, fun d hd h0 hp => ?_⟩
   have : d = 2 * i + 1 := by omega
   subst this
   exact leP.refl _
 ·omega
theorem childL_none (l : List It) (i : Nat) (h : childL l i < 0) : ∀ d, d < l.length → 0 < d → (d - 1) / 2 ≠ i := by
 intro d hd h0 hp
 unfold childL at h
 split at h
 ·split at h
  ·split at h <;> omega
  ·omega
 ·omega
theorem sinkL_heap (f : Nat) : ∀ (l : List It) (i : Nat), i < l.length → l.length ≤ f + i → SinkAt l i → HeapL (sinkL f l i) := by
 induction f with
 | zero => intro l i _ h; omega
 | succ f ih =>
  intro l i hl hf h
  unfold sinkL
  split
  ·rename_i h0
   intro j hj hjl
   exact h.up j hj hjl (childL_none l i h0 j hjl hj)
  ·rename_i h0
   rcases childL_range l i with hc | ⟨c, hc, hic, hcl⟩
   ·omega
   ·rw [hc, Int.toNat_natCast]
    obtain ⟨hc0, hcp, hcm⟩ := childL_least l i c hc
    split
    ·rename_i ha
     have hle := ahead_leP ha
     refine ih _ c (by rw [swapL_length]; omega) (by rw [swapL_length]; omega) ⟨?_, ?_⟩
     ·intro j hj hjl hjp
      rw [swapL_length] at hjl
      rw [itAt_swap l i c _ hl hcl (by omega), itAt_swap l i c j hl hcl hjl, if_neg hjp]
      by_cases hjc : j = c
      ·subst hjc
       rw [if_pos hcp, if_pos rfl]; exact hle
      ·rw [if_neg hjc]
       by_cases hji : j = i
       ·subst hji
        rw [if_neg (show (j - 1) / 2 ≠ j by omega), if_pos rfl]
        exact h.over c hj hcl hc0 hcp
       ·rw [if_neg hji]
        by_cases h2 : (j - 1) / 2 = i
        ·rw [if_pos h2]; exact hcm j hjl hj h2
        ·rw [if_neg h2]; exact h.up j hj hjl h2
     ·intro d hc' hdl hd0 hdp
      rw [swapL_length] at hdl
      rw [itAt_swap l i c _ hl hcl (by omega), itAt_swap l i c d hl hcl hdl]
      rw [if_neg (show (c - 1) / 2 ≠ c by omega), if_pos hcp, if_neg (show d ≠ c by omega), if_neg (show d ≠ i by omega)]
      have := h.up d hd0 hdl (by omega)
      rw [hdp] at this
      exact this
    ·rename_i ha
     have hle := not_ahead_leP (by simpa using ha)
     intro j hj hjl
     by_cases h2 : (j - 1) / 2 = i
     ·rw [h2]; exact hle.trans (hcm j hjl hj h2)
     ·exact h.up j hj hjl h2
theorem HeapL.first {l : List It} (h : HeapL l) (j : Nat) (hj : j < l.length) : leP (itAt l 0) (itAt l j) := by
 induction j using Nat.strongRecOn with
 | _ j ih =>
  by_cases h0 : j = 0
  ·subst h0; exact leP.refl _
  ·exact (ih ((j - 1) / 2) (by omega) (by omega)).trans (h j (by omega) hj)
theorem HeapL.first_mem {l : List It} (h : HeapL l) {y : It} (hy : y ∈ l) : (itAt l 0).t ≤ y.t := by
 obtain ⟨j, hj, rfl⟩ := List.mem_iff_getElem.1 hy
 have h1 := h.first j hj
 have h2 : itAt l j = l[j] := by unfold itAt; rw [List.getD_eq_getElem?_getD, List.getElem?_eq_getElem hj]; rfl
 rw [h2] at h1
 unfold leP at h1
 omega
theorem itAt_get (l : List It) (j : Nat) (hj : j < l.length) : itAt l j = l[j] := by
 unfold itAt; rw [List.getD_eq_getElem?_getD, List.getElem?_eq_getElem hj]; rfl
theorem swapL_perm (l : List It) (i j : Nat) (hi : i < l.length) (hj : j < l.length) : (swapL l i j).Perm l := by
 unfold swapL
 rw [itAt_get l i hi, itAt_get l j hj]
 exact List.set_set_perm hi hj
theorem riseL_perm (f : Nat) : ∀ (l : List It) (i : Nat), i < l.length → (riseL f l i).Perm l := by
 induction f with
 | zero => intro l i _; exact List.Perm.refl _
 | succ f ih =>
  intro l i hl
  unfold riseL
  split
  ·exact List.Perm.refl _
  ·split
   ·exact (ih _ _ (by rw [swapL_length]; omega)).trans (swapL_perm l _ _ hl (by omega))
   ·exact List.Perm.refl _
theorem sinkL_perm (f : Nat) : ∀ (l : List It) (i : Nat), i < l.length → (sinkL f l i).Perm l := by
 induction f with
 | zero => intro l i _; exact List.Perm.refl _
 | succ f ih =>
  intro l i hl
  unfold sinkL
  split
  ·exact List.Perm.refl _
  ·rename_i h0
   rcases childL_range l i with hc | ⟨c, hc, hic, hcl⟩
   ·omega
   ·rw [hc, Int.toNat_natCast]
    split
    ·exact (ih _ _ (by rw [swapL_length]; omega)).trans (swapL_perm l _ _ hl hcl)
    ·exact List.Perm.refl _
theorem put_heap (l : List It) (x : It) (h : HeapL l) : HeapL (riseL (l.length + 1) (l ++ [x]) l.length) ∧ (riseL (l.length + 1) (l ++ [x]) l.length).Perm (x :: l) := by
 have hat : ∀ j, j < l.length → itAt (l ++ [x]) j = itAt l j := by
  intro j hj
  unfold itAt
  rw [List.getD_eq_getElem?_getD, List.getD_eq_getElem?_getD, List.getElem?_append_left hj]
 refine ⟨riseL_heap _ _ _ (by simp) (by omega) ⟨?_, ?_⟩, (riseL_perm _ _ _ (by simp)).trans (List.perm_append_singleton x l)⟩
 ·intro j hj hjl hne
  rw [List.length_append, List.length_singleton] at hjl
  rw [hat _ (by omega), hat j (by omega)]
  exact h j hj (by omega)
 ·intro c h0 hcl hc0 hcp
  rw [List.length_append, List.length_singleton] at hcl
  omega
theorem take_heap (l : List It) (h : HeapL l) (hl : l ≠ []) : HeapL (takeL l) ∧ (itAt l 0 :: takeL l).Perm l := by
 have hpos : 0 < l.length := List.length_pos_iff.2 hl
 unfold takeL
 by_cases h1 : l.length = 1
 ·obtain ⟨a, rfl⟩ := List.length_eq_one_iff.1 h1
  refine ⟨?_, ?_⟩
  ·intro i _ hi
   rw [show (([a].set 0 (itAt [a] ([a].length - 1))).take ([a].length - 1)) = [] from rfl] at hi
   have : (sinkL [a].length [] 0).length = 0 := rfl
   omega
  ·exact List.Perm.refl _
 ·obtain ⟨a, m, rfl⟩ : ∃ a m, l = a :: m := by cases l with | nil => exact absurd rfl hl | cons a m => exact ⟨a, m, rfl⟩
  obtain ⟨m', z, rfl⟩ : ∃ m' z, m = m' ++ [z] := by
   refine ⟨m.dropLast, m.getLast (by intro e; subst e; simp at h1), ?_⟩
   rw [List.dropLast_concat_getLast]
  have hz : itAt (a :: (m' ++ [z])) ((a :: (m' ++ [z])).length - 1) = z := by
   rw [itAt_get _ _ (by simp)]
   simp
  have he : ((a :: (m' ++ [z])).set 0 (itAt (a :: (m' ++ [z])) ((a :: (m' ++ [z])).length - 1))).take ((a :: (m' ++ [z])).length - 1) = z :: m' := by
   rw [hz]; simp
  rw [he]
  have hat : ∀ j, 0 < j → j < (z :: m').length → itAt (z :: m') j = itAt (a :: (m' ++ [z])) j := by
   intro j h0 hj
   simp only [List.length_cons] at hj
   rw [itAt_get _ _ (by simpa using hj), itAt_get _ _ (by simp; omega)]
   obtain ⟨j, rfl⟩ : ∃ k, j = k + 1 := ⟨j - 1, by omega⟩
   simp only [List.getElem_cons_succ]
   rw [List.getElem_append_left (by omega)]
  refine ⟨sinkL_heap _ _ 0 (by simp) (by simp) ⟨?_, ?_⟩, ?_⟩
  ·intro j hj hjl hne
   rw [hat _ (by omega) (by omega), hat j hj hjl]
   exact h j hj (by simp at hjl ⊢; omega)
  ·intro c h0; omega
  ·refine (List.Perm.cons _ (sinkL_perm _ _ 0 (by simp))).trans ?_
   show (a :: z :: m').Perm (a :: (m' ++ [z]))
   exact List.Perm.cons a (List.perm_append_singleton z m').symm
end Go.Proofs.YtahnliehdjncdaaGreatDoor
namespace Go.Proofs.YtahnliehdjncdaaGreatDoor
open Go.RowKit
attribute [local go_sem ↓] execOp_load38 execOp_load40
attribute [local go_sem] run_load38 run_load40 bigVal_drew hasBig_drew bigVal_ne hasBig_ne bigVal_alloc hasBig_alloc bigVal_new hasBig_newB
structure Ser where
 id : Int
 c : Cfg
 k : Nat
 acc : Int
 rel : Int
 ref : List Int
 l : List It
 nt : Note
 last : Int
structure SB where
 s : Nat
 q : Nat
 g : Option Nat
 n : NB
def Cfg.vals (c : Cfg) (rest : List Value) : List Value := .int .i64 c.kind :: .int .i64 c.lag :: .int .i64 c.skew :: .int .i64 c.cap :: .int .i64 c.k :: .int .i64 c.window :: .int .i64 c.bits :: .int .i64 c.rows :: .int .i64 c.width :: .int .i64 c.panes :: .int .i64 c.size :: .int .i64 c.degree :: .int .i64 c.half :: .int .i64 c.mark :: .int .i64 c.s00 :: .int .i64 c.s01 :: .int .i64 c.s10 :: .int .i64 c.s11 :: .int .i64 c.s20 :: .int .i64 c.s21 :: rest
def serCells (b : SB) (x : Ser) : List Value :=
 .int .i64 x.id :: x.c.vals (fn (fitsF x.k) :: fn (namedF x.k) :: fn (pairsF x.k) :: fn (refuseF x.k) :: fn (askedF x.k) :: fn (startF x.k) :: relV x.k b.n.d :: qryV x.k b.n.d :: swpV x.k b.n.d :: savV x.k b.n.d :: lodV x.k b.n.d :: .pointer (some ⟨b.q, 0, none⟩) :: .int .i64 x.acc :: .int .i64 x.rel :: x.ref.map (.int .i64 ·))
structure SRep (w : World) (b : SB) (x : Ser) : Prop where
 blk : Blk w b.s (serCells b x) 104
 que : QRep w b.q b.g x.l
 note : NRep w x.k b.n x.c x.nt
 sq : b.s ≠ b.q
 sg : ∀ g, b.g = some g → b.s ≠ g
 sn : ∀ i, nfoot x.k b.n i → i ≠ b.s ∧ i ≠ b.q ∧ b.g ≠ some i
def SB.foot (b : SB) (k : Nat) (i : Nat) : Prop := i = b.s ∨ i = b.q ∨ b.g = some i ∨ nfoot k b.n i
theorem SRep.keeps {M : Nat → Prop} {w w' : World} {b : SB} {x : Ser} (h : SRep w b x) (hk : Keeps M w w') (hn : ∀ i, b.foot x.k i → ¬ M i) : SRep w' b x :=
 ⟨h.blk.keeps hk (hn _ (.inl rfl)), h.que.keeps hk (hn _ (.inr (.inl rfl))) (fun _ hg => hn _ (.inr (.inr (.inl hg)))),
    h.note.keeps hk (fun i hi => hn i (.inr (.inr (.inr hi)))), h.sq, h.sg, h.sn⟩
theorem SRep.still {w w' : World} {b : SB} {x : Ser} (h : SRep w b x) (hk : Keeps (fun _ => False) w w') : SRep w' b x := h.keeps hk (fun _ _ h => h)
theorem SRep.lt {w : World} {b : SB} {x : Ser} (h : SRep w b x) (i : Nat) (hi : b.foot x.k i) : i < w.heap.size := by
 rcases hi with hi | hi | hi | hi
 ·subst hi; exact h.blk.lt
 ·subst hi; exact h.que.lt.1
 ·exact (h.que.lt.2 i hi).1
 ·exact h.note.lt i hi
structure SInv (n : Int) (x : Ser) : Prop where
 valid : validB x.c = true
 kind : x.c.kind = x.k
 k1 : 1 ≤ x.k
 k5 : x.k ≤ 5
 acc0 : 0 ≤ x.acc
 accn : x.acc ≤ n
 rel0 : 0 ≤ x.rel
 rela : x.rel + x.l.length = x.acc
 reflen : x.ref.length = 12
 refn : ∀ v, v ∈ x.ref → 0 ≤ v ∧ v ≤ n
 cap : (x.l.length : Int) ≤ x.c.cap
 times : ∀ y, y ∈ x.l → 0 ≤ y.t ∧ y.t ≤ 4611686018427387904
 note : NInv x.k x.c x.rel x.last x.nt
 heap : HeapL x.l
 last0 : 0 ≤ x.last
 lastn : x.last ≤ 4611686018427387904
 lastl : ∀ y, y ∈ x.l → x.last ≤ y.t
 fits : ∀ y, y ∈ x.l → kindE x.c x.k y = 0
theorem SInv.common {n : Int} {x : Ser} (h : SInv n x) : 0 ≤ x.c.lag ∧ x.c.lag ≤ 100 ∧ 0 ≤ x.c.skew ∧ x.c.skew ≤ 100 ∧ 1 ≤ x.c.cap ∧ x.c.cap ≤ 8 := by
 have := h.valid
 simp only [validB, commonB, inB, Bool.and_eq_true, decide_eq_true_eq] at this
 omega
theorem SInv.weighs {n : Int} {x : Ser} (h : SInv n x) (h4 : 4 ≤ x.k) : x.c.weighs := valid_weighs h.valid h.kind h4 h.k5
theorem wm_any (s : Nat) (lag clock : Int) (w : World) (h : w.cell? ⟨s, 2, none⟩ = some (.int .i64 lag)) (l0 : 0 ≤ lag) (l1 : lag ≤ 100) (c0 : 0 ≤ clock) (c1 : clock ≤ 4611686018427387904) :
  Calls Tryz.prog 67 #[.pointer (some ⟨s, 0, none⟩), .int .i64 clock] w fun e w' => e = .returned (.int .i64 (clock - lag)) ∧ w' = w := by
 go_enter Tryz.func67, Tryz.ntmps67
 go_wp2
 go_ret
 exact ⟨rfl, rfl⟩
def refE (x : Ser) (clock : Int) (y : It) : Int :=
 if inB y.t 0 4611686018427387904 then
  if y.t ≤ clock - x.c.lag then 6
  else if clock + x.c.skew < y.t then 7
  else if kindE x.c x.k y ≠ 0 then kindE x.c x.k y
  else if x.c.cap ≤ x.l.length then 11 else if 4611686018427387904 ≤ x.acc then 11 else 0
 else 5
end Go.Proofs.YtahnliehdjncdaaGreatDoor
namespace Go.Proofs.YtahnliehdjncdaaGreatDoor
open Go.RowKit
attribute [local go_sem ↓] execOp_load38 execOp_load40
attribute [local go_sem] run_load38 run_load40 bigVal_drew hasBig_drew bigVal_ne hasBig_ne bigVal_alloc hasBig_alloc bigVal_new hasBig_newB
theorem bigVal_keeps {M : Nat → Prop} {w w' : World} {b o n : Nat} (hk : Keeps M w w') (hn : ¬ M b) (hlt : b < w.heap.size) : bigVal w' b o n = bigVal w b o n ∧ hasBig w' b o n = hasBig w b o n := by
 have hc : ∀ j, w'.cell? ⟨b, o + j, none⟩ = w.cell? ⟨b, o + j, none⟩ := fun j => World.cell?_of_block (a := ⟨b, o + j, none⟩) (hk.block b hlt hn)
 constructor
 ·unfold bigVal bigCells; simp only [hc]
 ·unfold hasBig; simp only [hc]
theorem refusal_any (n : Int) (b : SB) (x : Ser) (y : It) (clock : Int) (w : World) (hs : SRep w b x) (hi : SInv n x) (c0 : 0 ≤ clock) (c1 : clock ≤ 4611686018427387904) :
  Calls Tryz.prog 62 #[.pointer (some ⟨b.s, 0, none⟩), y.val, .int .i64 clock] w fun e w' => e = .returned (.int .i64 (refE x clock y)) ∧ Keeps (fun _ => False) w w' := by
 obtain ⟨l0, l1, s0, s1, p1, p8⟩ := hi.common
 have hlt := hs.blk.lt
 have HS := hide hs
 have HI := hide hi
 have HB := hide (show Blk (w.alloc (.cells y.cells 87)) w.heap.size [.int .i64 y.t, .int .i64 y.k, .int .i64 y.d, .int .i64 y.n] 87 from Blk.new w [_, _, _, _] 87)
 have HK := hide ((Keeps.refl (fun _ => False) w).alloc (.cells y.cells 87))
 have HE := hide (show refE x clock y = if inB y.t 0 4611686018427387904 then (if y.t ≤ clock - x.c.lag then 6 else if clock + x.c.skew < y.t then 7 else if kindE x.c x.k y ≠ 0 then kindE x.c x.k y else if x.c.cap ≤ x.l.length then 11 else if 4611686018427387904 ≤ x.acc then 11 else 0) else 5 from rfl)
 clear hs hi
 unfold It.val
 cases h1 : inB y.t 0 4611686018427387904
 ·go_enter Tryz.func62, Tryz.ntmps62
  go_wp2_with (go_at_call 65; refine (time_any _ _).mono ?_; rintro e w' ⟨rfl, rfl⟩)
  go_ret
  exact ⟨ret_int (by rw [uh HE, h1]; rfl), uh HK⟩
 ·obtain ⟨t0, t1⟩ := inB_iff h1
  rw [h1, if_pos rfl] at HE
  have hc2 : w.cell? ⟨b.s, 2, none⟩ = some (.int .i64 x.c.lag) := (uh HS).blk.cell rfl
  go_enter Tryz.func62, Tryz.ntmps62
  go_wp2_with fail
  refine (time_any _ _).mono ?_
  rintro e w' ⟨rfl, rfl⟩
  rw [h1]
  go_wp2_with fail
  go_region_held3 (fun w' => w'.cell? ⟨w.heap.size, 0, none⟩ = some (.int .i64 y.t) ∧ w'.cell? ⟨b.s, 2, none⟩ = some (.int .i64 x.c.lag)) (go_keep)
   (first | (go_at_call 67; refine (wm_any b.s x.c.lag clock _ (by go_keep) l0 l1 c0 c1).mono ?_; rintro e w' ⟨rfl, rfl⟩))
  have HB1 := hide ((uh HB).drew)
  have HK1 := hide ((uh HK).drew)
  clear HB HK
  have e1 : (w.alloc (.cells #[.int .i64 y.t, .int .i64 y.k, .int .i64 y.d, .int .i64 y.n] 87)).drew = (w.alloc (.cells y.cells 87)).drew := rfl
  rw [e1]
  clear e1
  generalize (w.alloc (.cells y.cells 87)).drew = w1 at *
  generalize hbx : w.heap.size = bx at *
  have HS1 := hide ((uh HS).still (uh HK1))
  clear hc2 hlt hbx
  have hlt := (uh HS1).blk.lt
  have hltx := (uh HB1).lt
  have hb0 : w1.cell? ⟨bx, 0, none⟩ = some (.int .i64 y.t) := (uh HB1).cell rfl
  have hb1 : w1.cell? ⟨bx, 1, none⟩ = some (.int .i64 y.k) := (uh HB1).cell rfl
  have hb2 : w1.cell? ⟨bx, 2, none⟩ = some (.int .i64 y.d) := (uh HB1).cell rfl
  have hb3 : w1.cell? ⟨bx, 3, none⟩ = some (.int .i64 y.n) := (uh HB1).cell rfl
  have hc3 : w1.cell? ⟨b.s, 3, none⟩ = some (.int .i64 x.c.skew) := (uh HS1).blk.cell rfl
  by_cases h6 : y.t ≤ clock - x.c.lag
  ·rw [if_pos h6] at HE
   go_wp2
   go_ret
   exact ⟨ret_int (uh HE).symm, uh HK1⟩
  ·rw [if_neg h6] at HE
   have h6' : decide (y.t ≤ clock - x.c.lag) = false := by simpa using h6
   go_wp2_with fail
   go_quiet (fail)
   by_cases h7 : clock + x.c.skew < y.t
   ·rw [if_pos h7] at HE
    go_wp2
    go_ret
    exact ⟨ret_int (uh HE).symm, (uh HK1).then (Keeps.drewN _ _ _)⟩
   ·rw [if_neg h7] at HE
    have h7' : decide (clock + x.c.skew < y.t) = false := by simpa using h7
    go_wp2_with fail
    have hkd : Keeps (fun _ => False) w1 (w1.drewN nq) := Keeps.drewN (fun _ => False) w1 nq
    have HS2 := hide ((uh HS1).still hkd)
    have HB2 := hide ((uh HB1).keeps hkd (fun h => h))
    have HK2 := hide ((uh HK1).then hkd)
    clear hkd
    generalize w1.drewN nq = w2 at *
    clear HS1 HB1 HK1 hb0 hb1 hb2 hb3 hc3 hlt hltx h6 h6' h7 h7'
    have hlt := (uh HS2).blk.lt
    have hltx := (uh HB2).lt
    have hb0 : w2.cell? ⟨bx, 0, none⟩ = some (.int .i64 y.t) := (uh HB2).cell rfl
    have hb1 : w2.cell? ⟨bx, 1, none⟩ = some (.int .i64 y.k) := (uh HB2).cell rfl
    have hb2 : w2.cell? ⟨bx, 2, none⟩ = some (.int .i64 y.d) := (uh HB2).cell rfl
    have hb3 : w2.cell? ⟨bx, 3, none⟩ = some (.int .i64 y.n) := (uh HB2).cell rfl
    have hc22 : w2.cell? ⟨b.s, 24, none⟩ = some (.func (.func (refuseF x.k)) #[] #[]) := (uh HS2).blk.cell rfl
    obtain ⟨hv, hh⟩ := bigVal_Blk_part (uh HS2).blk 1 20 x.c.cells rfl rfl
    have hown := own_refuse x.k (uh HI).k1 (uh HI).k5
    go_region_held3 (fun w' => w'.cell? ⟨b.s, 24, none⟩ = some (.func (.func (refuseF x.k)) #[] #[]) ∧ bigVal w' b.s 1 20 = .agg x.c.cells.toArray ∧ hasBig w' b.s 1 20 = true ∧
        w'.cell? ⟨bx, 0, none⟩ = some (.int .i64 y.t) ∧ w'.cell? ⟨bx, 1, none⟩ = some (.int .i64 y.k) ∧ w'.cell? ⟨bx, 2, none⟩ = some (.int .i64 y.d) ∧ w'.cell? ⟨bx, 3, none⟩ = some (.int .i64 y.n))
     (first | (simp [*, bigVal_drew, hasBig_drew]; done) | (go_split_ands; refine ⟨hk.cell (by assumption) (fun h => h), (bigVal_keeps hk (fun h => h) (by simpa using hlt)).1.trans (by assumption), (bigVal_keeps hk (fun h => h) (by simpa using hlt)).2.trans (by assumption), hk.cell (by assumption) (fun h => h), hk.cell (by assumption) (fun h => h), hk.cell (by assumption) (fun h => h), hk.cell (by assumption) (fun h => h)⟩))
     (first | (refine (refuse_any x.c x.k y _ (uh HI).k1 (uh HI).k5 (uh HI).weighs t0 t1).mono ?_; rintro e w' ⟨rfl, hk⟩))
    have hk3 : Keeps (fun _ => False) w2 w' := ((Keeps.refl (fun _ => False) w2).drew).then hk
    have HS3 := hide ((uh HS2).still hk3)
    have HK3 := hide ((uh HK2).then hk3)
    clear hk hk3 HS2 HB2 HK2 hb0 hb1 hb2 hb3 hc22 hv hh hown hlt hltx
    have hlt := (uh HS3).blk.lt
    generalize he : kindE x.c x.k y = e at *
    by_cases h8 : e = 0
    ·have h8' : (e != 0) = false := by simp [h8]
     rw [if_neg (by simpa using h8)] at HE
     have HN8 := hide h8
     clear h8
     have hc26 : w'.cell? ⟨b.s, 32, none⟩ = some (.pointer (some ⟨b.q, 0, none⟩)) := (uh HS3).blk.cell rfl
     have hc4 : w'.cell? ⟨b.s, 4, none⟩ = some (.int .i64 x.c.cap) := (uh HS3).blk.cell rfl
     have hc33 : w'.cell? ⟨b.s, 33, none⟩ = some (.int .i64 x.acc) := (uh HS3).blk.cell rfl
     by_cases h9 : x.c.cap ≤ (x.l.length : Int)
     ·rw [if_pos h9] at HE
      have h9' : decide (x.c.cap ≤ (x.l.length : Int)) = true := by simpa using h9
      go_wp2_with fail
      go_quiet (first | (go_at_call 91; refine Calls.quiet_of_same (len_any b.q b.g x.l _ (by exact (uh HS3).que.keeps (Keeps.drewN (fun _ => False) _ _) (fun h => h) (fun _ _ h => h)))))
      go_wp2
      go_ret
      exact ⟨ret_int (uh HE).symm, (uh HK3).then (Keeps.drewN _ _ _)⟩
     ·rw [if_neg h9] at HE
      have h9' : decide (x.c.cap ≤ (x.l.length : Int)) = false := by simpa using h9
      by_cases h10 : 4611686018427387904 ≤ x.acc
      ·rw [if_pos h10] at HE
       have h10' : decide (4611686018427387904 ≤ x.acc) = true := by simpa using h10
       go_wp2_with fail
       go_quiet (first | (go_at_call 91; refine Calls.quiet_of_same (len_any b.q b.g x.l _ (by exact (uh HS3).que.keeps (Keeps.drewN (fun _ => False) _ _) (fun h => h) (fun _ _ h => h)))))
       go_wp2
       go_ret
       exact ⟨ret_int (uh HE).symm, (uh HK3).then (Keeps.drewN _ _ _)⟩
      ·rw [if_neg h10] at HE
       have h10' : decide (4611686018427387904 ≤ x.acc) = false := by simpa using h10
       go_wp2_with fail
       go_quiet (first | (go_at_call 91; refine Calls.quiet_of_same (len_any b.q b.g x.l _ (by exact (uh HS3).que.keeps (Keeps.drewN (fun _ => False) _ _) (fun h => h) (fun _ _ h => h)))))
       go_wp2
       go_ret
       exact ⟨ret_int (uh HE).symm, (uh HK3).then (Keeps.drewN _ _ _)⟩
    ·have h8' : (e != 0) = true := by simp [h8]
     rw [if_pos (by simpa using h8)] at HE
     have HN8 := hide h8
     clear h8
     go_wp2
     go_ret
     exact ⟨ret_int (uh HE).symm, uh HK3⟩
end Go.Proofs.YtahnliehdjncdaaGreatDoor
namespace Go.Proofs.YtahnliehdjncdaaGreatDoor
open Go.RowKit
attribute [local go_sem ↓] execOp_load38 execOp_load40
attribute [local go_sem] run_load38 run_load40 bigVal_drew hasBig_drew bigVal_ne hasBig_ne bigVal_alloc hasBig_alloc bigVal_new hasBig_newB
def numbered (y : It) (n : Int) : It := ⟨y.t, y.k, y.d, n⟩
def accS (x : Ser) (y : It) : Ser := { x with acc := x.acc + 1, l := riseL (x.l.length + 1) (x.l ++ [numbered y (x.acc + 1)]) x.l.length }
def SB.next (b b' : SB) (k size : Nat) : Prop := b'.s = b.s ∧ ∀ i, b'.foot k i → b.foot k i ∨ size ≤ i
theorem accept_any (n : Int) (b : SB) (x : Ser) (y : It) (w : World) (hs : SRep w b x) (hi : SInv n x) (hn : n ≤ 4611686018427387904) :
  Calls Tryz.prog 64 #[.pointer (some ⟨b.s, 0, none⟩), y.val] w fun e w' => e = .returned (.int .i64 (x.acc + 1)) ∧ ∃ b', SRep w' b' (accS x y) ∧ b.next b' x.k w.heap.size ∧ Keeps (b.foot x.k) w w' := by
 obtain ⟨l0, l1, s0, s1, p1, p8⟩ := hi.common
 have hlt := hs.blk.lt
 have hcap := hi.cap
 have ha0 := hi.acc0
 have han := hi.accn
 have hlq := hs.que.lt
 have hc27 : w.cell? ⟨b.s, 33, none⟩ = some (.int .i64 x.acc) := hs.blk.cell rfl
 have hf := hs.blk.frozen
 have HS := hide hs
 clear hs hi
 have hwr : IntKind.i64.wrap (x.acc + 1) = x.acc + 1 := wrap_in (by omega) (by omega)
 unfold It.val
 go_enter Tryz.func64, Tryz.ntmps64
 go_wp2_with fail
 have hk1 : Keeps (fun i => i = b.s) w ((w.setCell ⟨b.s, 33, none⟩ (.int .i64 (x.acc + 1))).alloc (.cells #[.int .i64 y.t, .int .i64 y.k, .int .i64 y.d, .int .i64 (x.acc + 1)] 87)) :=
  ((Keeps.refl (fun i => i = b.s) w).setCell (p := ⟨b.s, 33, none⟩) (Or.inl rfl) _).alloc _
 have HB1 := hide (show Blk ((w.setCell ⟨b.s, 33, none⟩ (.int .i64 (x.acc + 1))).alloc (.cells #[.int .i64 y.t, .int .i64 y.k, .int .i64 y.d, .int .i64 (x.acc + 1)] 87)) b.s (serCells b { x with acc := x.acc + 1 }) 104 from ((uh HS).blk.setCell 33 (.int .i64 (x.acc + 1))).alloc _)
 have HX1 := hide (show Blk ((w.setCell ⟨b.s, 33, none⟩ (.int .i64 (x.acc + 1))).alloc (.cells #[.int .i64 y.t, .int .i64 y.k, .int .i64 y.d, .int .i64 (x.acc + 1)] 87)) w.heap.size [.int .i64 y.t, .int .i64 y.k, .int .i64 y.d, .int .i64 (x.acc + 1)] 87 from Blk.newAt (by simp) [_, _, _, _] 87)
 have HQ1 := hide ((uh HS).que.keeps hk1 (fun h => (uh HS).sq h.symm) (fun g hg h => (uh HS).sg g hg h.symm))
 have HD1 := hide (show NRep _ x.k b.n x.c x.nt from (uh HS).note.keeps hk1 (fun i hi h => ((uh HS).sn i hi).1 h))
 have HK1 := hide hk1
 clear hk1 hc27 hf
 generalize ((w.setCell ⟨b.s, 33, none⟩ (.int .i64 (x.acc + 1))).alloc (.cells #[.int .i64 y.t, .int .i64 y.k, .int .i64 y.d, .int .i64 (x.acc + 1)] 87)) = w1 at *
 have hsz : w.heap.size ≤ w1.heap.size := (uh HK1).size
 generalize hbx : w.heap.size = bx at *
 have HBX := hide hbx
 clear hbx
 have hlt1 := (uh HB1).lt
 have hltx := (uh HX1).lt
 have hc26 : w1.cell? ⟨b.s, 32, none⟩ = some (.pointer (some ⟨b.q, 0, none⟩)) := (uh HB1).cell rfl
 have hx0 : w1.cell? ⟨bx, 0, none⟩ = some (.int .i64 y.t) := (uh HX1).cell rfl
 have hx1 : w1.cell? ⟨bx, 1, none⟩ = some (.int .i64 y.k) := (uh HX1).cell rfl
 have hx2 : w1.cell? ⟨bx, 2, none⟩ = some (.int .i64 y.d) := (uh HX1).cell rfl
 have hx3 : w1.cell? ⟨bx, 3, none⟩ = some (.int .i64 (x.acc + 1)) := (uh HX1).cell rfl
 have HNS := hide (show ¬ (b.s = b.q ∨ b.g = some b.s) from fun h => h.elim (uh HS).sq (fun h => (uh HS).sg b.s h rfl))
 have HNX := hide (show ¬ (bx = b.q ∨ b.g = some bx) from fun h => h.elim (fun h => by omega) (fun h => by have := (hlq.2 bx h).1; omega))
 have hl9 : x.l.length ≤ 900 := by omega
 go_region_held3 (fun w' => w'.cell? ⟨b.s, 32, none⟩ = some (.pointer (some ⟨b.q, 0, none⟩)) ∧ w'.cell? ⟨bx, 0, none⟩ = some (.int .i64 y.t) ∧ w'.cell? ⟨bx, 1, none⟩ = some (.int .i64 y.k) ∧ w'.cell? ⟨bx, 2, none⟩ = some (.int .i64 y.d) ∧ w'.cell? ⟨bx, 3, none⟩ = some (.int .i64 (x.acc + 1)))
  (first | (simp [*]; done) | (go_split_ands; exact ⟨hk.cell (by assumption) (uh HNS), hk.cell (by assumption) (uh HNX), hk.cell (by assumption) (uh HNX), hk.cell (by assumption) (uh HNX), hk.cell (by assumption) (uh HNX)⟩))
  (first | (go_at_call 92; refine (put_any b.q b.g x.l (numbered y (x.acc + 1)) _ (by exact (uh HQ1).keeps ((Keeps.refl (fun _ => False) w1).drew) (fun h => h) (fun _ _ h => h)) hl9).mono ?_; rintro e w' ⟨rfl, og, hq, hk, hog⟩))
 have HF := hide (show w'.cell? ⟨bx, 3, none⟩ = some (.int .i64 (x.acc + 1)) from ((((uh HX1).drew).keeps hk (uh HNX)).cell rfl))
 have hx3' := uh HF
 have HK := hide hk
 have HQ := hide hq
 have HOG := hide hog
 clear hk hq hog hx0 hx1 hx2 hx3 hc26
 go_wp2
 go_ret
 have hkd : Keeps (fun k => k = b.q ∨ b.g = some k) w1 w' := ((Keeps.refl (fun k => k = b.q ∨ b.g = some k) w1).drew).then (uh HK)
 refine ⟨rfl, ⟨b.s, b.q, og, b.n⟩, ⟨(uh HB1).keeps hkd (uh HNS), uh HQ, (uh HD1).keeps hkd (fun i hi h => ?_), (uh HS).sq, ?_, fun i hi => ⟨((uh HS).sn i hi).1, ((uh HS).sn i hi).2.1, ?_⟩⟩, ⟨rfl, ?_⟩, ?_⟩
 ·rcases h with h | h
  ·exact ((uh HS).sn i hi).2.1 h
  ·exact ((uh HS).sn i hi).2.2 h
 ·intro g hg
  rcases uh HOG with h | ⟨k, h, hz⟩
  ·exact (uh HS).sg g (h.symm.trans hg)
  ·have hgk : g = k := by have := h.symm.trans hg; simpa using this.symm
   show b.s ≠ g
   rw [World.size_drew] at hz
   omega
 ·intro hg
  rcases uh HOG with h | ⟨k, h, hz⟩
  ·exact ((uh HS).sn i hi).2.2 (h.symm.trans hg)
  ·have hgk : i = k := by have := h.symm.trans hg; simpa using this.symm
   have := (uh HD1).lt i hi
   rw [World.size_drew] at hz
   omega
 ·intro i hi
  rcases hi with hi | hi | hi | hi
  ·exact .inl (.inl hi)
  ·exact .inl (.inr (.inl hi))
  ·rcases uh HOG with h | ⟨k, h, hz⟩
   ·exact .inl (.inr (.inr (.inl (h.symm.trans hi))))
   ·have hgk : i = k := by have := h.symm.trans hi; simpa using this.symm
    rw [World.size_drew] at hz
    exact .inr (by have := uh HBX; omega)
  ·exact .inl (.inr (.inr (.inr hi)))
 ·refine ((uh HK1).mono (M' := b.foot x.k) (fun i _ h => .inl h)).trans hkd (fun i hi _ => ?_)
  rcases hi with hi | hi
  ·exact .inr (.inl hi)
  ·exact .inr (.inr (.inl hi))
end Go.Proofs.YtahnliehdjncdaaGreatDoor
namespace Go.Proofs.YtahnliehdjncdaaGreatDoor
open Go.RowKit
theorem swapL_all {P : It → Prop} (h0 : P ⟨0, 0, 0, 0⟩) {l : List It} (h : ∀ y, y ∈ l → P y) (i j : Nat) : ∀ y, y ∈ swapL l i j → P y := by
 have hat : ∀ i, P (itAt l i) := by
  intro i
  unfold itAt
  rw [List.getD_eq_getElem?_getD]
  cases hi : l[i]? with
  | none => exact h0
  | some v => exact h v (List.mem_of_getElem? hi)
 intro y hy
 unfold swapL at hy
 rcases List.mem_or_eq_of_mem_set hy with hy | hy
 ·rcases List.mem_or_eq_of_mem_set hy with hy | hy
  ·exact h y hy
  ·subst hy; exact hat j
 ·subst hy; exact hat i
theorem riseL_all {P : It → Prop} (h0 : P ⟨0, 0, 0, 0⟩) (f : Nat) (l : List It) (i : Nat) (h : ∀ y, y ∈ l → P y) : ∀ y, y ∈ riseL f l i → P y := by
 induction f generalizing l i with
 | zero => exact h
 | succ f ih =>
  unfold riseL
  split
  ·exact h
  ·split
   ·exact ih _ _ (swapL_all h0 h _ _)
   ·exact h
theorem sinkL_all {P : It → Prop} (h0 : P ⟨0, 0, 0, 0⟩) (f : Nat) (l : List It) (i : Nat) (h : ∀ y, y ∈ l → P y) : ∀ y, y ∈ sinkL f l i → P y := by
 induction f generalizing l i with
 | zero => exact h
 | succ f ih =>
  unfold sinkL
  split
  ·exact h
  ·split
   ·exact ih _ _ (swapL_all h0 h _ _)
   ·exact h
theorem itAt_all {P : It → Prop} (h0 : P ⟨0, 0, 0, 0⟩) {l : List It} (h : ∀ y, y ∈ l → P y) (i : Nat) : P (itAt l i) := by
 unfold itAt
 rw [List.getD_eq_getElem?_getD]
 cases hi : l[i]? with
 | none => exact h0
 | some v => exact h v (List.mem_of_getElem? hi)
theorem takeL_all {P : It → Prop} (h0 : P ⟨0, 0, 0, 0⟩) (l : List It) (h : ∀ y, y ∈ l → P y) : ∀ y, y ∈ takeL l → P y := by
 unfold takeL
 refine sinkL_all h0 _ _ _ (fun y hy => ?_)
 have hy := List.mem_of_mem_take hy
 rcases List.mem_or_eq_of_mem_set hy with hy | hy
 ·exact h y hy
 ·subst hy; exact itAt_all h0 h _
theorem takeL_length (l : List It) : (takeL l).length = l.length - 1 := by
 unfold takeL
 rw [sinkL_length]; simp
def relOne (x : Ser) (m : Int) : Ser := { x with l := takeL x.l, rel := x.rel + 1, nt := relN x.k x.c x.nt (itAt x.l 0) m, last := (itAt x.l 0).t }
def relS : Nat → Ser → Int → Ser
 | 0, x, _ => x
 | f + 1, x, m => if x.l.isEmpty then x else if m < (itAt x.l 0).t then x else relS f (relOne x m) m
theorem itAt_mem {l : List It} (h : l ≠ []) : itAt l 0 ∈ l := by
 cases l with
 | nil => exact absurd rfl h
 | cons a l => exact List.mem_cons_self ..
theorem takeL_sub {l : List It} (hh : HeapL l) (hl : l ≠ []) {y : It} (hy : y ∈ takeL l) : y ∈ l := (take_heap l hh hl).2.subset (List.mem_cons_of_mem _ hy)
theorem relOne_inv {n : Int} {x : Ser} (h : SInv n x) (hl : x.l ≠ []) (m : Int) (hm : ¬ m < (itAt x.l 0).t) : SInv n (relOne x m) := by
 have hlen : 0 < x.l.length := List.length_pos_iff.2 hl
 have hra := h.rela
 have hcap := h.cap
 have hrel := h.rel0
 have ht : (takeL x.l).length = x.l.length - 1 := takeL_length _
 have hmem := itAt_mem hl
 have htm := h.times _ hmem
 refine ⟨h.valid, h.kind, h.k1, h.k5, h.acc0, h.accn, ?_, ?_, h.reflen, h.refn, ?_, fun y hy => h.times y (takeL_sub h.heap hl hy), ?_, (take_heap _ h.heap hl).1, htm.1, htm.2, fun y hy => h.heap.first_mem (takeL_sub h.heap hl hy), fun y hy => h.fits y (takeL_sub h.heap hl hy)⟩
 ·show 0 ≤ x.rel + 1; omega
 ·show x.rel + 1 + ((takeL x.l).length : Int) = x.acc; omega
 ·show ((takeL x.l).length : Int) ≤ x.c.cap; omega
 ·exact relN_inv h.note h.valid h.kind _ _ (h.lastl _ hmem) (by omega)
theorem kindE_key {c : Cfg} {k : Nat} {y : It} (h : kindE c k y = 0) (hk : k = 2 ∨ k = 3) : 0 ≤ y.k ∧ y.k ≤ 2147483648 := by
 have h2 : keyE y = 0 := by
  rcases hk with hk | hk <;> subst hk <;> exact h
 unfold keyE at h2
 split at h2
 ·rename_i h3; exact inB_iff h3
 ·omega
theorem kindE_numbered (c : Cfg) (k : Nat) (y : It) (n : Int) : kindE c k (numbered y n) = kindE c k y := by
 unfold kindE numbered
 split <;> rfl
theorem accS_inv {n : Int} {x : Ser} (h : SInv n x) (y : It) (t0 : 0 ≤ y.t) (t1 : y.t ≤ 4611686018427387904) (hc : (x.l.length : Int) < x.c.cap) (ha : x.acc < n) (hlast : x.last ≤ y.t) (hk : kindE x.c x.k y = 0) : SInv n (accS x y) := by
 have h0 := h.acc0; have hr := h.rela
 have hlen : (riseL (x.l.length + 1) (x.l ++ [numbered y (x.acc + 1)]) x.l.length).length = x.l.length + 1 := by rw [riseL_length]; simp
 have hp := put_heap x.l (numbered y (x.acc + 1)) h.heap
 have hall : ∀ {P : It → Prop}, (∀ z, z ∈ x.l → P z) → P (numbered y (x.acc + 1)) → ∀ z, z ∈ (accS x y).l → P z := fun h1 h2 z hz => by
  rcases List.mem_cons.1 (hp.2.subset hz) with e | e
  ·rw [e]; exact h2
  ·exact h1 z e
 refine ⟨h.valid, h.kind, h.k1, h.k5, ?_, ?_, h.rel0, ?_, h.reflen, h.refn, ?_, hall h.times ⟨t0, t1⟩, h.note, hp.1, h.last0, h.lastn, hall h.lastl hlast, hall h.fits ((kindE_numbered _ _ _ _).trans hk)⟩
 ·show 0 ≤ x.acc + 1; omega
 ·show x.acc + 1 ≤ n; omega
 ·show x.rel + ((riseL (x.l.length + 1) (x.l ++ [numbered y (x.acc + 1)]) x.l.length).length : Int) = x.acc + 1; omega
 ·show ((riseL (x.l.length + 1) (x.l ++ [numbered y (x.acc + 1)]) x.l.length).length : Int) ≤ x.c.cap; omega
end Go.Proofs.YtahnliehdjncdaaGreatDoor
