import Derived.Test.YteecnidnlkjehaaS3
namespace Go.Proofs.Yteecnidnlkjehaa
open Go.RowKit

theorem powGo_bd (b : Int) (hb : 1 ≤ b) (n : Nat) (p : Int) (p1 : 1 ≤ p) (p2 : p ≤ 2305843009213693952) : 0 ≤ optInt (powGo b n p) ∧ optInt (powGo b n p) ≤ 2305843009213693952 := by
  induction n generalizing p with
  | zero => simp only [powGo, optInt]; omega
  | succ n ih =>
    unfold powGo
    split
    · simp [optInt]
    · rename_i h
      obtain ⟨h1, h2⟩ := mul_ok p b p1 hb h
      exact ih _ h1 h2
theorem weight_bd (c : Cfg) (t : Int) : 0 ≤ optInt (weightO c t) ∧ optInt (weightO c t) ≤ 2305843009213693952 := by
  unfold weightO
  split
  · simp [optInt]
  · split
    · exact powGo_bd _ (by omega) _ 1 (by omega) (by omega)
    · split
      · simp [optInt]
      · rename_i h1 h2 h3
        have := pow2_bd ((t - c.mark) / c.half).toNat (by omega)
        simp only [optInt]; omega

/-- What holds of every item of a row, and of the item that is none. -/
theorem swapL_all {P : It → Prop} (h0 : P ⟨0, 0, 0, 0⟩) {l : List It} (h : ∀ y, y ∈ l → P y) (i j : Nat) : ∀ y, y ∈ swapL l i j → P y := by
  have hat : ∀ i, P (itAt l i) := by
    intro i
    unfold itAt
    rw [List.getD_eq_getElem?_getD]
    cases hi : l[i]? with
    | none => exact h0
    | some v => exact h v (List.mem_of_getElem? hi)
  intro y hy
  unfold swapL at hy
  rcases List.mem_or_eq_of_mem_set hy with hy | hy
  · rcases List.mem_or_eq_of_mem_set hy with hy | hy
    · exact h y hy
    · subst hy; exact hat j
  · subst hy; exact hat i
theorem riseL_all {P : It → Prop} (h0 : P ⟨0, 0, 0, 0⟩) (f : Nat) (l : List It) (i : Nat) (h : ∀ y, y ∈ l → P y) : ∀ y, y ∈ riseL f l i → P y := by
  induction f generalizing l i with
  | zero => exact h
  | succ f ih =>
    unfold riseL
    split
    · exact h
    · split
      · exact ih _ _ (swapL_all h0 h _ _)
      · exact h
theorem sinkL_all {P : It → Prop} (h0 : P ⟨0, 0, 0, 0⟩) (f : Nat) (l : List It) (i : Nat) (h : ∀ y, y ∈ l → P y) : ∀ y, y ∈ sinkL f l i → P y := by
  induction f generalizing l i with
  | zero => exact h
  | succ f ih =>
    unfold sinkL
    split
    · exact h
    · split
      · exact ih _ _ (swapL_all h0 h _ _)
      · exact h
theorem itAt_all {P : It → Prop} (h0 : P ⟨0, 0, 0, 0⟩) {l : List It} (h : ∀ y, y ∈ l → P y) (i : Nat) : P (itAt l i) := by
  unfold itAt
  rw [List.getD_eq_getElem?_getD]
  cases hi : l[i]? with
  | none => exact h0
  | some v => exact h v (List.mem_of_getElem? hi)
theorem takeL_all {P : It → Prop} (h0 : P ⟨0, 0, 0, 0⟩) (l : List It) (h : ∀ y, y ∈ l → P y) : ∀ y, y ∈ takeL l → P y := by
  unfold takeL
  refine sinkL_all h0 _ _ _ (fun y hy => ?_)
  have hy := List.mem_of_mem_take hy
  rcases List.mem_or_eq_of_mem_set hy with hy | hy
  · exact h y hy
  · subst hy; exact itAt_all h0 h _
theorem takeL_length (l : List It) : (takeL l).length = l.length - 1 := by
  unfold takeL
  rw [sinkL_length]; simp

/-- One item is released. -/
def relOne (x : Ser) : Ser :=
  { x with l := takeL x.l, rel := x.rel + 1,
           q := if x.k = 4 then x.q + (x.r + optInt (weightO x.c (itAt x.l 0).t)) / 2305843009213693952 else x.q,
           r := if x.k = 4 then (x.r + optInt (weightO x.c (itAt x.l 0).t)) % 2305843009213693952 else x.r }
def relS : Nat → Ser → Int → Ser
  | 0, x, _ => x
  | f + 1, x, m => if x.l.isEmpty then x else if m < (itAt x.l 0).t then x else relS f (relOne x) m

theorem relOne_inv {n : Int} {x : Ser} (h : SInv n x) (hl : x.l ≠ []) : SInv n (relOne x) := by
  have hlen : 0 < x.l.length := List.length_pos_iff.2 hl
  have hq := h.q0; have hqn := h.qn; have hr0 := h.r0; have hr1 := h.r1
  have hra := h.rela
  have hcap := h.cap
  have hrel := h.rel0
  have ht : (takeL x.l).length = x.l.length - 1 := takeL_length _
  refine ⟨h.valid, h.kind, h.k1, h.k5, h.acc0, h.accn, ?_, ?_, h.reflen, h.refn, ?_, ?_, ?_, ?_, ?_, ?_⟩
  · show 0 ≤ x.rel + 1; omega
  · show x.rel + 1 + ((takeL x.l).length : Int) = x.acc; omega
  · show ((takeL x.l).length : Int) ≤ x.c.cap; omega
  · exact takeL_all (P := fun y => 0 ≤ y.t ∧ y.t ≤ 4611686018427387904) (by simp) _ h.times
  · show 0 ≤ if x.k = 4 then _ else x.q
    split
    · rename_i h4
      have hw := weight_bd x.c (itAt x.l 0).t
      omega
    · exact hq
  · show (if x.k = 4 then _ else x.q) ≤ x.rel + 1
    split
    · rename_i h4
      have hw := weight_bd x.c (itAt x.l 0).t
      omega
    · omega
  · show 0 ≤ if x.k = 4 then _ else x.r
    split <;> omega
  · show (if x.k = 4 then _ else x.r) < _
    split <;> omega

theorem accS_inv {n : Int} {x : Ser} (h : SInv n x) (y : It) (t0 : 0 ≤ y.t) (t1 : y.t ≤ 4611686018427387904) (hc : (x.l.length : Int) < x.c.cap) (ha : x.acc < n) : SInv n (accS x y) := by
  have h0 := h.acc0; have hr := h.rela
  have hlen : (riseL (x.l.length + 1) (x.l ++ [numbered y (x.acc + 1)]) x.l.length).length = x.l.length + 1 := by rw [riseL_length]; simp
  refine ⟨h.valid, h.kind, h.k1, h.k5, ?_, ?_, h.rel0, ?_, h.reflen, h.refn, ?_, ?_, h.q0, h.qn, h.r0, h.r1⟩
  · show 0 ≤ x.acc + 1; omega
  · show x.acc + 1 ≤ n; omega
  · show x.rel + ((riseL (x.l.length + 1) (x.l ++ [numbered y (x.acc + 1)]) x.l.length).length : Int) = x.acc + 1; omega
  · show ((riseL (x.l.length + 1) (x.l ++ [numbered y (x.acc + 1)]) x.l.length).length : Int) ≤ x.c.cap; omega
  · refine riseL_all (P := fun y => 0 ≤ y.t ∧ y.t ≤ 4611686018427387904) (by simp) _ _ _ (fun z hz => ?_)
    rcases List.mem_append.1 hz with hz | hz
    · exact h.times z hz
    · rw [List.mem_singleton] at hz; subst hz; exact ⟨t0, t1⟩

end Go.Proofs.Yteecnidnlkjehaa
