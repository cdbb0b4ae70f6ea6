import Derived.Test.YteecnidnlkjehaaE4
namespace Go.Proofs.Yteecnidnlkjehaa
open Go.RowKit

theorem ptrs_append (a b : List (SB × Ser)) : ptrs (a ++ b) = ptrs a ++ ptrs b := by simp [ptrs]

/-- One series has turned. -/
theorem ERep.one {w w' : World} {e : Nat} {v : Value} {clock : Int} {l1 l2 : List (SB × Ser)} {p : SB × Ser} {b' : SB} {x' : Ser} (h : ERep w e v clock (l1 ++ p :: l2)) (hk : Keeps (p.1.foot p.2.k) w w')
    (hs : SRep w' b' x') (hx : x'.k = p.2.k) (hn : p.1.next b' p.2.k w.heap.size) : ERep w' e v clock (l1 ++ (b', x') :: l2) := by
  have hmem : p ∈ l1 ++ p :: l2 := by simp
  have hap := List.pairwise_append.1 h.apart
  have hap2 := List.pairwise_cons.1 hap.2.1
  have hoth : ∀ q, q ∈ l1 ∨ q ∈ l2 → q ∈ l1 ++ p :: l2 ∧ ∀ i, q.1.foot q.2.k i → ¬ p.1.foot p.2.k i := by
    intro q hq
    rcases hq with hq | hq
    · exact ⟨by simp [hq], fun i hi hp => hap.2.2 q hq p (by simp) i hi hp⟩
    · exact ⟨by simp [hq], fun i hi hp => hap2.1 q hq i hp hi⟩
  have hnew : ∀ q, q ∈ l1 ∨ q ∈ l2 → ∀ i, b'.foot x'.k i → ¬ q.1.foot q.2.k i := by
    intro q hq i hi hqi
    obtain ⟨hm, hd⟩ := hoth q hq
    rw [hx] at hi
    rcases hn.2 i hi with hf | hf
    · exact hd i hqi hf
    · have := (h.reps q hm).lt i hqi; omega
  have hrow : w'.ownsRow 0 61 1 v (l1 ++ p :: l2).length (ptrs (l1 ++ p :: l2)) := owns_keeps h.row hk (fun i hi hf => (h.ef p hmem i hf).2 hi)
  have hptr : ptrs (l1 ++ (b', x') :: l2) = ptrs (l1 ++ p :: l2) := by
    simp only [ptrs, List.map_append, List.map_cons]
    rw [hn.1]
  refine ⟨h.blk.keeps hk (fun hf => (h.ef p hmem e hf).1 rfl), ?_, ?_, ?_, h.ev, ?_⟩
  · rw [hptr, show (l1 ++ (b', x') :: l2).length = (l1 ++ p :: l2).length by simp]; exact hrow
  · intro q hq
    rcases List.mem_append.1 hq with hq | hq
    · exact (h.reps q (hoth q (.inl hq)).1).keeps hk (hoth q (.inl hq)).2
    · rcases List.mem_cons.1 hq with hq | hq
      · subst hq; exact hs
      · exact (h.reps q (hoth q (.inr hq)).1).keeps hk (hoth q (.inr hq)).2
  · refine List.pairwise_append.2 ⟨hap.1, List.pairwise_cons.2 ⟨fun q hq i hi => hnew q (.inr hq) i hi, hap2.2⟩, ?_⟩
    intro q hq r hr i hi
    rcases List.mem_cons.1 hr with hr | hr
    · subst hr; exact fun hf => hnew q (.inl hq) i hf hi
    · exact hap.2.2 q hq r (by simp [hr]) i hi
  · intro q hq i hi
    rcases List.mem_append.1 hq with hq | hq
    · exact h.ef q (hoth q (.inl hq)).1 i hi
    · rcases List.mem_cons.1 hq with hq | hq
      · subst hq
        have hi' : b'.foot p.2.k i := by rw [← hx]; exact hi
        rcases hn.2 i hi' with hf | hf
        · exact h.ef p hmem i hf
        · have h1 := h.lt e (.inl rfl)
          refine ⟨by omega, fun hv => ?_⟩
          have := h.lt i (.inr (.inl hv))
          omega
      · exact h.ef q (hoth q (.inr hq)).1 i hi
theorem EFoot.one {w : World} {e : Nat} {v : Value} {l1 l2 : List (SB × Ser)} {p : SB × Ser} {b' : SB} {x' : Ser} (hx : x'.k = p.2.k) (hn : p.1.next b' p.2.k w.heap.size) (i : Nat) (hi : EFoot e v (l1 ++ (b', x') :: l2) i) :
    EFoot e v (l1 ++ p :: l2) i ∨ w.heap.size ≤ i := by
  rcases hi with hi | hi | ⟨q, hq, hi⟩
  · exact .inl (.inl hi)
  · exact .inl (.inr (.inl hi))
  · rcases List.mem_append.1 hq with hq | hq
    · exact .inl (.inr (.inr ⟨q, by simp [hq], hi⟩))
    · rcases List.mem_cons.1 hq with hq | hq
      · subst hq
        have hi' : b'.foot p.2.k i := by rw [← hx]; exact hi
        rcases hn.2 i hi' with hf | hf
        · exact .inl (.inr (.inr ⟨p, by simp, hf⟩))
        · exact .inr hf
      · exact .inl (.inr (.inr ⟨q, by simp [hq], hi⟩))

def updS : List Ser → Int → Ser → List Ser
  | [], _, _ => []
  | x :: r, id, y => if x.id == id then y :: r else x :: updS r id y
def findS (xs : List Ser) (id : Int) : Option Ser := xs.find? (fun x => x.id == id)
theorem findP_some {ps : List (SB × Ser)} {id : Int} {p : SB × Ser} (h : findP ps id = some p) : ∃ l1 l2, ps = l1 ++ p :: l2 ∧ ∀ y : Ser, updS (ps.map (·.2)) id y = l1.map (·.2) ++ y :: l2.map (·.2) := by
  obtain ⟨hp, l1, l2, he, hn⟩ := List.find?_eq_some_iff_append.1 h
  refine ⟨l1, l2, he, fun y => ?_⟩
  subst he
  clear h
  induction l1 with
  | nil => simp [updS, hp]
  | cons a l ih =>
    have ha : (a.2.id == id) = false := by simpa using hn a (by simp)
    simp only [List.cons_append, List.map_cons, updS, ha]
    rw [ih (fun b hb => hn b (by simp [hb]))]
    rfl
theorem findP_findS (ps : List (SB × Ser)) (id : Int) : findS (ps.map (·.2)) id = (findP ps id).map (·.2) := by
  unfold findS findP
  induction ps with
  | nil => rfl
  | cons a l ih =>
    simp only [List.map_cons, List.find?_cons]
    cases (a.2.id == id) with
    | true => rfl
    | false => exact ih

/-- A refusal is counted. -/
def refS (x : Ser) (c : Nat) : Ser := { x with ref := x.ref.set c (refAt x.ref c + 1) }
theorem refS_cells (b : SB) (x : Ser) (c : Nat) (u : Int) : (serCells b x).set (29 + c) (.int .i64 u) = serCells b { x with ref := x.ref.set c u } := by
  have h1 : (serCells b x).set (29 + c) (.int .i64 u) = .int .i64 x.id :: x.c.vals (fn (fitsF x.k) :: fn (refuseF x.k) :: fn (startF x.k) :: relV x.k b.d :: qryV x.k b.d :: .pointer (some ⟨b.q, 0, none⟩) :: .int .i64 x.acc :: .int .i64 x.rel :: (x.ref.map (.int .i64 ·)).set c (.int .i64 u)) := by
    rw [Nat.add_comm]; rfl
  rw [h1]
  unfold serCells
  simp only
  rw [List.map_set]
theorem refS_inv {n : Int} {x : Ser} (h : SInv n x) (c : Nat) (hn : ∀ v, v ∈ x.ref → v < n) (hc : c < 12) : SInv n (refS x c) := by
  have hl := h.reflen
  have hm : refAt x.ref c ∈ x.ref := by unfold refAt; rw [List.getD_eq_getElem?_getD, List.getElem?_eq_getElem (by omega)]; exact List.getElem_mem _
  refine ⟨h.valid, h.kind, h.k1, h.k5, h.acc0, h.accn, h.rel0, h.rela, by simp [refS, hl], ?_, h.cap, h.times, h.q0, h.qn, h.r0, h.r1⟩
  intro v hv
  rcases List.mem_or_eq_of_mem_set hv with hv | hv
  · exact h.refn v hv
  · subst hv
    have h1 := h.refn _ hm
    have h2 := hn _ hm
    omega
theorem refE_range (x : Ser) (clock : Int) (y : It) : 0 ≤ refE x clock y ∧ refE x clock y ≤ 11 := by
  have hk : 0 ≤ kindE x.c x.k y ∧ kindE x.c x.k y ≤ 11 := by
    unfold kindE keyE weightE drawnE
    repeat (first | omega | split)
  unfold refE
  repeat (first | omega | split)

end Go.Proofs.Yteecnidnlkjehaa
