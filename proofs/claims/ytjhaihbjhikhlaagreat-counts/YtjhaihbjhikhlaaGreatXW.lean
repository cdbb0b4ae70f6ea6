import Derived.Test.YtjhaihbjhikhlaaGreatXR
import Derived.Test.YtjhaihbjhikhlaaGreatXV
import Derived.Test.YtjhaihbjhikhlaaGreatXU
namespace Go.Proofs.YtjhaihbjhikhlaaGreat
open Go.RowKit

/-- A refusal, by whatever kind. -/
theorem rrefusal_any (n : Int) (e : Nat) (clock : Int) (b : RB) (y : RSer) (o : OpM) (w : World) (h : RRep w b y) (hi : RInv n y) (hn : n ≤ 1152921504606846976) (hc : w.cell? ⟨e, 0, none⟩ = some (.int .i64 clock)) (c0 : 0 ≤ clock) (c1 : clock ≤ 4611686018427387904) :
    Calls Tryz.prog 69 #[.pointer (some ⟨e, 0, none⟩), .pointer (some ⟨b.s, 0, none⟩), o.val] w fun r w' => r = .returned (.int .i64 (refuR y clock o)) ∧ Keeps (fun _ => False) w w' := by
  obtain ⟨k, hk, h1, h5, _, _⟩ := valid_parts hi.valid
  have hcases : k = 1 ∨ k = 2 ∨ k = 3 ∨ k = 4 ∨ k = 5 := by omega
  cases ha : inB o.a 0 4611686018427387904
  · rcases hcases with rfl | rfl | rfl | rfl | rfl
    · exact rrefu_1_out n e clock b y o w h hi hn hc c0 c1 hk ha
    · exact rrefu_2_out n e clock b y o w h hi hn hc c0 c1 hk ha
    · exact rrefu_3_out n e clock b y o w h hi hn hc c0 c1 hk ha
    · exact rrefu_4_out n e clock b y o w h hi hn hc c0 c1 hk ha
    · exact rrefu_5_out n e clock b y o w h hi hn hc c0 c1 hk ha
  · rcases hcases with rfl | rfl | rfl | rfl | rfl
    · exact rrefu_1_in n e clock b y o w h hi hn hc c0 c1 hk ha
    · exact rrefu_2_in n e clock b y o w h hi hn hc c0 c1 hk ha
    · exact rrefu_3_in n e clock b y o w h hi hn hc c0 c1 hk ha
    · exact rrefu_4_in n e clock b y o w h hi hn hc c0 c1 hk ha
    · exact rrefu_5_in n e clock b y o w h hi hn hc c0 c1 hk ha

/-! ### one series turns -/
def RB.next (b b' : RB) (size : Nat) : Prop := b'.s = b.s ∧ ∀ i, b'.foot i → b.foot i ∨ size ≤ i
theorem RWRep.one {w w' : World} {e : Nat} {v : Value} {clock ticks : Int} {l1 l2 : List (RB × RSer)} {p : RB × RSer} {b' : RB} {x' : RSer} (h : RWRep w e v clock ticks (l1 ++ p :: l2)) (hk : Keeps p.1.foot w w')
    (hs : RRep w' b' x') (hn : p.1.next b' w.heap.size) : RWRep w' e v clock ticks (l1 ++ (b', x') :: l2) := by
  have hmem : p ∈ l1 ++ p :: l2 := by simp
  have hap := List.pairwise_append.1 h.apart
  have hap2 := List.pairwise_cons.1 hap.2.1
  have hoth : ∀ q, q ∈ l1 ∨ q ∈ l2 → q ∈ l1 ++ p :: l2 ∧ ∀ i, q.1.foot i → ¬ p.1.foot i := by
    intro q hq
    rcases hq with hq | hq
    · exact ⟨by simp [hq], fun i hi hp => hap.2.2 q hq p (by simp) i hi hp⟩
    · exact ⟨by simp [hq], fun i hi hp => hap2.1 q hq i hp hi⟩
  have hnew : ∀ q, q ∈ l1 ∨ q ∈ l2 → ∀ i, b'.foot i → ¬ q.1.foot i := by
    intro q hq i hi hqi
    obtain ⟨hm, hd⟩ := hoth q hq
    rcases hn.2 i hi with hf | hf
    · exact hd i hqi hf
    · have := (h.reps q hm).lt i hqi; omega
  have hrow : w'.ownsRow 0 86 1 v (l1 ++ p :: l2).length (rptrs (l1 ++ p :: l2)) := owns_keeps h.row hk (fun i hi hf => (h.ef p hmem i hf).2 hi)
  have hptr : rptrs (l1 ++ (b', x') :: l2) = rptrs (l1 ++ p :: l2) := by
    simp only [rptrs, List.map_append, List.map_cons]
    rw [hn.1]
  refine ⟨h.blk.keeps hk (fun hf => (h.ef p hmem e hf).1 rfl), ?_, ?_, ?_, h.ev, ?_⟩
  · rw [hptr, show (l1 ++ (b', x') :: l2).length = (l1 ++ p :: l2).length by simp]; exact hrow
  · intro q hq
    rcases List.mem_append.1 hq with hq | hq
    · exact (h.reps q (hoth q (.inl hq)).1).keeps hk (hoth q (.inl hq)).2
    · rcases List.mem_cons.1 hq with hq | hq
      · subst hq; exact hs
      · exact (h.reps q (hoth q (.inr hq)).1).keeps hk (hoth q (.inr hq)).2
  · refine List.pairwise_append.2 ⟨hap.1, List.pairwise_cons.2 ⟨fun q hq i hi => hnew q (.inr hq) i hi, hap2.2⟩, ?_⟩
    intro q hq r hr i hi
    rcases List.mem_cons.1 hr with hr | hr
    · subst hr; exact fun hf => hnew q (.inl hq) i hf hi
    · exact hap.2.2 q hq r (by simp [hr]) i hi
  · intro q hq i hi
    rcases List.mem_append.1 hq with hq | hq
    · exact h.ef q (hoth q (.inl hq)).1 i hi
    · rcases List.mem_cons.1 hq with hq | hq
      · subst hq
        rcases hn.2 i hi with hf | hf
        · exact h.ef p hmem i hf
        · have h1 := h.lt e (.inl rfl)
          refine ⟨by omega, fun hv => ?_⟩
          have := h.lt i (.inr (.inl hv))
          omega
      · exact h.ef q (hoth q (.inr hq)).1 i hi
theorem RFoot.one {w : World} {e : Nat} {v : Value} {l1 l2 : List (RB × RSer)} {p : RB × RSer} {b' : RB} {x' : RSer} (hn : p.1.next b' w.heap.size) (i : Nat) (hi : RFoot e v (l1 ++ (b', x') :: l2) i) :
    RFoot e v (l1 ++ p :: l2) i ∨ w.heap.size ≤ i := by
  rcases hi with hi | hi | ⟨q, hq, hi⟩
  · exact .inl (.inl hi)
  · exact .inl (.inr (.inl hi))
  · rcases List.mem_append.1 hq with hq | hq
    · exact .inl (.inr (.inr ⟨q, by simp [hq], hi⟩))
    · rcases List.mem_cons.1 hq with hq | hq
      · subst hq
        rcases hn.2 i hi with hf | hf
        · exact .inl (.inr (.inr ⟨p, by simp, hf⟩))
        · exact .inr hf
      · exact .inl (.inr (.inr ⟨q, by simp [hq], hi⟩))
theorem findRP_some {ps : List (RB × RSer)} {id : Int} {p : RB × RSer} (h : findRP ps id = some p) : ∃ l1 l2, ps = l1 ++ p :: l2 ∧ ∀ y : RSer, updR (ps.map (·.2)) id y = l1.map (·.2) ++ y :: l2.map (·.2) := by
  obtain ⟨hp, l1, l2, he, hn⟩ := List.find?_eq_some_iff_append.1 h
  refine ⟨l1, l2, he, fun y => ?_⟩
  subst he
  clear h
  induction l1 with
  | nil => simp [updR, hp]
  | cons a l ih =>
    have ha : (a.2.id == id) = false := by simpa using hn a (by simp)
    simp only [List.cons_append, List.map_cons, updR, ha]
    rw [ih (fun b hb => hn b (by simp [hb]))]
    rfl
theorem findRP_findR (ps : List (RB × RSer)) (id : Int) : findR (ps.map (·.2)) id = (findRP ps id).map (·.2) := by
  unfold findR findRP
  induction ps with
  | nil => rfl
  | cons a l ih =>
    simp only [List.map_cons, List.find?_cons]
    cases (a.2.id == id) with
    | true => rfl
    | false => exact ih

/-- What a step leaves of the document's world. -/
def RPost (w : World) (e : Nat) (v : Value) (ps : List (RB × RSer)) (s' : RWS) (w' : World) : Prop :=
  ∃ v' ps', RWRep w' e v' s'.clock s'.ticks ps' ∧ ps'.map (·.2) = s'.xs ∧ Keeps (RFoot e v ps) w w' ∧ (∀ i, RFoot e v' ps' i → RFoot e v ps i ∨ w.heap.size ≤ i)
theorem rpost_still {w w' : World} {e : Nat} {v : Value} {clock ticks : Int} {ps : List (RB × RSer)} (h : RWRep w e v clock ticks ps) (hk : Keeps (fun _ => False) w w') : RPost w e v ps ⟨clock, ticks, ps.map (·.2)⟩ w' :=
  ⟨v, ps, h.still hk, rfl, hk.mono (fun _ _ h => h.elim), fun _ hi => .inl hi⟩

/-! ### what stands behind an append through a pointer -/
theorem cells_set21 (b : RB) (y : RSer) (nv : Value) (its : List RIt) : (rCells b y).set 21 nv = rCells ⟨b.s, nv, b.ev⟩ { y with items := its } := rfl
theorem cells_set22 (b : RB) (y : RSer) (nv : Value) (evs : List REv) : (rCells b y).set 22 nv = rCells ⟨b.s, b.iv, nv⟩ { y with events := evs } := rfl
theorem its_end {w w1 : World} {B : Obj} {b : RB} {y : RSer} {z : RIt} {gg n cap' : Nat} {nv : Value} (h : RRep w b y) (hn : y.items.length = n) (hnv : nv = .slice (some ⟨gg, 0, none⟩) (n + 1) cap')
    (hown1 : w1.ownsRow 0 115 5 nv (n + 1) (iFlat y.items ++ z.cells)) (hgrow : (w.alloc B).drew.grownBy w1 b.iv.ownBlock) (hat : b.iv.ownBlock = some gg ∨ gg = w.heap.size + 1) :
    RRep (w1.setCell ⟨b.s, 21, none⟩ nv) ⟨b.s, nv, b.ev⟩ { y with items := y.items ++ [z] } ∧ Keeps b.foot w (w1.setCell ⟨b.s, 21, none⟩ nv) ∧ b.next ⟨b.s, nv, b.ev⟩ w.heap.size := by
  have hnb : nv.ownBlock = some gg := by rw [hnv]; rfl
  have hk1 : Keeps (fun i => b.iv.ownBlock = some i) w w1 := (((Keeps.refl _ w).alloc B).drew).grown hgrow (fun k hk => Or.inl hk)
  have hk2 : Keeps (fun i => i = b.s) w1 (w1.setCell ⟨b.s, 21, none⟩ nv) := (Keeps.refl (fun i => i = b.s) w1).setCell (p := ⟨b.s, 21, none⟩) (Or.inl rfl) _
  have hsl := h.blk.lt
  have hgs : gg ≠ b.s := by
    rcases hat with h1 | h1
    · intro he; exact h.si (by rw [h1, he])
    · omega
  refine ⟨⟨?_, ?_, ?_, ?_, h.se, ?_⟩, ?_, rfl, ?_⟩
  · have := (h.blk.keeps hk1 (fun hh => h.si hh)).setCell 21 nv
    rw [cells_set21 b y nv (y.items ++ [z])] at this
    exact this
  · have h2 := owns_keeps hown1 hk2 (fun i hi hh => by rw [hnb] at hi; injection hi with hi; omega)
    show World.ownsRow _ 0 115 5 nv (y.items ++ [z]).length (iFlat (y.items ++ [z]))
    rw [List.length_append, hn]
    have : iFlat (y.items ++ [z]) = iFlat y.items ++ z.cells := by simp [iFlat]
    rw [this]; exact h2
  · exact owns_keeps (owns_keeps h.evs hk1 (fun i hi hh => h.ie i hh hi)) hk2 (fun i hi hh => h.se (by rw [← hh]; exact hi))
  · show nv.ownBlock ≠ some b.s
    rw [hnb]; intro hh; injection hh with hh; exact hgs hh
  · intro i hi hh
    have hi' : gg = i := by have : nv.ownBlock = some i := hi; rw [hnb] at this; injection this
    have hel := (h.evs.lt i hh).2
    rcases hat with h1 | h1
    · exact h.ie i (by rw [h1, hi']) hh
    · omega
  · exact (hk1.mono (M' := b.foot) (fun i _ hh => .inr (.inl hh))).trans hk2 (fun i hi _ => .inl hi)
  · intro i hi
    rcases hi with hi | hi | hi
    · exact .inl (.inl hi)
    · have hi' : gg = i := by have : nv.ownBlock = some i := hi; rw [hnb] at this; injection this
      rcases hat with h1 | h1
      · exact .inl (.inr (.inl (by rw [h1, hi'])))
      · exact .inr (by omega)
    · exact .inl (.inr (.inr hi))
theorem evs_end {w w1 : World} {B : Obj} {b : RB} {y : RSer} {z : REv} {gg n cap' : Nat} {nv : Value} (h : RRep w b y) (hn : y.events.length = n) (hnv : nv = .slice (some ⟨gg, 0, none⟩) (n + 1) cap')
    (hown1 : w1.ownsRow 0 120 4 nv (n + 1) (eFlat y.events ++ z.cells)) (hgrow : (w.alloc B).drew.grownBy w1 b.ev.ownBlock) (hat : b.ev.ownBlock = some gg ∨ gg = w.heap.size + 1) :
    RRep (w1.setCell ⟨b.s, 22, none⟩ nv) ⟨b.s, b.iv, nv⟩ { y with events := y.events ++ [z] } ∧ Keeps b.foot w (w1.setCell ⟨b.s, 22, none⟩ nv) ∧ b.next ⟨b.s, b.iv, nv⟩ w.heap.size := by
  have hnb : nv.ownBlock = some gg := by rw [hnv]; rfl
  have hk1 : Keeps (fun i => b.ev.ownBlock = some i) w w1 := (((Keeps.refl _ w).alloc B).drew).grown hgrow (fun k hk => Or.inl hk)
  have hk2 : Keeps (fun i => i = b.s) w1 (w1.setCell ⟨b.s, 22, none⟩ nv) := (Keeps.refl (fun i => i = b.s) w1).setCell (p := ⟨b.s, 22, none⟩) (Or.inl rfl) _
  have hsl := h.blk.lt
  have hgs : gg ≠ b.s := by
    rcases hat with h1 | h1
    · intro he; exact h.se (by rw [h1, he])
    · omega
  refine ⟨⟨?_, ?_, ?_, h.si, ?_, ?_⟩, ?_, rfl, ?_⟩
  · have := (h.blk.keeps hk1 (fun hh => h.se hh)).setCell 22 nv
    rw [cells_set22 b y nv (y.events ++ [z])] at this
    exact this
  · exact owns_keeps (owns_keeps h.its hk1 (fun i hi hh => h.ie i hi hh)) hk2 (fun i hi hh => h.si (by rw [← hh]; exact hi))
  · have h2 := owns_keeps hown1 hk2 (fun i hi hh => by rw [hnb] at hi; injection hi with hi; omega)
    show World.ownsRow _ 0 120 4 nv (y.events ++ [z]).length (eFlat (y.events ++ [z]))
    rw [List.length_append, hn]
    have : eFlat (y.events ++ [z]) = eFlat y.events ++ z.cells := by simp [eFlat]
    rw [this]; exact h2
  · show nv.ownBlock ≠ some b.s
    rw [hnb]; intro hh; injection hh with hh; exact hgs hh
  · intro i hi hh
    have hi' : gg = i := by have : nv.ownBlock = some i := hh; rw [hnb] at this; injection this
    have hel := (h.its.lt i hi).2
    rcases hat with h1 | h1
    · exact h.ie i hi (by rw [h1, hi'])
    · omega
  · exact (hk1.mono (M' := b.foot) (fun i _ hh => .inr (.inr hh))).trans hk2 (fun i hi _ => .inl hi)
  · intro i hi
    rcases hi with hi | hi | hi
    · exact .inl (.inl hi)
    · exact .inl (.inr (.inl hi))
    · have hi' : gg = i := by have : nv.ownBlock = some i := hi; rw [hnb] at this; injection this
      rcases hat with h1 | h1
      · exact .inl (.inr (.inr (by rw [h1, hi'])))
      · exact .inr (by omega)
/-- An item's tick is written. -/
theorem tick_end {w : World} {b : RB} {y : RSer} {g cap : Nat} (h : RRep w b y) (hv : b.iv = .slice (some ⟨g, 0, none⟩) y.items.length cap) (k : Nat) (hk : k < y.items.length) (t : Int) :
    RRep (w.setCell ⟨g, k * 5 + 4, none⟩ (.int .i64 t)) b { y with items := tickAt y.items k t } ∧ Keeps b.foot w (w.setCell ⟨g, k * 5 + 4, none⟩ (.int .i64 t)) := by
  have hg : b.iv.ownBlock = some g := by rw [hv]; rfl
  have hk1 : Keeps (fun i => i = g) w (w.setCell ⟨g, k * 5 + 4, none⟩ (.int .i64 t)) := (Keeps.refl (fun i => i = g) w).setCell (p := ⟨g, k * 5 + 4, none⟩) (Or.inl rfl) _
  have hgs : g ≠ b.s := fun he => h.si (by rw [hg, he])
  refine ⟨⟨h.blk.keeps hk1 (fun hh => hgs hh.symm), ?_, owns_keeps h.evs hk1 (fun i hi hh => h.ie g hg (by rw [← hh]; exact hi)), h.si, h.se, h.ie⟩, hk1.mono (fun i _ hh => .inr (.inl (by rw [hg, hh])))⟩
  have h1 := h.its
  rw [hv] at h1
  have h2 := row_set h1 (k * 5 + 4) (.int .i64 t)
  rw [iFlat_tick _ _ hk] at h2
  show World.ownsRow _ 0 115 5 b.iv (tickAt y.items k t).length (iFlat (tickAt y.items k t))
  rw [hv, show (tickAt y.items k t).length = y.items.length by simp [tickAt]]
  exact h2
/-- A refusal is counted. -/
theorem ref_end {w : World} {b : RB} {y : RSer} (h : RRep w b y) (c : Nat) (u : Int) :
    RRep (w.setCell ⟨b.s, 23 + c, none⟩ (.int .i64 u)) b { y with ref := y.ref.set c u } ∧ Keeps b.foot w (w.setCell ⟨b.s, 23 + c, none⟩ (.int .i64 u)) := by
  have hk1 : Keeps (fun i => i = b.s) w (w.setCell ⟨b.s, 23 + c, none⟩ (.int .i64 u)) := (Keeps.refl (fun i => i = b.s) w).setCell (p := ⟨b.s, 23 + c, none⟩) (Or.inl rfl) _
  refine ⟨⟨?_, owns_keeps h.its hk1 (fun i hi hh => h.si (by rw [← hh]; exact hi)), owns_keeps h.evs hk1 (fun i hi hh => h.se (by rw [← hh]; exact hi)), h.si, h.se, h.ie⟩, hk1.mono (fun i _ hh => .inl hh)⟩
  have := h.blk.setCell (23 + c) (.int .i64 u)
  have h1 : (rCells b y).set (23 + c) (.int .i64 u) = rCells b { y with ref := y.ref.set c u } := by
    have h1 : (rCells b y).set (23 + c) (.int .i64 u) = .int .i64 y.id :: y.c.vals (b.iv :: b.ev :: (y.ref.map (.int .i64 ·)).set c (.int .i64 u)) := by
      rw [Nat.add_comm]; rfl
    rw [h1]
    unfold rCells
    simp only
    rw [List.map_set]
  rw [h1] at this
  exact this

end Go.Proofs.YtjhaihbjhikhlaaGreat

namespace Go.Proofs.YtjhaihbjhikhlaaGreat
open Go.RowKit
attribute [local go_sem ↓] execOp_load38 execOp_load40
attribute [local go_sem] run_load38 run_load40 bigVal_drew hasBig_drew bigVal_ne hasBig_ne bigVal_alloc hasBig_alloc bigVal_new hasBig_newB

theorem info118 : (Tryz.prog.info? 115).map (fun i => (i.zero, i.size, i.bytes)) = some (some (.agg #[.int .i64 0, .int .i64 0, .int .i64 0, .int .i64 0, .int .i64 0]), 5, 40) := by kernel_rfl
theorem refuR_range (y : RSer) (clock : Int) (o : OpM) : 0 ≤ refuR y clock o ∧ refuR y clock o ≤ 11 := by
  unfold refuR
  repeat (first | omega | split)

set_option maxRecDepth 100000 in
set_option maxHeartbeats 2000000 in
theorem radd_no (e : Nat) (v : Value) (clock ticks : Int) (ps : List (RB × RSer)) (o : OpM) (w : World) (h : RWRep w e v clock ticks ps) (hl : ps.length ≤ 1000) (hf : findRP ps o.id = none) :
    Calls Tryz.prog 51 #[.pointer (some ⟨e, 0, none⟩), o.val] w fun r w' => r = .returned (.tuple #[.int .i64 0, .int .i64 2]) ∧ RPost w e v ps ⟨clock, ticks, ps.map (·.2)⟩ w' := by
  have h1 : o.cells[1]? = some (.int .i64 o.id) := rfl
  have HE := hide h
  have hk0 : Keeps (fun _ => False) w (w.alloc (.cells o.cells.toArray 35)) := (Keeps.refl (fun _ => False) w).alloc _
  have HE0 := hide (h.still hk0)
  have HK0 := hide hk0
  clear h hk0
  unfold OpM.val
  go_enter Tryz.func51, Tryz.ntmps51
  go_wp2_with fail
  generalize w.alloc (.cells o.cells.toArray 35) = w0 at *
  refine (rfind_any e v clock ticks o.id ps w0 (unhide HE0) hl).mono ?_
  rintro r w1 ⟨rfl, hw1⟩
  rw [hw1, hf]
  clear hw1 w1
  unfold rptrOf
  go_wp2
  go_ret2
  exact ⟨rfl, rpost_still (unhide HE) (unhide HK0)⟩

set_option maxRecDepth 100000 in
set_option maxHeartbeats 4000000 in
theorem radd_ref (n : Int) (e : Nat) (v : Value) (clock ticks : Int) (ps : List (RB × RSer)) (o : OpM) (w : World) (h : RWRep w e v clock ticks ps) (hi : RWInv n clock ticks (ps.map (·.2))) (hn : n < 1152921504606846976) (p : RB × RSer) (hf : findRP ps o.id = some p) (hr : refuR p.2 clock o ≠ 0) :
    Calls Tryz.prog 51 #[.pointer (some ⟨e, 0, none⟩), o.val] w fun r w' => r = .returned (.tuple #[.int .i64 0, .int .i64 (refuR p.2 clock o)]) ∧ RPost w e v ps ⟨clock, ticks, updR (ps.map (·.2)) o.id (refR p.2 (refuR p.2 clock o).toNat)⟩ w' := by
  have hmem : p ∈ ps := List.mem_of_find?_eq_some hf
  have HM := hide hmem
  have hip := hi.sers p.2 (List.mem_map_of_mem hmem)
  have HIP := hide hip
  have hl : ps.length ≤ 1000 := by have := hi.six; rw [List.length_map] at this; omega
  have h1 : o.cells[1]? = some (.int .i64 o.id) := rfl
  have HE := hide h
  have hk0 : Keeps (fun _ => False) w (w.alloc (.cells o.cells.toArray 35)) := (Keeps.refl (fun _ => False) w).alloc _
  have HO0 := hide (show Blk (w.alloc (.cells o.cells.toArray 35)) w.heap.size o.cells 35 from Blk.new w o.cells 35)
  have HE0 := hide (h.still hk0)
  have HK0 := hide hk0
  obtain ⟨hrr0, hrr1⟩ := refuR_range p.2 clock o
  have hc0 := hi.c0
  have hc1 := hi.c1
  have HF := hide hf
  clear h hk0 hip hmem hi hf
  unfold OpM.val
  go_enter Tryz.func51, Tryz.ntmps51
  go_wp2_with fail
  generalize w.alloc (.cells o.cells.toArray 35) = w0 at *
  generalize hob : w.heap.size = ob at *
  have HOB := hide hob
  clear hob
  refine (rfind_any e v clock ticks o.id ps w0 (unhide HE0) hl).mono ?_
  rintro r w1 ⟨rfl, hw1⟩
  rw [hw1, unhide HF]
  clear hw1 w1
  unfold rptrOf
  obtain ⟨hv0, hh0⟩ := bigVal_Blk (unhide HO0) 26 rfl
  go_wp2_with fail
  refine (rrefusal_any n e clock p.1 p.2 o w0 ((unhide HE0).reps p (unhide HM)) (unhide HIP) (by omega) ((unhide HE0).blk.cell rfl) hc0 hc1).mono ?_
  rintro r w1 ⟨rfl, hk1⟩
  have HE1 := hide ((unhide HE0).still hk1)
  have HK1 := hide ((unhide HK0).then hk1)
  clear hk1 hv0 hh0
  generalize hcd : refuR p.2 clock o = cd at *
  have HCD := hide hcd
  clear hcd
  obtain ⟨c, rfl⟩ := Int.eq_ofNat_of_zero_le hrr0
  have hb : ((c : Int) != 0) = true := by simpa using hr
  have hR1 := (unhide HE1).reps p (unhide HM)
  have hrl := (unhide HIP).refl
  have hcl : c < p.2.ref.length := by omega
  have hcell : w1.cell? ⟨p.1.s, 23 + c, none⟩ = some (.int .i64 (refAt p.2.ref c)) := by
    refine hR1.blk.cell ?_
    have : (rCells p.1 p.2)[23 + c]? = (p.2.ref.map (Value.int .i64 ·))[c]? := by rw [Nat.add_comm]; rfl
    rw [this, List.getElem?_map, List.getElem?_eq_getElem hcl]
    unfold refAt
    rw [List.getD_eq_getElem?_getD, List.getElem?_eq_getElem hcl]; rfl
  have hfz := hR1.blk.frozen
  have hbd := (unhide HIP).refn (refAt p.2.ref c) (by unfold refAt; rw [List.getD_eq_getElem?_getD, List.getElem?_eq_getElem hcl]; exact List.getElem_mem _)
  obtain ⟨hbd0, hbd1⟩ := hbd
  have HEN := hide (ref_end hR1 c (refAt p.2.ref c + 1))
  have hc15 : (c : Int) < 15 := by omega
  clear hR1 hrl hcl
  generalize hra : refAt p.2.ref c = ra at *
  have HRA := hide hra
  clear hra
  go_wp2_with fail
  go_region
  go_wp2
  go_ret2
  obtain ⟨hR2, hk2⟩ := unhide HEN
  refine ⟨by rw [unhide HCD]; rfl, ?_⟩
  rw [unhide HCD, Int.toNat_natCast]
  obtain ⟨l1, l2, hps, hup⟩ := findRP_some (unhide HF)
  subst hps
  have hnx : p.1.next p.1 w1.heap.size := ⟨rfl, fun _ hi => .inl hi⟩
  have hrs : RRep (w1.setCell ⟨p.1.s, 23 + c, none⟩ (.int .i64 (ra + 1))).drew p.1 (refR p.2 c) := by
    have := hR2.still ((Keeps.refl (fun _ => False) (w1.setCell ⟨p.1.s, 23 + c, none⟩ (.int .i64 (ra + 1)))).drew)
    unfold refR
    rw [unhide HRA]
    exact this
  have hW := (unhide HE1).one hk2.drew hrs hnx
  refine ⟨v, l1 ++ (p.1, refR p.2 c) :: l2, hW, ?_, ?_, ?_⟩
  · simp only [hup]
    simp
  · refine ((unhide HK1).mono (M' := RFoot e v (l1 ++ p :: l2)) (fun _ _ h => h.elim)).trans hk2.drew (fun i hi _ => .inr (.inr ⟨p, by simp, hi⟩))
  · intro i hi
    rcases RFoot.one (w := w1) hnx i hi with h | h
    · exact .inl h
    · exact .inr (by have := (unhide HK1).size; omega)

end Go.Proofs.YtjhaihbjhikhlaaGreat

namespace Go.Proofs.YtjhaihbjhikhlaaGreat
open Go.RowKit
attribute [local go_sem ↓] execOp_load38 execOp_load40
attribute [local go_sem] run_load38 run_load40 bigVal_drew hasBig_drew bigVal_ne hasBig_ne bigVal_alloc hasBig_alloc bigVal_new hasBig_newB

set_option maxRecDepth 100000 in
set_option maxHeartbeats 4000000 in
theorem radd_yes (n : Int) (e : Nat) (v : Value) (clock ticks : Int) (ps : List (RB × RSer)) (o : OpM) (w : World) (h : RWRep w e v clock ticks ps) (hi : RWInv n clock ticks (ps.map (·.2))) (hn : n < 1099511627776) (p : RB × RSer) (hf : findRP ps o.id = some p) (hr : refuR p.2 clock o = 0) :
    Calls Tryz.prog 51 #[.pointer (some ⟨e, 0, none⟩), o.val] w fun r w' => r = .returned (.tuple #[.int .i64 ((p.2.items.length : Int) + 1), .int .i64 0]) ∧ RPost w e v ps ⟨clock, ticks, updR (ps.map (·.2)) o.id (accR p.2 o)⟩ w' := by
  have hmem : p ∈ ps := List.mem_of_find?_eq_some hf
  have HM := hide hmem
  have hip := hi.sers p.2 (List.mem_map_of_mem hmem)
  have HIP := hide hip
  have hil := hip.items
  have hl : ps.length ≤ 1000 := by have := hi.six; rw [List.length_map] at this; omega
  have h1 : o.cells[1]? = some (.int .i64 o.id) := rfl
  have HE := hide h
  have hk0 : Keeps (fun _ => False) w (w.alloc (.cells o.cells.toArray 35)) := (Keeps.refl (fun _ => False) w).alloc _
  have HO0 := hide (show Blk (w.alloc (.cells o.cells.toArray 35)) w.heap.size o.cells 35 from Blk.new w o.cells 35)
  have HE0 := hide (h.still hk0)
  have HK0 := hide hk0
  have hc0 := hi.c0
  have hc1 := hi.c1
  have HF := hide hf
  clear h hk0 hip hmem hi hf
  unfold OpM.val
  go_enter Tryz.func51, Tryz.ntmps51
  go_wp2_with fail
  generalize w.alloc (.cells o.cells.toArray 35) = w0 at *
  generalize hob : w.heap.size = ob at *
  have HOB := hide hob
  clear hob
  refine (rfind_any e v clock ticks o.id ps w0 (unhide HE0) hl).mono ?_
  rintro r w1 ⟨rfl, hw1⟩
  rw [hw1, unhide HF]
  clear hw1 w1
  unfold rptrOf
  obtain ⟨hv0, hh0⟩ := bigVal_Blk (unhide HO0) 26 rfl
  go_wp2_with fail
  refine (rrefusal_any n e clock p.1 p.2 o w0 ((unhide HE0).reps p (unhide HM)) (unhide HIP) (by omega) ((unhide HE0).blk.cell rfl) hc0 hc1).mono ?_
  rintro r w1 ⟨rfl, hk1⟩
  rw [hr]
  have HE1 := hide ((unhide HE0).still hk1)
  have HO1 := hide ((unhide HO0).keeps hk1 (fun h => h))
  have HK1 := hide ((unhide HK0).then hk1)
  clear hk1 hv0 hh0
  have HR1 := hide ((unhide HE1).reps p (unhide HM))
  have hs21 : w1.cell? ⟨p.1.s, 21, none⟩ = some p.1.iv := (unhide HR1).blk.cell rfl
  have hfz := (unhide HR1).blk.frozen
  have hown := (unhide HR1).its
  have hsl := (unhide HR1).blk.lt
  have o2 : w1.cell? ⟨ob, 2, none⟩ = some (.int .i64 o.a) := (unhide HO1).cell rfl
  have o3 : w1.cell? ⟨ob, 3, none⟩ = some (.int .i64 o.b) := (unhide HO1).cell rfl
  have o4 : w1.cell? ⟨ob, 4, none⟩ = some (.int .i64 o.c) := (unhide HO1).cell rfl
  have HSI := hide (unhide HR1).si
  obtain ⟨i0, hi0, hz0, hz1, hz2⟩ := info_parts info118
  have hlv : ∃ a cap, p.1.iv = .slice a p.2.items.length cap := by
    rcases hown.2 with ⟨h1, h2⟩ | ⟨g, cap, cur, h1, _⟩
    · exact ⟨none, 0, by rw [h1, h2]⟩
    · exact ⟨some ⟨g, 0, none⟩, cap, h1⟩
  obtain ⟨va, vcap, hvv⟩ := hlv
  generalize hnn : p.2.items.length = m at *
  have HNN := hide hnn
  clear hnn
  have HF2 : Hid (∀ B w2, (w1.alloc B).drew.grownBy w2 p.1.iv.ownBlock → w2.cell? ⟨p.1.s, 21, none⟩ = some p.1.iv ∧ w2.frozen? ⟨p.1.s, 21, none⟩ = false) := fun B w2 hg => by
    have hb1 : w2.heap[p.1.s]? = w1.heap[p.1.s]? := by
      rw [hg.block p.1.s (by simp; omega) (fun h => (unhide HSI) h.symm)]
      show (w1.alloc B).heap[p.1.s]? = _
      rw [Below.heap_alloc _ _ _ hsl]
    exact ⟨(World.cell?_of_block (a := ⟨p.1.s, 21, none⟩) hb1).trans hs21, (World.frozen?_of_block (a := ⟨p.1.s, 21, none⟩) hb1).trans (hfz 21)⟩
  have hnew : Hid (∀ B, (w1.alloc B).drew.heap[w1.heap.size]? = some B) := fun B => heap_alloc_new w1 B
  have HEND := hide (fun (w2 : World) (gg cap' : Nat) (B : Obj) (hown1 : w2.ownsRow 0 115 5 (.slice (some ⟨gg, 0, none⟩) (m + 1) cap') (m + 1) (iFlat p.2.items ++ (⟨o.a, o.b, o.c, (m : Int) + 1, 0⟩ : RIt).cells)) (hgrow : (w1.alloc B).drew.grownBy w2 p.1.iv.ownBlock) (hat : p.1.iv.ownBlock = some gg ∨ gg = w1.heap.size + 1) =>
    its_end (unhide HR1) (unhide HNN) rfl hown1 hgrow hat)
  rw [hvv] at hs21 hown HF2
  have HVV := hide hvv
  have hwr : IntKind.i64.wrap ((m : Int) + 1) = (m : Int) + 1 := wrap_in (by omega) (by omega)
  clear hvv
  go_wp2_with fail
  go_region_law
    ((refine step_append_lies _ (by rfl) _ _ _ (by rfl) 0 115 i0 _ 5 40 Tryz.underlying89 hi0 hz0 hz1 hz2 rfl (by omega) (.slice va m vcap) m (iFlat p.2.items) (by rfl) ((hown.alloc _).drew)
        ⟨w1.heap.size, 0, none⟩ 1 1 [.int .i64 o.a, .int .i64 o.b, .int .i64 o.c, .int .i64 ((m : Int) + 1), .int .i64 0] (by rfl) (by rfl) (World.news_of_block (cs := #[.int .i64 o.a, .int .i64 o.b, .int .i64 o.c, .int .i64 ((m : Int) + 1), .int .i64 0]) (t := 115) (fr := (0, 0)) (hnew.out _)) (by simp [Value.oneCell'])
        (by omega) (by unfold maxLen; omega) (by omega) (by omega) (w1.heap.size + 1) (by simp) ?_; intro gg cap' w2 hown1 hgrow hat hlt; have hcq := (HF2.out _ _ hgrow).1; have hfq := (HF2.out _ _ hgrow).2))
  all_goals
    have HG2 := hide hgrow
    rw [← unhide HVV] at hgrow hat
    have HE2 := unhide HEND _ _ _ _ hown1 hgrow hat
    obtain ⟨hR2, hk2, hnx⟩ := HE2
    go_wp2
    go_ret2
    refine ⟨by rw [unhide HNN]; rfl, ?_⟩
    obtain ⟨l1, l2, hps, hup⟩ := findRP_some (unhide HF)
    subst hps
    have hrs : RRep (w2.setCell ⟨p.1.s, 21, none⟩ (.slice (some ⟨gg, 0, none⟩) (m + 1) cap')) ⟨p.1.s, .slice (some ⟨gg, 0, none⟩) (m + 1) cap', p.1.ev⟩ (accR p.2 o) := by
      unfold accR
      rw [unhide HNN]
      exact hR2
    have hW := (unhide HE1).one hk2 hrs hnx
    refine ⟨v, l1 ++ (⟨p.1.s, .slice (some ⟨gg, 0, none⟩) (m + 1) cap', p.1.ev⟩, accR p.2 o) :: l2, hW, ?_, ?_, ?_⟩
    · simp only [hup]
      simp
    · refine ((unhide HK1).mono (M' := RFoot e v (l1 ++ p :: l2)) (fun _ _ h => h.elim)).trans hk2 (fun i hi _ => .inr (.inr ⟨p, by simp, hi⟩))
    · intro i hi
      rcases RFoot.one (w := w1) hnx i hi with h | h
      · exact .inl h
      · exact .inr (by have := (unhide HK1).size; omega)

end Go.Proofs.YtjhaihbjhikhlaaGreat
