import Derived.Test.YtahnliehdjncdaaGreatDoorXBG
import Derived.Test.YtahnliehdjncdaaGreatDoorXBH
import Derived.Test.YtahnliehdjncdaaGreatDoorXBI
import Derived.Test.YtahnliehdjncdaaGreatDoorXBJ
import Derived.Test.YtahnliehdjncdaaGreatDoorXAZ
import Derived.Deep.LoopGhost
import Derived.Test.YtahnliehdjncdaaGreatDoorXBF
set_option maxRecDepth 100000
set_option maxHeartbeats 16000000
namespace Go.Proofs.YtahnliehdjncdaaGreatDoor
open Go.RowKit
theorem nextL_cons (all : List RIt) (mark : Int) (i : Nat) (k : Int) (hi : i < all.length) :
  nextL all mark (all.drop i) i k = nextL all mark (all.drop (i + 1)) (i + 1) (if (rAt all i).tick = 0 ∧ (rAt all i).t ≤ mark ∧ (k < 0 ∨ (rAt all i).t < (rAt all k.toNat).t) then (i : Int) else k) := by
 rw [List.drop_eq_getElem_cons hi, nextL, ← rAt_get all i hi]
theorem rnext_any (e : Nat) (clock : Int) (b : RB) (y : RSer) (w : World) (h : RRep w b y) (hc : w.cell? ⟨e, 0, none⟩ = some (.int .i64 clock)) (hl : y.items.length ≤ 1152921504606846976)
  (l0 : 0 ≤ y.c.lag) (l1 : y.c.lag ≤ 100) (c0 : 0 ≤ clock) (c1 : clock ≤ 4611686018427387904) :
  Calls Tryz.prog 113 #[.pointer (some ⟨e, 0, none⟩), .pointer (some ⟨b.s, 0, none⟩)] w fun r w' => r = .returned (.int .i64 (nextR y.items (clock - y.c.lag))) ∧ Keeps (fun _ => False) w w' := by
 have hlag : w.cell? ⟨b.s, 2, none⟩ = some (.int .i64 y.c.lag) := h.blk.cell rfl
 have hc1 : w.cell? ⟨b.s, 21, none⟩ = some b.iv := h.blk.cell rfl
 obtain ⟨a, cap, hv, -, ha, hcells⟩ := row_view h.its
 rw [hv] at hc1
 have HC := hide hcells
 have HA := hide ha
 clear h hcells ha hv
 generalize hn : y.items.length = n at *
 have HN := hide hn
 clear hn
 generalize b.s = s at *
 generalize y.c.lag = lag at *
 generalize y.items = all at *
 go_enter Tryz.func113, Tryz.ntmps113
 go_wp2_with fail
 refine (rmark_any e s lag clock w hc hlag l0 l1 c0 c1).mono ?_
 rintro r w1 ⟨rfl, hk1⟩
 generalize hmk : clock - lag = mark at *
 have HMK := hide hmk
 have HC1 := hide hc1
 have HK1 := hide hk1
 clear hmk hc1 hlag hc l0 l1 c0 c1 hk1
 go_wp2_with fail
 go_loopw [6, 7] (fun kv iv wr => ∃ (i : Nat) (k : Int), i ≤ n ∧ iv = .int .i64 i ∧ kv = .int .i64 k ∧ (k = -1 ∨ (0 ≤ k ∧ k < (n : Int))) ∧ Hid (Keeps (fun _ => False) w wr) ∧ Hid (nextR all mark = nextL all mark (all.drop i) i k)) (fun _ iv _ => n - (intOf iv).toNat)
 case atStart => exact ⟨0, -1, Nat.zero_le _, rfl, rfl, .inl rfl, HK1, rfl⟩
 case round =>
  obtain ⟨i, k, hi, rfl, rfl, hk, HKr, HE⟩ := hrel
  have hc1 := (uh HKr).cell (uh HC1) (fun h => h)
  by_cases hlt : i < n
  ·obtain ⟨g, hg⟩ := uh HA (by omega)
   have hrow := (uh HC g hg).1
   subst hg
   have hall : i < all.length := by rw [uh HN]; exact hlt
   have z0 := (uh HKr).cell (hrow (i * 5 + 0) _ (by rw [iFlat_get _ _ _ hall (by omega)]; rfl)) (fun h => h)
   have z1 := (uh HKr).cell (hrow (i * 5 + 1) _ (by rw [iFlat_get _ _ _ hall (by omega)]; rfl)) (fun h => h)
   have z2 := (uh HKr).cell (hrow (i * 5 + 2) _ (by rw [iFlat_get _ _ _ hall (by omega)]; rfl)) (fun h => h)
   have z3 := (uh HKr).cell (hrow (i * 5 + 3) _ (by rw [iFlat_get _ _ _ hall (by omega)]; rfl)) (fun h => h)
   have z4 := (uh HKr).cell (hrow (i * 5 + 4) _ (by rw [iFlat_get _ _ _ hall (by omega)]; rfl)) (fun h => h)
   rw [Nat.add_zero] at z0
   have HE' := hide (by have := uh HE; rw [nextL_cons _ _ _ _ hall] at this; exact this)
   have hkr : ∀ j : Nat, k = (j : Int) → j < n → wr.cell? ⟨g, j * 5, none⟩ = some (.int .i64 (rAt all j).t) := by
    intro j hj hjn
    have := (uh HKr).cell (hrow (j * 5 + 0) _ (by rw [iFlat_get _ _ _ (by rw [uh HN]; exact hjn) (by omega)]; rfl)) (fun h => h)
    rw [Nat.add_zero] at this
    exact this
   have HKR := hide hkr
   clear hkr hrow hall HE
   have hk0 : (0 : Int) ≤ (i : Int) := by omega
   have hkn : (i : Int) < (n : Int) := by omega
   generalize hx : rAt all i = x at *
   have HX := hide hx
   clear hx
   have done : ∀ (k' : Int) (c : Prop) [Decidable c], (if c then (i : Int) else k) = k' → True := fun _ _ _ _ => trivial
   clear done
   by_cases ht : x.tick = 0
   ·have hb1 : (x.tick == 0) = true := by simpa using ht
    by_cases hm : x.t ≤ mark
    ·have hmd : decide (x.t ≤ mark) = true := by simpa using hm
     rcases hk with hk | ⟨kk0, kkn⟩
     ·subst hk
      have HE2 := hide (by have := uh HE'; rw [if_pos ⟨ht, hm, .inl (by omega)⟩] at this; exact this)
      clear HE' ht
      go_wp2_with fail
      go_quiet (fail)
      go_wp2
      go_roundw
      case rel => exact ⟨i + 1, i, by omega, by go_num, rfl, .inr ⟨by omega, by omega⟩, (by first | exact ((uh HKr).alloc _).drew | exact (uh HKr).alloc _ | exact ((uh HKr).alloc _).then ⟨rfl, rfl, rfl, Nat.le_refl _, fun _ _ _ => rfl⟩), HE2⟩
      case measure => simp [intOf]; omega
     ·obtain ⟨j, rfl⟩ := Int.eq_ofNat_of_zero_le kk0
      have hj := uh HKR j rfl (by omega)
      rw [Int.toNat_natCast] at HE'
      generalize hxj : rAt all j = xj at *
      have HXJ := hide hxj
      clear hxj HKR
      have hj0 : decide ((j : Int) < 0) = false := by simp
      have hca := ((Keeps.refl (fun _ => False) wr).alloc (.cells #[.int .i64 x.t, .int .i64 x.k, .int .i64 x.d, .int .i64 x.n, .int .i64 x.tick] 155)).cell hc1 (fun h => h)
      have hja := ((Keeps.refl (fun _ => False) wr).alloc (.cells #[.int .i64 x.t, .int .i64 x.k, .int .i64 x.d, .int .i64 x.n, .int .i64 x.tick] 155)).cell hj (fun h => h)
      by_cases hs : x.t < xj.t
      ·have hsd : decide (x.t < xj.t) = true := by simpa using hs
       have HE2 := hide (by have := uh HE'; rw [if_pos ⟨ht, hm, .inr hs⟩] at this; exact this)
       clear HE' ht
       go_wp2_with fail
       go_quiet (fail)
       go_wp2
       go_roundw
       case rel => exact ⟨i + 1, i, by omega, by go_num, rfl, .inr ⟨by omega, by omega⟩, (by first | exact ((uh HKr).alloc _).drew | exact (uh HKr).alloc _ | exact ((uh HKr).alloc _).then ⟨rfl, rfl, rfl, Nat.le_refl _, fun _ _ _ => rfl⟩), HE2⟩
       case measure => simp [intOf]; omega
      ·have hsd : decide (x.t < xj.t) = false := by simpa using hs
       have HE2 := hide (by have := uh HE'; rw [if_neg (fun h => by rcases h.2.2 with h | h; omega; exact hs h)] at this; exact this)
       clear HE' ht
       go_wp2_with fail
       go_quiet (fail)
       go_wp2
       go_roundw
       case rel => exact ⟨i + 1, j, by omega, by go_num, rfl, .inr ⟨by omega, by omega⟩, (by first | exact ((uh HKr).alloc _).drew | exact (uh HKr).alloc _ | exact ((uh HKr).alloc _).then ⟨rfl, rfl, rfl, Nat.le_refl _, fun _ _ _ => rfl⟩), HE2⟩
       case measure => simp [intOf]; omega
    ·have hmd : decide (x.t ≤ mark) = false := by simpa using hm
     have HE2 := hide (by have := uh HE'; rw [if_neg (fun h => hm h.2.1)] at this; exact this)
     clear HE' ht HKR
     have HK' := hide hk
     clear hk
     go_wp2_with fail
     go_quiet (fail)
     go_wp2
     go_roundw
     case rel => exact ⟨i + 1, k, by omega, by go_num, rfl, uh HK', (by first | exact ((uh HKr).alloc _).drew | exact (uh HKr).alloc _ | exact ((uh HKr).alloc _).then ⟨rfl, rfl, rfl, Nat.le_refl _, fun _ _ _ => rfl⟩), HE2⟩
     case measure => simp [intOf]; omega
   ·have hb1 : (x.tick == 0) = false := by simpa using ht
    have HE2 := hide (by have := uh HE'; rw [if_neg (fun h => ht h.1)] at this; exact this)
    clear HE' ht HKR
    have HK' := hide hk
    clear hk
    go_wp2_with fail
    go_quiet (fail)
    go_wp2
    go_roundw
    case rel => exact ⟨i + 1, k, by omega, by go_num, rfl, uh HK', (by first | exact ((uh HKr).alloc _).drew | exact (uh HKr).alloc _ | exact ((uh HKr).alloc _).then ⟨rfl, rfl, rfl, Nat.le_refl _, fun _ _ _ => rfl⟩), HE2⟩
    case measure => simp [intOf]; omega
  ·have hin : i = n := by omega
   subst hin
   have HE' := hide (show nextR all mark = k by rw [uh HE, List.drop_eq_nil_of_le (by rw [uh HN]; exact Nat.le_refl _)]; rfl)
   go_wp2
   go_ret
   exact ⟨by rw [uh HMK, uh HE']; rfl, uh HKr⟩
end Go.Proofs.YtahnliehdjncdaaGreatDoor
namespace Go.Proofs.YtahnliehdjncdaaGreatDoor
open Go.RowKit
theorem rrefusal_any (n : Int) (e : Nat) (clock : Int) (b : RB) (y : RSer) (o : OpM) (w : World) (h : RRep w b y) (hi : RInv n y) (hn : n ≤ 1152921504606846976) (hc : w.cell? ⟨e, 0, none⟩ = some (.int .i64 clock)) (c0 : 0 ≤ clock) (c1 : clock ≤ 4611686018427387904) :
  Calls Tryz.prog 112 #[.pointer (some ⟨e, 0, none⟩), .pointer (some ⟨b.s, 0, none⟩), o.val] w fun r w' => r = .returned (.int .i64 (refuR y clock o)) ∧ Keeps (fun _ => False) w w' := by
 obtain ⟨k, hk, h1, h5, _, _⟩ := valid_parts hi.valid
 have hcases : k = 1 ∨ k = 2 ∨ k = 3 ∨ k = 4 ∨ k = 5 := by omega
 cases ha : inB o.a 0 4611686018427387904
 ·rcases hcases with rfl | rfl | rfl | rfl | rfl
  ·exact rrefu_1_out n e clock b y o w h hi hn hc c0 c1 hk ha
  ·exact rrefu_2_out n e clock b y o w h hi hn hc c0 c1 hk ha
  ·exact rrefu_3_out n e clock b y o w h hi hn hc c0 c1 hk ha
  ·exact rrefu_4_out n e clock b y o w h hi hn hc c0 c1 hk ha
  ·exact rrefu_5_out n e clock b y o w h hi hn hc c0 c1 hk ha
 ·rcases hcases with rfl | rfl | rfl | rfl | rfl
  ·exact rrefu_1_in n e clock b y o w h hi hn hc c0 c1 hk ha
  ·exact rrefu_2_in n e clock b y o w h hi hn hc c0 c1 hk ha
  ·exact rrefu_3_in n e clock b y o w h hi hn hc c0 c1 hk ha
  ·exact rrefu_4_in n e clock b y o w h hi hn hc c0 c1 hk ha
  ·exact rrefu_5_in n e clock b y o w h hi hn hc c0 c1 hk ha
def RB.next (b b' : RB) (size : Nat) : Prop := b'.s = b.s ∧ ∀ i, b'.foot i → b.foot i ∨ size ≤ i
theorem RWRep.one {w w' : World} {e : Nat} {v : Value} {clock ticks : Int} {l1 l2 : List (RB × RSer)} {p : RB × RSer} {b' : RB} {x' : RSer} (h : RWRep w e v clock ticks (l1 ++ p :: l2)) (hk : Keeps p.1.foot w w')
  (hs : RRep w' b' x') (hn : p.1.next b' w.heap.size) : RWRep w' e v clock ticks (l1 ++ (b', x') :: l2) := by
 have hmem : p ∈ l1 ++ p :: l2 := by simp
 have hap := List.pairwise_append.1 h.apart
 have hap2 := List.pairwise_cons.1 hap.2.1
 have hoth : ∀ q, q ∈ l1 ∨ q ∈ l2 → q ∈ l1 ++ p :: l2 ∧ ∀ i, q.1.foot i → ¬ p.1.foot i := by
  intro q hq
  rcases hq with hq | hq
  ·exact ⟨by simp [hq], fun i hi hp => hap.2.2 q hq p (by simp) i hi hp⟩
  ·exact ⟨by simp [hq], fun i hi hp => hap2.1 q hq i hp hi⟩
 have hnew : ∀ q, q ∈ l1 ∨ q ∈ l2 → ∀ i, b'.foot i → ¬ q.1.foot i := by
  intro q hq i hi hqi
  obtain ⟨hm, hd⟩ := hoth q hq
  rcases hn.2 i hi with hf | hf
  ·exact hd i hqi hf
  ·have := (h.reps q hm).lt i hqi; omega
 have hrow : w'.ownsRow 0 112 1 v (l1 ++ p :: l2).length (rptrs (l1 ++ p :: l2)) := owns_keeps h.row hk (fun i hi hf => (h.ef p hmem i hf).2 hi)
 have hptr : rptrs (l1 ++ (b', x') :: l2) = rptrs (l1 ++ p :: l2) := by
  simp only [rptrs, List.map_append, List.map_cons]
  rw [hn.1]
 refine ⟨h.blk.keeps hk (fun hf => (h.ef p hmem e hf).1 rfl), ?_, ?_, ?_, h.ev, ?_⟩
 ·rw [hptr, show (l1 ++ (b', x') :: l2).length = (l1 ++ p :: l2).length by simp]; exact hrow
 ·intro q hq
  rcases List.mem_append.1 hq with hq | hq
  ·exact (h.reps q (hoth q (.inl hq)).1).keeps hk (hoth q (.inl hq)).2
  ·rcases List.mem_cons.1 hq with hq | hq
   ·subst hq; exact hs
   ·exact (h.reps q (hoth q (.inr hq)).1).keeps hk (hoth q (.inr hq)).2
 ·refine List.pairwise_append.2 ⟨hap.1, List.pairwise_cons.2 ⟨fun q hq i hi => hnew q (.inr hq) i hi, hap2.2⟩, ?_⟩
  intro q hq r hr i hi
  rcases List.mem_cons.1 hr with hr | hr
  ·subst hr; exact fun hf => hnew q (.inl hq) i hf hi
  ·exact hap.2.2 q hq r (by simp [hr]) i hi
 ·intro q hq i hi
  rcases List.mem_append.1 hq with hq | hq
  ·exact h.ef q (hoth q (.inl hq)).1 i hi
  ·rcases List.mem_cons.1 hq with hq | hq
   ·subst hq
    rcases hn.2 i hi with hf | hf
    ·exact h.ef p hmem i hf
    ·have h1 := h.lt e (.inl rfl)
     refine ⟨by omega, fun hv => ?_⟩
     have := h.lt i (.inr (.inl hv))
     omega
   ·exact h.ef q (hoth q (.inr hq)).1 i hi
theorem RFoot.one {w : World} {e : Nat} {v : Value} {l1 l2 : List (RB × RSer)} {p : RB × RSer} {b' : RB} {x' : RSer} (hn : p.1.next b' w.heap.size) (i : Nat) (hi : RFoot e v (l1 ++ (b', x') :: l2) i) :
  RFoot e v (l1 ++ p :: l2) i ∨ w.heap.size ≤ i := by
 rcases hi with hi | hi | ⟨q, hq, hi⟩
 ·exact .inl (.inl hi)
 ·exact .inl (.inr (.inl hi))
 ·rcases List.mem_append.1 hq with hq | hq
  ·exact .inl (.inr (.inr ⟨q, by simp [hq], hi⟩))
  ·rcases List.mem_cons.1 hq with hq | hq
   ·subst hq
    rcases hn.2 i hi with hf | hf
    ·exact .inl (.inr (.inr ⟨p, by simp, hf⟩))
    ·exact .inr hf
   ·exact .inl (.inr (.inr ⟨q, by simp [hq], hi⟩))
theorem findRP_some {ps : List (RB × RSer)} {id : Int} {p : RB × RSer} (h : findRP ps id = some p) : ∃ l1 l2, ps = l1 ++ p :: l2 ∧ ∀ y : RSer, updR (ps.map (·.2)) id y = l1.map (·.2) ++ y :: l2.map (·.2) := by
 obtain ⟨hp, l1, l2, he, hn⟩ := List.find?_eq_some_iff_append.1 h
 refine ⟨l1, l2, he, fun y => ?_⟩
 subst he
 clear h
 induction l1 with
 | nil => simp [updR, hp]
 | cons a l ih =>
  have ha : (a.2.id == id) = false := by simpa using hn a (by simp)
  simp only [List.cons_append, List.map_cons, updR, ha]
  rw [ih (fun b hb => hn b (by simp [hb]))]
  rfl
theorem findRP_findR (ps : List (RB × RSer)) (id : Int) : findR (ps.map (·.2)) id = (findRP ps id).map (·.2) := by
 unfold findR findRP
 induction ps with
 | nil => rfl
 | cons a l ih =>
  simp only [List.map_cons, List.find?_cons]
  cases (a.2.id == id) with
  | true => rfl
  | false => exact ih
def RPost (w : World) (e : Nat) (v : Value) (ps : List (RB × RSer)) (s' : RWS) (w' : World) : Prop :=
 ∃ v' ps', RWRep w' e v' s'.clock s'.ticks ps' ∧ ps'.map (·.2) = s'.xs ∧ Keeps (RFoot e v ps) w w' ∧ (∀ i, RFoot e v' ps' i → RFoot e v ps i ∨ w.heap.size ≤ i)
theorem rpost_still {w w' : World} {e : Nat} {v : Value} {clock ticks : Int} {ps : List (RB × RSer)} (h : RWRep w e v clock ticks ps) (hk : Keeps (fun _ => False) w w') : RPost w e v ps ⟨clock, ticks, ps.map (·.2)⟩ w' :=
 ⟨v, ps, h.still hk, rfl, hk.mono (fun _ _ h => h.elim), fun _ hi => .inl hi⟩
theorem cells_set21 (b : RB) (y : RSer) (nv : Value) (its : List RIt) : (rCells b y).set 21 nv = rCells ⟨b.s, nv, b.ev⟩ { y with items := its } := rfl
theorem cells_set22 (b : RB) (y : RSer) (nv : Value) (evs : List REv) : (rCells b y).set 22 nv = rCells ⟨b.s, b.iv, nv⟩ { y with events := evs } := rfl
theorem its_end {w w1 : World} {B : Obj} {b : RB} {y : RSer} {z : RIt} {gg n cap' : Nat} {nv : Value} (h : RRep w b y) (hn : y.items.length = n) (hnv : nv = .slice (some ⟨gg, 0, none⟩) (n + 1) cap')
  (hown1 : w1.ownsRow 0 155 5 nv (n + 1) (iFlat y.items ++ z.cells)) (hgrow : (w.alloc B).drew.grownBy w1 b.iv.ownBlock) (hat : b.iv.ownBlock = some gg ∨ gg = w.heap.size + 1) :
  RRep (w1.setCell ⟨b.s, 21, none⟩ nv) ⟨b.s, nv, b.ev⟩ { y with items := y.items ++ [z] } ∧ Keeps b.foot w (w1.setCell ⟨b.s, 21, none⟩ nv) ∧ b.next ⟨b.s, nv, b.ev⟩ w.heap.size := by
 have hnb : nv.ownBlock = some gg := by rw [hnv]; rfl
 have hk1 : Keeps (fun i => b.iv.ownBlock = some i) w w1 := (((Keeps.refl _ w).alloc B).drew).grown hgrow (fun k hk => Or.inl hk)
 have hk2 : Keeps (fun i => i = b.s) w1 (w1.setCell ⟨b.s, 21, none⟩ nv) := (Keeps.refl (fun i => i = b.s) w1).setCell (p := ⟨b.s, 21, none⟩) (Or.inl rfl) _
 have hsl := h.blk.lt
 have hgs : gg ≠ b.s := by
  rcases hat with h1 | h1
  ·intro he; exact h.si (by rw [h1, he])
  ·omega
 refine ⟨⟨?_, ?_, ?_, ?_, h.se, ?_⟩, ?_, rfl, ?_⟩
 ·have := (h.blk.keeps hk1 (fun hh => h.si hh)).setCell 21 nv
  rw [cells_set21 b y nv (y.items ++ [z])] at this
  exact this
 ·have h2 := owns_keeps hown1 hk2 (fun i hi hh => by rw [hnb] at hi; injection hi with hi; omega)
  show World.ownsRow _ 0 155 5 nv (y.items ++ [z]).length (iFlat (y.items ++ [z]))
  rw [List.length_append, hn]
  have : iFlat (y.items ++ [z]) = iFlat y.items ++ z.cells := by simp [iFlat]
  rw [this]; exact h2
 ·exact owns_keeps (owns_keeps h.evs hk1 (fun i hi hh => h.ie i hh hi)) hk2 (fun i hi hh => h.se (by rw [← hh]; exact hi))
 ·show nv.ownBlock ≠ some b.s
  rw [hnb]; intro hh; injection hh with hh; exact hgs hh
 ·intro i hi hh
  have hi' : gg = i := by have : nv.ownBlock = some i := hi; rw [hnb] at this; injection this
  have hel := (h.evs.lt i hh).2
  rcases hat with h1 | h1
  ·exact h.ie i (by rw [h1, hi']) hh
  ·omega
 ·exact (hk1.mono (M' := b.foot) (fun i _ hh => .inr (.inl hh))).trans hk2 (fun i hi _ => .inl hi)
 ·intro i hi
  rcases hi with hi | hi | hi
  ·exact .inl (.inl hi)
  ·have hi' : gg = i := by have : nv.ownBlock = some i := hi; rw [hnb] at this; injection this
   rcases hat with h1 | h1
   ·exact .inl (.inr (.inl (by rw [h1, hi'])))
   ·exact .inr (by omega)
  ·exact .inl (.inr (.inr hi))
theorem evs_end {w w1 : World} {B : Obj} {b : RB} {y : RSer} {z : REv} {gg n cap' : Nat} {nv : Value} (h : RRep w b y) (hn : y.events.length = n) (hnv : nv = .slice (some ⟨gg, 0, none⟩) (n + 1) cap')
  (hown1 : w1.ownsRow 0 159 4 nv (n + 1) (eFlat y.events ++ z.cells)) (hgrow : (w.alloc B).drew.grownBy w1 b.ev.ownBlock) (hat : b.ev.ownBlock = some gg ∨ gg = w.heap.size + 1) :
  RRep (w1.setCell ⟨b.s, 22, none⟩ nv) ⟨b.s, b.iv, nv⟩ { y with events := y.events ++ [z] } ∧ Keeps b.foot w (w1.setCell ⟨b.s, 22, none⟩ nv) ∧ b.next ⟨b.s, b.iv, nv⟩ w.heap.size := by
 have hnb : nv.ownBlock = some gg := by rw [hnv]; rfl
 have hk1 : Keeps (fun i => b.ev.ownBlock = some i) w w1 := (((Keeps.refl _ w).alloc B).drew).grown hgrow (fun k hk => Or.inl hk)
 have hk2 : Keeps (fun i => i = b.s) w1 (w1.setCell ⟨b.s, 22, none⟩ nv) := (Keeps.refl (fun i => i = b.s) w1).setCell (p := ⟨b.s, 22, none⟩) (Or.inl rfl) _
 have hsl := h.blk.lt
 have hgs : gg ≠ b.s := by
  rcases hat with h1 | h1
  ·intro he; exact h.se (by rw [h1, he])
  ·omega
 refine ⟨⟨?_, ?_, ?_, h.si, ?_, ?_⟩, ?_, rfl, ?_⟩
 ·have := (h.blk.keeps hk1 (fun hh => h.se hh)).setCell 22 nv
  rw [cells_set22 b y nv (y.events ++ [z])] at this
  exact this
 ·exact owns_keeps (owns_keeps h.its hk1 (fun i hi hh => h.ie i hi hh)) hk2 (fun i hi hh => h.si (by rw [← hh]; exact hi))
 ·have h2 := owns_keeps hown1 hk2 (fun i hi hh => by rw [hnb] at hi; injection hi with hi; omega)
  show World.ownsRow _ 0 159 4 nv (y.events ++ [z]).length (eFlat (y.events ++ [z]))
  rw [List.length_append, hn]
  have : eFlat (y.events ++ [z]) = eFlat y.events ++ z.cells := by simp [eFlat]
  rw [this]; exact h2
 ·show nv.ownBlock ≠ some b.s
  rw [hnb]; intro hh; injection hh with hh; exact hgs hh
 ·intro i hi hh
  have hi' : gg = i := by have : nv.ownBlock = some i := hh; rw [hnb] at this; injection this
  have hel := (h.its.lt i hi).2
  rcases hat with h1 | h1
  ·exact h.ie i hi (by rw [h1, hi'])
  ·omega
 ·exact (hk1.mono (M' := b.foot) (fun i _ hh => .inr (.inr hh))).trans hk2 (fun i hi _ => .inl hi)
 ·intro i hi
  rcases hi with hi | hi | hi
  ·exact .inl (.inl hi)
  ·exact .inl (.inr (.inl hi))
  ·have hi' : gg = i := by have : nv.ownBlock = some i := hi; rw [hnb] at this; injection this
   rcases hat with h1 | h1
   ·exact .inl (.inr (.inr (by rw [h1, hi'])))
   ·exact .inr (by omega)
theorem tick_end {w : World} {b : RB} {y : RSer} {g cap : Nat} (h : RRep w b y) (hv : b.iv = .slice (some ⟨g, 0, none⟩) y.items.length cap) (k : Nat) (hk : k < y.items.length) (t : Int) :
  RRep (w.setCell ⟨g, k * 5 + 4, none⟩ (.int .i64 t)) b { y with items := tickAt y.items k t } ∧ Keeps b.foot w (w.setCell ⟨g, k * 5 + 4, none⟩ (.int .i64 t)) := by
 have hg : b.iv.ownBlock = some g := by rw [hv]; rfl
 have hk1 : Keeps (fun i => i = g) w (w.setCell ⟨g, k * 5 + 4, none⟩ (.int .i64 t)) := (Keeps.refl (fun i => i = g) w).setCell (p := ⟨g, k * 5 + 4, none⟩) (Or.inl rfl) _
 have hgs : g ≠ b.s := fun he => h.si (by rw [hg, he])
 refine ⟨⟨h.blk.keeps hk1 (fun hh => hgs hh.symm), ?_, owns_keeps h.evs hk1 (fun i hi hh => h.ie g hg (by rw [← hh]; exact hi)), h.si, h.se, h.ie⟩, hk1.mono (fun i _ hh => .inr (.inl (by rw [hg, hh])))⟩
 have h1 := h.its
 rw [hv] at h1
 have h2 := row_set h1 (k * 5 + 4) (.int .i64 t)
 rw [iFlat_tick _ _ hk] at h2
 show World.ownsRow _ 0 155 5 b.iv (tickAt y.items k t).length (iFlat (tickAt y.items k t))
 rw [hv, show (tickAt y.items k t).length = y.items.length by simp [tickAt]]
 exact h2
theorem ref_end {w : World} {b : RB} {y : RSer} (h : RRep w b y) (c : Nat) (u : Int) :
  RRep (w.setCell ⟨b.s, 23 + c, none⟩ (.int .i64 u)) b { y with ref := y.ref.set c u } ∧ Keeps b.foot w (w.setCell ⟨b.s, 23 + c, none⟩ (.int .i64 u)) := by
 have hk1 : Keeps (fun i => i = b.s) w (w.setCell ⟨b.s, 23 + c, none⟩ (.int .i64 u)) := (Keeps.refl (fun i => i = b.s) w).setCell (p := ⟨b.s, 23 + c, none⟩) (Or.inl rfl) _
 refine ⟨⟨?_, owns_keeps h.its hk1 (fun i hi hh => h.si (by rw [← hh]; exact hi)), owns_keeps h.evs hk1 (fun i hi hh => h.se (by rw [← hh]; exact hi)), h.si, h.se, h.ie⟩, hk1.mono (fun i _ hh => .inl hh)⟩
 have := h.blk.setCell (23 + c) (.int .i64 u)
 have h1 : (rCells b y).set (23 + c) (.int .i64 u) = rCells b { y with ref := y.ref.set c u } := by
  have h1 : (rCells b y).set (23 + c) (.int .i64 u) = .int .i64 y.id :: y.c.vals (b.iv :: b.ev :: (y.ref.map (.int .i64 ·)).set c (.int .i64 u)) := by
   rw [Nat.add_comm]; rfl
  rw [h1]
  unfold rCells
  simp only
  rw [List.map_set]
 rw [h1] at this
 exact this
end Go.Proofs.YtahnliehdjncdaaGreatDoor
namespace Go.Proofs.YtahnliehdjncdaaGreatDoor
open Go.RowKit
attribute [local go_sem ↓] execOp_load38 execOp_load40
attribute [local go_sem] run_load38 run_load40 bigVal_drew hasBig_drew bigVal_ne hasBig_ne bigVal_alloc hasBig_alloc bigVal_new hasBig_newB
theorem info118 : (Tryz.prog.info? 155).map (fun i => (i.zero, i.size, i.bytes)) = some (some (.agg #[.int .i64 0, .int .i64 0, .int .i64 0, .int .i64 0, .int .i64 0]), 5, 40) := by kernel_rfl
theorem refuR_range (y : RSer) (clock : Int) (o : OpM) : 0 ≤ refuR y clock o ∧ refuR y clock o ≤ 11 := by
 unfold refuR
 repeat (first | omega | split)
theorem radd_no (e : Nat) (v : Value) (clock ticks : Int) (ps : List (RB × RSer)) (o : OpM) (w : World) (h : RWRep w e v clock ticks ps) (hl : ps.length ≤ 1000) (hf : findRP ps o.id = none) :
  Calls Tryz.prog 85 #[.pointer (some ⟨e, 0, none⟩), o.val] w fun r w' => r = .returned (.tuple #[.int .i64 0, .int .i64 2]) ∧ RPost w e v ps ⟨clock, ticks, ps.map (·.2)⟩ w' := by
 have h1 : o.cells[1]? = some (.int .i64 o.id) := rfl
 have HE := hide h
 have hk0 : Keeps (fun _ => False) w (w.alloc (.cells o.cells.toArray 40)) := (Keeps.refl (fun _ => False) w).alloc _
 have HE0 := hide (h.still hk0)
 have HK0 := hide hk0
 clear h hk0
 unfold OpM.val
 go_enter Tryz.func85, Tryz.ntmps85
 go_wp2_with fail
 generalize w.alloc (.cells o.cells.toArray 40) = w0 at *
 refine (rfind_any e v clock ticks o.id ps w0 (uh HE0) hl).mono ?_
 rintro r w1 ⟨rfl, hw1⟩
 rw [hw1, hf]
 clear hw1 w1
 unfold rptrOf
 go_wp2
 go_ret2
 exact ⟨rfl, rpost_still (uh HE) (uh HK0)⟩
theorem radd_ref (n : Int) (e : Nat) (v : Value) (clock ticks : Int) (ps : List (RB × RSer)) (o : OpM) (w : World) (h : RWRep w e v clock ticks ps) (hi : RWInv n clock ticks (ps.map (·.2))) (hn : n < 1152921504606846976) (p : RB × RSer) (hf : findRP ps o.id = some p) (hr : refuR p.2 clock o ≠ 0) :
  Calls Tryz.prog 85 #[.pointer (some ⟨e, 0, none⟩), o.val] w fun r w' => r = .returned (.tuple #[.int .i64 0, .int .i64 (refuR p.2 clock o)]) ∧ RPost w e v ps ⟨clock, ticks, updR (ps.map (·.2)) o.id (refR p.2 (refuR p.2 clock o).toNat)⟩ w' := by
 have hmem : p ∈ ps := List.mem_of_find?_eq_some hf
 have HM := hide hmem
 have hip := hi.sers p.2 (List.mem_map_of_mem hmem)
 have HIP := hide hip
 have hl : ps.length ≤ 1000 := by have := hi.six; rw [List.length_map] at this; omega
 have h1 : o.cells[1]? = some (.int .i64 o.id) := rfl
 have HE := hide h
 have hk0 : Keeps (fun _ => False) w (w.alloc (.cells o.cells.toArray 40)) := (Keeps.refl (fun _ => False) w).alloc _
 have HO0 := hide (show Blk (w.alloc (.cells o.cells.toArray 40)) w.heap.size o.cells 40 from Blk.new w o.cells 40)
 have HE0 := hide (h.still hk0)
 have HK0 := hide hk0
 obtain ⟨hrr0, hrr1⟩ := refuR_range p.2 clock o
 have hc0 := hi.c0
 have hc1 := hi.c1
 have HF := hide hf
 clear h hk0 hip hmem hi hf
 unfold OpM.val
 go_enter Tryz.func85, Tryz.ntmps85
 go_wp2_with fail
 generalize w.alloc (.cells o.cells.toArray 40) = w0 at *
 generalize hob : w.heap.size = ob at *
 have HOB := hide hob
 clear hob
 refine (rfind_any e v clock ticks o.id ps w0 (uh HE0) hl).mono ?_
 rintro r w1 ⟨rfl, hw1⟩
 rw [hw1, uh HF]
 clear hw1 w1
 unfold rptrOf
 obtain ⟨hv0, hh0⟩ := bigVal_Blk (uh HO0) 26 rfl
 go_wp2_with fail
 refine (rrefusal_any n e clock p.1 p.2 o w0 ((uh HE0).reps p (uh HM)) (uh HIP) (by omega) ((uh HE0).blk.cell rfl) hc0 hc1).mono ?_
 rintro r w1 ⟨rfl, hk1⟩
 have HE1 := hide ((uh HE0).still hk1)
 have HK1 := hide ((uh HK0).then hk1)
 clear hk1 hv0 hh0
 generalize hcd : refuR p.2 clock o = cd at *
 have HCD := hide hcd
 clear hcd
 obtain ⟨c, rfl⟩ := Int.eq_ofNat_of_zero_le hrr0
 have hb : ((c : Int) != 0) = true := by simpa using hr
 have hR1 := (uh HE1).reps p (uh HM)
 have hrl := (uh HIP).refl
 have hcl : c < p.2.ref.length := by omega
 have hcell : w1.cell? ⟨p.1.s, 23 + c, none⟩ = some (.int .i64 (refAt p.2.ref c)) := by
  refine hR1.blk.cell ?_
  have : (rCells p.1 p.2)[23 + c]? = (p.2.ref.map (Value.int .i64 ·))[c]? := by rw [Nat.add_comm]; rfl
  rw [this, List.getElem?_map, List.getElem?_eq_getElem hcl]
  unfold refAt
  rw [List.getD_eq_getElem?_getD, List.getElem?_eq_getElem hcl]; rfl
 have hfz := hR1.blk.frozen
 have hbd := (uh HIP).refn (refAt p.2.ref c) (by unfold refAt; rw [List.getD_eq_getElem?_getD, List.getElem?_eq_getElem hcl]; exact List.getElem_mem _)
 obtain ⟨hbd0, hbd1⟩ := hbd
 have HEN := hide (ref_end hR1 c (refAt p.2.ref c + 1))
 have hc15 : (c : Int) < 15 := by omega
 clear hR1 hrl hcl
 generalize hra : refAt p.2.ref c = ra at *
 have HRA := hide hra
 clear hra
 go_wp2_with fail
 go_region
 go_wp2
 go_ret2
 obtain ⟨hR2, hk2⟩ := uh HEN
 refine ⟨by rw [uh HCD]; rfl, ?_⟩
 rw [uh HCD, Int.toNat_natCast]
 obtain ⟨l1, l2, hps, hup⟩ := findRP_some (uh HF)
 subst hps
 have hnx : p.1.next p.1 w1.heap.size := ⟨rfl, fun _ hi => .inl hi⟩
 have hrs : RRep (w1.setCell ⟨p.1.s, 23 + c, none⟩ (.int .i64 (ra + 1))).drew p.1 (refR p.2 c) := by
  have := hR2.still ((Keeps.refl (fun _ => False) (w1.setCell ⟨p.1.s, 23 + c, none⟩ (.int .i64 (ra + 1)))).drew)
  unfold refR
  rw [uh HRA]
  exact this
 have hW := (uh HE1).one hk2.drew hrs hnx
 refine ⟨v, l1 ++ (p.1, refR p.2 c) :: l2, hW, ?_, ?_, ?_⟩
 ·simp only [hup]
  simp
 ·refine ((uh HK1).mono (M' := RFoot e v (l1 ++ p :: l2)) (fun _ _ h => h.elim)).trans hk2.drew (fun i hi _ => .inr (.inr ⟨p, by simp, hi⟩))
 ·intro i hi
  rcases RFoot.one (w := w1) hnx i hi with h | h
  ·exact .inl h
  ·exact .inr (by have := (uh HK1).size; omega)
end Go.Proofs.YtahnliehdjncdaaGreatDoor
namespace Go.Proofs.YtahnliehdjncdaaGreatDoor
structure PB (q : List Bk) : Prop where
 sorted : ∀ i j, i ≤ j → j < q.length → (bkAt q j).sz ≤ (bkAt q i).sz
 pow : ∀ i, i < q.length → ∃ k : Nat, (bkAt q i).sz = (2 : Int) ^ k
structure PI (q : List Bk) (sz : Int) (e : Nat) : Prop where
 pb : PB q
 he : e ≤ q.length
 hi : ∀ i, i < e → sz ≤ (bkAt q i).sz
 lo : ∀ i, e ≤ i → i < q.length → (bkAt q i).sz < sz
 szp : ∃ k : Nat, sz = (2 : Int) ^ k
theorem pow_pos2 (k : Nat) : (1 : Int) ≤ 2 ^ k := by
 induction k with
 | zero => decide
 | succ k ih => rw [Int.pow_succ]; omega
theorem pow_gap {a b : Nat} (h : (2 : Int) ^ a < 2 ^ b) : 2 * (2 : Int) ^ a ≤ 2 ^ b := by
 have hab : a < b := by
  rcases Nat.lt_or_ge a b with h1 | h1
  ·exact h1
  ·exfalso
   obtain ⟨d, rfl⟩ := Nat.exists_eq_add_of_le h1
   have h2 : (2 : Int) ^ (b + d) = 2 ^ b * 2 ^ d := Int.pow_add 2 b d
   have h3 := pow_pos2 d
   have h4 := pow_pos2 b
   have h5 : (2 : Int) ^ b * 1 ≤ 2 ^ b * 2 ^ d := Int.mul_le_mul_of_nonneg_left h3 (by omega)
   omega
 obtain ⟨d, rfl⟩ := Nat.exists_eq_add_of_le hab
 have h2 : (2 : Int) ^ (a + 1 + d) = 2 ^ a * 2 * 2 ^ d := by rw [Int.pow_add, Int.pow_succ]
 have h3 := pow_pos2 d
 have h4 := pow_pos2 a
 have h5 : (2 : Int) ^ a * 2 * 1 ≤ 2 ^ a * 2 * 2 ^ d := Int.mul_le_mul_of_nonneg_left h3 (by omega)
 rw [h2]
 omega
theorem bkAt_append_left (a b : List Bk) (i : Nat) (h : i < a.length) : bkAt (a ++ b) i = bkAt a i := by
 unfold bkAt; rw [List.getD_eq_getElem?_getD, List.getD_eq_getElem?_getD, List.getElem?_append_left h]
theorem bkAt_append_right (a b : List Bk) (i : Nat) (h : a.length ≤ i) : bkAt (a ++ b) i = bkAt b (i - a.length) := by
 unfold bkAt; rw [List.getD_eq_getElem?_getD, List.getD_eq_getElem?_getD, List.getElem?_append_right h]
theorem bkAt_take (l : List Bk) (n i : Nat) (h : i < n) : bkAt (l.take n) i = bkAt l i := by
 unfold bkAt; rw [List.getD_eq_getElem?_getD, List.getD_eq_getElem?_getD, List.getElem?_take, if_pos h]
theorem bkAt_dropN (l : List Bk) (n i : Nat) : bkAt (l.drop n) i = bkAt l (n + i) := by
 unfold bkAt; rw [List.getD_eq_getElem?_getD, List.getD_eq_getElem?_getD, List.getElem?_drop]
theorem bkAt_join (l : List Bk) (s : Nat) (x : Bk) (h : s + 2 ≤ l.length) (i : Nat) : bkAt (joinAt l s x) i = if i < s then bkAt l i else if i = s then x else bkAt l (i + 1) := by
 have hl : (l.take s).length = s := by simp; omega
 unfold joinAt
 by_cases h1 : i < s
 ·rw [if_pos h1, List.append_assoc, bkAt_append_left _ _ _ (by omega), bkAt_take _ _ _ h1]
 ·rw [if_neg h1]
  by_cases h2 : i = s
  ·rw [if_pos h2, List.append_assoc, bkAt_append_right _ _ _ (by omega), hl, h2, Nat.sub_self]; rfl
  ·rw [if_neg h2, bkAt_append_right _ _ _ (by simp; omega), bkAt_dropN]
   congr 1
   simp; omega
theorem PB.drop {q : List Bk} (h : PB q) (n : Nat) : PB (q.drop n) := by
 refine ⟨fun i j hij hj => ?_, fun i hi => ?_⟩
 ·rw [bkAt_dropN, bkAt_dropN]
  exact h.sorted _ _ (by omega) (by rw [List.length_drop] at hj; omega)
 ·rw [bkAt_dropN]
  exact h.pow _ (by rw [List.length_drop] at hi; omega)
theorem PI.start {q : List Bk} (h : PB q) (t : Int) : PI (q ++ [⟨1, t⟩]) 1 (q ++ [(⟨1, t⟩ : Bk)]).length := by
 have hone : ∀ i, i < (q ++ [(⟨1, t⟩ : Bk)]).length → ∃ k : Nat, (bkAt (q ++ [⟨1, t⟩]) i).sz = (2 : Int) ^ k := by
  intro i hi
  by_cases h1 : i < q.length
  ·rw [bkAt_append_left _ _ _ h1]; exact h.pow i h1
  ·rw [bkAt_append_right _ _ _ (by omega)]
   have : i - q.length = 0 := by simp at hi; omega
   rw [this]
   exact ⟨0, rfl⟩
 refine ⟨⟨fun i j hij hj => ?_, hone⟩, Nat.le_refl _, fun i hi => ?_, fun i h1 h2 => by omega, 0, rfl⟩
 ·by_cases h1 : j < q.length
  ·rw [bkAt_append_left _ _ _ h1, bkAt_append_left _ _ _ (by omega)]; exact h.sorted i j hij h1
  ·have : j - q.length = 0 := by simp at hj; omega
   rw [bkAt_append_right _ _ j (by omega), this]
   show (1 : Int) ≤ _
   obtain ⟨k, hk⟩ := hone i (by omega)
   rw [hk]; exact pow_pos2 k
 ·obtain ⟨k, hk⟩ := hone i hi
  rw [hk]; exact pow_pos2 k
theorem startN_below {q : List Bk} {sz : Int} {e : Nat} (h : PI q sz e) (i : Nat) (hi : i < startN q sz e) : sz < (bkAt q i).sz := by
 have hle := startN_le q sz e
 have h1 := h.hi i (by omega)
 have hne : (bkAt q (startN q sz e - 1)).sz ≠ sz := by
  generalize hs : startN q sz e = s at *
  clear h1 h
  induction e with
  | zero => simp [startN] at hs; omega
  | succ e ih =>
   unfold startN at hs
   split at hs
   ·exact ih hs (by have := startN_le q sz e; omega)
   ·rename_i hc
    rw [← hs]; exact hc
 have h2 := h.hi (startN q sz e - 1) (by omega)
 have h3 := h.pb.sorted i (startN q sz e - 1) (by omega) (by have := h.he; omega)
 omega
theorem PI.step {q : List Bk} {sz : Int} {e : Nat} (h : PI q sz e) (h2 : startN q sz e + 2 ≤ e) (t : Int) : PI (joinAt q (startN q sz e) ⟨2 * sz, t⟩) (2 * sz) (startN q sz e + 1) := by
 have hb := startN_below h
 have hin := startN_in q sz e
 obtain ⟨kz, hkz⟩ := h.szp
 have hz1 := pow_pos2 kz
 generalize startN q sz e = s at *
 have hlen := joinAt_length (⟨2 * sz, t⟩ : Bk) (l := q) (i := s) (by have := h.he; omega)
 have he := h.he
 have hat := bkAt_join q s ⟨2 * sz, t⟩ (by omega)
 have hbig : ∀ i, i < s → 2 * sz ≤ (bkAt q i).sz := by
  intro i hi
  obtain ⟨k, hk⟩ := h.pb.pow i (by omega)
  have := hb i hi
  rw [hk, hkz] at this ⊢
  exact pow_gap this
 have hsm : ∀ i, s ≤ i → i < q.length → (bkAt q i).sz ≤ sz := by
  intro i h1 h3
  have := h.pb.sorted s i h1 h3
  rw [hin s (Nat.le_refl _) (by omega)] at this
  exact this
 refine ⟨⟨fun i j hij hj => ?_, fun i hi => ?_⟩, by omega, fun i hi => ?_, fun i h1 h3 => ?_, kz + 1, by rw [Int.pow_succ, ← hkz]; omega⟩
 ·rw [hat, hat]
  by_cases j1 : j < s
  ·rw [if_pos j1, if_pos (by omega)]; exact h.pb.sorted i j hij (by omega)
  ·rw [if_neg j1]
   by_cases j2 : j = s
   ·rw [if_pos j2]
    by_cases i1 : i < s
    ·rw [if_pos i1]; exact hbig i i1
    ·rw [if_neg i1, if_pos (by omega)]; exact Int.le_refl _
   ·rw [if_neg j2]
    have hj' := hsm (j + 1) (by omega) (by omega)
    by_cases i1 : i < s
    ·rw [if_pos i1]; have := hbig i i1; omega
    ·rw [if_neg i1]
     by_cases i2 : i = s
     ·rw [if_pos i2]; show _ ≤ 2 * sz; omega
     ·rw [if_neg i2]; exact h.pb.sorted (i + 1) (j + 1) (by omega) (by omega)
 ·rw [hat]
  by_cases i1 : i < s
  ·rw [if_pos i1]; exact h.pb.pow i (by omega)
  ·rw [if_neg i1]
   by_cases i2 : i = s
   ·rw [if_pos i2]; exact ⟨kz + 1, by show 2 * sz = _; rw [Int.pow_succ, ← hkz]; omega⟩
   ·rw [if_neg i2]; exact h.pb.pow (i + 1) (by omega)
 ·rw [hat]
  by_cases i1 : i < s
  ·rw [if_pos i1]; exact hbig i i1
  ·rw [if_neg i1, if_pos (by omega)]; exact Int.le_refl _
 ·rw [hat, if_neg (by omega), if_neg (by omega)]
  have := hsm (i + 1) (by omega) (by omega)
  omega
theorem joinL_PB {K : Int} (hK : 0 ≤ K) (f : Nat) (q : List Bk) (sz : Int) (e : Nat) (h : PI q sz e) : PB (joinL K f q sz e) := by
 induction f generalizing q sz e with
 | zero => exact h.pb
 | succ f ih =>
  unfold joinL
  split
  ·exact h.pb
  ·exact ih _ _ _ (h.step (by omega) _)
theorem relB_PB {c : Cfg} (hK : 0 ≤ c.k) {q : List Bk} (h : PB q) (t m : Int) : PB (relB c q t m) := by
 unfold relB putB liveB
 exact joinL_PB hK _ _ _ _ (PI.start (h.drop _) t)
def cntN (l : List Bk) (sz : Int) : Nat → Nat
 | 0 => 0
 | i + 1 => cntN l sz i + (if (bkAt l i).sz = sz then 1 else 0)
def endN (l : List Bk) (sz : Int) : Nat → Nat
 | 0 => 0
 | i + 1 => if (bkAt l i).sz = sz then i + 1 else endN l sz i
theorem bkAt_reverse (q : List Bk) (i : Nat) (h : i < q.length) : bkAt q.reverse i = bkAt q (q.length - 1 - i) := by
 unfold bkAt
 rw [List.getD_eq_getElem?_getD, List.getD_eq_getElem?_getD, List.getElem?_reverse h]
theorem cnt_end {q : List Bk} {sz : Int} {e : Nat} (h : PI q sz e) : ∀ i, i ≤ q.length →
  cntN q.reverse sz i = min i (q.length - startN q sz e) - min i (q.length - e) ∧ endN q.reverse sz i = (if q.length - e < i ∧ startN q sz e < e then min i (q.length - startN q sz e) else 0) := by
 have hb := startN_below h
 have hin := startN_in q sz e
 have hsle := startN_le q sz e
 have he := h.he
 have hlo := h.lo
 generalize startN q sz e = s at *
 intro i
 induction i with
 | zero => intro _; simp [cntN, endN]
 | succ i ih =>
  intro hi
  obtain ⟨i1, i2⟩ := ih (by omega)
  have hat := bkAt_reverse q i (by omega)
  have hcase : ((bkAt q.reverse i).sz = sz) ↔ (q.length - e ≤ i ∧ i < q.length - s) := by
   rw [hat]
   constructor
   ·intro hz
    constructor
    ·rcases Nat.lt_or_ge i (q.length - e) with h1 | h1
     ·have := hlo (q.length - 1 - i) (by omega) (by omega); omega
     ·exact h1
    ·rcases Nat.lt_or_ge i (q.length - s) with h1 | h1
     ·exact h1
     ·have := hb (q.length - 1 - i) (by omega); omega
   ·rintro ⟨h1, h2⟩
    exact hin _ (by omega) (by omega)
  unfold cntN endN
  rw [i1, i2]
  by_cases hc : (bkAt q.reverse i).sz = sz
  ·have hc' := hcase.1 hc
   rw [if_pos hc, if_pos hc, if_pos (by omega)]
   omega
  ·have hc' : ¬ (q.length - e ≤ i ∧ i < q.length - s) := fun h => hc (hcase.2 h)
   rw [if_neg hc, if_neg hc]
   refine ⟨by omega, ?_⟩
   by_cases h1 : q.length - e < i ∧ s < e
   ·rw [if_pos h1, if_pos (by omega)]; omega
   ·rw [if_neg h1, if_neg (by omega)]
theorem join_reverse (q : List Bk) (s : Nat) (x : Bk) (h : s + 2 ≤ q.length) : q.reverse.take (q.length - s - 2) ++ [x] ++ q.reverse.drop (q.length - s) = (joinAt q s x).reverse := by
 unfold joinAt
 rw [List.reverse_append, List.reverse_append, List.take_reverse, List.drop_reverse]
 rw [show q.length - (q.length - s - 2) = s + 2 by omega, show q.length - (q.length - s) = s by omega]
 simp
theorem past_reverse (q : List Bk) (n : Nat) (hn : n < q.length) : bkAt q.reverse (q.length - 1 - n) = bkAt q n := by
 rw [bkAt_reverse _ _ (by omega)]
 congr 1
 omega
theorem pastN_step (q : List Bk) (t : Int) (n : Nat) (h : pastN q t = n + pastN (q.drop n) t) (hn : n < q.length) : (if (bkAt q n).t ≤ t then pastN q t = (n + 1) + pastN (q.drop (n + 1)) t else pastN q t = n) := by
 rw [bkAt_drop q n hn] at h
 unfold pastN at h ⊢
 rw [List.takeWhile_cons] at h
 split
 ·rename_i hb
  rw [if_pos (by simpa using hb)] at h
  simp only [List.length_cons] at h
  omega
 ·rename_i hb
  rw [if_neg (by simpa using hb)] at h
  simpa using h
end Go.Proofs.YtahnliehdjncdaaGreatDoor
namespace Go.Proofs.YtahnliehdjncdaaGreatDoor
open Go.RowKit
abbrev OB (w : World) (base : Nat) (v : Value) (l : List Bk) : Prop := w.ownsRow base 151 2 v l.length (flatB l)
def BW (w : World) (v : Value) (l : List Bk) : Prop := ((∃ a c, v = .slice a 0 c) ∧ l = []) ∨ ∃ g off cap, v = .slice (some ⟨g, off, none⟩) l.length cap ∧ l.length ≤ cap ∧ cap ≤ maxLen ∧ (∀ j u, (flatB l)[j]? = some u → w.cell? ⟨g, off + j, none⟩ = some u) ∧ g < w.heap.size
theorem BW.keeps {w w' : World} {v : Value} {l : List Bk} (h : BW w v l) (hk : Keeps (fun _ => False) w w') : BW w' v l := by
 rcases h with h | ⟨g, off, cap, h1, h2, hm, h3, h4⟩
 ·exact .inl h
 ·exact .inr ⟨g, off, cap, h1, h2, hm, fun j u hu => hk.cell (h3 j u hu) (fun h => h), by have := hk.size; omega⟩
theorem OB.bw {w : World} {base : Nat} {v : Value} {l : List Bk} (h : OB w base v l) : BW w v l := by
 rcases h.2 with ⟨h1, h2⟩ | ⟨g, cap, cur, h1, h2, h3, h4, h5, h6, h7⟩
 ·exact .inl ⟨⟨_, _, h1⟩, List.length_eq_zero_iff.1 h2⟩
 ·refine .inr ⟨g, 0, cap, h1, h4, h5, fun j u hu => ?_, (Array.getElem?_eq_some_iff.1 h3).1⟩
  have hj : j < l.length * 2 := by have := (List.getElem?_eq_some_iff.1 hu).1; rwa [flatB_length] at this
  have : cur[j]? = some u := by
   rw [← h7, List.getElem?_take, if_pos hj] at hu
   simpa using hu
  rw [Nat.zero_add]
  simp [World.cell?, h3, this]
theorem bw_cells {w : World} {g off n cap : Nat} {l : List Bk} (hn : l.length = n) (h : BW w (.slice (some ⟨g, off, none⟩) n cap) l) (i : Nat) (hi : i < n) :
  w.cell? ⟨g, off + i * 2, none⟩ = some (.int .i64 (bkAt l i).sz) ∧ w.cell? ⟨g, off + i * 2 + 1, none⟩ = some (.int .i64 (bkAt l i).t) := by
 rcases h with ⟨⟨a, c, h1⟩, h2⟩ | ⟨g', off', cap', h1, h2, _, h3, h4⟩
 ·rw [h2] at hn; simp at hn; omega
 ·injection h1 with h1 _ _
  injection h1 with h1
  injection h1 with h1 h5
  subst h1 h5
  obtain ⟨a, b⟩ := flatB_get l i (by omega)
  exact ⟨h3 _ _ a, by have := h3 _ _ b; rwa [← Nat.add_assoc] at this⟩
theorem bw_form {w : World} {v : Value} {l : List Bk} (h : BW w v l) : ∃ a cap, v = .slice a l.length cap := by
 rcases h with ⟨⟨a, c, rfl⟩, rfl⟩ | ⟨g, off, cap, rfl, _⟩
 ·exact ⟨a, c, rfl⟩
 ·exact ⟨_, _, rfl⟩
theorem bw_some {w : World} {a : Option Addr} {n cap : Nat} {l : List Bk} (h : BW w (.slice a n cap) l) (hn : 0 < n) : ∃ g off, a = some ⟨g, off, none⟩ ∧ l.length = n ∧ n ≤ cap ∧ cap ≤ maxLen ∧ g < w.heap.size := by
 rcases h with ⟨⟨a', c, h1⟩, h2⟩ | ⟨g, off, cap', h1, h2, hm, _, h4⟩
 ·injection h1 with _ h3 _
  omega
 ·injection h1 with h5 h6 h7
  exact ⟨g, off, h5, h6.symm, by omega, by omega, h4⟩
theorem infoRB : (Tryz.prog.info? 151).map (fun i => (i.zero, i.size, i.bytes)) = some (some (.agg #[.int .i64 0, .int .i64 0]), 2, 16) := by kernel_rfl
theorem wpList_append_bks {w : World} {ops : Array Oper} {rest : List Oper} {o : Oper} {a : Act} {Q : Exit → Act → World → Prop} (hgd : o.guard = none) (s x : Operand)
  (ho : o.op = .call { callee := .builtin .append, args := #[s, x], argTypes := #[148, 148] })
  (base : Nat) (v : Value) (A : List Bk) (hs : a.eval s = v) (hown : OB w base v A) (u : Value) (B : List Bk) (hx : a.eval x = u) (hB : BW w u B)
  (hlen : A.length + B.length ≤ 8796093022208) (hbase : base ≤ w.heap.size)
  (h : ∀ ad c w', OB w' base (.slice ad (A.length + B.length) c) (A ++ B) → Keeps (fun i => v.ownBlock = some i) w w' → (∀ i, (Value.slice ad (A.length + B.length) c).ownBlock = some i → v.ownBlock = some i ∨ w.heap.size ≤ i) → wpList Tryz.prog ops Q rest (a.put o.dst (.slice ad (A.length + B.length) c)) w') : wpList Tryz.prog ops Q (o :: rest) a w := by
 obtain ⟨i0, hi0, hz0, hz1, hz2⟩ := info_parts infoRB
 by_cases hb : B = []
 ·subst hb
  have hu : ∃ ad c, u = .slice ad 0 c := by
   rcases hB with ⟨h, _⟩ | ⟨sb, so, cap, h, _⟩
   ·exact h
   ·exact ⟨_, _, h⟩
  obtain ⟨ad, c, rfl⟩ := hu
  obtain ⟨av, ac, hv⟩ := row_form0 hown
  refine wpList_append_zero hgd s x 148 ho base 151 i0 2 Tryz.underlying148 hi0 v A.length (flatB A) hs hown ad c hx ?_
  have := h av ac w (by rw [List.append_nil]; rw [hv] at hown; exact hown) (Keeps.refl _ _) (by rw [hv]; exact fun i hi => .inl hi)
  rw [hv]
  exact this
 ·rcases hB with ⟨_, h0⟩ | ⟨sb, so, cap, rfl, hcap, hmx, hsc, hlt⟩
  ·exact absurd h0 hb
  ·have hpos : 0 < B.length := List.length_pos_iff.2 hb
   refine wpList_append_lies w hgd s x 148 ho base 151 i0 (.agg #[.int .i64 0, .int .i64 0]) 2 16 Tryz.underlying148 hi0 hz0 hz1 hz2 (by rfl) (by omega) v A.length (flatB A) hs hown ⟨sb, so, none⟩ B.length cap (flatB B) hx (flatB_length B) ?_ (flatB_one B) hpos (by unfold maxLen; omega) (by omega) hbase w.heap.size rfl ?_
   ·intro j z hz
    rw [Addr.add_lit]
    exact hsc j z hz
   ·intro g c w' hown' hgrow hat hlt'
    refine h (some ⟨g, 0, none⟩) c w' ?_ ?_ ?_
    ·show w'.ownsRow base 151 2 _ (A ++ B).length (flatB (A ++ B))
     rw [flatB_append, List.length_append]; exact hown'
    ·exact ⟨hgrow.os, hgrow.tape, hgrow.output, hgrow.size, fun k hk hn => hgrow.block k hk (fun h => hn h.symm)⟩
    ·intro i hi
     have : g = i := by simpa [Value.ownBlock] using hi
     subst this
     rcases hat with h1 | h1
     ·exact .inl h1
     ·exact .inr (by omega)
theorem rdead_any (v : Value) (q : List Bk) (t : Int) (w : World) (h : BW w v q.reverse) (hl : q.length ≤ 4398046511104) :
  Calls Tryz.prog 114 #[v, .int .i64 t] w fun e w' => e = .returned (.int .i64 (pastN q t)) ∧ w' = w := by
 obtain ⟨a, cap, hv⟩ := bw_form h
 rw [List.length_reverse] at hv
 subst hv
 have HB := hide h
 clear h
 generalize hn : q.length = n at *
 have HN := hide hn
 clear hn
 go_enter Tryz.func114, Tryz.ntmps114
 go_wp2
 go_loop [5] (fun i => ∃ k : Nat, i = .int .i64 k ∧ k ≤ n ∧ Hid (pastN q t = k + pastN (q.drop k) t)) (fun i => n - (intOf i).toNat)
 case atStart => exact ⟨0, rfl, Nat.zero_le _, by show _ = _; simp⟩
 case round =>
  obtain ⟨k, rfl, hk, HE⟩ := hrel
  by_cases hlt : k < n
  ·obtain ⟨g, off, rfl, _, hcap, hmx, _⟩ := bw_some (uh HB) (by omega)
   have hcs := bw_cells (by rw [List.length_reverse]; exact uh HN) (uh HB) (n - 1 - k) (by omega)
   have hat := past_reverse q k (by rw [uh HN]; exact hlt)
   rw [uh HN] at hat
   rw [hat] at hcs
   have hst := hide (pastN_step q t k (uh HE) (by rw [uh HN]; exact hlt))
   obtain ⟨j, hj⟩ : ∃ j, j = n - 1 - k := ⟨_, rfl⟩
   rw [← hj] at hcs
   have x1 := hcs.2
   have e1 : (n : Int) - 1 - (k : Int) = (j : Int) := by omega
   have hj0 : (0 : Int) ≤ (j : Int) := by omega
   have hj1 : (j : Int) < (n : Int) := by omega
   have hkn : (k : Int) < (n : Int) := by omega
   have hn1 : (n : Int) ≤ 4398046511104 := by omega
   clear hcs hat hj hcap hmx
   generalize bkAt q k = x at *
   by_cases ht : x.t ≤ t
   ·have HT := hide ht
    go_wp2
    go_round
    case rel => exact ⟨k + 1, by go_num, by omega, by have := uh hst; rw [if_pos (uh HT)] at this; exact this⟩
    case measure => simp [intOf]; omega
   ·have HT := hide ht
    have hd : decide (x.t ≤ t) = false := by simpa using ht
    clear ht
    go_wp2
    go_ret
    have := uh hst
    rw [if_neg (by have := uh HT; omega)] at this
    exact ⟨by rw [this]; rfl, rfl⟩
  ·have hd : decide ((k : Int) < (n : Int)) = false := by simp; omega
   go_wp2
   go_ret
   refine ⟨?_, rfl⟩
   rw [uh HE, List.drop_eq_nil_of_le (by rw [uh HN]; omega)]
   simp [pastN]
end Go.Proofs.YtahnliehdjncdaaGreatDoor
