import Derived.Test.YtjhaihbjhikhlaaGreatXH
import Derived.Test.YtjhaihbjhikhlaaGreatE9
namespace Go.Proofs.YtjhaihbjhikhlaaGreat
open Go.RowKit

/-! ### the document's answer in memory -/
def RIt.cells (z : RIt) : List Value := [.int .i64 z.t, .int .i64 z.k, .int .i64 z.d, .int .i64 z.n, .int .i64 z.tick]
def REv.cells (z : REv) : List Value := [.int .i64 z.t, .int .i64 z.m, .bool z.away, .int .i64 z.throw]
def iFlat (l : List RIt) : List Value := l.flatMap RIt.cells
def eFlat (l : List REv) : List Value := l.flatMap REv.cells

theorem flatMap_get {α : Type} (f : α → List Value) (sz : Nat) (hf : ∀ x, (f x).length = sz) (l : List α) (i j : Nat) (x : α) (h : l[i]? = some x) (hj : j < sz) : (l.flatMap f)[i * sz + j]? = (f x)[j]? := by
  induction l generalizing i with
  | nil => simp at h
  | cons a l ih =>
    rw [List.flatMap_cons]
    cases i with
    | zero =>
      simp at h; subst h
      rw [List.getElem?_append_left (by rw [hf]; omega)]
      congr 1; omega
    | succ i =>
      rw [List.getElem?_append_right (by rw [hf]; rw [Nat.add_mul]; omega), hf]
      have := ih i (by simpa using h)
      rw [← this]
      congr 1
      rw [Nat.add_mul]; omega
theorem flatMap_len {α : Type} (f : α → List Value) (sz : Nat) (hf : ∀ x, (f x).length = sz) (l : List α) : (l.flatMap f).length = l.length * sz := by
  induction l with
  | nil => simp
  | cons a l ih => rw [List.flatMap_cons, List.length_append, ih, hf, List.length_cons, Nat.add_mul]; omega
theorem flatMap_set {α : Type} (f : α → List Value) (sz : Nat) (hf : ∀ x, (f x).length = sz) (l : List α) (i j : Nat) (x y : α) (h : l[i]? = some x) (u : Value) (hj : j < sz) (hy : f y = (f x).set j u) : (l.flatMap f).set (i * sz + j) u = (l.set i y).flatMap f := by
  induction l generalizing i with
  | nil => simp at h
  | cons a l ih =>
    rw [List.flatMap_cons]
    cases i with
    | zero =>
      simp at h; subst h
      rw [List.set_append_left _ _ (by rw [hf]; omega), List.set_cons_zero, List.flatMap_cons, hy]
      congr 2; omega
    | succ i =>
      rw [List.set_append_right _ _ (by rw [hf, Nat.add_mul]; omega), hf, List.set_cons_succ, List.flatMap_cons]
      have := ih i (by simpa using h)
      rw [← this]
      congr 2
      rw [Nat.add_mul]; omega
theorem iFlat_get (l : List RIt) (i j : Nat) (hi : i < l.length) (hj : j < 5) : (iFlat l)[i * 5 + j]? = (rAt l i).cells[j]? :=
  flatMap_get RIt.cells 5 (fun _ => rfl) l i j _ (by rw [rAt_get _ _ hi]; exact List.getElem?_eq_getElem hi) hj
theorem iFlat_tick (l : List RIt) (i : Nat) (hi : i < l.length) (ticks : Int) : (iFlat l).set (i * 5 + 4) (.int .i64 ticks) = iFlat (tickAt l i ticks) :=
  flatMap_set RIt.cells 5 (fun _ => rfl) l i 4 (rAt l i) _ (by rw [rAt_get _ _ hi]; exact List.getElem?_eq_getElem hi) _ (by omega) rfl

/-- A row of the call's own, seen. -/
theorem row_view {w : World} {base T sz : Nat} {v : Value} {n : Nat} {xs : List Value} (h : w.ownsRow base T sz v n xs) :
    ∃ a cap, v = .slice a n cap ∧ (∀ g, a = some g → g = ⟨g.block, 0, none⟩) ∧ (0 < n → ∃ g, a = some ⟨g, 0, none⟩) ∧ ∀ g, a = some ⟨g, 0, none⟩ → (∀ i u, xs[i]? = some u → w.cell? ⟨g, i, none⟩ = some u) ∧ ∀ i, w.frozen? ⟨g, i, none⟩ = false := by
  rcases h.2 with ⟨h1, h2⟩ | ⟨g, cap, cur, h1, h2, h3, h4, h5, h6, h7⟩
  · exact ⟨none, 0, by rw [h1, h2], fun g hg => by (cases hg), fun hn => by omega, fun g hg => by (cases hg)⟩
  · refine ⟨some ⟨g, 0, none⟩, cap, h1, fun g' hg => by cases hg; rfl, fun _ => ⟨g, rfl⟩, fun g' hg => ?_⟩
    cases hg
    refine ⟨fun i u hu => ?_, fun i => by simp [World.frozen?, h3]⟩
    have hi : i < n * sz := by have := (List.getElem?_eq_some_iff.1 hu).1; have := h.1; omega
    have : cur[i]? = some u := by
      rw [← h7, List.getElem?_take, if_pos hi] at hu
      simpa using hu
    simp [World.cell?, h3, this]
/-- A cell of such a row is written. -/
theorem row_set {w : World} {base T sz g n cap : Nat} {xs : List Value} (h : w.ownsRow base T sz (.slice (some ⟨g, 0, none⟩) n cap) n xs) (i : Nat) (u : Value) :
    (w.setCell ⟨g, i, none⟩ u).ownsRow base T sz (.slice (some ⟨g, 0, none⟩) n cap) n (xs.set i u) := by
  refine ⟨by rw [List.length_set]; exact h.1, ?_⟩
  rcases h.2 with ⟨h1, _⟩ | ⟨g', cap', cur, h1, h2, h3, h4, h5, h6, h7⟩
  · cases h1
  · cases h1
    refine .inr ⟨g, cap, cur.set! i u, rfl, h2, ?_, h4, h5, by simp [h6], ?_⟩
    · simp [World.setCell, Array.getElem?_modify, h3]
    · rw [← h7]
      simp [List.take_set]

structure RB where
  s : Nat
  iv : Value
  ev : Value
def RB.foot (b : RB) (i : Nat) : Prop := i = b.s ∨ b.iv.ownBlock = some i ∨ b.ev.ownBlock = some i
def rCells (b : RB) (y : RSer) : List Value := .int .i64 y.id :: y.c.vals (b.iv :: b.ev :: y.ref.map (.int .i64 ·))
structure RRep (w : World) (b : RB) (y : RSer) : Prop where
  blk : Blk w b.s (rCells b y) 93
  its : w.ownsRow 0 115 5 b.iv y.items.length (iFlat y.items)
  evs : w.ownsRow 0 120 4 b.ev y.events.length (eFlat y.events)
  si : b.iv.ownBlock ≠ some b.s
  se : b.ev.ownBlock ≠ some b.s
  ie : ∀ i, b.iv.ownBlock = some i → b.ev.ownBlock ≠ some i
theorem RRep.keeps {M : Nat → Prop} {w w' : World} {b : RB} {y : RSer} (h : RRep w b y) (hk : Keeps M w w') (hn : ∀ i, b.foot i → ¬ M i) : RRep w' b y :=
  ⟨h.blk.keeps hk (hn _ (.inl rfl)), owns_keeps h.its hk (fun i hi => hn i (.inr (.inl hi))), owns_keeps h.evs hk (fun i hi => hn i (.inr (.inr hi))), h.si, h.se, h.ie⟩
theorem RRep.still {w w' : World} {b : RB} {y : RSer} (h : RRep w b y) (hk : Keeps (fun _ => False) w w') : RRep w' b y := h.keeps hk (fun _ _ h => h)
theorem RRep.lt {w : World} {b : RB} {y : RSer} (h : RRep w b y) (i : Nat) (hi : b.foot i) : i < w.heap.size := by
  rcases hi with hi | hi | hi
  · subst hi; exact h.blk.lt
  · exact (h.its.lt i hi).2
  · exact (h.evs.lt i hi).2

/-- What holds of every series; n bounds its counts. -/
structure RInv (n : Int) (y : RSer) : Prop where
  valid : validB y.c = true
  items : (y.items.length : Int) ≤ n
  events : (y.events.length : Int) ≤ (relT y.items).length + n
  refl : y.ref.length = 15
  refn : ∀ v, v ∈ y.ref → 0 ≤ v ∧ v ≤ n
  times : ∀ z, z ∈ y.items → 0 ≤ z.t ∧ z.t ≤ 4611686018427387904
theorem RInv.common {n : Int} {y : RSer} (h : RInv n y) : 0 ≤ y.c.lag ∧ y.c.lag ≤ 100 ∧ 0 ≤ y.c.skew ∧ y.c.skew ≤ 100 ∧ 1 ≤ y.c.cap ∧ y.c.cap ≤ 8 := by
  obtain ⟨k, hk, h1, h5, hc, _⟩ := valid_parts h.valid
  simp only [commonB, inB, Bool.and_eq_true, decide_eq_true_eq] at hc
  omega

def rptrs (ps : List (RB × RSer)) : List Value := ps.map fun p => .pointer (some ⟨p.1.s, 0, none⟩)
structure RWRep (w : World) (e : Nat) (v : Value) (clock ticks : Int) (ps : List (RB × RSer)) : Prop where
  blk : Blk w e [.int .i64 clock, .int .i64 ticks, v] 85
  row : w.ownsRow 0 86 1 v ps.length (rptrs ps)
  reps : ∀ p, p ∈ ps → RRep w p.1 p.2
  apart : ps.Pairwise (fun p q => ∀ i, p.1.foot i → ¬ q.1.foot i)
  ev : v.ownBlock ≠ some e
  ef : ∀ p, p ∈ ps → ∀ i, p.1.foot i → i ≠ e ∧ v.ownBlock ≠ some i
def RFoot (e : Nat) (v : Value) (ps : List (RB × RSer)) (i : Nat) : Prop := i = e ∨ v.ownBlock = some i ∨ ∃ p, p ∈ ps ∧ p.1.foot i
theorem RWRep.lt {w : World} {e : Nat} {v : Value} {clock ticks : Int} {ps : List (RB × RSer)} (h : RWRep w e v clock ticks ps) (i : Nat) (hi : RFoot e v ps i) : i < w.heap.size := by
  rcases hi with hi | hi | ⟨p, hp, hi⟩
  · subst hi; exact h.blk.lt
  · exact (h.row.lt i hi).2
  · exact (h.reps p hp).lt i hi
theorem RWRep.keeps {M : Nat → Prop} {w w' : World} {e : Nat} {v : Value} {clock ticks : Int} {ps : List (RB × RSer)} (h : RWRep w e v clock ticks ps) (hk : Keeps M w w') (hn : ∀ i, RFoot e v ps i → ¬ M i) : RWRep w' e v clock ticks ps :=
  ⟨h.blk.keeps hk (hn _ (.inl rfl)), owns_keeps h.row hk (fun i hi => hn i (.inr (.inl hi))), fun p hp => (h.reps p hp).keeps hk (fun i hi => hn i (.inr (.inr ⟨p, hp, hi⟩))), h.apart, h.ev, h.ef⟩
theorem RWRep.still {w w' : World} {e : Nat} {v : Value} {clock ticks : Int} {ps : List (RB × RSer)} (h : RWRep w e v clock ticks ps) (hk : Keeps (fun _ => False) w w') : RWRep w' e v clock ticks ps := h.keeps hk (fun _ _ h => h)
structure RWInv (n : Int) (clock ticks : Int) (xs : List RSer) : Prop where
  c0 : 0 ≤ clock
  c1 : clock ≤ 4611686018427387904
  t0 : 0 ≤ ticks
  tn : ticks ≤ n
  six : xs.length ≤ 6
  sers : ∀ x, x ∈ xs → RInv n x
  cnt : ∀ y, y ∈ xs → y.c.kind = 1 → CInv clock y

def findRP (ps : List (RB × RSer)) (id : Int) : Option (RB × RSer) := ps.find? (fun p => p.2.id == id)
def rptrOf : Option (RB × RSer) → Value
  | some p => .pointer (some ⟨p.1.s, 0, none⟩)
  | none => .pointer none

set_option maxRecDepth 100000 in
set_option maxHeartbeats 1000000 in
theorem rfind_any (e : Nat) (v : Value) (clock ticks id : Int) (ps : List (RB × RSer)) (w : World) (h : RWRep w e v clock ticks ps) (hl : ps.length ≤ 1000) :
    Calls Tryz.prog 41 #[.pointer (some ⟨e, 0, none⟩), .int .i64 id] w fun r w' => r = .returned (rptrOf (findRP ps id)) ∧ w' = w := by
  have hc1 : w.cell? ⟨e, 2, none⟩ = some v := h.blk.cell rfl
  obtain ⟨a, cap, rfl, -, ha, hcells⟩ := row_view h.row
  have HC := hide hcells
  have HA := hide ha
  have HS := hide (show ∀ p, p ∈ ps → w.cell? ⟨p.1.s, 0, none⟩ = some (.int .i64 p.2.id) from fun p hp => (h.reps p hp).blk.cell rfl)
  clear h hcells ha
  generalize hn : ps.length = n at *
  have HN := hide hn
  clear hn
  go_enter Tryz.func41, Tryz.ntmps41
  go_wp2
  go_loop [5] (fun i => ∃ k : Nat, k ≤ n ∧ i = .int .i64 k ∧ Hid (findRP ps id = findRP (ps.drop k) id)) (fun i => n - (intOf i).toNat)
  case atStart => exact ⟨0, Nat.zero_le _, rfl, rfl⟩
  case round =>
    obtain ⟨k, hk, rfl, HE⟩ := hrel
    by_cases hlt : k < n
    · obtain ⟨p, hp⟩ : ∃ p, ps[k]? = some p := ⟨ps[k]'(by rw [unhide HN]; exact hlt), List.getElem?_eq_getElem _⟩
      have hd : ps.drop k = p :: ps.drop (k + 1) := by
        rw [List.drop_eq_getElem_cons (by rw [unhide HN]; exact hlt)]
        rw [List.getElem?_eq_getElem (by rw [unhide HN]; exact hlt)] at hp
        cases hp; rfl
      obtain ⟨g, hg⟩ := unhide HA (by omega)
      have hck : w.cell? ⟨g, k, none⟩ = some (.pointer (some ⟨p.1.s, 0, none⟩)) := (unhide HC g hg).1 k _ (by unfold rptrs; rw [List.getElem?_map, hp]; rfl)
      subst hg
      have hid := unhide HS p (List.mem_of_getElem? hp)
      have hk0 : (0 : Int) ≤ (k : Int) := by omega
      have hkn : (k : Int) < (n : Int) := by omega
      cases hb : (p.2.id == id)
      · have HE' := hide (show findRP ps id = findRP (ps.drop (k + 1)) id by rw [unhide HE, hd]; unfold findRP; rw [List.find?_cons]; rw [hb])
        clear hd hp
        go_wp2
        go_round
        case rel => exact ⟨k + 1, by omega, by go_num, HE'⟩
        case measure => simp [intOf]; omega
      · have HE' := hide (show findRP ps id = some p by rw [unhide HE, hd]; unfold findRP; rw [List.find?_cons]; rw [hb])
        clear hd hp
        go_wp2
        go_ret
        exact ⟨by rw [unhide HE']; rfl, rfl⟩
    · have HE' := hide (show findRP ps id = none by rw [unhide HE, List.drop_eq_nil_of_le (by rw [unhide HN]; omega)]; rfl)
      go_wp2
      go_ret
      exact ⟨by rw [unhide HE']; rfl, rfl⟩

set_option maxHeartbeats 1000000 in
theorem rmark_any (e s : Nat) (lag clock : Int) (w : World) (hc : w.cell? ⟨e, 0, none⟩ = some (.int .i64 clock)) (h : w.cell? ⟨s, 2, none⟩ = some (.int .i64 lag)) (l0 : 0 ≤ lag) (l1 : lag ≤ 100) (c0 : 0 ≤ clock) (c1 : clock ≤ 4611686018427387904) :
    Calls Tryz.prog 42 #[.pointer (some ⟨e, 0, none⟩), .pointer (some ⟨s, 0, none⟩)] w fun r w' => r = .returned (.int .i64 (clock - lag)) ∧ Keeps (fun _ => False) w w' := by
  go_enter Tryz.func42, Tryz.ntmps42
  go_wp2_with fail
  go_region
  go_wp2
  go_ret
  exact ⟨rfl, (Keeps.refl _ _).drew⟩

theorem waitT_snoc (l : List RIt) (k : Nat) (hk : k < l.length) : (waitT (l.take (k + 1))).length = (waitT (l.take k)).length + (if (rAt l k).tick = 0 then 1 else 0) := by
  rw [List.take_succ_eq_append_getElem hk, rAt_get _ _ hk]
  unfold waitT
  rw [List.filter_append, List.map_append, List.length_append]
  congr 1
  by_cases h : l[k].tick = 0 <;> simp [h]

set_option maxRecDepth 100000 in
set_option maxHeartbeats 1000000 in
theorem rwaiting_any (b : RB) (y : RSer) (w : World) (h : RRep w b y) (hl : y.items.length ≤ 1152921504606846976) :
    Calls Tryz.prog 49 #[.pointer (some ⟨b.s, 0, none⟩)] w fun r w' => r = .returned (.int .i64 (waitT y.items).length) ∧ w' = w := by
  have hc1 : w.cell? ⟨b.s, 21, none⟩ = some b.iv := h.blk.cell rfl
  obtain ⟨a, cap, hv, -, ha, hcells⟩ := row_view h.its
  rw [hv] at hc1
  have HC := hide hcells
  have HA := hide ha
  clear h hcells ha
  generalize hn : y.items.length = n at *
  have HN := hide hn
  clear hn
  generalize b.s = s at *
  go_enter Tryz.func49, Tryz.ntmps49
  go_wp2
  go_loop [3, 4] (fun c i => ∃ k m : Nat, k ≤ n ∧ i = .int .i64 k ∧ c = .int .i64 m ∧ m ≤ k ∧ Hid ((waitT (y.items.take k)).length = m)) (fun _ i => n - (intOf i).toNat)
  case atStart => exact ⟨0, 0, Nat.zero_le _, rfl, rfl, Nat.le_refl _, rfl⟩
  case round =>
    obtain ⟨k, m, hk, rfl, rfl, hmk, HE⟩ := hrel
    by_cases hlt : k < n
    · have hs := waitT_snoc y.items k (by rw [unhide HN]; exact hlt)
      obtain ⟨g, hg⟩ := unhide HA (by omega)
      have hck : w.cell? ⟨g, k * 5 + 4, none⟩ = some (.int .i64 (rAt y.items k).tick) := (unhide HC g hg).1 _ _ (by rw [iFlat_get _ _ _ (by rw [unhide HN]; exact hlt) (by omega)]; rfl)
      subst hg
      have hk0 : (0 : Int) ≤ (k : Int) := by omega
      have hkn : (k : Int) < (n : Int) := by omega
      rw [unhide HE] at hs
      have HS := hide hs
      clear hs
      generalize (rAt y.items k).tick = t at *
      by_cases ht : t = 0
      · subst ht
        go_wp2
        go_round
        case rel => exact ⟨k + 1, m + 1, by omega, by go_num, by go_num, by omega, by rw [unhide HS]; rfl⟩
        case measure => simp [intOf]; omega
      · have hb : (t == 0) = false := by simpa using ht
        have HT := hide ht
        clear ht
        go_wp2
        go_round
        case rel => exact ⟨k + 1, m, by omega, by go_num, rfl, by omega, by rw [unhide HS, if_neg (unhide HT)]; rfl⟩
        case measure => simp [intOf]; omega
    · have hkn : k = n := by omega
      subst hkn
      have HE' := hide (show (waitT y.items).length = m by rw [← unhide HE, List.take_of_length_le (by rw [unhide HN]; exact Nat.le_refl _)])
      go_wp2
      go_ret
      exact ⟨by rw [unhide HE']; rfl, rfl⟩

end Go.Proofs.YtjhaihbjhikhlaaGreat

namespace Go.Proofs.YtjhaihbjhikhlaaGreat
open Go.RowKit

theorem nextL_cons (all : List RIt) (mark : Int) (i : Nat) (k : Int) (hi : i < all.length) :
    nextL all mark (all.drop i) i k = nextL all mark (all.drop (i + 1)) (i + 1) (if (rAt all i).tick = 0 ∧ (rAt all i).t ≤ mark ∧ (k < 0 ∨ (rAt all i).t < (rAt all k.toNat).t) then (i : Int) else k) := by
  rw [List.drop_eq_getElem_cons hi, nextL, ← rAt_get all i hi]

set_option maxRecDepth 100000 in
set_option maxHeartbeats 2000000 in
theorem rnext_any (e : Nat) (clock : Int) (b : RB) (y : RSer) (w : World) (h : RRep w b y) (hc : w.cell? ⟨e, 0, none⟩ = some (.int .i64 clock)) (hl : y.items.length ≤ 1152921504606846976)
    (l0 : 0 ≤ y.c.lag) (l1 : y.c.lag ≤ 100) (c0 : 0 ≤ clock) (c1 : clock ≤ 4611686018427387904) :
    Calls Tryz.prog 70 #[.pointer (some ⟨e, 0, none⟩), .pointer (some ⟨b.s, 0, none⟩)] w fun r w' => r = .returned (.int .i64 (nextR y.items (clock - y.c.lag))) ∧ Keeps (fun _ => False) w w' := by
  have hlag : w.cell? ⟨b.s, 2, none⟩ = some (.int .i64 y.c.lag) := h.blk.cell rfl
  have hc1 : w.cell? ⟨b.s, 21, none⟩ = some b.iv := h.blk.cell rfl
  obtain ⟨a, cap, hv, -, ha, hcells⟩ := row_view h.its
  rw [hv] at hc1
  have HC := hide hcells
  have HA := hide ha
  clear h hcells ha hv
  generalize hn : y.items.length = n at *
  have HN := hide hn
  clear hn
  generalize b.s = s at *
  generalize y.c.lag = lag at *
  generalize y.items = all at *
  go_enter Tryz.func70, Tryz.ntmps70
  go_wp2_with fail
  refine (rmark_any e s lag clock w hc hlag l0 l1 c0 c1).mono ?_
  rintro r w1 ⟨rfl, hk1⟩
  generalize hmk : clock - lag = mark at *
  have HMK := hide hmk
  have HC1 := hide hc1
  have HK1 := hide hk1
  clear hmk hc1 hlag hc l0 l1 c0 c1 hk1
  go_wp2_with fail
  go_loopw [6, 7] (fun kv iv wr => ∃ (i : Nat) (k : Int), i ≤ n ∧ iv = .int .i64 i ∧ kv = .int .i64 k ∧ (k = -1 ∨ (0 ≤ k ∧ k < (n : Int))) ∧ Hid (Keeps (fun _ => False) w wr) ∧ Hid (nextR all mark = nextL all mark (all.drop i) i k)) (fun _ iv _ => n - (intOf iv).toNat)
  case atStart => exact ⟨0, -1, Nat.zero_le _, rfl, rfl, .inl rfl, HK1, rfl⟩
  case round =>
    obtain ⟨i, k, hi, rfl, rfl, hk, HKr, HE⟩ := hrel
    have hc1 := (unhide HKr).cell (unhide HC1) (fun h => h)
    by_cases hlt : i < n
    · obtain ⟨g, hg⟩ := unhide HA (by omega)
      have hrow := (unhide HC g hg).1
      subst hg
      have hall : i < all.length := by rw [unhide HN]; exact hlt
      have z0 := (unhide HKr).cell (hrow (i * 5 + 0) _ (by rw [iFlat_get _ _ _ hall (by omega)]; rfl)) (fun h => h)
      have z1 := (unhide HKr).cell (hrow (i * 5 + 1) _ (by rw [iFlat_get _ _ _ hall (by omega)]; rfl)) (fun h => h)
      have z2 := (unhide HKr).cell (hrow (i * 5 + 2) _ (by rw [iFlat_get _ _ _ hall (by omega)]; rfl)) (fun h => h)
      have z3 := (unhide HKr).cell (hrow (i * 5 + 3) _ (by rw [iFlat_get _ _ _ hall (by omega)]; rfl)) (fun h => h)
      have z4 := (unhide HKr).cell (hrow (i * 5 + 4) _ (by rw [iFlat_get _ _ _ hall (by omega)]; rfl)) (fun h => h)
      rw [Nat.add_zero] at z0
      have HE' := hide (by have := unhide HE; rw [nextL_cons _ _ _ _ hall] at this; exact this)
      have hkr : ∀ j : Nat, k = (j : Int) → j < n → wr.cell? ⟨g, j * 5, none⟩ = some (.int .i64 (rAt all j).t) := by
        intro j hj hjn
        have := (unhide HKr).cell (hrow (j * 5 + 0) _ (by rw [iFlat_get _ _ _ (by rw [unhide HN]; exact hjn) (by omega)]; rfl)) (fun h => h)
        rw [Nat.add_zero] at this
        exact this
      have HKR := hide hkr
      clear hkr hrow hall HE
      have hk0 : (0 : Int) ≤ (i : Int) := by omega
      have hkn : (i : Int) < (n : Int) := by omega
      generalize hx : rAt all i = x at *
      have HX := hide hx
      clear hx
      have done : ∀ (k' : Int) (c : Prop) [Decidable c], (if c then (i : Int) else k) = k' → True := fun _ _ _ _ => trivial
      clear done
      by_cases ht : x.tick = 0
      · have hb1 : (x.tick == 0) = true := by simpa using ht
        by_cases hm : x.t ≤ mark
        · have hmd : decide (x.t ≤ mark) = true := by simpa using hm
          rcases hk with hk | ⟨kk0, kkn⟩
          · subst hk
            have HE2 := hide (by have := unhide HE'; rw [if_pos ⟨ht, hm, .inl (by omega)⟩] at this; exact this)
            clear HE' ht
            go_wp2_with fail
            go_quiet (fail)
            go_wp2
            go_roundw
            case rel => exact ⟨i + 1, i, by omega, by go_num, rfl, .inr ⟨by omega, by omega⟩, (by first | exact ((unhide HKr).alloc _).drew | exact (unhide HKr).alloc _ | exact ((unhide HKr).alloc _).then ⟨rfl, rfl, rfl, Nat.le_refl _, fun _ _ _ => rfl⟩), HE2⟩
            case measure => simp [intOf]; omega
          · obtain ⟨j, rfl⟩ := Int.eq_ofNat_of_zero_le kk0
            have hj := unhide HKR j rfl (by omega)
            rw [Int.toNat_natCast] at HE'
            generalize hxj : rAt all j = xj at *
            have HXJ := hide hxj
            clear hxj HKR
            have hj0 : decide ((j : Int) < 0) = false := by simp
            have hca := ((Keeps.refl (fun _ => False) wr).alloc (.cells #[.int .i64 x.t, .int .i64 x.k, .int .i64 x.d, .int .i64 x.n, .int .i64 x.tick] 115)).cell hc1 (fun h => h)
            have hja := ((Keeps.refl (fun _ => False) wr).alloc (.cells #[.int .i64 x.t, .int .i64 x.k, .int .i64 x.d, .int .i64 x.n, .int .i64 x.tick] 115)).cell hj (fun h => h)
            by_cases hs : x.t < xj.t
            · have hsd : decide (x.t < xj.t) = true := by simpa using hs
              have HE2 := hide (by have := unhide HE'; rw [if_pos ⟨ht, hm, .inr hs⟩] at this; exact this)
              clear HE' ht
              go_wp2_with fail
              go_quiet (fail)
              go_wp2
              go_roundw
              case rel => exact ⟨i + 1, i, by omega, by go_num, rfl, .inr ⟨by omega, by omega⟩, (by first | exact ((unhide HKr).alloc _).drew | exact (unhide HKr).alloc _ | exact ((unhide HKr).alloc _).then ⟨rfl, rfl, rfl, Nat.le_refl _, fun _ _ _ => rfl⟩), HE2⟩
              case measure => simp [intOf]; omega
            · have hsd : decide (x.t < xj.t) = false := by simpa using hs
              have HE2 := hide (by have := unhide HE'; rw [if_neg (fun h => by rcases h.2.2 with h | h; omega; exact hs h)] at this; exact this)
              clear HE' ht
              go_wp2_with fail
              go_quiet (fail)
              go_wp2
              go_roundw
              case rel => exact ⟨i + 1, j, by omega, by go_num, rfl, .inr ⟨by omega, by omega⟩, (by first | exact ((unhide HKr).alloc _).drew | exact (unhide HKr).alloc _ | exact ((unhide HKr).alloc _).then ⟨rfl, rfl, rfl, Nat.le_refl _, fun _ _ _ => rfl⟩), HE2⟩
              case measure => simp [intOf]; omega
        · have hmd : decide (x.t ≤ mark) = false := by simpa using hm
          have HE2 := hide (by have := unhide HE'; rw [if_neg (fun h => hm h.2.1)] at this; exact this)
          clear HE' ht HKR
          have HK' := hide hk
          clear hk
          go_wp2_with fail
          go_quiet (fail)
          go_wp2
          go_roundw
          case rel => exact ⟨i + 1, k, by omega, by go_num, rfl, unhide HK', (by first | exact ((unhide HKr).alloc _).drew | exact (unhide HKr).alloc _ | exact ((unhide HKr).alloc _).then ⟨rfl, rfl, rfl, Nat.le_refl _, fun _ _ _ => rfl⟩), HE2⟩
          case measure => simp [intOf]; omega
      · have hb1 : (x.tick == 0) = false := by simpa using ht
        have HE2 := hide (by have := unhide HE'; rw [if_neg (fun h => ht h.1)] at this; exact this)
        clear HE' ht HKR
        have HK' := hide hk
        clear hk
        go_wp2_with fail
        go_quiet (fail)
        go_wp2
        go_roundw
        case rel => exact ⟨i + 1, k, by omega, by go_num, rfl, unhide HK', (by first | exact ((unhide HKr).alloc _).drew | exact (unhide HKr).alloc _ | exact ((unhide HKr).alloc _).then ⟨rfl, rfl, rfl, Nat.le_refl _, fun _ _ _ => rfl⟩), HE2⟩
        case measure => simp [intOf]; omega
    · have hin : i = n := by omega
      subst hin
      have HE' := hide (show nextR all mark = k by rw [unhide HE, List.drop_eq_nil_of_le (by rw [unhide HN]; exact Nat.le_refl _)]; rfl)
      go_wp2
      go_ret
      exact ⟨by rw [unhide HMK, unhide HE']; rfl, unhide HKr⟩

end Go.Proofs.YtjhaihbjhikhlaaGreat
