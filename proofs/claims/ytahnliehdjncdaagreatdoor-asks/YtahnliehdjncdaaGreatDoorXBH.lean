import Derived.Test.YtahnliehdjncdaaGreatDoorXAZ
import Derived.Test.YtahnliehdjncdaaGreatDoorXBG
set_option maxRecDepth 100000
set_option maxHeartbeats 16000000
namespace Go.Proofs.YtahnliehdjncdaaGreatDoor
open Go.RowKit
def RIt.cells (z : RIt) : List Value := [.int .i64 z.t, .int .i64 z.k, .int .i64 z.d, .int .i64 z.n, .int .i64 z.tick]
def REv.cells (z : REv) : List Value := [.int .i64 z.t, .int .i64 z.m, .bool z.away, .int .i64 z.throw]
def iFlat (l : List RIt) : List Value := l.flatMap RIt.cells
def eFlat (l : List REv) : List Value := l.flatMap REv.cells
theorem flatMap_get {α : Type} (f : α → List Value) (sz : Nat) (hf : ∀ x, (f x).length = sz) (l : List α) (i j : Nat) (x : α) (h : l[i]? = some x) (hj : j < sz) : (l.flatMap f)[i * sz + j]? = (f x)[j]? := by
 induction l generalizing i with
 | nil => simp at h
 | cons a l ih =>
  rw [List.flatMap_cons]
  cases i with
  | zero =>
   simp at h; subst h
   rw [List.getElem?_append_left (by rw [hf]; omega)]
   congr 1; omega
  | succ i =>
   rw [List.getElem?_append_right (by rw [hf]; rw [Nat.add_mul]; omega), hf]
   have := ih i (by simpa using h)
   rw [← this]
   congr 1
   rw [Nat.add_mul]; omega
theorem flatMap_len {α : Type} (f : α → List Value) (sz : Nat) (hf : ∀ x, (f x).length = sz) (l : List α) : (l.flatMap f).length = l.length * sz := by
 induction l with
 | nil => simp
 | cons a l ih => rw [List.flatMap_cons, List.length_append, ih, hf, List.length_cons, Nat.add_mul]; omega
theorem flatMap_set {α : Type} (f : α → List Value) (sz : Nat) (hf : ∀ x, (f x).length = sz) (l : List α) (i j : Nat) (x y : α) (h : l[i]? = some x) (u : Value) (hj : j < sz) (hy : f y = (f x).set j u) : (l.flatMap f).set (i * sz + j) u = (l.set i y).flatMap f := by
 induction l generalizing i with
 | nil => simp at h
 | cons a l ih =>
  rw [List.flatMap_cons]
  cases i with
  | zero =>
   simp at h; subst h
   rw [List.set_append_left _ _ (by rw [hf]; omega), List.set_cons_zero, List.flatMap_cons, hy]
   congr 2; omega
  | succ i =>
   rw [List.set_append_right _ _ (by rw [hf, Nat.add_mul]; omega), hf, List.set_cons_succ, List.flatMap_cons]
   have := ih i (by simpa using h)
   rw [← this]
   congr 2
   rw [Nat.add_mul]; omega
theorem iFlat_get (l : List RIt) (i j : Nat) (hi : i < l.length) (hj : j < 5) : (iFlat l)[i * 5 + j]? = (rAt l i).cells[j]? :=
 flatMap_get RIt.cells 5 (fun _ => rfl) l i j _ (by rw [rAt_get _ _ hi]; exact List.getElem?_eq_getElem hi) hj
theorem iFlat_tick (l : List RIt) (i : Nat) (hi : i < l.length) (ticks : Int) : (iFlat l).set (i * 5 + 4) (.int .i64 ticks) = iFlat (tickAt l i ticks) :=
 flatMap_set RIt.cells 5 (fun _ => rfl) l i 4 (rAt l i) _ (by rw [rAt_get _ _ hi]; exact List.getElem?_eq_getElem hi) _ (by omega) rfl
theorem row_view {w : World} {base T sz : Nat} {v : Value} {n : Nat} {xs : List Value} (h : w.ownsRow base T sz v n xs) :
  ∃ a cap, v = .slice a n cap ∧ (∀ g, a = some g → g = ⟨g.block, 0, none⟩) ∧ (0 < n → ∃ g, a = some ⟨g, 0, none⟩) ∧ ∀ g, a = some ⟨g, 0, none⟩ → (∀ i u, xs[i]? = some u → w.cell? ⟨g, i, none⟩ = some u) ∧ ∀ i, w.frozen? ⟨g, i, none⟩ = false := by
 rcases h.2 with ⟨h1, h2⟩ | ⟨g, cap, cur, h1, h2, h3, h4, h5, h6, h7⟩
 ·exact ⟨none, 0, by rw [h1, h2], fun g hg => by (cases hg), fun hn => by omega, fun g hg => by (cases hg)⟩
 ·refine ⟨some ⟨g, 0, none⟩, cap, h1, fun g' hg => by cases hg; rfl, fun _ => ⟨g, rfl⟩, fun g' hg => ?_⟩
  cases hg
  refine ⟨fun i u hu => ?_, fun i => by simp [World.frozen?, h3]⟩
  have hi : i < n * sz := by have := (List.getElem?_eq_some_iff.1 hu).1; have := h.1; omega
  have : cur[i]? = some u := by
   rw [← h7, List.getElem?_take, if_pos hi] at hu
   simpa using hu
  simp [World.cell?, h3, this]
theorem row_set {w : World} {base T sz g n cap : Nat} {xs : List Value} (h : w.ownsRow base T sz (.slice (some ⟨g, 0, none⟩) n cap) n xs) (i : Nat) (u : Value) :
  (w.setCell ⟨g, i, none⟩ u).ownsRow base T sz (.slice (some ⟨g, 0, none⟩) n cap) n (xs.set i u) := by
 refine ⟨by rw [List.length_set]; exact h.1, ?_⟩
 rcases h.2 with ⟨h1, _⟩ | ⟨g', cap', cur, h1, h2, h3, h4, h5, h6, h7⟩
 ·cases h1
 ·cases h1
  refine .inr ⟨g, cap, cur.set! i u, rfl, h2, ?_, h4, h5, by simp [h6], ?_⟩
  ·simp [World.setCell, Array.getElem?_modify, h3]
  ·rw [← h7]
   simp [List.take_set]
structure RB where
 s : Nat
 iv : Value
 ev : Value
def RB.foot (b : RB) (i : Nat) : Prop := i = b.s ∨ b.iv.ownBlock = some i ∨ b.ev.ownBlock = some i
def rCells (b : RB) (y : RSer) : List Value := .int .i64 y.id :: y.c.vals (b.iv :: b.ev :: y.ref.map (.int .i64 ·))
structure RRep (w : World) (b : RB) (y : RSer) : Prop where
 blk : Blk w b.s (rCells b y) 119
 its : w.ownsRow 0 155 5 b.iv y.items.length (iFlat y.items)
 evs : w.ownsRow 0 159 4 b.ev y.events.length (eFlat y.events)
 si : b.iv.ownBlock ≠ some b.s
 se : b.ev.ownBlock ≠ some b.s
 ie : ∀ i, b.iv.ownBlock = some i → b.ev.ownBlock ≠ some i
theorem RRep.keeps {M : Nat → Prop} {w w' : World} {b : RB} {y : RSer} (h : RRep w b y) (hk : Keeps M w w') (hn : ∀ i, b.foot i → ¬ M i) : RRep w' b y :=
 ⟨h.blk.keeps hk (hn _ (.inl rfl)), owns_keeps h.its hk (fun i hi => hn i (.inr (.inl hi))), owns_keeps h.evs hk (fun i hi => hn i (.inr (.inr hi))), h.si, h.se, h.ie⟩
theorem RRep.still {w w' : World} {b : RB} {y : RSer} (h : RRep w b y) (hk : Keeps (fun _ => False) w w') : RRep w' b y := h.keeps hk (fun _ _ h => h)
theorem RRep.lt {w : World} {b : RB} {y : RSer} (h : RRep w b y) (i : Nat) (hi : b.foot i) : i < w.heap.size := by
 rcases hi with hi | hi | hi
 ·subst hi; exact h.blk.lt
 ·exact (h.its.lt i hi).2
 ·exact (h.evs.lt i hi).2
structure RInv (n : Int) (y : RSer) : Prop where
 valid : validB y.c = true
 items : (y.items.length : Int) ≤ n
 events : (y.events.length : Int) ≤ (relRT y.items).length + n
 refl : y.ref.length = 15
 refn : ∀ v, v ∈ y.ref → 0 ≤ v ∧ v ≤ n
 times : ∀ z, z ∈ y.items → 0 ≤ z.t ∧ z.t ≤ 4611686018427387904
theorem RInv.common {n : Int} {y : RSer} (h : RInv n y) : 0 ≤ y.c.lag ∧ y.c.lag ≤ 100 ∧ 0 ≤ y.c.skew ∧ y.c.skew ≤ 100 ∧ 1 ≤ y.c.cap ∧ y.c.cap ≤ 8 := by
 obtain ⟨k, hk, h1, h5, hc, _⟩ := valid_parts h.valid
 simp only [commonB, inB, Bool.and_eq_true, decide_eq_true_eq] at hc
 omega
def rptrs (ps : List (RB × RSer)) : List Value := ps.map fun p => .pointer (some ⟨p.1.s, 0, none⟩)
structure RWRep (w : World) (e : Nat) (v : Value) (clock ticks : Int) (ps : List (RB × RSer)) : Prop where
 blk : Blk w e [.int .i64 clock, .int .i64 ticks, v] 111
 row : w.ownsRow 0 112 1 v ps.length (rptrs ps)
 reps : ∀ p, p ∈ ps → RRep w p.1 p.2
 apart : ps.Pairwise (fun p q => ∀ i, p.1.foot i → ¬ q.1.foot i)
 ev : v.ownBlock ≠ some e
 ef : ∀ p, p ∈ ps → ∀ i, p.1.foot i → i ≠ e ∧ v.ownBlock ≠ some i
def RFoot (e : Nat) (v : Value) (ps : List (RB × RSer)) (i : Nat) : Prop := i = e ∨ v.ownBlock = some i ∨ ∃ p, p ∈ ps ∧ p.1.foot i
theorem RWRep.lt {w : World} {e : Nat} {v : Value} {clock ticks : Int} {ps : List (RB × RSer)} (h : RWRep w e v clock ticks ps) (i : Nat) (hi : RFoot e v ps i) : i < w.heap.size := by
 rcases hi with hi | hi | ⟨p, hp, hi⟩
 ·subst hi; exact h.blk.lt
 ·exact (h.row.lt i hi).2
 ·exact (h.reps p hp).lt i hi
theorem RWRep.keeps {M : Nat → Prop} {w w' : World} {e : Nat} {v : Value} {clock ticks : Int} {ps : List (RB × RSer)} (h : RWRep w e v clock ticks ps) (hk : Keeps M w w') (hn : ∀ i, RFoot e v ps i → ¬ M i) : RWRep w' e v clock ticks ps :=
 ⟨h.blk.keeps hk (hn _ (.inl rfl)), owns_keeps h.row hk (fun i hi => hn i (.inr (.inl hi))), fun p hp => (h.reps p hp).keeps hk (fun i hi => hn i (.inr (.inr ⟨p, hp, hi⟩))), h.apart, h.ev, h.ef⟩
theorem RWRep.still {w w' : World} {e : Nat} {v : Value} {clock ticks : Int} {ps : List (RB × RSer)} (h : RWRep w e v clock ticks ps) (hk : Keeps (fun _ => False) w w') : RWRep w' e v clock ticks ps := h.keeps hk (fun _ _ h => h)
structure RWInv (n : Int) (clock ticks : Int) (xs : List RSer) : Prop where
 c0 : 0 ≤ clock
 c1 : clock ≤ 4611686018427387904
 t0 : 0 ≤ ticks
 tn : ticks ≤ n
 six : xs.length ≤ 6
 sers : ∀ x, x ∈ xs → RInv n x
 cnt : ∀ y, y ∈ xs → y.c.kind = 1 → CInv clock y
def findRP (ps : List (RB × RSer)) (id : Int) : Option (RB × RSer) := ps.find? (fun p => p.2.id == id)
def rptrOf : Option (RB × RSer) → Value
 | some p => .pointer (some ⟨p.1.s, 0, none⟩)
 | none => .pointer none
theorem rfind_any (e : Nat) (v : Value) (clock ticks id : Int) (ps : List (RB × RSer)) (w : World) (h : RWRep w e v clock ticks ps) (hl : ps.length ≤ 1000) :
  Calls Tryz.prog 75 #[.pointer (some ⟨e, 0, none⟩), .int .i64 id] w fun r w' => r = .returned (rptrOf (findRP ps id)) ∧ w' = w := by
 have hc1 : w.cell? ⟨e, 2, none⟩ = some v := h.blk.cell rfl
 obtain ⟨a, cap, rfl, -, ha, hcells⟩ := row_view h.row
 have HC := hide hcells
 have HA := hide ha
 have HS := hide (show ∀ p, p ∈ ps → w.cell? ⟨p.1.s, 0, none⟩ = some (.int .i64 p.2.id) from fun p hp => (h.reps p hp).blk.cell rfl)
 clear h hcells ha
 generalize hn : ps.length = n at *
 have HN := hide hn
 clear hn
 go_enter Tryz.func75, Tryz.ntmps75
 go_wp2
 go_loop [5] (fun i => ∃ k : Nat, k ≤ n ∧ i = .int .i64 k ∧ Hid (findRP ps id = findRP (ps.drop k) id)) (fun i => n - (intOf i).toNat)
 case atStart => exact ⟨0, Nat.zero_le _, rfl, rfl⟩
 case round =>
  obtain ⟨k, hk, rfl, HE⟩ := hrel
  by_cases hlt : k < n
  ·obtain ⟨p, hp⟩ : ∃ p, ps[k]? = some p := ⟨ps[k]'(by rw [uh HN]; exact hlt), List.getElem?_eq_getElem _⟩
   have hd : ps.drop k = p :: ps.drop (k + 1) := by
    rw [List.drop_eq_getElem_cons (by rw [uh HN]; exact hlt)]
    rw [List.getElem?_eq_getElem (by rw [uh HN]; exact hlt)] at hp
    cases hp; rfl
   obtain ⟨g, hg⟩ := uh HA (by omega)
   have hck : w.cell? ⟨g, k, none⟩ = some (.pointer (some ⟨p.1.s, 0, none⟩)) := (uh HC g hg).1 k _ (by unfold rptrs; rw [List.getElem?_map, hp]; rfl)
   subst hg
   have hid := uh HS p (List.mem_of_getElem? hp)
   have hk0 : (0 : Int) ≤ (k : Int) := by omega
   have hkn : (k : Int) < (n : Int) := by omega
   cases hb : (p.2.id == id)
   ·have HE' := hide (show findRP ps id = findRP (ps.drop (k + 1)) id by rw [uh HE, hd]; unfold findRP; rw [List.find?_cons]; rw [hb])
    clear hd hp
    go_wp2
    go_round
    case rel => exact ⟨k + 1, by omega, by go_num, HE'⟩
    case measure => simp [intOf]; omega
   ·have HE' := hide (show findRP ps id = some p by rw [uh HE, hd]; unfold findRP; rw [List.find?_cons]; rw [hb])
    clear hd hp
    go_wp2
    go_ret
    exact ⟨by rw [uh HE']; rfl, rfl⟩
  ·have HE' := hide (show findRP ps id = none by rw [uh HE, List.drop_eq_nil_of_le (by rw [uh HN]; omega)]; rfl)
   go_wp2
   go_ret
   exact ⟨by rw [uh HE']; rfl, rfl⟩
theorem rmark_any (e s : Nat) (lag clock : Int) (w : World) (hc : w.cell? ⟨e, 0, none⟩ = some (.int .i64 clock)) (h : w.cell? ⟨s, 2, none⟩ = some (.int .i64 lag)) (l0 : 0 ≤ lag) (l1 : lag ≤ 100) (c0 : 0 ≤ clock) (c1 : clock ≤ 4611686018427387904) :
  Calls Tryz.prog 76 #[.pointer (some ⟨e, 0, none⟩), .pointer (some ⟨s, 0, none⟩)] w fun r w' => r = .returned (.int .i64 (clock - lag)) ∧ Keeps (fun _ => False) w w' := by
 go_enter Tryz.func76, Tryz.ntmps76
 go_wp2_with fail
 go_region
 go_wp2
 go_ret
 exact ⟨rfl, (Keeps.refl _ _).drew⟩
theorem waitT_snoc (l : List RIt) (k : Nat) (hk : k < l.length) : (waitT (l.take (k + 1))).length = (waitT (l.take k)).length + (if (rAt l k).tick = 0 then 1 else 0) := by
 rw [List.take_succ_eq_append_getElem hk, rAt_get _ _ hk]
 unfold waitT
 rw [List.filter_append, List.map_append, List.length_append]
 congr 1
 by_cases h : l[k].tick = 0 <;> simp [h]
theorem rwaiting_any (b : RB) (y : RSer) (w : World) (h : RRep w b y) (hl : y.items.length ≤ 1152921504606846976) :
  Calls Tryz.prog 83 #[.pointer (some ⟨b.s, 0, none⟩)] w fun r w' => r = .returned (.int .i64 (waitT y.items).length) ∧ w' = w := by
 have hc1 : w.cell? ⟨b.s, 21, none⟩ = some b.iv := h.blk.cell rfl
 obtain ⟨a, cap, hv, -, ha, hcells⟩ := row_view h.its
 rw [hv] at hc1
 have HC := hide hcells
 have HA := hide ha
 clear h hcells ha
 generalize hn : y.items.length = n at *
 have HN := hide hn
 clear hn
 generalize b.s = s at *
 go_enter Tryz.func83, Tryz.ntmps83
 go_wp2
 go_loop [3, 4] (fun c i => ∃ k m : Nat, k ≤ n ∧ i = .int .i64 k ∧ c = .int .i64 m ∧ m ≤ k ∧ Hid ((waitT (y.items.take k)).length = m)) (fun _ i => n - (intOf i).toNat)
 case atStart => exact ⟨0, 0, Nat.zero_le _, rfl, rfl, Nat.le_refl _, rfl⟩
 case round =>
  obtain ⟨k, m, hk, rfl, rfl, hmk, HE⟩ := hrel
  by_cases hlt : k < n
  ·have hs := waitT_snoc y.items k (by rw [uh HN]; exact hlt)
   obtain ⟨g, hg⟩ := uh HA (by omega)
   have hck : w.cell? ⟨g, k * 5 + 4, none⟩ = some (.int .i64 (rAt y.items k).tick) := (uh HC g hg).1 _ _ (by rw [iFlat_get _ _ _ (by rw [uh HN]; exact hlt) (by omega)]; rfl)
   subst hg
   have hk0 : (0 : Int) ≤ (k : Int) := by omega
   have hkn : (k : Int) < (n : Int) := by omega
   rw [uh HE] at hs
   have HS := hide hs
   clear hs
   generalize (rAt y.items k).tick = t at *
   by_cases ht : t = 0
   ·subst ht
    go_wp2
    go_round
    case rel => exact ⟨k + 1, m + 1, by omega, by go_num, by go_num, by omega, by rw [uh HS]; rfl⟩
    case measure => simp [intOf]; omega
   ·have hb : (t == 0) = false := by simpa using ht
    have HT := hide ht
    clear ht
    go_wp2
    go_round
    case rel => exact ⟨k + 1, m, by omega, by go_num, rfl, by omega, by rw [uh HS, if_neg (uh HT)]; rfl⟩
    case measure => simp [intOf]; omega
  ·have hkn : k = n := by omega
   subst hkn
   have HE' := hide (show (waitT y.items).length = m by rw [← uh HE, List.take_of_length_le (by rw [uh HN]; exact Nat.le_refl _)])
   go_wp2
   go_ret
   exact ⟨by rw [uh HE']; rfl, rfl⟩
end Go.Proofs.YtahnliehdjncdaaGreatDoor
namespace Go.Proofs.YtahnliehdjncdaaGreatDoor
open Go.RowKit
theorem powGo_two (n k : Nat) (hk : k ≤ 61) : powGo 2 n (2 ^ k) = if 61 < k + n then none else some (2 ^ (k + n)) := by
 induction n generalizing k with
 | zero => rw [if_neg (by omega)]; rfl
 | succ n ih =>
  show (if 2305843009213693952 / 2 < (2 : Int) ^ k then none else powGo 2 n (2 ^ k * 2)) = _
  by_cases h61 : k = 61
  ·subst h61
   rw [if_pos (by decide), if_pos (by omega)]
  ·have h1 := pow2_bd k hk
   have h2 : (2 : Int) ^ k ≤ 1152921504606846976 := by
    have e : (2 : Int) ^ k = ((2 ^ k : Nat) : Int) := by simp
    have h2 : 2 ^ k ≤ 2 ^ 60 := Nat.pow_le_pow_right (by omega) (by omega)
    have h3 : (2 : Nat) ^ 60 = 1152921504606846976 := by decide
    rw [e]; omega
   rw [if_neg (by omega), ← Int.pow_succ, ih (k + 1) (by omega), show k + 1 + n = k + (n + 1) by omega]
theorem weightO_ref (c : Cfg) (t : Int) (hm : ¬ t < c.mark) (h0 : 0 ≤ c.half) :
  weightO c t = if 0 < c.half then powGo 2 ((t - c.mark) / c.half).toNat 1 else powGo (t - c.mark + 1) c.degree.toNat 1 := by
 unfold weightO
 rw [if_neg hm]
 by_cases hh : c.half = 0
 ·rw [if_pos hh, if_neg (by rw [hh]; decide)]
 ·have hq : 0 ≤ (t - c.mark) / c.half := Int.ediv_nonneg (by omega) (by omega)
  rw [if_neg hh, if_pos (show 0 < c.half by omega)]
  have := powGo_two ((t - c.mark) / c.half).toNat 0 (by omega)
  rw [Nat.zero_add, Int.pow_zero] at this
  rw [this]
  generalize (t - c.mark) / c.half = q at *
  by_cases h : 61 < q
  ·rw [if_pos h, if_pos (show 61 < q.toNat by omega)]
  ·rw [if_neg h, if_neg (show ¬ 61 < q.toNat by omega)]
theorem rno_any (code : Int) (w : World) :
  Calls Tryz.prog 51 #[.int .i64 code] w fun e w' => e = .returned (ansV code (.slice none 0 0)) ∧ Keeps (fun _ => False) w w' := by
 go_enter Tryz.func51, Tryz.ntmps51
 go_wp2
 refine bodyPost_ret (v := ansV code (.slice none 0 0)) (by simp [results, Tryz.results51, go_sem, ansV]; rfl) rfl ⟨rfl, ?_⟩
 repeat (first | exact Keeps.refl _ _ | apply Keeps.alloc)
theorem rnum_any (code : Int) (w : World) : Calls Tryz.prog 57 #[.int .i64 code] w fun e w' => e = .returned (.int .i64 code) ∧ w' = w := by
 go_enter Tryz.func57, Tryz.ntmps57
 go_wp2
 go_ret
 exact ⟨rfl, rfl⟩
theorem rin_any (n lo hi : Int) (w : World) :
  Calls Tryz.prog 77 #[.int .i64 n, .int .i64 lo, .int .i64 hi] w fun e w' => e = .returned (.bool (inB n lo hi)) ∧ w' = w := by
 by_cases h : lo ≤ n
 ·go_enter Tryz.func77, Tryz.ntmps77
  go_wp2
  go_ret
  exact ⟨by simp [inB, h], rfl⟩
 ·have hd : decide (lo ≤ n) = false := by simpa using h
  have HI : Hid (false = inB n lo hi) := by simp [Hid, inB, h]
  go_enter Tryz.func77, Tryz.ntmps77
  go_wp2
  go_ret
  exact ⟨ret_bool HI.out, rfl⟩
theorem rweight_any (c : Cfg) (t : Int) (w : World) (hc : c.weighs) (t0 : -100 ≤ t) (t1 : t ≤ 4611686018427387904) :
  Calls Tryz.prog 109 #[c.val, .int .i64 t] w fun e w' => e = .returned (.int .i64 (optInt (weightO c t))) ∧ Keeps (fun _ => False) w w' := by
 obtain ⟨d0, d1, h0, h1, m0, m1⟩ := hc
 have HK := hide ((Keeps.refl (fun _ => False) w).alloc (.cells c.cells.toArray 38))
 by_cases hm : t < c.mark
 ·have HW := hide (show weightO c t = none by unfold weightO; rw [if_pos hm])
  unfold Cfg.val Cfg.cells at *
  go_enter Tryz.func109, Tryz.ntmps109
  go_wp2
  go_ret
  exact ⟨by rw [uh HW]; rfl, uh HK⟩
 ·have HW := hide (weightO_ref c t hm h0)
  obtain ⟨b, n, hb1, hb2, hn1, hbn, HWN⟩ : ∃ (b : Int) (n : Nat), 1 ≤ b ∧ b ≤ 4611686018427387905 ∧ (n : Int) ≤ 4611686018427387904 ∧ ((0 < c.half ∧ b = 2 ∧ (t - c.mark).tdiv c.half = n) ∨ (c.half = 0 ∧ b = t - c.mark + 1 ∧ c.degree = n)) ∧ Hid (weightO c t = powGo b n 1) := by
   by_cases hh : 0 < c.half
   ·have hq : 0 ≤ (t - c.mark) / c.half := Int.ediv_nonneg (by omega) (by omega)
    have hn2 : (t - c.mark) / c.half ≤ 4611686018427387904 := by
     have := Int.ediv_le_self c.half (show 0 ≤ t - c.mark by omega)
     omega
    have hw := uh HW
    rw [if_pos hh] at hw
    have htd : (t - c.mark).tdiv c.half = (t - c.mark) / c.half := Int.tdiv_eq_ediv_of_nonneg (by omega)
    refine ⟨2, ((t - c.mark) / c.half).toNat, by omega, by omega, by omega, .inl ⟨hh, rfl, ?_⟩, hw⟩
    rw [htd]; omega
   ·have hw := uh HW
    rw [if_neg hh] at hw
    exact ⟨t - c.mark + 1, c.degree.toNat, by omega, by omega, by omega, .inr ⟨by omega, rfl, by omega⟩, hw⟩
  have HB := hide (show ∀ p : Int, ¬ 2305843009213693952 / b < p → 1 ≤ p → 1 ≤ p * b ∧ p * b ≤ 2305843009213693952 from fun p h1 h2 => mul_ok p b h2 hb1 h1)
  clear HW
  have HBN := hide hbn
  rcases hbn with ⟨hh, rfl, htd⟩ | ⟨hh, hbe, hd⟩
  ·have hhb : (c.half == 0) = false := by simp; omega
   unfold Cfg.val Cfg.cells at *
   go_enter Tryz.func109, Tryz.ntmps109
   go_wp2_with fail
   clear HBN
   go_loopw [7, 8] (fun p i wr => ∃ (k : Nat) (q : Int), k ≤ n ∧ i = .int .i64 k ∧ p = .int .i64 q ∧ 1 ≤ q ∧ q ≤ 2305843009213693952 ∧ Hid (powGo 2 (n - k) q = powGo 2 n 1) ∧ Hid (Keeps (fun _ => False) w wr)) (fun _ i _ => n - (intOf i).toNat)
   case atStart => exact ⟨0, 1, by omega, rfl, rfl, by omega, by omega, rfl, HK⟩
   case round =>
    obtain ⟨k, q, hk, rfl, rfl, hq1, hq2, HP, HKr⟩ := hrel
    by_cases hkn : k < n
    ·have hkn' : (k : Int) < (n : Int) := by omega
     have HS := hide (show powGo 2 (n - k) q = if 2305843009213693952 / 2 < q then none else powGo 2 (n - (k + 1)) (q * 2) by
        rw [show n - k = (n - (k + 1)) + 1 by omega]; rfl)
     by_cases hc : (1152921504606846976 : Int) < q
     ·have HR := hide (show optInt (weightO c t) = 0 by rw [uh HWN, ← uh HP, uh HS, if_pos (by first | exact hc | omega)]; rfl)
      go_wp2
      go_ret
      exact ⟨ret_int (uh HR).symm, uh HKr⟩
     ·have HS2 := hide (show powGo 2 (n - (k + 1)) (q * 2) = powGo 2 n 1 by rw [← uh HP, uh HS, if_neg (by first | exact hc | omega)])
      obtain ⟨hm1, hm2⟩ := uh HB q (by first | exact hc | exact Int.not_lt.1 hc | omega) hq1
      go_wp2
      go_roundw
      case rel => exact ⟨k + 1, q * 2, by omega, by go_num, by go_num, hm1, hm2, HS2, HKr⟩
      case measure => simp [intOf]; omega
    ·have hkk : k = n := by omega
     subst hkk
     have HR := hide (show optInt (weightO c t) = q by rw [uh HWN, ← uh HP, Nat.sub_self]; rfl)
     go_wp2
     go_ret
     exact ⟨ret_int (uh HR).symm, uh HKr⟩
  ·have hhb : (c.half == 0) = true := by simp; omega
   unfold Cfg.val Cfg.cells at *
   go_enter Tryz.func109, Tryz.ntmps109
   go_wp2_with fail
   try rw [← hbe]
   clear HBN hbe hd
   go_loopw [7, 8] (fun p i wr => ∃ (k : Nat) (q : Int), k ≤ n ∧ i = .int .i64 k ∧ p = .int .i64 q ∧ 1 ≤ q ∧ q ≤ 2305843009213693952 ∧ Hid (powGo b (n - k) q = powGo b n 1) ∧ Hid (Keeps (fun _ => False) w wr)) (fun _ i _ => n - (intOf i).toNat)
   case atStart => exact ⟨0, 1, by omega, rfl, rfl, by omega, by omega, rfl, hide ((Keeps.refl (fun _ => False) w).alloc _)⟩
   case round =>
    obtain ⟨k, q, hk, rfl, rfl, hq1, hq2, HP, HKr⟩ := hrel
    by_cases hkn : k < n
    ·have hkn' : (k : Int) < (n : Int) := by omega
     have HS := hide (show powGo b (n - k) q = if 2305843009213693952 / b < q then none else powGo b (n - (k + 1)) (q * b) by
        rw [show n - k = (n - (k + 1)) + 1 by omega]; rfl)
     by_cases hc : (2305843009213693952 / b : Int) < q
     ·have HR := hide (show optInt (weightO c t) = 0 by rw [uh HWN, ← uh HP, uh HS, if_pos (by first | exact hc | omega)]; rfl)
      go_wp2
      go_ret
      exact ⟨ret_int (uh HR).symm, uh HKr⟩
     ·have HS2 := hide (show powGo b (n - (k + 1)) (q * b) = powGo b n 1 by rw [← uh HP, uh HS, if_neg (by first | exact hc | omega)])
      obtain ⟨hm1, hm2⟩ := uh HB q (by first | exact hc | exact Int.not_lt.1 hc | omega) hq1
      go_wp2
      go_roundw
      case rel => exact ⟨k + 1, q * b, by omega, by go_num, by go_num, hm1, hm2, HS2, HKr⟩
      case measure => simp [intOf]; omega
    ·have hkk : k = n := by omega
     subst hkk
     have HR := hide (show optInt (weightO c t) = q by rw [uh HWN, ← uh HP, Nat.sub_self]; rfl)
     go_wp2
     go_ret
     exact ⟨ret_int (uh HR).symm, uh HKr⟩
end Go.Proofs.YtahnliehdjncdaaGreatDoor
namespace Go.Proofs.YtahnliehdjncdaaGreatDoor
open Go.RowKit
attribute [local go_sem ↓] execOp_load38 execOp_load40
attribute [local go_sem] run_load38 run_load40 bigVal_drew hasBig_drew bigVal_ne hasBig_ne bigVal_alloc hasBig_alloc bigVal_new hasBig_newB
theorem vals_cells (c : Cfg) (r : List Value) : c.vals r = c.cells ++ r := rfl
theorem bigVal_ser {w : World} {b : RB} {y : RSer} (h : Blk w b.s (rCells b y) 119) : bigVal w b.s 1 20 = .agg y.c.cells.toArray ∧ hasBig w b.s 1 20 = true := by
 have hc : ∀ j, j < 20 → w.cell? ⟨b.s, 1 + j, none⟩ = y.c.cells[j]? := by
  intro j hj
  have h20 : j < y.c.cells.length := hj
  rw [List.getElem?_eq_getElem h20]
  refine h.cell ?_
  rw [Nat.add_comm]
  show (y.c.vals (b.iv :: b.ev :: y.ref.map (.int .i64 ·)))[j]? = _
  rw [vals_cells, List.getElem?_append_left h20, List.getElem?_eq_getElem h20]
 refine ⟨?_, ?_⟩
 ·unfold bigVal bigCells
  congr 2
  apply List.ext_getElem?
  intro j
  by_cases hj : j < 20
  ·rw [List.getElem?_map, List.getElem?_range hj]
   simp only [Option.map_some, hc j hj]
   rw [List.getElem?_eq_getElem (show j < y.c.cells.length from hj)]; rfl
  ·rw [List.getElem?_eq_none (by simp; omega), List.getElem?_eq_none (by show y.c.cells.length ≤ j; show 20 ≤ j; omega)]
 ·unfold hasBig
  rw [List.all_eq_true]
  intro j hj
  have hj' : j < 20 := by simpa using hj
  rw [hc j hj', List.getElem?_eq_getElem (show j < y.c.cells.length from hj')]; rfl
theorem rrefu_1_out (n : Int) (e : Nat) (clock : Int) (b : RB) (y : RSer) (o : OpM) (w : World) (h : RRep w b y) (hi : RInv n y) (hn : n ≤ 1152921504606846976) (hc : w.cell? ⟨e, 0, none⟩ = some (.int .i64 clock)) (c0 : 0 ≤ clock) (c1 : clock ≤ 4611686018427387904) (hK : y.c.kind = 1) (ha : inB o.a 0 4611686018427387904 = false) :
  Calls Tryz.prog 112 #[.pointer (some ⟨e, 0, none⟩), .pointer (some ⟨b.s, 0, none⟩), o.val] w fun r w' => r = .returned (.int .i64 (refuR y clock o)) ∧ Keeps (fun _ => False) w w' := by
 have HG := hide (show refuR y clock o = 5 by unfold refuR; rw [ha]; rfl)
 have h1 : o.cells[2]? = some (.int .i64 o.a) := rfl
 have hk0 : Keeps (fun _ => False) w (w.alloc (.cells o.cells.toArray 40)) := (Keeps.refl (fun _ => False) w).alloc _
 have HO := hide (show Blk (w.alloc (.cells o.cells.toArray 40)) w.heap.size o.cells 40 from Blk.new w o.cells 40)
 have HR := hide (h.still hk0)
 have hkind : w.cell? ⟨b.s, 1, none⟩ = some (.int .i64 1) := by rw [← hK]; exact h.blk.cell rfl
 have hcl0 := hk0.cell hc (fun h => h)
 have HC := hide hcl0
 have HK := hide hk0
 have HI := hide hi
 have HKD := hide hK
 have hlen : y.items.length ≤ 1152921504606846976 := by have := hi.items; omega
 obtain ⟨la0, la1, sk0, sk1, cp0, cp1⟩ := hi.common
 clear h hi hK hk0 hcl0
 have hout : o.a < 0 ∨ (0 ≤ o.a ∧ 4611686018427387904 < o.a) := by
  simp [inB] at ha; omega
 have kd : (w.alloc (.cells o.cells.toArray 40)).cell? ⟨b.s, 1, none⟩ = some (.int .i64 1) := by
  have := uh HKD
  rw [← this]; exact (uh HR).blk.cell rfl
 clear ha hkind
 unfold OpM.val
 rcases hout with ho | ⟨ho, ho2⟩
 all_goals
  go_enter Tryz.func112, Tryz.ntmps112
  go_wp2_with fail
  refine (rwaiting_any b y _ (by exact uh HR) hlen).mono ?_
  rintro r w1 ⟨rfl, hw1⟩
  rw [hw1]
  clear hw1 w1
  go_wp2_with fail
  refine (rmark_any e b.s y.c.lag clock _ (by exact uh HC) ((uh HR).blk.cell rfl) la0 la1 c0 c1).mono ?_
  rintro r w1 ⟨rfl, hk1⟩
  have o2 : w1.cell? ⟨w.heap.size, 2, none⟩ = some (.int .i64 o.a) := hk1.cell ((uh HO).cell rfl) (fun h => h)
  have HK1 := hide ((uh HK).then hk1)
  clear hk1
  go_wp2
  go_ret
  exact ⟨by rw [uh HG]; rfl, uh HK1⟩
theorem rrefu_1_in (n : Int) (e : Nat) (clock : Int) (b : RB) (y : RSer) (o : OpM) (w : World) (h : RRep w b y) (hi : RInv n y) (hn : n ≤ 1152921504606846976) (hc : w.cell? ⟨e, 0, none⟩ = some (.int .i64 clock)) (c0 : 0 ≤ clock) (c1 : clock ≤ 4611686018427387904) (hK : y.c.kind = 1) (ha : inB o.a 0 4611686018427387904 = true) :
  Calls Tryz.prog 112 #[.pointer (some ⟨e, 0, none⟩), .pointer (some ⟨b.s, 0, none⟩), o.val] w fun r w' => r = .returned (.int .i64 (refuR y clock o)) ∧ Keeps (fun _ => False) w w' := by
 have HG := hide (show refuR y clock o = if o.a ≤ clock - y.c.lag then 6 else if clock < o.a - y.c.skew then 7 else if (1 : Int) = 0 then 8 else if y.c.cap ≤ (waitT y.items).length then 11 else 0 by unfold refuR weighR keyedR; rw [ha, hK]; simp)
 have h1 : o.cells[2]? = some (.int .i64 o.a) := rfl
 have hk0 : Keeps (fun _ => False) w (w.alloc (.cells o.cells.toArray 40)) := (Keeps.refl (fun _ => False) w).alloc _
 have HO := hide (show Blk (w.alloc (.cells o.cells.toArray 40)) w.heap.size o.cells 40 from Blk.new w o.cells 40)
 have HR := hide (h.still hk0)
 have hkind : w.cell? ⟨b.s, 1, none⟩ = some (.int .i64 1) := by rw [← hK]; exact h.blk.cell rfl
 have hcl0 := hk0.cell hc (fun h => h)
 have HC := hide hcl0
 have HK := hide hk0
 have HI := hide hi
 have HKD := hide hK
 have hlen : y.items.length ≤ 1152921504606846976 := by have := hi.items; omega
 obtain ⟨la0, la1, sk0, sk1, cp0, cp1⟩ := hi.common
 clear h hi hK hk0 hcl0
 obtain ⟨a0, a1⟩ := inB_iff ha
 have hbs : b.s < (w.alloc (.cells o.cells.toArray 40)).heap.size := (uh HR).blk.lt
 have hob : w.heap.size < (w.alloc (.cells o.cells.toArray 40)).heap.size := (uh HO).lt
 have o2 : (w.alloc (.cells o.cells.toArray 40)).cell? ⟨w.heap.size, 2, none⟩ = some (.int .i64 o.a) := (uh HO).cell rfl
 have kd : (w.alloc (.cells o.cells.toArray 40)).cell? ⟨b.s, 1, none⟩ = some (.int .i64 1) := by
  have := uh HKD
  rw [← this]; exact (uh HR).blk.cell rfl
 clear ha hkind
 unfold OpM.val
 go_enter Tryz.func112, Tryz.ntmps112
 go_wp2_with fail
 generalize w.alloc (.cells o.cells.toArray 40) = w0 at *
 generalize w.heap.size = ob at *
 have hk1 : Keeps (fun _ => False) w0 w0 := Keeps.refl (fun _ => False) w0
 have HO1 := hide ((uh HO).keeps hk1 (fun h => h))
 have HR1 := hide ((uh HR).still hk1)
 have HC1 := hide (hk1.cell (uh HC) (fun h => h))
 have HK1 := hide ((uh HK).then hk1)
 clear hk1 o2 kd hbs hob
 refine (rwaiting_any b y w0 (uh HR1) hlen).mono ?_
 rintro r w9 ⟨rfl, hw9⟩
 rw [hw9]
 clear hw9 w9
 go_wp2_with fail
 refine (rmark_any e b.s y.c.lag clock w0 (uh HC1) ((uh HR1).blk.cell rfl) la0 la1 c0 c1).mono ?_
 rintro r w2 ⟨rfl, hk2⟩
 have o2 : w2.cell? ⟨ob, 2, none⟩ = some (.int .i64 o.a) := hk2.cell ((uh HO1).cell rfl) (fun h => h)
 have o3 : w2.cell? ⟨ob, 3, none⟩ = some (.int .i64 o.b) := hk2.cell ((uh HO1).cell rfl) (fun h => h)
 have o4 : w2.cell? ⟨ob, 4, none⟩ = some (.int .i64 o.c) := hk2.cell ((uh HO1).cell rfl) (fun h => h)
 have s3 : w2.cell? ⟨b.s, 3, none⟩ = some (.int .i64 y.c.skew) := hk2.cell ((uh HR1).blk.cell rfl) (fun h => h)
 have s4 : w2.cell? ⟨b.s, 4, none⟩ = some (.int .i64 y.c.cap) := hk2.cell ((uh HR1).blk.cell rfl) (fun h => h)
 have e0 : w2.cell? ⟨e, 0, none⟩ = some (.int .i64 clock) := hk2.cell (uh HC1) (fun h => h)
 have HK2 := hide ((uh HK1).then hk2)
 have hwl : (waitT y.items).length ≤ 1152921504606846976 := by have := wait_rel y.items; omega
 clear hk2 h1
 generalize (waitT y.items).length = wl at *
 generalize hmk : clock - y.c.lag = mark at *
 have HM := hide hmk
 clear hmk
 by_cases hm : o.a ≤ mark
 ·have HG' := hide (by have := uh HG; rw [if_pos hm] at this; exact this)
  go_wp2
  go_ret
  exact ⟨by rw [uh HG']; rfl, uh HK2⟩
 have HG1 := hide (by have := uh HG; rw [if_neg hm] at this; exact this)
 clear HG
 by_cases hs : clock < o.a - y.c.skew
 ·have HG' := hide (by have := uh HG1; rw [if_pos hs] at this; exact this)
  go_wp2_with fail
  go_region
  go_wp2
  go_ret
  exact ⟨by rw [uh HG']; rfl, (uh HK2).drew⟩
 have HG2 := hide (by have := uh HG1; rw [if_neg hs] at this; exact this)
 clear HG1
 have HG3 := hide (by have := uh HG2; rw [if_neg (show ¬ (1 : Int) = 0 by omega)] at this; exact this)
 clear HG2
 have HG4 := HG3
 clear HG3
 have HG5 := HG4
 clear HG4
 by_cases hcp : y.c.cap ≤ (wl : Int)
 ·have HG' := hide (by have := uh HG5; rw [if_pos hcp] at this; exact this)
  go_wp2_with fail
  go_region
  go_wp2
  go_ret
  exact ⟨by rw [uh HG']; rfl, (uh HK2).drew⟩
 ·have HG' := hide (by have := uh HG5; rw [if_neg hcp] at this; exact this)
  go_wp2_with fail
  go_region
  go_wp2
  go_ret
  exact ⟨by rw [uh HG']; rfl, (uh HK2).drew⟩
end Go.Proofs.YtahnliehdjncdaaGreatDoor
