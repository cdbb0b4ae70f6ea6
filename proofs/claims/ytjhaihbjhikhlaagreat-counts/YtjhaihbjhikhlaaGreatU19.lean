import Derived.Test.YtjhaihbjhikhlaaGreatU18
namespace Go.Proofs.YtjhaihbjhikhlaaGreat
open Go.RowKit

def sumE (l : List Bk) (t : Int) : Nat → Int
  | 0 => 0
  | i + 1 => sumE l t i + (if t < (bkAt l i).t then (bkAt l i).sz else 0)
def halfE (l : List Bk) (t : Int) : Nat → Int
  | 0 => 0
  | i + 1 => if t < (bkAt l i).t then (bkAt l i).sz / 2 else halfE l t i

theorem pastN_in (q : List Bk) (t : Int) (i : Nat) (h : i < pastN q t) : (bkAt q i).t ≤ t := by
  induction q generalizing i with
  | nil => simp [pastN] at h
  | cons b q ih =>
    unfold pastN at h
    rw [List.takeWhile_cons] at h
    split at h
    · rename_i hb
      cases i with
      | zero => simpa [bkAt] using hb
      | succ i => exact ih i (by unfold pastN; simpa using h)
    · simp at h
theorem pastN_at (q : List Bk) (t : Int) (h : pastN q t < q.length) : t < (bkAt q (pastN q t)).t := by
  induction q with
  | nil => simp at h
  | cons b q ih =>
    by_cases hb : b.t ≤ t
    · have e1 : pastN (b :: q) t = pastN q t + 1 := by unfold pastN; rw [List.takeWhile_cons, if_pos (by simpa using hb)]; rfl
      rw [e1] at h ⊢
      exact ih (by simpa using h)
    · have e1 : pastN (b :: q) t = 0 := by unfold pastN; rw [List.takeWhile_cons, if_neg (by simpa using hb)]; rfl
      rw [e1]
      show t < b.t
      omega
theorem est_ref (q : List Bk) (t : Int) (h : TS q) : sumE q.reverse t q.length - halfE q.reverse t q.length = estN q t := by
  have hp := pastN_le q t
  have hin := pastN_in q t
  have hat := pastN_at q t
  have key : ∀ i, i ≤ q.length → sumE q.reverse t i = sumB (q.drop (q.length - min i (q.length - pastN q t))) ∧ halfE q.reverse t i = (if min i (q.length - pastN q t) = 0 then 0 else (bkAt q (q.length - min i (q.length - pastN q t))).sz / 2) := by
    intro i
    induction i with
    | zero => intro _; simp [sumE, halfE, sumB]
    | succ i ih =>
      intro hi
      obtain ⟨i1, i2⟩ := ih (by omega)
      have hr := bkAt_reverse q i (by omega)
      have hcase : (t < (bkAt q.reverse i).t) ↔ i < q.length - pastN q t := by
        rw [hr]
        constructor
        · intro hz
          rcases Nat.lt_or_ge i (q.length - pastN q t) with h1 | h1
          · exact h1
          · have := hin (q.length - 1 - i) (by omega); omega
        · intro h1
          have h2 := hat (by omega)
          have h3 := h (pastN q t) (q.length - 1 - i) (by omega) (by omega)
          omega
      unfold sumE halfE
      rw [i1, i2]
      by_cases hc : t < (bkAt q.reverse i).t
      · have hc' := hcase.1 hc
        rw [if_pos hc, if_pos hc]
        have e1 : min (i + 1) (q.length - pastN q t) = i + 1 := by omega
        have e2 : min i (q.length - pastN q t) = i := by omega
        rw [e1, e2, if_neg (by omega), hr]
        have e3 : q.length - 1 - i = q.length - (i + 1) := by omega
        rw [e3]
        refine ⟨?_, rfl⟩
        rw [bkAt_drop q (q.length - (i + 1)) (by omega), show q.length - (i + 1) + 1 = q.length - i by omega]
        simp only [sumB]; omega
      · have hc' : ¬ i < q.length - pastN q t := fun h => hc (hcase.2 h)
        rw [if_neg hc, if_neg hc]
        have e1 : min (i + 1) (q.length - pastN q t) = min i (q.length - pastN q t) := by omega
        rw [e1]
        exact ⟨by omega, rfl⟩
  obtain ⟨k1, k2⟩ := key q.length (Nat.le_refl _)
  rw [k1, k2]
  unfold estN
  have e1 : min q.length (q.length - pastN q t) = q.length - pastN q t := by omega
  have e2 : q.length - (q.length - pastN q t) = pastN q t := by omega
  rw [e1, e2]
  by_cases he : pastN q t = q.length
  · rw [if_pos he, if_pos (by omega)]
  · rw [if_neg he, if_neg (by omega)]
theorem sumE_bd (q : List Bk) (t : Int) (h : ∀ b ∈ q, 1 ≤ b.sz) : ∀ i, i ≤ q.length → 0 ≤ sumE q.reverse t i ∧ sumE q.reverse t i ≤ sumB (q.drop (q.length - i)) := by
  intro i
  induction i with
  | zero => intro _; simp [sumE, sumB]
  | succ i ih =>
    intro hi
    obtain ⟨i1, i2⟩ := ih (by omega)
    have hr := bkAt_reverse q i (by omega)
    have h1 := h _ (bkAt_mem (l := q) (i := q.length - 1 - i) (by omega))
    have hd := bkAt_drop q (q.length - (i + 1)) (by omega)
    rw [show q.length - (i + 1) + 1 = q.length - i by omega] at hd
    unfold sumE
    rw [hr, hd, show q.length - (i + 1) = q.length - 1 - i by omega]
    simp only [sumB]
    split <;> omega
theorem halfE_bd (q : List Bk) (t : Int) (h : ∀ b ∈ q, 1 ≤ b.sz) : ∀ i, i ≤ q.length → 0 ≤ halfE q.reverse t i ∧ halfE q.reverse t i ≤ sumB q := by
  intro i
  induction i with
  | zero => intro _; exact ⟨by simp [halfE], by simp only [halfE]; exact sumB_nonneg h⟩
  | succ i ih =>
    intro hi
    obtain ⟨i1, i2⟩ := ih (by omega)
    have hr := bkAt_reverse q i (by omega)
    have hm := bkAt_mem (l := q) (i := q.length - 1 - i) (by omega)
    have h1 := h _ hm
    have h2 := sz_le_sumB h hm
    unfold halfE
    rw [hr]
    split <;> omega

set_option maxRecDepth 100000 in
set_option maxHeartbeats 4000000 in
theorem restimate_any (b : RB) (y : RSer) (a m : Int) (w : World) (h : RRep w b y) (hc : CfgC y.c) (ho : OkE y.c y.events) (hts : TS (bucketsE y.c y.events)) (hl : y.events.length ≤ 4398046511103) (a1 : 1 ≤ a) (a2 : a ≤ 1000) (m0 : -100 ≤ m) (m1 : m ≤ 4611686018427387904) :
    Calls Tryz.prog 44 #[.pointer (some ⟨b.s, 0, none⟩), .int .i64 a, .int .i64 m] w fun e w' => ∃ g, e = .returned (.slice (some ⟨g, 0, none⟩) 1 1) ∧ w.heap.size ≤ g ∧ Blk w' g [.int .i64 (estN (bucketsE y.c y.events) (m - a))] 3 ∧ Keeps (fun _ => False) w w' := by
  have hgd := bucketsE_good hc y.events
  have HC := hide (rbuckets_any b y w h hc ho hl)
  have HES := hide (est_ref _ (m - a) hts)
  have hlen := length_le_sumB hgd.one
  have hsum := hgd.sum
  have HSB := hide (sumE_bd _ (m - a) hgd.one)
  have HHB := hide (halfE_bd _ (m - a) hgd.one)
  have HDR := hide (fun i => (drop_good hgd i).sum)
  have HONE := hide (show ∀ i, i < (bucketsE y.c y.events).length → 1 ≤ (bkAt (bucketsE y.c y.events).reverse i).sz ∧ (bkAt (bucketsE y.c y.events).reverse i).sz ≤ 4398046511104 from fun i hi => by
    rw [bkAt_reverse _ _ hi]
    have hm := bkAt_mem (l := bucketsE y.c y.events) (i := (bucketsE y.c y.events).length - 1 - i) (by omega)
    have h1 := hgd.one _ hm
    have h2 := sz_le_sumB hgd.one hm
    omega)
  generalize bucketsE y.c y.events = q at *
  generalize hn : q.length = n at *
  have HN := hide hn
  have hn1 : n ≤ 4398046511104 := by omega
  have hsq : sumB q ≤ 4398046511104 := by omega
  clear h hc ho hts hgd hn
  go_enter Tryz.func44, Tryz.ntmps44
  go_wp2_with fail
  refine (unhide HC).mono ?_
  rintro e w1 ⟨v, rfl, hbw, hk⟩
  obtain ⟨la, lc, hv⟩ := bw_form hbw
  rw [List.length_reverse, unhide HN] at hv
  subst hv
  have HBW := hide hbw
  have HK := hide hk
  have hwm : IntKind.i64.wrap (m - a) = m - a := by rw [IntKind.wrap_i64]; omega
  clear hbw hk HC
  go_wp2_with fail
  go_loop [8, 9, 10] (fun s hf i => ∃ j : Nat, i = .int .i64 j ∧ j ≤ n ∧ s = .int .i64 (sumE q.reverse (m - a) j) ∧ hf = .int .i64 (halfE q.reverse (m - a) j)) (fun _ _ i => n - (intOf i).toNat)
  case atStart => exact ⟨0, rfl, Nat.zero_le _, rfl, rfl⟩
  case round =>
    obtain ⟨j, rfl, hj, rfl, rfl⟩ := hrel
    by_cases hjn : j < n
    · obtain ⟨g, off, rfl, _, hcap, hmx, _⟩ := bw_some (unhide HBW) (by omega)
      have hcs := bw_cells (by rw [List.length_reverse]; exact unhide HN) (unhide HBW) j hjn
      obtain ⟨x0, x1⟩ := hcs
      have hb1 := unhide HSB (j + 1) (by omega)
      have hb2 := unhide HSB j (by omega)
      have hb3 := unhide HDR (n - (j + 1))
      have hb4 := unhide HDR (n - j)
      have HS := hide (show sumE q.reverse (m - a) (j + 1) = sumE q.reverse (m - a) j + (if m - a < (bkAt q.reverse j).t then (bkAt q.reverse j).sz else 0) from rfl)
      have HH := hide (show halfE q.reverse (m - a) (j + 1) = if m - a < (bkAt q.reverse j).t then (bkAt q.reverse j).sz / 2 else halfE q.reverse (m - a) j from rfl)
      obtain ⟨z1, z2⟩ := unhide HONE j hjn
      have hj0 : (0 : Int) ≤ (j : Int) := by omega
      have hj1 : (j : Int) < (n : Int) := by omega
      generalize hsj : sumE q.reverse (m - a) j = sj at *
      generalize hhj : halfE q.reverse (m - a) j = hj' at *
      generalize bkAt q.reverse j = x at *
      clear hsj hhj hcap hmx
      by_cases ht : m - a < x.t
      · have hs1 : sj + x.sz ≤ 4398046511104 ∧ 0 ≤ sj + x.sz := by
          have h1 := unhide HS
          rw [if_pos ht] at h1
          omega
        obtain ⟨hs2, hs3⟩ := hs1
        have hws : IntKind.i64.wrap (sj + x.sz) = sj + x.sz := by rw [IntKind.wrap_i64]; omega
        have HT := hide ht
        clear hb1 hb2 hb3 hb4
        go_wp2
        go_round
        case rel => exact ⟨j + 1, by go_num, by omega, by rw [unhide HS, if_pos (unhide HT)], by rw [unhide HH, if_pos (unhide HT)]⟩
        case measure => simp [intOf]; omega
      · have HT := hide ht
        clear hb1 hb2 hb3 hb4
        go_wp2
        go_round
        case rel => exact ⟨j + 1, by go_num, by omega, by rw [unhide HS, if_neg (by have := unhide HT; omega), Int.add_zero], by rw [unhide HH, if_neg (by have := unhide HT; omega)]⟩
        case measure => simp [intOf]; omega
    · have hjn' : j = n := by omega
      subst hjn'
      have hb1 := unhide HSB j (Nat.le_refl _)
      have hb2 := unhide HHB j (Nat.le_refl _)
      have hb3 := unhide HDR (j - j)
      have HE := hide (unhide HES)
      generalize sumE q.reverse (m - a) j = sj at *
      generalize halfE q.reverse (m - a) j = hj' at *
      have hw1 : IntKind.i64.wrap (sj - hj') = sj - hj' := by rw [IntKind.wrap_i64]; omega
      clear hb1 hb2 hb3
      go_wp2
      go_ret
      refine ⟨w1.heap.size, rfl, (unhide HK).size, ?_, (unhide HK).alloc _⟩
      rw [← unhide HE]
      exact Blk.new w1 [_] 3

end Go.Proofs.YtjhaihbjhikhlaaGreat
