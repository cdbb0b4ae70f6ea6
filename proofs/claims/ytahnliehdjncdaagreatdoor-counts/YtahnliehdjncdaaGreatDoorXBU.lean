import Derived.Test.YtahnliehdjncdaaGreatDoorXBM
import Derived.Test.YtahnliehdjncdaaGreatDoorXBN
import Derived.Test.YtahnliehdjncdaaGreatDoorXBT
set_option maxRecDepth 100000
set_option maxHeartbeats 16000000
namespace Go.Proofs.YtahnliehdjncdaaGreatDoor
open Go.RowKit
def sumE (l : List Bk) (t : Int) : Nat → Int
 | 0 => 0
 | i + 1 => sumE l t i + (if t < (bkAt l i).t then (bkAt l i).sz else 0)
def halfE (l : List Bk) (t : Int) : Nat → Int
 | 0 => 0
 | i + 1 => if t < (bkAt l i).t then (bkAt l i).sz / 2 else halfE l t i
theorem pastN_in (q : List Bk) (t : Int) (i : Nat) (h : i < pastN q t) : (bkAt q i).t ≤ t := by
 induction q generalizing i with
 | nil => simp [pastN] at h
 | cons b q ih =>
  unfold pastN at h
  rw [List.takeWhile_cons] at h
  split at h
  ·rename_i hb
   cases i with
   | zero => simpa [bkAt] using hb
   | succ i => exact ih i (by unfold pastN; simpa using h)
  ·simp at h
theorem pastN_at (q : List Bk) (t : Int) (h : pastN q t < q.length) : t < (bkAt q (pastN q t)).t := by
 induction q with
 | nil => simp at h
 | cons b q ih =>
  by_cases hb : b.t ≤ t
  ·have e1 : pastN (b :: q) t = pastN q t + 1 := by unfold pastN; rw [List.takeWhile_cons, if_pos (by simpa using hb)]; rfl
   rw [e1] at h ⊢
   exact ih (by simpa using h)
  ·have e1 : pastN (b :: q) t = 0 := by unfold pastN; rw [List.takeWhile_cons, if_neg (by simpa using hb)]; rfl
   rw [e1]
   show t < b.t
   omega
theorem est_ref (q : List Bk) (t : Int) (h : TS q) : sumE q.reverse t q.length - halfE q.reverse t q.length = estN q t := by
 have hp := pastN_le q t
 have hin := pastN_in q t
 have hat := pastN_at q t
 have key : ∀ i, i ≤ q.length → sumE q.reverse t i = sumB (q.drop (q.length - min i (q.length - pastN q t))) ∧ halfE q.reverse t i = (if min i (q.length - pastN q t) = 0 then 0 else (bkAt q (q.length - min i (q.length - pastN q t))).sz / 2) := by
  intro i
  induction i with
  | zero => intro _; simp [sumE, halfE, sumB]
  | succ i ih =>
   intro hi
   obtain ⟨i1, i2⟩ := ih (by omega)
   have hr := bkAt_reverse q i (by omega)
   have hcase : (t < (bkAt q.reverse i).t) ↔ i < q.length - pastN q t := by
    rw [hr]
    constructor
    ·intro hz
     rcases Nat.lt_or_ge i (q.length - pastN q t) with h1 | h1
     ·exact h1
     ·have := hin (q.length - 1 - i) (by omega); omega
    ·intro h1
     have h2 := hat (by omega)
     have h3 := h (pastN q t) (q.length - 1 - i) (by omega) (by omega)
     omega
   unfold sumE halfE
   rw [i1, i2]
   by_cases hc : t < (bkAt q.reverse i).t
   ·have hc' := hcase.1 hc
    rw [if_pos hc, if_pos hc]
    have e1 : min (i + 1) (q.length - pastN q t) = i + 1 := by omega
    have e2 : min i (q.length - pastN q t) = i := by omega
    rw [e1, e2, if_neg (by omega), hr]
    have e3 : q.length - 1 - i = q.length - (i + 1) := by omega
    rw [e3]
    refine ⟨?_, rfl⟩
    rw [bkAt_drop q (q.length - (i + 1)) (by omega), show q.length - (i + 1) + 1 = q.length - i by omega]
    simp only [sumB]; omega
   ·have hc' : ¬ i < q.length - pastN q t := fun h => hc (hcase.2 h)
    rw [if_neg hc, if_neg hc]
    have e1 : min (i + 1) (q.length - pastN q t) = min i (q.length - pastN q t) := by omega
    rw [e1]
    exact ⟨by omega, rfl⟩
 obtain ⟨k1, k2⟩ := key q.length (Nat.le_refl _)
 rw [k1, k2]
 unfold estN
 have e1 : min q.length (q.length - pastN q t) = q.length - pastN q t := by omega
 have e2 : q.length - (q.length - pastN q t) = pastN q t := by omega
 rw [e1, e2]
 by_cases he : pastN q t = q.length
 ·rw [if_pos he, if_pos (by omega)]
 ·rw [if_neg he, if_neg (by omega)]
theorem sumE_bd (q : List Bk) (t : Int) (h : ∀ b ∈ q, 1 ≤ b.sz) : ∀ i, i ≤ q.length → 0 ≤ sumE q.reverse t i ∧ sumE q.reverse t i ≤ sumB (q.drop (q.length - i)) := by
 intro i
 induction i with
 | zero => intro _; simp [sumE, sumB]
 | succ i ih =>
  intro hi
  obtain ⟨i1, i2⟩ := ih (by omega)
  have hr := bkAt_reverse q i (by omega)
  have h1 := h _ (bkAt_mem (l := q) (i := q.length - 1 - i) (by omega))
  have hd := bkAt_drop q (q.length - (i + 1)) (by omega)
  rw [show q.length - (i + 1) + 1 = q.length - i by omega] at hd
  unfold sumE
  rw [hr, hd, show q.length - (i + 1) = q.length - 1 - i by omega]
  simp only [sumB]
  split <;> omega
theorem halfE_bd (q : List Bk) (t : Int) (h : ∀ b ∈ q, 1 ≤ b.sz) : ∀ i, i ≤ q.length → 0 ≤ halfE q.reverse t i ∧ halfE q.reverse t i ≤ sumB q := by
 intro i
 induction i with
 | zero => intro _; exact ⟨by simp [halfE], by simp only [halfE]; exact sumB_nonneg h⟩
 | succ i ih =>
  intro hi
  obtain ⟨i1, i2⟩ := ih (by omega)
  have hr := bkAt_reverse q i (by omega)
  have hm := bkAt_mem (l := q) (i := q.length - 1 - i) (by omega)
  have h1 := h _ hm
  have h2 := sz_le_sumB h hm
  unfold halfE
  rw [hr]
  split <;> omega
theorem restimate_any (b : RB) (y : RSer) (a m : Int) (w : World) (h : RRep w b y) (hc : CfgC y.c) (ho : OkE y.c y.events) (hts : TS (bucketsE y.c y.events)) (hl : y.events.length ≤ 4398046511103) (a1 : 1 ≤ a) (a2 : a ≤ 1000) (m0 : -100 ≤ m) (m1 : m ≤ 4611686018427387904) :
  Calls Tryz.prog 78 #[.pointer (some ⟨b.s, 0, none⟩), .int .i64 a, .int .i64 m] w fun e w' => ∃ g, e = .returned (.slice (some ⟨g, 0, none⟩) 1 1) ∧ w.heap.size ≤ g ∧ Blk w' g [.int .i64 (estN (bucketsE y.c y.events) (m - a))] 3 ∧ Keeps (fun _ => False) w w' := by
 have hgd := bucketsE_good hc y.events
 have HC := hide (rbuckets_any b y w h hc ho hl)
 have HES := hide (est_ref _ (m - a) hts)
 have hlen := length_le_sumB hgd.one
 have hsum := hgd.sum
 have HSB := hide (sumE_bd _ (m - a) hgd.one)
 have HHB := hide (halfE_bd _ (m - a) hgd.one)
 have HDR := hide (fun i => (drop_good hgd i).sum)
 have HONE := hide (show ∀ i, i < (bucketsE y.c y.events).length → 1 ≤ (bkAt (bucketsE y.c y.events).reverse i).sz ∧ (bkAt (bucketsE y.c y.events).reverse i).sz ≤ 4398046511104 from fun i hi => by
    rw [bkAt_reverse _ _ hi]
    have hm := bkAt_mem (l := bucketsE y.c y.events) (i := (bucketsE y.c y.events).length - 1 - i) (by omega)
    have h1 := hgd.one _ hm
    have h2 := sz_le_sumB hgd.one hm
    omega)
 generalize bucketsE y.c y.events = q at *
 generalize hn : q.length = n at *
 have HN := hide hn
 have hn1 : n ≤ 4398046511104 := by omega
 have hsq : sumB q ≤ 4398046511104 := by omega
 clear h hc ho hts hgd hn
 go_enter Tryz.func78, Tryz.ntmps78
 go_wp2_with fail
 refine (uh HC).mono ?_
 rintro e w1 ⟨v, rfl, hbw, hk⟩
 obtain ⟨la, lc, hv⟩ := bw_form hbw
 rw [List.length_reverse, uh HN] at hv
 subst hv
 have HBW := hide hbw
 have HK := hide hk
 have hwm : IntKind.i64.wrap (m - a) = m - a := by rw [IntKind.wrap_i64]; omega
 clear hbw hk HC
 go_wp2_with fail
 go_loop [8, 9, 10] (fun s hf i => ∃ j : Nat, i = .int .i64 j ∧ j ≤ n ∧ s = .int .i64 (sumE q.reverse (m - a) j) ∧ hf = .int .i64 (halfE q.reverse (m - a) j)) (fun _ _ i => n - (intOf i).toNat)
 case atStart => exact ⟨0, rfl, Nat.zero_le _, rfl, rfl⟩
 case round =>
  obtain ⟨j, rfl, hj, rfl, rfl⟩ := hrel
  by_cases hjn : j < n
  ·obtain ⟨g, off, rfl, _, hcap, hmx, _⟩ := bw_some (uh HBW) (by omega)
   have hcs := bw_cells (by rw [List.length_reverse]; exact uh HN) (uh HBW) j hjn
   obtain ⟨x0, x1⟩ := hcs
   have hb1 := uh HSB (j + 1) (by omega)
   have hb2 := uh HSB j (by omega)
   have hb3 := uh HDR (n - (j + 1))
   have hb4 := uh HDR (n - j)
   have HS := hide (show sumE q.reverse (m - a) (j + 1) = sumE q.reverse (m - a) j + (if m - a < (bkAt q.reverse j).t then (bkAt q.reverse j).sz else 0) from rfl)
   have HH := hide (show halfE q.reverse (m - a) (j + 1) = if m - a < (bkAt q.reverse j).t then (bkAt q.reverse j).sz / 2 else halfE q.reverse (m - a) j from rfl)
   obtain ⟨z1, z2⟩ := uh HONE j hjn
   have hj0 : (0 : Int) ≤ (j : Int) := by omega
   have hj1 : (j : Int) < (n : Int) := by omega
   generalize hsj : sumE q.reverse (m - a) j = sj at *
   generalize hhj : halfE q.reverse (m - a) j = hj' at *
   generalize bkAt q.reverse j = x at *
   clear hsj hhj hcap hmx
   by_cases ht : m - a < x.t
   ·have hs1 : sj + x.sz ≤ 4398046511104 ∧ 0 ≤ sj + x.sz := by
     have h1 := uh HS
     rw [if_pos ht] at h1
     omega
    obtain ⟨hs2, hs3⟩ := hs1
    have hws : IntKind.i64.wrap (sj + x.sz) = sj + x.sz := by rw [IntKind.wrap_i64]; omega
    have HT := hide ht
    clear hb1 hb2 hb3 hb4
    go_wp2
    go_round
    case rel => exact ⟨j + 1, by go_num, by omega, by rw [uh HS, if_pos (uh HT)], by rw [uh HH, if_pos (uh HT)]⟩
    case measure => simp [intOf]; omega
   ·have HT := hide ht
    clear hb1 hb2 hb3 hb4
    go_wp2
    go_round
    case rel => exact ⟨j + 1, by go_num, by omega, by rw [uh HS, if_neg (by have := uh HT; omega), Int.add_zero], by rw [uh HH, if_neg (by have := uh HT; omega)]⟩
    case measure => simp [intOf]; omega
  ·have hjn' : j = n := by omega
   subst hjn'
   have hb1 := uh HSB j (Nat.le_refl _)
   have hb2 := uh HHB j (Nat.le_refl _)
   have hb3 := uh HDR (j - j)
   have HE := hide (uh HES)
   generalize sumE q.reverse (m - a) j = sj at *
   generalize halfE q.reverse (m - a) j = hj' at *
   have hw1 : IntKind.i64.wrap (sj - hj') = sj - hj' := by rw [IntKind.wrap_i64]; omega
   clear hb1 hb2 hb3
   go_wp2
   go_ret
   refine ⟨w1.heap.size, rfl, (uh HK).size, ?_, (uh HK).alloc _⟩
   rw [← uh HE]
   exact Blk.new w1 [_] 3
end Go.Proofs.YtahnliehdjncdaaGreatDoor
namespace Go.Proofs.YtahnliehdjncdaaGreatDoor
open Go.RowKit
attribute [local go_sem ↓] execOp_load38 execOp_load40
attribute [local go_sem] run_load38 run_load40 bigVal_drew hasBig_drew bigVal_ne hasBig_ne bigVal_alloc hasBig_alloc bigVal_new hasBig_newB
theorem rquery_cnt (n : Int) (e : Nat) (v : Value) (clock ticks : Int) (ps : List (RB × RSer)) (o : OpM) (w : World) (h : RWRep w e v clock ticks ps) (hi : RWInv n clock ticks (ps.map (·.2))) (hn : n < 1099511627776) (p : RB × RSer) (hf : findRP ps o.id = some p) (hkd : p.2.c.kind = 1) (hw : inB o.a 1 p.2.c.window = true) :
  Calls Tryz.prog 53 #[.pointer (some ⟨e, 0, none⟩), o.val] w fun r w' => AnsPost w (0, [estN (bucketsE p.2.c p.2.events) (clock - p.2.c.lag - o.a)]) r w' := by
 have hmem : p ∈ ps := List.mem_of_find?_eq_some hf
 have HM := hide hmem
 have hip := hi.sers p.2 (List.mem_map_of_mem hmem)
 have HIP := hide hip
 have hil := hip.items
 have hci := hi.cnt p.2 (List.mem_map_of_mem hmem) hkd
 have hvc := valid_count (k := 1) hip.valid hkd rfl
 have hcf : CfgC p.2.c := ⟨hvc.1, hvc.2.1, hvc.2.2.1, hvc.2.2.2⟩
 have HCI := hide hci
 have HCF := hide hcf
 obtain ⟨a0, a1⟩ := inB_iff hw
 have a2 : o.a ≤ 1000 := by omega
 have HEL := hide (show p.2.events.length ≤ 4398046511103 by have h1 := hip.events; have h2 := wait_rel p.2.items; omega)
 clear hci hvc hcf a1
 obtain ⟨la0, la1, _, _, _, _⟩ := hip.common
 have hc0 := hi.c0
 have hc1 := hi.c1
 have hl : ps.length ≤ 1000 := by have := hi.six; rw [List.length_map] at this; omega
 have h1 : o.cells[1]? = some (.int .i64 o.id) := rfl
 have HE := hide h
 have HF := hide hf
 have HKD := hide hkd
 clear h hip hmem hi hf hkd
 unfold OpM.val
 go_enter Tryz.func53, Tryz.ntmps53
 go_wp2_with fail
 have hk0 : Keeps (fun _ => False) w ((w.alloc (.cells o.cells.toArray 40)).alloc (.cells #[.int .i64 0, .slice none 0 0, .string ⟨#[]⟩] 33)) := ((Keeps.refl (fun _ => False) w).alloc _).alloc _
 have HO0 := hide (show Blk ((w.alloc (.cells o.cells.toArray 40)).alloc (.cells #[.int .i64 0, .slice none 0 0, .string ⟨#[]⟩] 33)) w.heap.size o.cells 40 from (Blk.new w o.cells 40).alloc _)
 have HR0 := hide (show Blk ((w.alloc (.cells o.cells.toArray 40)).alloc (.cells #[.int .i64 0, .slice none 0 0, .string ⟨#[]⟩] 33)) (w.heap.size + 1) [.int .i64 0, .slice none 0 0, .string noBytes] 33 from Blk.newAt (by simp) [_, _, _] 33)
 have HE0 := hide ((uh HE).still hk0)
 have HK0 := hide hk0
 clear hk0
 generalize (w.alloc (.cells o.cells.toArray 40)).alloc (.cells #[.int .i64 0, .slice none 0 0, .string ⟨#[]⟩] 33) = w0 at *
 generalize hob : w.heap.size = ob at *
 have HOB := hide hob
 clear hob
 refine (rfind_any e v clock ticks o.id ps w0 (uh HE0) hl).mono ?_
 rintro r w1 ⟨rfl, hw1⟩
 rw [hw1, uh HF]
 clear hw1 w1
 unfold rptrOf
 have HP0 := hide ((uh HE0).reps p (uh HM))
 go_wp2_with fail
 refine (rmark_any e p.1.s p.2.c.lag clock w0 ((uh HE0).blk.cell rfl) ((uh HP0).blk.cell rfl) la0 la1 hc0 hc1).mono ?_
 rintro r w1 ⟨rfl, hk1⟩
 have HO1 := hide ((uh HO0).keeps hk1 (fun h => h))
 have HR1 := hide ((uh HR0).keeps hk1 (fun h => h))
 have HP1 := hide ((uh HP0).still hk1)
 have HK1 := hide ((uh HK0).then hk1)
 clear hk1 h1
 have o2 : w1.cell? ⟨ob, 2, none⟩ = some (.int .i64 o.a) := (uh HO1).cell rfl
 have s1 : w1.cell? ⟨p.1.s, 1, none⟩ = some (.int .i64 1) := by
  rw [← uh HKD]; exact (uh HP1).blk.cell rfl
 have s6 : w1.cell? ⟨p.1.s, 6, none⟩ = some (.int .i64 p.2.c.window) := (uh HP1).blk.cell rfl
 generalize hmk : clock - p.2.c.lag = mark at *
 have HMK := hide hmk
 have hmk0 : -100 ≤ mark := by omega
 have hmk1 : mark ≤ 4611686018427387904 := by omega
 clear hmk
 go_wp2_with fail
 go_region_held3 (fun w' => w'.cell? ⟨ob, 2, none⟩ = some (.int .i64 o.a) ∧ w'.cell? ⟨p.1.s, 6, none⟩ = some (.int .i64 p.2.c.window)) (go_keep)
  (first | (go_at_call 77; refine (rin_any _ _ _ _).mono ?_; rintro r w9 ⟨rfl, rfl⟩))
 have HO2 := hide ((uh HO1).drew)
 have HR2 := hide ((uh HR1).drew)
 have HP2 := hide ((uh HP1).still ((Keeps.refl (fun _ => False) w1).drew))
 have HK2 := hide ((uh HK1).drew)
 clear o2 s1 s6 HO1 HR1 HP1 HK1
 generalize w1.drew = w2 at *
 have o2 : w2.cell? ⟨ob, 2, none⟩ = some (.int .i64 o.a) := (uh HO2).cell rfl
 go_wp2_with fail
 refine (rin_any _ _ _ _).mono ?_
 rintro r w9 ⟨rfl, hw9⟩
 rw [hw9]
 clear hw9 w9
 go_wp2_with fail
 refine (restimate_any p.1 p.2 o.a mark w2 (uh HP2) (uh HCF) (uh HCI).ok (uh HCI).ts (uh HEL) a0 a2 hmk0 hmk1).mono ?_
 rintro r w3 ⟨g, rfl, hgs, hgb, hk3⟩
 have HR3 := hide ((uh HR2).keeps hk3 (fun h => h))
 have HK3 := hide ((uh HK2).then hk3)
 have HGB := hide hgb
 have hsz2 : ob + 1 < w2.heap.size := (uh HR2).lt
 clear hk3 hgb
 have r0 : w3.cell? ⟨ob + 1, 0, none⟩ = some (.int .i64 0) := (uh HR3).cell rfl
 have r1 : w3.cell? ⟨ob + 1, 1, none⟩ = some (.slice none 0 0) := (uh HR3).cell rfl
 have r2 : w3.cell? ⟨ob + 1, 2, none⟩ = some (.string noBytes) := (uh HR3).cell rfl
 have rf := (uh HR3).frozen
 go_wp2
 have hbf := (((uh HR3).setCell 0 (.int .i64 0)).setCell 1 (.slice (some ⟨g, 0, none⟩) 1 1)).setCell 2 (.string noBytes)
 have HKF := hide ((((Keeps.refl (fun i => i = ob + 1) w3).setCell (p := ⟨ob + 1, 0, none⟩) (Or.inl rfl) (.int .i64 0)).setCell (p := ⟨ob + 1, 1, none⟩) (Or.inl rfl) (.slice (some ⟨g, 0, none⟩) 1 1)).setCell (p := ⟨ob + 1, 2, none⟩) (Or.inl rfl) (.string noBytes))
 have e9 : (((w3.setCell ⟨ob + 1, 0, none⟩ (.int .i64 0)).setCell ⟨ob + 1, 1, none⟩ (.slice (some ⟨g, 0, none⟩) 1 1)).setCell ⟨ob + 1, 2, none⟩ (.string ⟨#[]⟩)) = (((w3.setCell ⟨ob + 1, 0, none⟩ (.int .i64 0)).setCell ⟨ob + 1, 1, none⟩ (.slice (some ⟨g, 0, none⟩) 1 1)).setCell ⟨ob + 1, 2, none⟩ (.string noBytes)) := rfl
 first | rw [e9] | skip
 generalize (((w3.setCell ⟨ob + 1, 0, none⟩ (.int .i64 0)).setCell ⟨ob + 1, 1, none⟩ (.slice (some ⟨g, 0, none⟩) 1 1)).setCell ⟨ob + 1, 2, none⟩ (.string noBytes)) = w9 at *
 have q0 : w9.cell? ⟨ob + 1, 0, none⟩ = some (.int .i64 0) := hbf.cell rfl
 have q1 : w9.cell? ⟨ob + 1, 1, none⟩ = some (.slice (some ⟨g, 0, none⟩) 1 1) := hbf.cell rfl
 have q2 : w9.cell? ⟨ob + 1, 2, none⟩ = some (.string noBytes) := hbf.cell rfl
 refine bodyPost_ret (v := ansV 0 (.slice (some ⟨g, 0, none⟩) 1 1)) (by simp [results, Tryz.results53, go_sem, q0, q1, q2, ansV]) rfl ?_
 have hob := uh HOB
 have hsz := (uh HK2).size
 refine ⟨_, rfl, ?_, (uh HK3).trans (uh HKF) (fun i hi hlt => by omega)⟩
 have hb9 := (uh HGB).keeps (uh HKF) (fun h => by omega)
 rw [uh HMK]
 exact ⟨rfl, .inr ⟨g, 1, _, rfl, by omega, hb9, by simp, by unfold maxLen; simp, rfl, rfl⟩⟩
theorem rquery_rng (n : Int) (e : Nat) (v : Value) (clock ticks : Int) (ps : List (RB × RSer)) (o : OpM) (w : World) (h : RWRep w e v clock ticks ps) (hi : RWInv n clock ticks (ps.map (·.2))) (p : RB × RSer) (hf : findRP ps o.id = some p) (hkd : p.2.c.kind = 1) (hw : inB o.a 1 p.2.c.window = false) :
  Calls Tryz.prog 53 #[.pointer (some ⟨e, 0, none⟩), o.val] w fun r w' => AnsPost w (13, []) r w' := by
 have hmem : p ∈ ps := List.mem_of_find?_eq_some hf
 have HM := hide hmem
 have hip := hi.sers p.2 (List.mem_map_of_mem hmem)
 have HIP := hide hip
 have hil := hip.items
 obtain ⟨la0, la1, _, _, _, _⟩ := hip.common
 have hc0 := hi.c0
 have hc1 := hi.c1
 have hl : ps.length ≤ 1000 := by have := hi.six; rw [List.length_map] at this; omega
 have h1 : o.cells[1]? = some (.int .i64 o.id) := rfl
 have HE := hide h
 have HF := hide hf
 have HKD := hide hkd
 clear h hip hmem hi hf hkd
 unfold OpM.val
 go_enter Tryz.func53, Tryz.ntmps53
 go_wp2_with fail
 have hk0 : Keeps (fun _ => False) w ((w.alloc (.cells o.cells.toArray 40)).alloc (.cells #[.int .i64 0, .slice none 0 0, .string ⟨#[]⟩] 33)) := ((Keeps.refl (fun _ => False) w).alloc _).alloc _
 have HO0 := hide (show Blk ((w.alloc (.cells o.cells.toArray 40)).alloc (.cells #[.int .i64 0, .slice none 0 0, .string ⟨#[]⟩] 33)) w.heap.size o.cells 40 from (Blk.new w o.cells 40).alloc _)
 have HR0 := hide (show Blk ((w.alloc (.cells o.cells.toArray 40)).alloc (.cells #[.int .i64 0, .slice none 0 0, .string ⟨#[]⟩] 33)) (w.heap.size + 1) [.int .i64 0, .slice none 0 0, .string noBytes] 33 from Blk.newAt (by simp) [_, _, _] 33)
 have HE0 := hide ((uh HE).still hk0)
 have HK0 := hide hk0
 clear hk0
 generalize (w.alloc (.cells o.cells.toArray 40)).alloc (.cells #[.int .i64 0, .slice none 0 0, .string ⟨#[]⟩] 33) = w0 at *
 generalize hob : w.heap.size = ob at *
 have HOB := hide hob
 clear hob
 refine (rfind_any e v clock ticks o.id ps w0 (uh HE0) hl).mono ?_
 rintro r w1 ⟨rfl, hw1⟩
 rw [hw1, uh HF]
 clear hw1 w1
 unfold rptrOf
 have HP0 := hide ((uh HE0).reps p (uh HM))
 go_wp2_with fail
 refine (rmark_any e p.1.s p.2.c.lag clock w0 ((uh HE0).blk.cell rfl) ((uh HP0).blk.cell rfl) la0 la1 hc0 hc1).mono ?_
 rintro r w1 ⟨rfl, hk1⟩
 have HO1 := hide ((uh HO0).keeps hk1 (fun h => h))
 have HR1 := hide ((uh HR0).keeps hk1 (fun h => h))
 have HP1 := hide ((uh HP0).still hk1)
 have HK1 := hide ((uh HK0).then hk1)
 clear hk1 h1
 have o2 : w1.cell? ⟨ob, 2, none⟩ = some (.int .i64 o.a) := (uh HO1).cell rfl
 have s1 : w1.cell? ⟨p.1.s, 1, none⟩ = some (.int .i64 1) := by
  rw [← uh HKD]; exact (uh HP1).blk.cell rfl
 have s6 : w1.cell? ⟨p.1.s, 6, none⟩ = some (.int .i64 p.2.c.window) := (uh HP1).blk.cell rfl
 generalize hmk : clock - p.2.c.lag = mark at *
 have HMK := hide hmk
 have hmk0 : -100 ≤ mark := by omega
 have hmk1 : mark ≤ 4611686018427387904 := by omega
 clear hmk
 go_wp2_with fail
 go_region_held3 (fun w' => w'.cell? ⟨ob, 2, none⟩ = some (.int .i64 o.a) ∧ w'.cell? ⟨p.1.s, 6, none⟩ = some (.int .i64 p.2.c.window)) (go_keep)
  (first | (go_at_call 77; refine (rin_any _ _ _ _).mono ?_; rintro r w9 ⟨rfl, rfl⟩))
 have HO2 := hide ((uh HO1).drew)
 have HR2 := hide ((uh HR1).drew)
 have HP2 := hide ((uh HP1).still ((Keeps.refl (fun _ => False) w1).drew))
 have HK2 := hide ((uh HK1).drew)
 clear o2 s1 s6 HO1 HR1 HP1 HK1
 generalize w1.drew = w2 at *
 have o2 : w2.cell? ⟨ob, 2, none⟩ = some (.int .i64 o.a) := (uh HO2).cell rfl
 go_wp2_with fail
 refine (rin_any _ _ _ _).mono ?_
 rintro r w9 ⟨rfl, hw9⟩
 rw [hw9]
 clear hw9 w9
 go_wp2_with fail
 refine (rno_any 13 w2).mono ?_
 rintro r w3 ⟨rfl, hk1⟩
 unfold ansV
 have HR1 := hide ((uh HR2).keeps hk1 (fun h => h))
 have HK1 := hide ((uh HK2).then hk1)
 clear hk1
 have r0 : w3.cell? ⟨ob + 1, 0, none⟩ = some (.int .i64 0) := (uh HR1).cell rfl
 have r1 : w3.cell? ⟨ob + 1, 1, none⟩ = some (.slice none 0 0) := (uh HR1).cell rfl
 have r2 : w3.cell? ⟨ob + 1, 2, none⟩ = some (.string noBytes) := (uh HR1).cell rfl
 have rf := (uh HR1).frozen
 go_wp2
 have hbf := (((uh HR1).setCell 0 (.int .i64 13)).setCell 1 (.slice none 0 0)).setCell 2 (.string noBytes)
 have HKF := hide ((((Keeps.refl (fun i => i = ob + 1) w3).setCell (p := ⟨ob + 1, 0, none⟩) (Or.inl rfl) (.int .i64 13)).setCell (p := ⟨ob + 1, 1, none⟩) (Or.inl rfl) (.slice none 0 0)).setCell (p := ⟨ob + 1, 2, none⟩) (Or.inl rfl) (.string noBytes))
 have e9 : (((w3.setCell ⟨ob + 1, 0, none⟩ (.int .i64 13)).setCell ⟨ob + 1, 1, none⟩ (.slice none 0 0)).setCell ⟨ob + 1, 2, none⟩ (.string ⟨#[]⟩)) = (((w3.setCell ⟨ob + 1, 0, none⟩ (.int .i64 13)).setCell ⟨ob + 1, 1, none⟩ (.slice none 0 0)).setCell ⟨ob + 1, 2, none⟩ (.string noBytes)) := rfl
 first | rw [e9] | skip
 generalize (((w3.setCell ⟨ob + 1, 0, none⟩ (.int .i64 13)).setCell ⟨ob + 1, 1, none⟩ (.slice none 0 0)).setCell ⟨ob + 1, 2, none⟩ (.string noBytes)) = w9 at *
 have q0 : w9.cell? ⟨ob + 1, 0, none⟩ = some (.int .i64 13) := hbf.cell rfl
 have q1 : w9.cell? ⟨ob + 1, 1, none⟩ = some (.slice none 0 0) := hbf.cell rfl
 have q2 : w9.cell? ⟨ob + 1, 2, none⟩ = some (.string noBytes) := hbf.cell rfl
 refine bodyPost_ret (v := ansV 13 (.slice none 0 0)) (by simp [results, Tryz.results53, go_sem, q0, q1, q2, ansV]) rfl ?_
 have hob := uh HOB
 exact ⟨_, rfl, World.ownsRow_nil _ _ _ _, (uh HK1).trans (uh HKF) (fun i hi hlt => by omega)⟩
end Go.Proofs.YtahnliehdjncdaaGreatDoor
namespace Go.Proofs.YtahnliehdjncdaaGreatDoor
open Go.RowKit
def AnsAt (base : Nat) (w : World) (c : Int × List Int) (r : Ending) (w' : World) : Prop := ∃ code nums nv, c = (code, nums) ∧ r = .returned (ansV code nv) ∧ w'.ownsRow w.heap.size 3 1 nv nums.length (ints nums) ∧ Keeps (fun i => base ≤ i) w w'
theorem rquery_at (base : Nat) (n : Int) (e : Nat) (v : Value) (clock ticks : Int) (ps : List (RB × RSer)) (o : OpM) (w : World) (h : RWRep w e v clock ticks ps) (hi : RWInv n clock ticks (ps.map (·.2))) (hn : n < 1099511627776) (hk : ∀ y, y ∈ ps.map (·.2) → y.c.kind = 1 ∨ y.c.kind = 4) :
  Calls Tryz.prog 53 #[.pointer (some ⟨e, 0, none⟩), o.val] w fun r w' => AnsAt base w (queryR ⟨clock, ticks, ps.map (·.2)⟩ o) r w' := by
 unfold queryR
 rw [findRP_findR]
 cases hf : findRP ps o.id with
 | none =>
  refine (rquery_no e v clock ticks ps o w h (by have := hi.six; simp at this; omega) hf).mono ?_
  rintro r w' ⟨nv, h1, h2, h3⟩
  exact ⟨_, _, nv, rfl, h1, h2, h3.mono (fun _ _ h => h.elim)⟩
 | some p =>
  simp only [Option.map_some]
  rcases hk p.2 (List.mem_map_of_mem (List.mem_of_find?_eq_some hf)) with hk1 | hk4
  ·rw [if_pos hk1]
   by_cases hw : inB o.a 1 p.2.c.window = true
   ·rw [if_pos hw]
    refine (rquery_cnt n e v clock ticks ps o w h hi hn p hf hk1 hw).mono ?_
    rintro r w' ⟨nv, h1, h2, h3⟩
    exact ⟨_, _, nv, rfl, h1, h2, h3.mono (fun _ _ h => h.elim)⟩
   ·rw [if_neg hw]
    refine (rquery_rng n e v clock ticks ps o w h hi p hf hk1 (by simpa using hw)).mono ?_
    rintro r w' ⟨nv, h1, h2, h3⟩
    exact ⟨_, _, nv, rfl, h1, h2, h3.mono (fun _ _ h => h.elim)⟩
  ·rw [if_neg (by omega)]
   refine (rquery_dec n e v clock ticks ps o w h hi hn p hf hk4).mono ?_
   rintro r w' ⟨nv, h1, h2, h3⟩
   exact ⟨_, _, nv, rfl, h1, h2, h3.mono (fun _ _ h => h.elim)⟩
theorem rstats_at (base : Nat) (n : Int) (e : Nat) (v : Value) (clock ticks : Int) (ps : List (RB × RSer)) (o : OpM) (w : World) (h : RWRep w e v clock ticks ps) (hi : RWInv n clock ticks (ps.map (·.2))) (hn : n < 1099511627776) :
  Calls Tryz.prog 54 #[.pointer (some ⟨e, 0, none⟩), o.val] w fun r w' => AnsAt base w (statsR ⟨clock, ticks, ps.map (·.2)⟩ o) r w' := by
 unfold statsR
 rw [findRP_findR]
 cases hf : findRP ps o.id with
 | none =>
  refine (rstats_no e v clock ticks ps o w h (by have := hi.six; simp at this; omega) hf).mono ?_
  rintro r w' ⟨nv, h1, h2, h3⟩
  exact ⟨_, _, nv, rfl, h1, h2, h3.mono (fun _ _ h => h.elim)⟩
 | some p =>
  refine (rstats_yes n e v clock ticks ps o w h hi hn p hf).mono ?_
  rintro r w' ⟨nv, h1, h2, h3⟩
  exact ⟨_, _, nv, rfl, h1, h2, h3.mono (fun _ _ h => h.elim)⟩
theorem rstep_at (base : Nat) (n : Int) (e : Nat) (v : Value) (clock ticks : Int) (ps : List (RB × RSer)) (o : OpM) (w : World) (h : RWRep w e v clock ticks ps) (hi : RWInv n clock ticks (ps.map (·.2))) (hn : n < 1099511627776) (hb : ∀ i, RFoot e v ps i → base ≤ i) :
  Calls Tryz.prog 55 #[.pointer (some ⟨e, 0, none⟩), o.val] w fun r w' => AnsAt base w (stepR ⟨clock, ticks, ps.map (·.2)⟩ o).2 r w' := by
 refine (rstep_any n e v clock ticks ps o w h hi hn).mono ?_
 rintro r w' ⟨nv, h1, h2, v', ps', _, _, h3, _⟩
 exact ⟨_, _, nv, rfl, h1, h2, h3.mono (fun i _ h => hb i h)⟩
def chg (o : OpM) : Bool := !(o.kind == 4 || o.kind == 5)
theorem goR_end (s : RWS) (o : OpM) : goR s o = endR s ([o].filter chg) := by
 unfold goR
 by_cases h : o.kind = 4 ∨ o.kind = 5
 ·rw [if_pos h]
  have hb : (o.kind == 4 || o.kind == 5) = true := by simpa using h
  have hc : chg o = false := by unfold chg; rw [hb]; rfl
  rw [List.filter_cons_of_neg (by rw [hc]; simp)]
  rfl
 ·rw [if_neg h]
  have hb : (o.kind == 4 || o.kind == 5) = false := by simpa using h
  have hc : chg o = true := by unfold chg; rw [hb]; rfl
  rw [List.filter_cons_of_pos hc]
  rfl
theorem endR_append (s : RWS) (a b : List OpM) : endR s (a ++ b) = endR (endR s a) b := by
 induction a generalizing s with
 | nil => rfl
 | cons x l ih => exact ih _
theorem runR_snoc (s : RWS) (l : List OpM) (o : OpM) : runR s (l ++ [o]) = runR s l ++ [ansR (endR s (l.filter chg)) o] := by
 induction l generalizing s with
 | nil => rfl
 | cons a l ih =>
  simp only [List.cons_append, runR, ih]
  rw [goR_end, ← endR_append, ← List.filter_append]
  rfl
theorem runR_length (s : RWS) (l : List OpM) : (runR s l).length = l.length := by
 induction l generalizing s with
 | nil => rfl
 | cons a l ih => simp [runR, ih]
structure RR (w : World) (base : Nat) (av : Value) (l : List Ans) (sv : Value) (S : List OpM) (tv : Value) (k : Nat) (nv : Value) (nums : List Int) : Prop where
 A : ARep w base av l
 S : OwnS w base sv S
 T : w.ownsRow base 22 1 tv k (List.replicate k (.slice none 0 0))
 P : w.ownsRow base 3 1 nv nums.length (ints nums)
 st : ∀ i, sv.ownBlock = some i → tv.ownBlock ≠ some i ∧ ¬ AFoot av l i
 tt : ∀ i, tv.ownBlock = some i → ¬ AFoot av l i
 pd : ∀ i, nv.ownBlock = some i → sv.ownBlock ≠ some i ∧ tv.ownBlock ≠ some i ∧ ¬ AFoot av l i
 nb : ∀ x, x ∈ l → x.bs = noBytes
theorem RR.still {w w' : World} {base : Nat} {av : Value} {l : List Ans} {sv : Value} {S : List OpM} {tv : Value} {k : Nat} {nv : Value} {nums : List Int} (h : RR w base av l sv S tv k nv nums) (hk : Keeps (fun _ => False) w w') : RR w' base av l sv S tv k nv nums :=
 ⟨h.A.keeps hk (fun _ _ h => h), owns_keeps h.S hk (fun _ _ h => h), owns_keeps h.T hk (fun _ _ h => h), owns_keeps h.P hk (fun _ _ h => h), h.st, h.tt, h.pd, h.nb⟩
theorem RR.pend {w w' : World} {base : Nat} {av : Value} {l : List Ans} {sv : Value} {S : List OpM} {tv : Value} {k : Nat} {nv : Value} {nums : List Int} (h : RR w base av l sv S tv k (.slice none 0 0) []) (hb : base ≤ w.heap.size) (hk : Keeps (fun _ => False) w w') (hn : w'.ownsRow w.heap.size 3 1 nv nums.length (ints nums)) : RR w' base av l sv S tv k nv nums := by
 have h' := h.still hk
 refine ⟨h'.A, h'.S, h'.T, owns_base hn hb, h.st, h.tt, fun i hi => ?_, h.nb⟩
 have hge := (hn.lt i hi).1
 exact ⟨fun hh => by have := (h.S.lt i hh).2; omega, fun hh => by have := (h.T.lt i hh).2; omega, fun hh => by have := (h.A.lt i hh).2; omega⟩
theorem RR.steps {w w' : World} {base : Nat} {av : Value} {l : List Ans} {sv sv' : Value} {S S' : List OpM} {tv : Value} {k : Nat} {nv : Value} {nums : List Int} (h : RR w base av l sv S tv k nv nums) (hk : Keeps (fun i => sv.ownBlock = some i) w w') (hS : OwnS w' base sv' S') (hat : ∀ i, sv'.ownBlock = some i → sv.ownBlock = some i ∨ w.heap.size ≤ i) : RR w' base av l sv' S' tv k nv nums := by
 refine ⟨h.A.keeps hk (fun i hi hh => (h.st i hh).2 hi), hS, owns_keeps h.T hk (fun i hi hh => (h.st i hh).1 hi), owns_keeps h.P hk (fun i hi hh => (h.pd i hi).1 hh), fun i hi => ?_, h.tt, fun i hi => ⟨fun hh => ?_, (h.pd i hi).2⟩, h.nb⟩
 ·rcases hat i hi with h1 | h1
  ·exact h.st i h1
  ·exact ⟨fun hh => by have := (h.T.lt i hh).2; omega, fun hh => by have := (h.A.lt i hh).2; omega⟩
 ·rcases hat i hh with h1 | h1
  ·exact (h.pd i hi).1 h1
  ·have := (h.P.lt i hi).2; omega
theorem RR.saved {w w' : World} {base : Nat} {av : Value} {l : List Ans} {sv : Value} {S : List OpM} {tv tv' : Value} {k k' : Nat} {nv : Value} {nums : List Int} (h : RR w base av l sv S tv k nv nums) (hk : Keeps (fun i => tv.ownBlock = some i) w w') (hT : w'.ownsRow base 22 1 tv' k' (List.replicate k' (.slice none 0 0))) (hat : ∀ i, tv'.ownBlock = some i → tv.ownBlock = some i ∨ w.heap.size ≤ i) : RR w' base av l sv S tv' k' nv nums := by
 refine ⟨h.A.keeps hk (fun i hi hh => h.tt i hh hi), owns_keeps h.S hk (fun i hi hh => (h.st i hi).1 hh), hT, owns_keeps h.P hk (fun i hi hh => (h.pd i hi).2.1 hh), fun i hi => ⟨fun hh => ?_, (h.st i hi).2⟩, fun i hi => ?_, fun i hi => ⟨(h.pd i hi).1, fun hh => ?_, (h.pd i hi).2.2⟩, h.nb⟩
 ·rcases hat i hh with h1 | h1
  ·exact (h.st i hi).1 h1
  ·have := (h.S.lt i hi).2; omega
 ·rcases hat i hi with h1 | h1
  ·exact h.tt i h1
  ·exact fun hh => by have := (h.A.lt i hh).2; omega
 ·rcases hat i hh with h1 | h1
  ·exact (h.pd i hi).2.1 h1
  ·have := (h.P.lt i hi).2; omega
theorem RR.out {w w' : World} {base : Nat} {av av' : Value} {l : List Ans} {sv : Value} {S : List OpM} {tv : Value} {k : Nat} {nv : Value} {nums : List Int} {code : Int} (h : RR w base av l sv S tv k nv nums) (hk : Keeps (fun i => av.ownBlock = some i) w w') (hA : w'.ownsRow base 33 3 av' (l.length + 1) (ansFlat l ++ [.int .i64 code, nv, .string noBytes])) (hat : ∀ i, av'.ownBlock = some i → av.ownBlock = some i ∨ w.heap.size ≤ i) :
  RR w' base av' (l ++ [⟨code, nv, nums, noBytes⟩]) sv S tv k (.slice none 0 0) [] := by
 have hnew : ∀ i, AFoot av' (l ++ [⟨code, nv, nums, noBytes⟩]) i → AFoot av l i ∨ nv.ownBlock = some i ∨ w.heap.size ≤ i := by
  intro i hi
  rcases hi with hi | ⟨x, hx, hi⟩
  ·rcases hat i hi with h1 | h1
   ·exact .inl (.inl h1)
   ·exact .inr (.inr h1)
  ·rcases List.mem_append.1 hx with hx | hx
   ·exact .inl (.inr ⟨x, hx, hi⟩)
   ·rw [List.mem_singleton] at hx; subst hx
    exact .inr (.inl hi)
 refine ⟨⟨?_, ?_, ?_⟩, owns_keeps h.S hk (fun i hi hh => (h.st i hi).2 (.inl hh)), owns_keeps h.T hk (fun i hi hh => h.tt i hi (.inl hh)), World.ownsRow_nil _ _ _ _, fun i hi => ⟨(h.st i hi).1, fun hh => ?_⟩, fun i hi hh => ?_, fun i hi => (by cases hi), fun x hx => ?_⟩
 ·rw [ansFlat_append, List.length_append]; exact hA
 ·intro x hx
  rcases List.mem_append.1 hx with hx | hx
  ·exact owns_keeps (h.A.nums x hx) hk (fun i hi hh => h.A.apart x hx i hi hh)
  ·rw [List.mem_singleton] at hx; subst hx
   exact owns_keeps h.P hk (fun i hi hh => (h.pd i hi).2.2 (.inl hh))
 ·intro x hx i hi hh
  rcases List.mem_append.1 hx with hx | hx
  ·rcases hat i hh with h1 | h1
   ·exact h.A.apart x hx i hi h1
   ·have := (h.A.lt i (.inr ⟨x, hx, hi⟩)).2; omega
  ·rw [List.mem_singleton] at hx; subst hx
   rcases hat i hh with h1 | h1
   ·exact (h.pd i hi).2.2 (.inl h1)
   ·have := (h.P.lt i hi).2; omega
 ·rcases hnew i hh with h1 | h1 | h1
  ·exact (h.st i hi).2 h1
  ·exact (h.pd i h1).1 hi
  ·have := (h.S.lt i hi).2; omega
 ·rcases hnew i hh with h1 | h1 | h1
  ·exact h.tt i hi h1
  ·exact (h.pd i h1).2.1 hi
  ·have := (h.T.lt i hi).2; omega
 ·rcases List.mem_append.1 hx with hx | hx
  ·exact h.nb x hx
  ·rw [List.mem_singleton] at hx; subst hx; rfl
end Go.Proofs.YtahnliehdjncdaaGreatDoor
namespace Go.Proofs.YtahnliehdjncdaaGreatDoor
open Go.RowKit
attribute [local go_sem ↓] execOp_load38 execOp_load40 execOp_store40 execOp_bs22
attribute [local go_sem] run_load38 run_load40 bigVal_drew hasBig_drew bigVal_ne hasBig_ne bigVal_alloc hasBig_alloc run_bs1
theorem info22 : (Tryz.prog.info? 22).map (fun i => (i.zero, i.size, i.bytes)) = some (some (.slice none 0 0), 1, 24) := by kernel_rfl
theorem set3 (w : World) (b : Nat) (x y z : Value) : Keeps (fun i => i = b) w (((w.setCell ⟨b, 0, none⟩ x).setCell ⟨b, 1, none⟩ y).setCell ⟨b, 2, none⟩ z) := (((Keeps.refl (fun i => i = b) w).setCell (p := ⟨b, 0, none⟩) (Or.inl rfl) _).setCell (p := ⟨b, 1, none⟩) (Or.inl rfl) _).setCell (p := ⟨b, 2, none⟩) (Or.inl rfl) _
theorem RR.keeps {M : Nat → Prop} {w w' : World} {base : Nat} {av : Value} {l : List Ans} {sv : Value} {S : List OpM} {tv : Value} {k : Nat} {nv : Value} {nums : List Int} (h : RR w base av l sv S tv k nv nums) (hk : Keeps M w w') (hM : ∀ i, (AFoot av l i ∨ sv.ownBlock = some i ∨ tv.ownBlock = some i ∨ nv.ownBlock = some i) → ¬ M i) : RR w' base av l sv S tv k nv nums :=
 ⟨h.A.keeps hk (fun i hi => hM i (.inl hi)), owns_keeps h.S hk (fun i hi => hM i (.inr (.inl hi))), owns_keeps h.T hk (fun i hi => hM i (.inr (.inr (.inl hi)))), owns_keeps h.P hk (fun i hi => hM i (.inr (.inr (.inr hi)))), h.st, h.tt, h.pd, h.nb⟩
theorem RR.lt {w : World} {base : Nat} {av : Value} {l : List Ans} {sv : Value} {S : List OpM} {tv : Value} {k : Nat} {nv : Value} {nums : List Int} (h : RR w base av l sv S tv k nv nums) (i : Nat) (hi : AFoot av l i ∨ sv.ownBlock = some i ∨ tv.ownBlock = some i) : base ≤ i ∧ i < w.heap.size := by
 rcases hi with hi | hi | hi
 ·exact h.A.lt i hi
 ·exact h.S.lt i hi
 ·exact h.T.lt i hi
theorem grown_keeps {w w' : World} {row : Option Nat} (hg : w.grownBy w' row) : Keeps (fun i => row = some i) w w' := ⟨hg.os, hg.tape, hg.output, hg.size, fun k hk hn => hg.block k hk (fun h => hn h.symm)⟩
theorem own_at {gg n cap sz : Nat} {v : Value} (hat : v.ownBlock = some gg ∨ gg = sz) (i : Nat) (hi : (Value.slice (some ⟨gg, 0, none⟩) n cap).ownBlock = some i) : v.ownBlock = some i ∨ sz ≤ i := by
 have : gg = i := by simpa [Value.ownBlock] using hi
 subst this
 rcases hat with h | h
 ·exact .inl h
 ·exact .inr (by omega)
theorem rep_snoc (k : Nat) : List.replicate k (Value.slice none 0 0) ++ [.slice none 0 0] = List.replicate (k + 1) (Value.slice none 0 0) := by rw [List.replicate_succ']
theorem ansR_q (s : RWS) (o : OpM) (h : o.kind = 4) : ansR s o = queryR s o := by unfold ansR; rw [if_pos h]
theorem ansR_s (s : RWS) (o : OpM) (h : o.kind = 5) : ansR s o = statsR s o := by unfold ansR; rw [if_neg (by omega), if_pos h]
theorem ansR_e (s : RWS) (o : OpM) (h4 : o.kind ≠ 4) (h5 : o.kind ≠ 5) : ansR s o = (stepR s o).2 := by unfold ansR; rw [if_neg h4, if_neg h5]
theorem rrun_any (v : Value) (ops : List OpM) (w : World) (hs : ScriptW w v ops) (hlen : ops.length ≤ 651562446080) (h67 : ∀ o, o ∈ ops → o.kind ≠ 6 ∧ o.kind ≠ 7)
  (hq : (∀ o, o ∈ ops → o.kind ≠ 4) ∨ ∀ o, o ∈ ops → o.kind = 1 → validB o.cfg = true → o.cfg.kind = 1 ∨ o.cfg.kind = 4) :
  Calls Tryz.prog 40 #[v] w fun r w' => ∃ v l, r = .returned v ∧ ARep w' w.heap.size v l ∧ l.map (fun x => (x.code, x.nums)) = runR rs0 ops ∧ (∀ x, x ∈ l → x.bs = noBytes) ∧ Keeps (fun _ => False) w w' := by
 obtain ⟨a, cap, rfl, hsv⟩ := script_view hs
 have HSV := hide hsv
 have H67 := hide h67
 have HQ := hide hq
 clear hs hsv h67 hq
 obtain ⟨i0, hi0, hz0, hz1, hz2⟩ := info_parts info33
 obtain ⟨j0, hj0, hy0, hy1, hy2⟩ := info_parts info22
 generalize hn : ops.length = n at *
 have HN := hide hn
 clear hn
 go_enter Tryz.func40, Tryz.ntmps40
 go_wp2_with fail
 go_loopw [3, 4, 5, 6] (fun av sv tv i wr => ∃ (k : Nat) (l : List Ans), k ≤ n ∧ i = .int .i64 k ∧ Hid (RR wr w.heap.size av l sv ((ops.take k).filter chg) tv k (.slice none 0 0) []) ∧ Hid (l.map (fun x => (x.code, x.nums)) = runR rs0 (ops.take k)) ∧ Hid (Keeps (fun _ => False) w wr)) (fun _ _ _ i _ => n - (intOf i).toNat)
 case atStart =>
  refine ⟨0, [], by omega, rfl, ⟨⟨World.ownsRow_nil _ _ _ _, fun x hx => by simp at hx, fun x hx => by simp at hx⟩, World.ownsRow_nil _ _ _ _, World.ownsRow_nil _ _ _ _, World.ownsRow_nil _ _ _ _, fun i hi => (by cases hi), fun i hi => (by cases hi), fun i hi => (by cases hi), fun x hx => by simp at hx⟩, rfl, Keeps.refl _ _⟩
 case round =>
  obtain ⟨k, l, hk, rfl, HRR, HMr, HKr⟩ := hrel
  generalize u3 = av at *
  generalize u4 = sv at *
  generalize u5 = tv at *
  by_cases hkn : k < n
  ·obtain ⟨o, ho⟩ : ∃ o, ops[k]? = some o := ⟨ops[k]'(by rw [uh HN]; exact hkn), List.getElem?_eq_getElem _⟩
   have HO := hide ho
   have hmo : o ∈ ops := List.mem_of_getElem? ho
   obtain ⟨n6, n7⟩ := uh H67 o hmo
   obtain ⟨sb, so, ha, hlt, hra⟩ := uh HSV k o ho
   obtain ⟨hv0, hh0⟩ := range_big hra hlt (uh HKr)
   have hsbl : sb < wr.heap.size := by have := (uh HKr).size; omega
   subst ha
   have hst : ∀ zs : List Value, zs.length = 26 → (storeBig 40 (.pointer (some ⟨wr.heap.size, 0, none⟩)) (.agg o.cells.toArray)).run Tryz.prog (wr.alloc (.cells zs.toArray 40)) = .ok .skip (wr.alloc (.cells o.cells.toArray 40)) := fun zs hz => run_store40 wr zs o.cells hz rfl (op_oneCell o)
   have h1c : o.cells[0]? = some (.int .i64 o.kind) := rfl
   have b6 : (o.kind == 6) = false := by simpa using n6
   have b7 : (o.kind == 7) = false := by simpa using n7
   have hk0 : (0 : Int) ≤ (k : Int) := by omega
   have hkn' : (k : Int) < (n : Int) := by omega
   have htk : ops.take (k + 1) = ops.take k ++ [o] := by rw [List.take_add_one, ho]; rfl
   have HRN := hide (show runR rs0 (ops.take (k + 1)) = runR rs0 (ops.take k) ++ [ansR (endR rs0 ((ops.take k).filter chg)) o] by rw [htk, runR_snoc])
   have HFN := hide (show (ops.take (k + 1)).filter chg = (ops.take k).filter chg ++ [o].filter chg by rw [htk, List.filter_append])
   have hSl : ((ops.take k).filter chg).length ≤ k := by
    have h1 := List.length_filter_le chg (ops.take k)
    rw [List.length_take] at h1
    omega
   have HSM := hide (show ∀ x, x ∈ (ops.take k).filter chg → x ∈ ops from fun x hx => List.mem_of_mem_take (List.mem_filter.1 hx).1)
   have hlk : l.length = k := by
    have := congrArg List.length (uh HMr)
    rw [List.length_map, runR_length, List.length_take, uh HN] at this
    omega
   have HLK := hide hlk
   generalize hSS : (ops.take k).filter chg = SS at *
   have HINV := hide (show RWInv (k : Int) (endR rs0 SS).clock (endR rs0 SS).ticks (endR rs0 SS).xs from by
      have h1 := endR_inv SS rinv0 (by omega)
      have h2 := h1.tn
      have hm : ∀ x, x ∈ (endR rs0 SS).xs → RInv (k : Int) x := fun x hx => (h1.sers x hx).mono (by omega)
      exact ⟨h1.c0, h1.c1, h1.t0, by omega, h1.six, hm, h1.cnt⟩)
   clear hra htk ho hlk hSS hmo
   -- the two new blocks
   have hkb : Keeps (fun _ => False) wr ((wr.alloc (.cells o.cells.toArray 40)).alloc (.cells #[.int .i64 0, .slice none 0 0, .string ⟨#[]⟩] 33)) := ((Keeps.refl (fun _ => False) wr).alloc _).alloc _
   have HOb := hide (show Blk ((wr.alloc (.cells o.cells.toArray 40)).alloc (.cells #[.int .i64 0, .slice none 0 0, .string ⟨#[]⟩] 33)) wr.heap.size o.cells 40 from (Blk.new wr o.cells 40).alloc _)
   have HAb := hide (show Blk ((wr.alloc (.cells o.cells.toArray 40)).alloc (.cells #[.int .i64 0, .slice none 0 0, .string ⟨#[]⟩] 33)) (wr.heap.size + 1) [.int .i64 0, .slice none 0 0, .string noBytes] 33 from Blk.newAt (by simp) [_, _, _] 33)
   have HKb := hide hkb
   have HRb := hide ((uh HRR).still hkb)
   have hszb : ((wr.alloc (.cells o.cells.toArray 40)).alloc (.cells #[.int .i64 0, .slice none 0 0, .string ⟨#[]⟩] 33)).heap.size = wr.heap.size + 2 := by simp
   have HSZB := hide hszb
   clear hkb hszb
   have hcase : o.kind = 4 ∨ o.kind = 5 ∨ (o.kind ≠ 4 ∧ o.kind ≠ 5) := by omega
   rcases hcase with hkd | hkd | ⟨hkd4, hkd5⟩
   ·have bk : (o.kind == 4) = true := by simpa using hkd
    have HAN := hide (show ansR (endR rs0 SS) o = queryR (endR rs0 SS) o from ansR_q _ _ hkd)
    have HF1 := hide (show [o].filter chg = [] from by simp [chg, hkd])
    have HK4 := hide (show ∀ y, y ∈ (endR rs0 SS).xs → y.c.kind = 1 ∨ y.c.kind = 4 from by
       rcases uh HQ with h | h
       ·exact absurd hkd (h o (List.mem_of_getElem? (uh HO)))
       ·exact endR_kinds (fun c => c = 1 ∨ c = 4) SS rs0 (by simp [rs0]) (fun x hx => h x (uh HSM x hx)))
    clear hkd
    go_wp2_with fail
    clear hv0 hh0 hst h1c
    generalize (wr.alloc (.cells o.cells.toArray 40)).alloc (.cells #[.int .i64 0, .slice none 0 0, .string ⟨#[]⟩] 33) = wb at *
    generalize hob : wr.heap.size = ob at *
    have HOBB := hide hob
    clear hob
    have hobl : ob < wb.heap.size := (uh HOb).lt
    have habl : ob + 1 < wb.heap.size := (uh HAb).lt
    obtain ⟨hvb, hhb⟩ := bigVal_Blk (uh HOb) 26 rfl
    have HSW := hide ((own_scriptW (uh HRb).S).keeps ((Keeps.refl (fun _ => False) wb).drew))
    go_region_held3 (fun w' => bigVal w' ob 0 26 = .agg o.cells.toArray ∧ hasBig w' ob 0 26 = true)
     (first
        | (go_split_ands; rw [(bigVal_keeps (b := ob) (o := 0) (n := 26) (set3 w2 (ob + 1) _ _ _) (by omega) hw2b).1, (bigVal_keeps (b := ob) (o := 0) (n := 26) (set3 w2 (ob + 1) _ _ _) (by omega) hw2b).2]; exact ⟨by assumption, by assumption⟩)
        | (go_split_ands; rw [(bigVal_keeps (b := ob) (o := 0) (n := 26) hk2 (by omega) (by have := hk1.size; simp at this; omega)).1, (bigVal_keeps (b := ob) (o := 0) (n := 26) hk2 (by omega) (by have := hk1.size; simp at this; omega)).2]; exact ⟨by assumption, by assumption⟩)
        | (go_split_ands; rw [(bigVal_keeps (b := ob) (o := 0) (n := 26) hk1 (fun h => h) (by simp; omega)).1, (bigVal_keeps (b := ob) (o := 0) (n := 26) hk1 (fun h => h) (by simp; omega)).2]; first | exact ⟨hvb, hhb⟩ | exact ⟨by assumption, by assumption⟩)
        | (rw [bigVal_drew, hasBig_drew]; exact ⟨hvb, hhb⟩)
        | (go_split_ands; exact ⟨by assumption, by assumption⟩))
     (first
        | (go_at_call 52; refine (rworld_any sv SS _ (by exact uh HSW) (by omega)).mono ?_; rintro r w1 ⟨e, vv, ps, rfl, hE1, hx1, hk1, hf1⟩)
        | (go_at_call 53; refine (rquery_at wb.heap.size k e vv _ _ ps o _ hE1 (by rw [hx1]; exact uh HINV) (by omega) (by rw [hx1]; exact uh HK4)).mono ?_; rintro r w2 ⟨code, nums, nv, hcn, rfl, hn2, hk2⟩; have HCN := hide hcn; clear hcn; obtain ⟨na, ncap, hnv⟩ := nv_form hn2; subst hnv; unfold ansV; have hkb2 : Keeps (fun _ => False) wb w2 := (((Keeps.refl (fun _ => False) wb).drew).then hk1).trans hk2 (fun i hi hlt => by omega); have hw2b : ob < w2.heap.size := (by have := hkb2.size; omega); have HA2 := hide ((uh HAb).keeps hkb2 (fun h => h)); have r0 : w2.cell? ⟨ob + 1, 0, none⟩ = some (.int .i64 0) := (uh HA2).cell rfl; have r1 : w2.cell? ⟨ob + 1, 1, none⟩ = some (.slice none 0 0) := (uh HA2).cell rfl; have r2 : w2.cell? ⟨ob + 1, 2, none⟩ = some (.string noBytes) := (uh HA2).cell rfl; have rf := (uh HA2).frozen))
    all_goals
     have hss : (⟨(endR rs0 SS).clock, (endR rs0 SS).ticks, ps.map (·.2)⟩ : RWS) = endR rs0 SS := by rw [hx1]
     have HANS := hide (show ansR (endR rs0 SS) o = (code, nums) by rw [uh HAN, ← hss]; exact uh HCN)
     have hw1 : wb.heap.size ≤ w1.heap.size := hk1.size
     have HP := hide ((uh HRb).pend (by have := (uh HKr).size; have := uh HOBB; omega) hkb2 (owns_base hn2 hw1))
     have hks := set3 w2 (ob + 1) (.int .i64 code) (.slice na nums.length ncap) (.string noBytes)
     have HL3 := hide (show ∀ i, AFoot av l i ∨ sv.ownBlock = some i ∨ tv.ownBlock = some i → i < ob from fun i hi => by rw [← uh HOBB]; exact ((uh HRR).lt i hi).2)
     have HR3 := hide ((uh HP).keeps hks (fun i hi hh => by
          rcases hi with h | h | h | h
          ·have := uh HL3 i (.inl h); omega
          ·have := uh HL3 i (.inr (.inl h)); omega
          ·have := uh HL3 i (.inr (.inr h)); omega
          ·have := (hn2.lt i h).1; omega))
     have HA3 := hide ((((uh HA2).setCell 0 (.int .i64 code)).setCell 1 (.slice na nums.length ncap)).setCell 2 (.string noBytes))
     have HO3 := hide (((uh HOb).keeps hkb2 (fun h => h)).keeps hks (fun h => by omega))
     have HKS := hide (uh HOBB)
     have HK3 := hide ((((uh HKr).then (uh HKb)).then hkb2).trans hks (fun i hi hlt => by have := uh HOBB; have := (uh HKr).size; omega))
     have hb3 : w.heap.size ≤ w2.heap.size := (((uh HKr).then (uh HKb)).then hkb2).size
     have e9 : (((w2.setCell ⟨ob + 1, 0, none⟩ (.int .i64 code)).setCell ⟨ob + 1, 1, none⟩ (.slice na nums.length ncap)).setCell ⟨ob + 1, 2, none⟩ (.string ⟨#[]⟩)) = (((w2.setCell ⟨ob + 1, 0, none⟩ (.int .i64 code)).setCell ⟨ob + 1, 1, none⟩ (.slice na nums.length ncap)).setCell ⟨ob + 1, 2, none⟩ (.string noBytes)) := rfl
     first | rw [e9] | skip
     have hb3 : w.heap.size ≤ (((w2.setCell ⟨ob + 1, 0, none⟩ (.int .i64 code)).setCell ⟨ob + 1, 1, none⟩ (.slice na nums.length ncap)).setCell ⟨ob + 1, 2, none⟩ (.string noBytes)).heap.size := Nat.le_trans hb3 hks.size
     have hsz3 : w2.heap.size ≤ (((w2.setCell ⟨ob + 1, 0, none⟩ (.int .i64 code)).setCell ⟨ob + 1, 1, none⟩ (.slice na nums.length ncap)).setCell ⟨ob + 1, 2, none⟩ (.string noBytes)).heap.size := hks.size
     clear e9 hks hn2 hk2 hk1 hE1 hx1 hf1 hss r0 r1 r2 rf hkb2 HP HA2 hvb hhb
     generalize (((w2.setCell ⟨ob + 1, 0, none⟩ (.int .i64 code)).setCell ⟨ob + 1, 1, none⟩ (.slice na nums.length ncap)).setCell ⟨ob + 1, 2, none⟩ (.string noBytes)) = w3 at *
     have HR4 := HR3
     have HA4 := HA3
     have HL4 := HL3
     have HK4 := HK3
     have hbW := hb3
     go_wp2_with (at_builtin; first | (refine wpList_append_lies _ rfl _ _ _ rfl w.heap.size 22 j0 _ 1 24 Tryz.underlying68 hj0 hy0 hy1 hy2 rfl (by omega) tv k (List.replicate k (.slice none 0 0)) rfl ((uh HR4).T.alloc _) ⟨w3.heap.size, 0, none⟩ 1 1 [.slice none 0 0] rfl rfl (World.news_of_block (cs := #[.slice none 0 0]) (t := 22) (fr := (0, 0)) (heap_alloc_new w3 _)) (by simp [Value.oneCell']) (by omega) (by unfold maxLen; omega) (by omega) (by have := hbW; simp; omega) (w3.heap.size + 1) (by simp) ?_; intro g5 c5 w5 hown5 hgrow5 hat5 hl5; have hk5 := ((Keeps.refl (fun i => tv.ownBlock = some i) w3).alloc _).then (grown_keeps hgrow5); have HR5 := hide ((uh HR4).saved hk5 (by rw [← rep_snoc]; exact hown5) (fun i hi => by rcases own_at hat5 i hi with h | h; exact .inl h; exact .inr (by omega))); have HA5 := hide ((uh HA4).keeps hk5 (fun h => by have := (uh HL4 _ (.inr (.inr h))); omega)); have HK5 := hide ((uh HK4).trans hk5 (fun i hi hlt => by have := ((uh HR4).T.lt i hi).1; have := uh HKS; have := (uh HKr).size; omega)); have t0 : w5.cell? ⟨ob + 1, 0, none⟩ = some (.int .i64 code) := (uh HA5).cell rfl; have t1 : w5.cell? ⟨ob + 1, 1, none⟩ = some (.slice na nums.length ncap) := (uh HA5).cell rfl; have t2 : w5.cell? ⟨ob + 1, 2, none⟩ = some (.string noBytes) := (uh HA5).cell rfl; have hb5 : w.heap.size ≤ w5.heap.size := (by have := hk5.size; omega); clear hown5 hgrow5 hat5) | (refine wpList_append_lies _ rfl _ _ _ rfl w.heap.size 33 i0 _ 3 48 Tryz.underlying27 hi0 hz0 hz1 hz2 rfl (by omega) av k (ansFlat l) rfl (by have := (uh HR5).A.row; rw [uh HLK] at this; exact this.alloc _) ⟨w5.heap.size, 0, none⟩ 1 1 [.int .i64 code, .slice na nums.length ncap, .string noBytes] rfl rfl (World.news_of_block (cs := #[.int .i64 code, .slice na nums.length ncap, .string noBytes]) (t := 33) (fr := (0, 0)) (heap_alloc_new w5 _)) (by simp [Value.oneCell']) (by omega) (by unfold maxLen; omega) (by omega) (by simp; omega) (w5.heap.size + 1) (by simp) ?_; intro g6 c6 w6 hown6 hgrow6 hat6 hl6))
     go_roundw
     case rel =>
      have hk6 := ((Keeps.refl (fun i => av.ownBlock = some i) w5).alloc (.cells #[.int .i64 code, .slice na nums.length ncap, .string noBytes] 33)).then (grown_keeps hgrow6)
      have hR6 := (uh HR5).out (code := code) hk6 (by rw [uh HLK]; exact hown6) (fun i hi => by
         rcases own_at hat6 i hi with h | h
         ·exact .inl h
         ·exact .inr (by omega))
      refine ⟨k + 1, l ++ [⟨code, .slice na nums.length ncap, nums, noBytes⟩], by omega, by go_num, ?_, ?_, ?_⟩
      ·show RR _ _ _ _ _ _ _ _ _ _
       rw [uh HFN, uh HF1]
       rw [List.append_nil]; exact hR6
      ·show _ = _
       rw [uh HRN, List.map_append, uh HMr, uh HANS]; rfl
      ·exact (uh HK5).trans hk6 (fun i hi hlt => by have := ((uh HR5).A.lt i (.inl hi)).1; have := uh HKS; have := (uh HKr).size; omega)
     case measure => simp [intOf]; omega
   ·have bk : (o.kind == 5) = true := by simpa using hkd
    have b4 : (o.kind == 4) = false := by simp [hkd]
    have HAN := hide (show ansR (endR rs0 SS) o = statsR (endR rs0 SS) o from ansR_s _ _ hkd)
    have HF1 := hide (show [o].filter chg = [] from by simp [chg, hkd])
    clear hkd
    go_wp2_with fail
    clear hv0 hh0 hst h1c
    generalize (wr.alloc (.cells o.cells.toArray 40)).alloc (.cells #[.int .i64 0, .slice none 0 0, .string ⟨#[]⟩] 33) = wb at *
    generalize hob : wr.heap.size = ob at *
    have HOBB := hide hob
    clear hob
    have hobl : ob < wb.heap.size := (uh HOb).lt
    have habl : ob + 1 < wb.heap.size := (uh HAb).lt
    obtain ⟨hvb, hhb⟩ := bigVal_Blk (uh HOb) 26 rfl
    have HSW := hide ((own_scriptW (uh HRb).S).keeps ((Keeps.refl (fun _ => False) wb).drew))
    go_region_held3 (fun w' => bigVal w' ob 0 26 = .agg o.cells.toArray ∧ hasBig w' ob 0 26 = true)
     (first
        | (go_split_ands; rw [(bigVal_keeps (b := ob) (o := 0) (n := 26) (set3 w2 (ob + 1) _ _ _) (by omega) hw2b).1, (bigVal_keeps (b := ob) (o := 0) (n := 26) (set3 w2 (ob + 1) _ _ _) (by omega) hw2b).2]; exact ⟨by assumption, by assumption⟩)
        | (go_split_ands; rw [(bigVal_keeps (b := ob) (o := 0) (n := 26) hk2 (by omega) (by have := hk1.size; simp at this; omega)).1, (bigVal_keeps (b := ob) (o := 0) (n := 26) hk2 (by omega) (by have := hk1.size; simp at this; omega)).2]; exact ⟨by assumption, by assumption⟩)
        | (go_split_ands; rw [(bigVal_keeps (b := ob) (o := 0) (n := 26) hk1 (fun h => h) (by simp; omega)).1, (bigVal_keeps (b := ob) (o := 0) (n := 26) hk1 (fun h => h) (by simp; omega)).2]; first | exact ⟨hvb, hhb⟩ | exact ⟨by assumption, by assumption⟩)
        | (rw [bigVal_drew, hasBig_drew]; exact ⟨hvb, hhb⟩)
        | (go_split_ands; exact ⟨by assumption, by assumption⟩))
     (first
        | (go_at_call 52; refine (rworld_any sv SS _ (by exact uh HSW) (by omega)).mono ?_; rintro r w1 ⟨e, vv, ps, rfl, hE1, hx1, hk1, hf1⟩)
        | (go_at_call 54; refine (rstats_at wb.heap.size k e vv _ _ ps o _ hE1 (by rw [hx1]; exact uh HINV) (by omega)).mono ?_; rintro r w2 ⟨code, nums, nv, hcn, rfl, hn2, hk2⟩; have HCN := hide hcn; clear hcn; obtain ⟨na, ncap, hnv⟩ := nv_form hn2; subst hnv; unfold ansV; have hkb2 : Keeps (fun _ => False) wb w2 := (((Keeps.refl (fun _ => False) wb).drew).then hk1).trans hk2 (fun i hi hlt => by omega); have hw2b : ob < w2.heap.size := (by have := hkb2.size; omega); have HA2 := hide ((uh HAb).keeps hkb2 (fun h => h)); have r0 : w2.cell? ⟨ob + 1, 0, none⟩ = some (.int .i64 0) := (uh HA2).cell rfl; have r1 : w2.cell? ⟨ob + 1, 1, none⟩ = some (.slice none 0 0) := (uh HA2).cell rfl; have r2 : w2.cell? ⟨ob + 1, 2, none⟩ = some (.string noBytes) := (uh HA2).cell rfl; have rf := (uh HA2).frozen))
    all_goals
     have hss : (⟨(endR rs0 SS).clock, (endR rs0 SS).ticks, ps.map (·.2)⟩ : RWS) = endR rs0 SS := by rw [hx1]
     have HANS := hide (show ansR (endR rs0 SS) o = (code, nums) by rw [uh HAN, ← hss]; exact uh HCN)
     have hw1 : wb.heap.size ≤ w1.heap.size := hk1.size
     have HP := hide ((uh HRb).pend (by have := (uh HKr).size; have := uh HOBB; omega) hkb2 (owns_base hn2 hw1))
     have hks := set3 w2 (ob + 1) (.int .i64 code) (.slice na nums.length ncap) (.string noBytes)
     have HL3 := hide (show ∀ i, AFoot av l i ∨ sv.ownBlock = some i ∨ tv.ownBlock = some i → i < ob from fun i hi => by rw [← uh HOBB]; exact ((uh HRR).lt i hi).2)
     have HR3 := hide ((uh HP).keeps hks (fun i hi hh => by
          rcases hi with h | h | h | h
          ·have := uh HL3 i (.inl h); omega
          ·have := uh HL3 i (.inr (.inl h)); omega
          ·have := uh HL3 i (.inr (.inr h)); omega
          ·have := (hn2.lt i h).1; omega))
     have HA3 := hide ((((uh HA2).setCell 0 (.int .i64 code)).setCell 1 (.slice na nums.length ncap)).setCell 2 (.string noBytes))
     have HO3 := hide (((uh HOb).keeps hkb2 (fun h => h)).keeps hks (fun h => by omega))
     have HKS := hide (uh HOBB)
     have HK3 := hide ((((uh HKr).then (uh HKb)).then hkb2).trans hks (fun i hi hlt => by have := uh HOBB; have := (uh HKr).size; omega))
     have hb3 : w.heap.size ≤ w2.heap.size := (((uh HKr).then (uh HKb)).then hkb2).size
     have e9 : (((w2.setCell ⟨ob + 1, 0, none⟩ (.int .i64 code)).setCell ⟨ob + 1, 1, none⟩ (.slice na nums.length ncap)).setCell ⟨ob + 1, 2, none⟩ (.string ⟨#[]⟩)) = (((w2.setCell ⟨ob + 1, 0, none⟩ (.int .i64 code)).setCell ⟨ob + 1, 1, none⟩ (.slice na nums.length ncap)).setCell ⟨ob + 1, 2, none⟩ (.string noBytes)) := rfl
     first | rw [e9] | skip
     have hb3 : w.heap.size ≤ (((w2.setCell ⟨ob + 1, 0, none⟩ (.int .i64 code)).setCell ⟨ob + 1, 1, none⟩ (.slice na nums.length ncap)).setCell ⟨ob + 1, 2, none⟩ (.string noBytes)).heap.size := Nat.le_trans hb3 hks.size
     have hsz3 : w2.heap.size ≤ (((w2.setCell ⟨ob + 1, 0, none⟩ (.int .i64 code)).setCell ⟨ob + 1, 1, none⟩ (.slice na nums.length ncap)).setCell ⟨ob + 1, 2, none⟩ (.string noBytes)).heap.size := hks.size
     clear e9 hks hn2 hk2 hk1 hE1 hx1 hf1 hss r0 r1 r2 rf hkb2 HP HA2 hvb hhb
     generalize (((w2.setCell ⟨ob + 1, 0, none⟩ (.int .i64 code)).setCell ⟨ob + 1, 1, none⟩ (.slice na nums.length ncap)).setCell ⟨ob + 1, 2, none⟩ (.string noBytes)) = w3 at *
     have HR4 := HR3
     have HA4 := HA3
     have HL4 := HL3
     have HK4 := HK3
     have hbW := hb3
     go_wp2_with (at_builtin; first | (refine wpList_append_lies _ rfl _ _ _ rfl w.heap.size 22 j0 _ 1 24 Tryz.underlying68 hj0 hy0 hy1 hy2 rfl (by omega) tv k (List.replicate k (.slice none 0 0)) rfl ((uh HR4).T.alloc _) ⟨w3.heap.size, 0, none⟩ 1 1 [.slice none 0 0] rfl rfl (World.news_of_block (cs := #[.slice none 0 0]) (t := 22) (fr := (0, 0)) (heap_alloc_new w3 _)) (by simp [Value.oneCell']) (by omega) (by unfold maxLen; omega) (by omega) (by have := hbW; simp; omega) (w3.heap.size + 1) (by simp) ?_; intro g5 c5 w5 hown5 hgrow5 hat5 hl5; have hk5 := ((Keeps.refl (fun i => tv.ownBlock = some i) w3).alloc _).then (grown_keeps hgrow5); have HR5 := hide ((uh HR4).saved hk5 (by rw [← rep_snoc]; exact hown5) (fun i hi => by rcases own_at hat5 i hi with h | h; exact .inl h; exact .inr (by omega))); have HA5 := hide ((uh HA4).keeps hk5 (fun h => by have := (uh HL4 _ (.inr (.inr h))); omega)); have HK5 := hide ((uh HK4).trans hk5 (fun i hi hlt => by have := ((uh HR4).T.lt i hi).1; have := uh HKS; have := (uh HKr).size; omega)); have t0 : w5.cell? ⟨ob + 1, 0, none⟩ = some (.int .i64 code) := (uh HA5).cell rfl; have t1 : w5.cell? ⟨ob + 1, 1, none⟩ = some (.slice na nums.length ncap) := (uh HA5).cell rfl; have t2 : w5.cell? ⟨ob + 1, 2, none⟩ = some (.string noBytes) := (uh HA5).cell rfl; have hb5 : w.heap.size ≤ w5.heap.size := (by have := hk5.size; omega); clear hown5 hgrow5 hat5) | (refine wpList_append_lies _ rfl _ _ _ rfl w.heap.size 33 i0 _ 3 48 Tryz.underlying27 hi0 hz0 hz1 hz2 rfl (by omega) av k (ansFlat l) rfl (by have := (uh HR5).A.row; rw [uh HLK] at this; exact this.alloc _) ⟨w5.heap.size, 0, none⟩ 1 1 [.int .i64 code, .slice na nums.length ncap, .string noBytes] rfl rfl (World.news_of_block (cs := #[.int .i64 code, .slice na nums.length ncap, .string noBytes]) (t := 33) (fr := (0, 0)) (heap_alloc_new w5 _)) (by simp [Value.oneCell']) (by omega) (by unfold maxLen; omega) (by omega) (by simp; omega) (w5.heap.size + 1) (by simp) ?_; intro g6 c6 w6 hown6 hgrow6 hat6 hl6))
     go_roundw
     case rel =>
      have hk6 := ((Keeps.refl (fun i => av.ownBlock = some i) w5).alloc (.cells #[.int .i64 code, .slice na nums.length ncap, .string noBytes] 33)).then (grown_keeps hgrow6)
      have hR6 := (uh HR5).out (code := code) hk6 (by rw [uh HLK]; exact hown6) (fun i hi => by
         rcases own_at hat6 i hi with h | h
         ·exact .inl h
         ·exact .inr (by omega))
      refine ⟨k + 1, l ++ [⟨code, .slice na nums.length ncap, nums, noBytes⟩], by omega, by go_num, ?_, ?_, ?_⟩
      ·show RR _ _ _ _ _ _ _ _ _ _
       rw [uh HFN, uh HF1]
       rw [List.append_nil]; exact hR6
      ·show _ = _
       rw [uh HRN, List.map_append, uh HMr, uh HANS]; rfl
      ·exact (uh HK5).trans hk6 (fun i hi hlt => by have := ((uh HR5).A.lt i (.inl hi)).1; have := uh HKS; have := (uh HKr).size; omega)
     case measure => simp [intOf]; omega
   ·have b4 : (o.kind == 4) = false := by simpa using hkd4
    have b5 : (o.kind == 5) = false := by simpa using hkd5
    have HAN := hide (show ansR (endR rs0 SS) o = (stepR (endR rs0 SS) o).2 from ansR_e _ _ hkd4 hkd5)
    have HF1 := hide (show [o].filter chg = [o] from by simp [chg, hkd4, hkd5])
    go_wp2_with fail
    clear hv0 hh0 hst h1c
    generalize (wr.alloc (.cells o.cells.toArray 40)).alloc (.cells #[.int .i64 0, .slice none 0 0, .string ⟨#[]⟩] 33) = wb at *
    generalize hob : wr.heap.size = ob at *
    have HOBB := hide hob
    clear hob
    have hobl : ob < wb.heap.size := (uh HOb).lt
    have habl : ob + 1 < wb.heap.size := (uh HAb).lt
    obtain ⟨hvb, hhb⟩ := bigVal_Blk (uh HOb) 26 rfl
    have HSW := hide ((own_scriptW (uh HRb).S).keeps ((Keeps.refl (fun _ => False) wb).drew))
    go_region_held3 (fun w' => bigVal w' ob 0 26 = .agg o.cells.toArray ∧ hasBig w' ob 0 26 = true)
     (first
        | (go_split_ands; rw [(bigVal_keeps (b := ob) (o := 0) (n := 26) (set3 w2 (ob + 1) _ _ _) (by omega) hw2b).1, (bigVal_keeps (b := ob) (o := 0) (n := 26) (set3 w2 (ob + 1) _ _ _) (by omega) hw2b).2]; exact ⟨by assumption, by assumption⟩)
        | (go_split_ands; rw [(bigVal_keeps (b := ob) (o := 0) (n := 26) hk2 (by omega) (by have := hk1.size; simp at this; omega)).1, (bigVal_keeps (b := ob) (o := 0) (n := 26) hk2 (by omega) (by have := hk1.size; simp at this; omega)).2]; exact ⟨by assumption, by assumption⟩)
        | (go_split_ands; rw [(bigVal_keeps (b := ob) (o := 0) (n := 26) hk1 (fun h => h) (by simp; omega)).1, (bigVal_keeps (b := ob) (o := 0) (n := 26) hk1 (fun h => h) (by simp; omega)).2]; first | exact ⟨hvb, hhb⟩ | exact ⟨by assumption, by assumption⟩)
        | (rw [bigVal_drew, hasBig_drew]; exact ⟨hvb, hhb⟩)
        | (go_split_ands; exact ⟨by assumption, by assumption⟩))
     (first
        | (go_at_call 52; refine (rworld_any sv SS _ (by exact uh HSW) (by omega)).mono ?_; rintro r w1 ⟨e, vv, ps, rfl, hE1, hx1, hk1, hf1⟩)
        | (go_at_call 55; refine (rstep_at wb.heap.size k e vv _ _ ps o _ hE1 (by rw [hx1]; exact uh HINV) (by omega) (by exact hf1)).mono ?_; rintro r w2 ⟨code, nums, nv, hcn, rfl, hn2, hk2⟩; have HCN := hide hcn; clear hcn; obtain ⟨na, ncap, hnv⟩ := nv_form hn2; subst hnv; unfold ansV; have hkb2 : Keeps (fun _ => False) wb w2 := (((Keeps.refl (fun _ => False) wb).drew).then hk1).trans hk2 (fun i hi hlt => by omega); have hw2b : ob < w2.heap.size := (by have := hkb2.size; omega); have HA2 := hide ((uh HAb).keeps hkb2 (fun h => h)); have r0 : w2.cell? ⟨ob + 1, 0, none⟩ = some (.int .i64 0) := (uh HA2).cell rfl; have r1 : w2.cell? ⟨ob + 1, 1, none⟩ = some (.slice none 0 0) := (uh HA2).cell rfl; have r2 : w2.cell? ⟨ob + 1, 2, none⟩ = some (.string noBytes) := (uh HA2).cell rfl; have rf := (uh HA2).frozen))
    all_goals
     have hss : (⟨(endR rs0 SS).clock, (endR rs0 SS).ticks, ps.map (·.2)⟩ : RWS) = endR rs0 SS := by rw [hx1]
     have HANS := hide (show ansR (endR rs0 SS) o = (code, nums) by rw [uh HAN, ← hss]; exact uh HCN)
     have hw1 : wb.heap.size ≤ w1.heap.size := hk1.size
     have HP := hide ((uh HRb).pend (by have := (uh HKr).size; have := uh HOBB; omega) hkb2 (owns_base hn2 hw1))
     have hks := set3 w2 (ob + 1) (.int .i64 code) (.slice na nums.length ncap) (.string noBytes)
     have HL3 := hide (show ∀ i, AFoot av l i ∨ sv.ownBlock = some i ∨ tv.ownBlock = some i → i < ob from fun i hi => by rw [← uh HOBB]; exact ((uh HRR).lt i hi).2)
     have HR3 := hide ((uh HP).keeps hks (fun i hi hh => by
          rcases hi with h | h | h | h
          ·have := uh HL3 i (.inl h); omega
          ·have := uh HL3 i (.inr (.inl h)); omega
          ·have := uh HL3 i (.inr (.inr h)); omega
          ·have := (hn2.lt i h).1; omega))
     have HA3 := hide ((((uh HA2).setCell 0 (.int .i64 code)).setCell 1 (.slice na nums.length ncap)).setCell 2 (.string noBytes))
     have HO3 := hide (((uh HOb).keeps hkb2 (fun h => h)).keeps hks (fun h => by omega))
     have HKS := hide (uh HOBB)
     have HK3 := hide ((((uh HKr).then (uh HKb)).then hkb2).trans hks (fun i hi hlt => by have := uh HOBB; have := (uh HKr).size; omega))
     have hb3 : w.heap.size ≤ w2.heap.size := (((uh HKr).then (uh HKb)).then hkb2).size
     have e9 : (((w2.setCell ⟨ob + 1, 0, none⟩ (.int .i64 code)).setCell ⟨ob + 1, 1, none⟩ (.slice na nums.length ncap)).setCell ⟨ob + 1, 2, none⟩ (.string ⟨#[]⟩)) = (((w2.setCell ⟨ob + 1, 0, none⟩ (.int .i64 code)).setCell ⟨ob + 1, 1, none⟩ (.slice na nums.length ncap)).setCell ⟨ob + 1, 2, none⟩ (.string noBytes)) := rfl
     first | rw [e9] | skip
     have hb3 : w.heap.size ≤ (((w2.setCell ⟨ob + 1, 0, none⟩ (.int .i64 code)).setCell ⟨ob + 1, 1, none⟩ (.slice na nums.length ncap)).setCell ⟨ob + 1, 2, none⟩ (.string noBytes)).heap.size := Nat.le_trans hb3 hks.size
     have hsz3 : w2.heap.size ≤ (((w2.setCell ⟨ob + 1, 0, none⟩ (.int .i64 code)).setCell ⟨ob + 1, 1, none⟩ (.slice na nums.length ncap)).setCell ⟨ob + 1, 2, none⟩ (.string noBytes)).heap.size := hks.size
     clear e9 hks hn2 hk2 hk1 hE1 hx1 hf1 hss r0 r1 r2 rf hkb2 HP HA2 hvb hhb
     generalize (((w2.setCell ⟨ob + 1, 0, none⟩ (.int .i64 code)).setCell ⟨ob + 1, 1, none⟩ (.slice na nums.length ncap)).setCell ⟨ob + 1, 2, none⟩ (.string noBytes)) = w3 at *
     obtain ⟨hv3, hh3⟩ := bigVal_Blk (uh HO3) 26 rfl
     go_wp2_with (at_builtin; first | (refine wpList_append_ops rfl _ _ rfl w.heap.size sv SS rfl (by exact owns_keeps (uh HR3).S ((Keeps.refl (fun _ => False) w3).alloc _) (fun _ _ h => h)) _ [o] rfl (by exact blk_script (Blk.new w3 o.cells 40)) (by simp; omega) (by have := hb3; simp; omega) ?_; intro ad4 c4 w4 hown4 hk4' hat4; have hk4 := ((Keeps.refl (fun i => sv.ownBlock = some i) w3).alloc _).then hk4'; have HR4 := hide ((uh HR3).steps hk4 hown4 (fun i hi => by rcases hat4 i hi with h | h; exact .inl h; exact .inr (by simp at h; omega))); have HA4 := hide ((uh HA3).keeps hk4 (fun h => by have := (uh HL3 _ (.inr (.inl h))); omega)); have HL4 := hide (show ∀ i, AFoot av l i ∨ (Value.slice none 0 0).ownBlock = some i ∨ tv.ownBlock = some i → i < ob from fun i hi => by rcases hi with h | h | h; exact uh HL3 i (.inl h); cases h; exact uh HL3 i (.inr (.inr h))); have HK4 := hide ((uh HK3).trans hk4 (fun i hi hlt => by have := ((uh HR3).S.lt i hi).1; have := uh HKS; have := (uh HKr).size; omega)); have hbW : w.heap.size ≤ w4.heap.size := (by have := hk4.size; omega); clear hown4 hk4' hat4) | (refine wpList_append_lies _ rfl _ _ _ rfl w.heap.size 22 j0 _ 1 24 Tryz.underlying68 hj0 hy0 hy1 hy2 rfl (by omega) tv k (List.replicate k (.slice none 0 0)) rfl ((uh HR4).T.alloc _) ⟨w4.heap.size, 0, none⟩ 1 1 [.slice none 0 0] rfl rfl (World.news_of_block (cs := #[.slice none 0 0]) (t := 22) (fr := (0, 0)) (heap_alloc_new w4 _)) (by simp [Value.oneCell']) (by omega) (by unfold maxLen; omega) (by omega) (by have := hbW; simp; omega) (w4.heap.size + 1) (by simp) ?_; intro g5 c5 w5 hown5 hgrow5 hat5 hl5; have hk5 := ((Keeps.refl (fun i => tv.ownBlock = some i) w4).alloc _).then (grown_keeps hgrow5); have HR5 := hide ((uh HR4).saved hk5 (by rw [← rep_snoc]; exact hown5) (fun i hi => by rcases own_at hat5 i hi with h | h; exact .inl h; exact .inr (by omega))); have HA5 := hide ((uh HA4).keeps hk5 (fun h => by have := (uh HL4 _ (.inr (.inr h))); omega)); have HK5 := hide ((uh HK4).trans hk5 (fun i hi hlt => by have := ((uh HR4).T.lt i hi).1; have := uh HKS; have := (uh HKr).size; omega)); have t0 : w5.cell? ⟨ob + 1, 0, none⟩ = some (.int .i64 code) := (uh HA5).cell rfl; have t1 : w5.cell? ⟨ob + 1, 1, none⟩ = some (.slice na nums.length ncap) := (uh HA5).cell rfl; have t2 : w5.cell? ⟨ob + 1, 2, none⟩ = some (.string noBytes) := (uh HA5).cell rfl; have hb5 : w.heap.size ≤ w5.heap.size := (by have := hk5.size; omega); clear hown5 hgrow5 hat5) | (refine wpList_append_lies _ rfl _ _ _ rfl w.heap.size 33 i0 _ 3 48 Tryz.underlying27 hi0 hz0 hz1 hz2 rfl (by omega) av k (ansFlat l) rfl (by have := (uh HR5).A.row; rw [uh HLK] at this; exact this.alloc _) ⟨w5.heap.size, 0, none⟩ 1 1 [.int .i64 code, .slice na nums.length ncap, .string noBytes] rfl rfl (World.news_of_block (cs := #[.int .i64 code, .slice na nums.length ncap, .string noBytes]) (t := 33) (fr := (0, 0)) (heap_alloc_new w5 _)) (by simp [Value.oneCell']) (by omega) (by unfold maxLen; omega) (by omega) (by simp; omega) (w5.heap.size + 1) (by simp) ?_; intro g6 c6 w6 hown6 hgrow6 hat6 hl6))
     go_roundw
     case rel =>
      have hk6 := ((Keeps.refl (fun i => av.ownBlock = some i) w5).alloc (.cells #[.int .i64 code, .slice na nums.length ncap, .string noBytes] 33)).then (grown_keeps hgrow6)
      have hR6 := (uh HR5).out (code := code) hk6 (by rw [uh HLK]; exact hown6) (fun i hi => by
         rcases own_at hat6 i hi with h | h
         ·exact .inl h
         ·exact .inr (by omega))
      refine ⟨k + 1, l ++ [⟨code, .slice na nums.length ncap, nums, noBytes⟩], by omega, by go_num, ?_, ?_, ?_⟩
      ·show RR _ _ _ _ _ _ _ _ _ _
       rw [uh HFN, uh HF1]
       exact hR6
      ·show _ = _
       rw [uh HRN, List.map_append, uh HMr, uh HANS]; rfl
      ·exact (uh HK5).trans hk6 (fun i hi hlt => by have := ((uh HR5).A.lt i (.inl hi)).1; have := uh HKS; have := (uh HKr).size; omega)
     case measure => simp [intOf]; omega
  ·have hkk : k = n := by omega
   subst hkk
   go_wp2
   go_ret
   refine ⟨av, l, rfl, (uh HRR).A, ?_, (uh HRR).nb, uh HKr⟩
   have := uh HMr
   rwa [List.take_of_length_le (by rw [uh HN]; omega)] at this
end Go.Proofs.YtahnliehdjncdaaGreatDoor
