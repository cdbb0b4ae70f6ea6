import Derived.Laws.Cover2
import Derived.Laws.StructEq
import Derived.Laws.Tables
import Derived.Test.YtahnliehdjncdaaGreatDoorXAU
import Derived.Test.YtahnliehdjncdaaGreatDoorXAR
set_option maxRecDepth 100000
set_option maxHeartbeats 16000000
namespace Go.Proofs.YtahnliehdjncdaaGreatDoor
open Go.RowKit
def sdA (c : Cfg) (j : Nat) : Int := match j with | 0 => c.s00 | 1 => c.s10 | _ => c.s20
def sdB (c : Cfg) (j : Nat) : Int := match j with | 0 => c.s01 | 1 => c.s11 | _ => c.s21
def placeO (c : Cfg) (key : Int) (j : Nat) : Int := hashD (sdA c j) (sdB c j) key % c.width
structure Cfg.rowed (c : Cfg) : Prop where
 r0 : 1 ≤ c.rows
 r1 : c.rows ≤ 3
 w0 : 1 ≤ c.width
 w1 : c.width ≤ 16
 sd : ∀ j : Nat, (j : Int) < c.rows → 0 ≤ sdA c j ∧ sdA c j < 2305843009213693951 ∧ 0 ≤ sdB c j ∧ sdB c j < 2305843009213693951
theorem placeO_bd (c : Cfg) (h : c.rowed) (key : Int) (j : Nat) : 0 ≤ placeO c key j ∧ placeO c key j < 16 := by
 unfold placeO
 have h0 := h.w0; have h1 := h.w1
 have a := Int.emod_nonneg (hashD (sdA c j) (sdB c j) key) (show c.width ≠ 0 by omega)
 have b := Int.emod_lt_of_pos (hashD (sdA c j) (sdB c j) key) (show 0 < c.width by omega)
 omega
theorem eqPair (a b c d : Int) (w : World) : (Op.equalIn 10000 35 (.agg #[.int .i64 a, .int .i64 b]) (.agg #[.int .i64 c, .int .i64 d])).run Tryz.prog w = .ok (a == c && b == d) w := by
 have u3 := Tryz.underlying3
 have a3 := Tryz.isAgg3
 have z3 := Tryz.sizeOf3
 rw [show (10000 : Nat) = 9999 + 1 from rfl, Op.equalIn]
 simp only [Sem.run_bind, run_underlying Tryz.underlying35, Result.andThen_ok]
 simp only [Std.Legacy.Range.forIn_eq_forIn_range', Std.Legacy.Range.size, Nat.sub_zero, Nat.add_sub_cancel, Nat.div_one, List.range'_succ, List.range'_zero, List.forIn_cons, List.forIn_nil]
 go_simp
 by_cases h1 : a = c <;> by_cases h2 : b = d <;> simp [h1, h2]
attribute [local go_sem] eqPair
theorem places_any (d : Nat) (c : Cfg) (o : Pa.Pn) (r : Nat) (key : Int) (w : World) (hb : Blk w d (oftCells c o r) 237) (hc : c.rowed) (k0 : 0 ≤ key) (k1 : key ≤ 2147483648) :
  Calls Tryz.prog 220 #[.pointer (some ⟨d, 0, none⟩), .int .i64 key] w fun e w' => ∃ a0 a1 a2, e = .returned (.agg #[.int .i64 a0, .int .i64 a1, .int .i64 a2]) ∧ (a0 = placeO c key 0 ∧ (1 < c.rows → a1 = placeO c key 1) ∧ (2 < c.rows → a2 = placeO c key 2)) ∧ Keeps (fun _ => False) w w' := by
 have c7 : w.cell? ⟨d, 7, none⟩ = some (.int .i64 c.rows) := hb.cell (oft_get c o r 7 (by omega))
 have c14 : w.cell? ⟨d, 14, none⟩ = some (.int .i64 c.s00) := hb.cell (oft_get c o r 14 (by omega))
 have c15 : w.cell? ⟨d, 15, none⟩ = some (.int .i64 c.s01) := hb.cell (oft_get c o r 15 (by omega))
 have c16 : w.cell? ⟨d, 16, none⟩ = some (.int .i64 c.s10) := hb.cell (oft_get c o r 16 (by omega))
 have c17 : w.cell? ⟨d, 17, none⟩ = some (.int .i64 c.s11) := hb.cell (oft_get c o r 17 (by omega))
 have c18 : w.cell? ⟨d, 18, none⟩ = some (.int .i64 c.s20) := hb.cell (oft_get c o r 18 (by omega))
 have c19 : w.cell? ⟨d, 19, none⟩ = some (.int .i64 c.s21) := hb.cell (oft_get c o r 19 (by omega))
 have hlt := hb.lt
 have hdne : d ≠ w.heap.size := by omega
 have hdne1 : d ≠ w.heap.size + 1 := by omega
 have hdne2 : d ≠ w.heap.size + 1 + 1 := by omega
 have hlt1 : d < w.heap.size + 1 := by omega
 have hlt2 : d < w.heap.size + 1 + 1 := by omega
 have HB := hide hb
 have HC := hide hc
 obtain ⟨R, hR⟩ : ∃ R : Nat, c.rows = (R : Int) := ⟨c.rows.toNat, by have := hc.r0; omega⟩
 have hR3 : R ≤ 3 := by have := hc.r1; omega
 have hR1 : 1 ≤ R := by have := hc.r0; omega
 rw [hR] at c7
 have HR := hide hR
 clear hb hc hR
 go_enter Tryz.func220, Tryz.ntmps220
 go_wp2_with fail
 obtain ⟨W3, hW3⟩ : ∃ W3, W3 = (((w.alloc (.cells #[.int .i64 0, .int .i64 0, .int .i64 0] 240)).alloc (.cells #[.int .i64 0, .int .i64 0, .int .i64 0] 240)).alloc (.cells #[.int .i64 c.s00, .int .i64 c.s01, .int .i64 c.s10, .int .i64 c.s11, .int .i64 c.s20, .int .i64 c.s21] 36)) := ⟨_, rfl⟩
 have HRB := hide (show Blk W3 w.heap.size [.int .i64 0, .int .i64 0, .int .i64 0] 240 by rw [hW3]; exact ((Blk.new w _ _).alloc _).alloc _)
 have HAB := hide (show Blk W3 (w.heap.size + 1) [.int .i64 0, .int .i64 0, .int .i64 0] 240 by rw [hW3]; exact (Blk.newAt (by simp) _ _).alloc _)
 have HSB := hide (show Blk W3 (w.heap.size + 1 + 1) [.int .i64 c.s00, .int .i64 c.s01, .int .i64 c.s10, .int .i64 c.s11, .int .i64 c.s20, .int .i64 c.s21] 36 by rw [hW3]; exact Blk.newAt (by simp) _ _)
 have HK3 := hide (show Keeps (fun _ => False) w W3 by rw [hW3]; exact (((Keeps.refl _ _).alloc _).alloc _).alloc _)
 rw [← hW3]
 clear hW3 c14 c15 c16 c17 c18 c19
 generalize hrb : w.heap.size = rb at *
 have HSD := hide (fun j hj => (uh HC).sd j hj)
 rw [uh HR] at HSD
 have HW := hide (show 1 ≤ c.width ∧ c.width ≤ 16 from ⟨(uh HC).w0, (uh HC).w1⟩)
 have HB3 := hide ((uh HB).keeps (uh HK3) (fun h => h))
 go_loopw [18] (fun i wr => ∃ (k : Nat) (a0 a1 a2 : Int), i = .int .i64 k ∧ k ≤ R ∧ Hid (Blk wr (rb + 1) [.int .i64 a0, .int .i64 a1, .int .i64 a2] 240) ∧ Hid (Keeps (fun i => i = rb + 1) W3 wr) ∧ Hid ((0 < k → a0 = placeO c key 0) ∧ (1 < k → a1 = placeO c key 1) ∧ (2 < k → a2 = placeO c key 2))) (fun i _ => R - (intOf i).toNat)
 case atStart => exact ⟨0, 0, 0, 0, rfl, Nat.zero_le _, HAB, Keeps.refl _ _, ⟨fun h => by omega, fun h => by omega, fun h => by omega⟩⟩
 case round =>
  obtain ⟨k, a0, a1, a2, rfl, hk, HA, HK, HV⟩ := hrel
  have HBr := hide ((uh HB3).keeps (uh HK) (by omega))
  have HSr := hide ((uh HSB).keeps (uh HK) (by omega))
  have HRr := hide ((uh HRB).keeps (uh HK) (by omega))
  have d8 : wr.cell? ⟨d, 8, none⟩ = some (.int .i64 c.width) := (uh HBr).cell (oft_get c o r 8 (by omega))
  have s0 : wr.cell? ⟨rb + 1 + 1, 0, none⟩ = some (.int .i64 c.s00) := (uh HSr).cell rfl
  have s1 : wr.cell? ⟨rb + 1 + 1, 1, none⟩ = some (.int .i64 c.s01) := (uh HSr).cell rfl
  have s2 : wr.cell? ⟨rb + 1 + 1, 2, none⟩ = some (.int .i64 c.s10) := (uh HSr).cell rfl
  have s3 : wr.cell? ⟨rb + 1 + 1, 3, none⟩ = some (.int .i64 c.s11) := (uh HSr).cell rfl
  have s4 : wr.cell? ⟨rb + 1 + 1, 4, none⟩ = some (.int .i64 c.s20) := (uh HSr).cell rfl
  have s5 : wr.cell? ⟨rb + 1 + 1, 5, none⟩ = some (.int .i64 c.s21) := (uh HSr).cell rfl
  have b0 : wr.cell? ⟨rb + 1, 0, none⟩ = some (.int .i64 a0) := (uh HA).cell rfl
  have b1 : wr.cell? ⟨rb + 1, 1, none⟩ = some (.int .i64 a1) := (uh HA).cell rfl
  have b2 : wr.cell? ⟨rb + 1, 2, none⟩ = some (.int .i64 a2) := (uh HA).cell rfl
  have bf := (uh HA).frozen
  have HABL : rb + 1 < wr.heap.size := (uh HA).lt
  have hwz : ¬ c.width = 0 := by have := uh HW; omega
  have hwz2 : (c.width == 0) = false := by simp; exact hwz
  by_cases hlt : k < R
  ·have hk3 : k = 0 ∨ k = 1 ∨ k = 2 := by omega
   rcases hk3 with hk3 | hk3 | hk3
   ·subst hk3
    go_wp2_with fail
    go_quiet (fail)
    have q8 : (wr.drewN nq).cell? ⟨d, 8, none⟩ = some (.int .i64 c.width) := d8
    have qa : (wr.drewN nq).cell? ⟨rb + 1 + 1, 0, none⟩ = some (.int .i64 c.s00) := s0
    have qb : (wr.drewN nq).cell? ⟨rb + 1 + 1, 1, none⟩ = some (.int .i64 c.s01) := s1
    have qc : (wr.drewN nq).cell? ⟨rb + 1, 0, none⟩ = some (.int .i64 a0) := b0
    have HQA := hide (show Blk (wr.drewN nq) (rb + 1) [.int .i64 a0, .int .i64 a1, .int .i64 a2] 240 from uh HA)
    have HQK := hide (show Keeps (fun i => i = rb + 1) W3 (wr.drewN nq) from (uh HK).then (Keeps.drewN _ _ _))
    generalize wr.drewN nq = Wq at *
    clear d8 s0 s1 s2 s3 s4 s5 b0 b1 b2 bf HABL
    have HH := hide (fun W => hash_any c.s00 c.s01 key W (uh HSD 0 (by omega)).1 (uh HSD 0 (by omega)).2.1 (uh HSD 0 (by omega)).2.2.1 (uh HSD 0 (by omega)).2.2.2 k0 k1)
    have hp1 := hashD_bd c.s00 c.s01 key
    have HPL := hide (show hashD c.s00 c.s01 key % c.width = placeO c key 0 from rfl)
    generalize hashD c.s00 c.s01 key = hv at *
    have hp0 := hp1.1
    have hmod : hv.tmod c.width = hv % c.width := Int.tmod_eq_emod_of_nonneg hp0
    have hne1 : rb + 1 ≠ d := by omega
    have hne2 : rb + 1 ≠ rb + 1 + 1 := by omega
    go_wp2_with fail
    go_region_held3 (fun w' => w'.cell? ⟨rb + 1 + 1, 0, none⟩ = some (.int .i64 c.s00) ∧ w'.cell? ⟨rb + 1 + 1, 1, none⟩ = some (.int .i64 c.s01) ∧ w'.cell? ⟨d, 8, none⟩ = some (.int .i64 c.width)) (first | (go_split_ands; exact ⟨by assumption, by assumption, by assumption⟩) | (go_split_ands; exact ⟨hka.cell (by assumption) (fun h => h), hka.cell (by assumption) (fun h => h), hka.cell (by assumption) (fun h => h)⟩) | (go_split_ands; exact ⟨(World.cell?_setCell_far _ _ _ _ hne2).trans (by assumption), (World.cell?_setCell_far _ _ _ _ hne2).trans (by assumption), (World.cell?_setCell_far _ _ _ _ hne1).trans (by assumption)⟩)) (first | (go_at_call 145; refine (uh HH _).mono ?_; rintro e W4 ⟨rfl, hka⟩; have hb4 := ((uh HQA).drew.keeps hka (fun h => h)); have hc4 := hb4.cell (i := 0) rfl; have hf4 := hb4.frozen))
    have HB5 := hide (((uh HQA).keeps (((Keeps.refl (fun _ => False) Wq).drew).then hka) (fun h => h)).setCell 0 (.int .i64 (hv % c.width)))
    have HK5 := hide ((((uh HQK).drew.trans hka (fun _ h => h.elim))).setCell (p := ⟨rb + 1, 0, none⟩) (Or.inl rfl) (.int .i64 (hv % c.width)))
    go_wp2
    refine ⟨⟨0 + 1, hv % c.width, a1, a2, by go_num, by omega, HB5, HK5, ?_⟩, by simp [intOf]; omega⟩
    exact ⟨fun _ => uh HPL, fun h => by omega, fun h => by omega⟩
   ·subst hk3
    rw [show (((1 : Nat)) : Int) = 1 from rfl]
    have hz0 : IntKind.i64.wrap 0 = 0 := by decide +kernel
    have hz1 : IntKind.i64.wrap 1 = 1 := by decide +kernel
    by_cases he : c.s10 = c.s00 ∧ c.s11 = c.s01
    ·have hpa : (c.s10 == c.s00) = true := by simp [he.1]
     have hpb : (c.s11 == c.s01) = true := by simp [he.2]
     have HEQ := hide (show placeO c key 1 = placeO c key 0 by unfold placeO; show hashD c.s10 c.s11 key % c.width = hashD c.s00 c.s01 key % c.width; rw [he.1, he.2])
     clear he
     go_wp2_with fail
     go_quiet (fail)
     have qc : (wr.drewN nq).cell? ⟨rb + 1, 1, none⟩ = some (.int .i64 a1) := b1
     have qd : (wr.drewN nq).cell? ⟨rb + 1, 0, none⟩ = some (.int .i64 a0) := b0
     have HQA := hide (show Blk (wr.drewN nq) (rb + 1) [.int .i64 a0, .int .i64 a1, .int .i64 a2] 240 from uh HA)
     have HQK := hide (show Keeps (fun i => i = rb + 1) W3 (wr.drewN nq) from (uh HK).then (Keeps.drewN _ _ _))
     generalize wr.drewN nq = Wq at *
     have hqf := (uh HQA).frozen
     go_wp2
     refine ⟨⟨1 + 1, a0, a0, a2, by go_num, by omega, (uh HQA).setCell 1 _, (uh HQK).setCell (p := ⟨rb + 1, 1, none⟩) (Or.inl rfl) _, ?_⟩, by simp [intOf]; omega⟩
     exact ⟨fun _ => (uh HV).1 (by omega), fun _ => (uh HEQ).trans ((uh HV).1 (by omega)).symm |>.symm, fun h => by omega⟩
    ·have hpe : (c.s10 == c.s00 && c.s11 == c.s01) = false := by simp; intro h1 h2; exact he ⟨h1, h2⟩
     have HNE := hide he
     clear he
     go_wp2_with fail
     go_quiet (fail)
     have q8 : (wr.drewN nq).cell? ⟨d, 8, none⟩ = some (.int .i64 c.width) := d8
     have qa : (wr.drewN nq).cell? ⟨rb + 1 + 1, 2, none⟩ = some (.int .i64 c.s10) := s2
     have qb : (wr.drewN nq).cell? ⟨rb + 1 + 1, 3, none⟩ = some (.int .i64 c.s11) := s3
     have qc : (wr.drewN nq).cell? ⟨rb + 1, 1, none⟩ = some (.int .i64 a1) := b1
     have HQA := hide (show Blk (wr.drewN nq) (rb + 1) [.int .i64 a0, .int .i64 a1, .int .i64 a2] 240 from uh HA)
     have HQK := hide (show Keeps (fun i => i = rb + 1) W3 (wr.drewN nq) from (uh HK).then (Keeps.drewN _ _ _))
     generalize wr.drewN nq = Wq at *
     clear d8 s0 s1 s2 s3 s4 s5 b0 b1 b2 bf HABL
     have HH := hide (fun W => hash_any c.s10 c.s11 key W (uh HSD 1 (by omega)).1 (uh HSD 1 (by omega)).2.1 (uh HSD 1 (by omega)).2.2.1 (uh HSD 1 (by omega)).2.2.2 k0 k1)
     have hp1 := hashD_bd c.s10 c.s11 key
     have HPL := hide (show hashD c.s10 c.s11 key % c.width = placeO c key 1 from rfl)
     generalize hashD c.s10 c.s11 key = hv at *
     have hp0 := hp1.1
     have hmod : hv.tmod c.width = hv % c.width := Int.tmod_eq_emod_of_nonneg hp0
     have hne1 : rb + 1 ≠ d := by omega
     have hne2 : rb + 1 ≠ rb + 1 + 1 := by omega
     go_wp2_with fail
     go_region_held3 (fun w' => w'.cell? ⟨rb + 1 + 1, 2, none⟩ = some (.int .i64 c.s10) ∧ w'.cell? ⟨rb + 1 + 1, 3, none⟩ = some (.int .i64 c.s11) ∧ w'.cell? ⟨d, 8, none⟩ = some (.int .i64 c.width)) (first | (go_split_ands; exact ⟨by assumption, by assumption, by assumption⟩) | (go_split_ands; exact ⟨hka.cell (by assumption) (fun h => h), hka.cell (by assumption) (fun h => h), hka.cell (by assumption) (fun h => h)⟩) | (go_split_ands; exact ⟨(World.cell?_setCell_far _ _ _ _ hne2).trans (by assumption), (World.cell?_setCell_far _ _ _ _ hne2).trans (by assumption), (World.cell?_setCell_far _ _ _ _ hne1).trans (by assumption)⟩)) (first | (go_at_call 145; refine (uh HH _).mono ?_; rintro e W4 ⟨rfl, hka⟩; have hb4 := ((uh HQA).drew.keeps hka (fun h => h)); have hc4 := hb4.cell (i := 1) rfl; have hf4 := hb4.frozen))
     have HB5 := hide (((uh HQA).keeps (((Keeps.refl (fun _ => False) Wq).drew).then hka) (fun h => h)).setCell 1 (.int .i64 (hv % c.width)))
     have HK5 := hide ((((uh HQK).drew.trans hka (fun _ h => h.elim))).setCell (p := ⟨rb + 1, 1, none⟩) (Or.inl rfl) (.int .i64 (hv % c.width)))
     go_wp2
     refine ⟨⟨1 + 1, a0, hv % c.width, a2, by go_num, by omega, HB5, HK5, ?_⟩, by simp [intOf]; omega⟩
     exact ⟨fun _ => (uh HV).1 (by omega), fun _ => uh HPL, fun h => by omega⟩
   ·subst hk3
    rw [show (((2 : Nat)) : Int) = 2 from rfl]
    have hz0 : IntKind.i64.wrap 0 = 0 := by decide +kernel
    have hz1 : IntKind.i64.wrap 1 = 1 := by decide +kernel
    by_cases he : c.s20 = c.s10 ∧ c.s21 = c.s11
    ·have hpa : (c.s20 == c.s10) = true := by simp [he.1]
     have hpb : (c.s21 == c.s11) = true := by simp [he.2]
     have HEQ := hide (show placeO c key 2 = placeO c key 1 by unfold placeO; show hashD c.s20 c.s21 key % c.width = hashD c.s10 c.s11 key % c.width; rw [he.1, he.2])
     clear he
     go_wp2_with fail
     go_quiet (fail)
     have qc : (wr.drewN nq).cell? ⟨rb + 1, 2, none⟩ = some (.int .i64 a2) := b2
     have qd : (wr.drewN nq).cell? ⟨rb + 1, 1, none⟩ = some (.int .i64 a1) := b1
     have HQA := hide (show Blk (wr.drewN nq) (rb + 1) [.int .i64 a0, .int .i64 a1, .int .i64 a2] 240 from uh HA)
     have HQK := hide (show Keeps (fun i => i = rb + 1) W3 (wr.drewN nq) from (uh HK).then (Keeps.drewN _ _ _))
     generalize wr.drewN nq = Wq at *
     have hqf := (uh HQA).frozen
     go_wp2
     refine ⟨⟨2 + 1, a0, a1, a1, by go_num, by omega, (uh HQA).setCell 2 _, (uh HQK).setCell (p := ⟨rb + 1, 2, none⟩) (Or.inl rfl) _, ?_⟩, by simp [intOf]; omega⟩
     exact ⟨fun _ => (uh HV).1 (by omega), fun _ => (uh HV).2.1 (by omega), fun _ => ((uh HEQ).trans ((uh HV).2.1 (by omega)).symm).symm⟩
    ·have hpe : (c.s20 == c.s10 && c.s21 == c.s11) = false := by simp; intro h1 h2; exact he ⟨h1, h2⟩
     have HNE := hide he
     clear he
     go_wp2_with fail
     go_quiet (fail)
     have q8 : (wr.drewN nq).cell? ⟨d, 8, none⟩ = some (.int .i64 c.width) := d8
     have qa : (wr.drewN nq).cell? ⟨rb + 1 + 1, 4, none⟩ = some (.int .i64 c.s20) := s4
     have qb : (wr.drewN nq).cell? ⟨rb + 1 + 1, 5, none⟩ = some (.int .i64 c.s21) := s5
     have qc : (wr.drewN nq).cell? ⟨rb + 1, 2, none⟩ = some (.int .i64 a2) := b2
     have HQA := hide (show Blk (wr.drewN nq) (rb + 1) [.int .i64 a0, .int .i64 a1, .int .i64 a2] 240 from uh HA)
     have HQK := hide (show Keeps (fun i => i = rb + 1) W3 (wr.drewN nq) from (uh HK).then (Keeps.drewN _ _ _))
     generalize wr.drewN nq = Wq at *
     clear d8 s0 s1 s2 s3 s4 s5 b0 b1 b2 bf HABL
     have HH := hide (fun W => hash_any c.s20 c.s21 key W (uh HSD 2 (by omega)).1 (uh HSD 2 (by omega)).2.1 (uh HSD 2 (by omega)).2.2.1 (uh HSD 2 (by omega)).2.2.2 k0 k1)
     have hp1 := hashD_bd c.s20 c.s21 key
     have HPL := hide (show hashD c.s20 c.s21 key % c.width = placeO c key 2 from rfl)
     generalize hashD c.s20 c.s21 key = hv at *
     have hp0 := hp1.1
     have hmod : hv.tmod c.width = hv % c.width := Int.tmod_eq_emod_of_nonneg hp0
     have hne1 : rb + 1 ≠ d := by omega
     have hne2 : rb + 1 ≠ rb + 1 + 1 := by omega
     go_wp2_with fail
     go_region_held3 (fun w' => w'.cell? ⟨rb + 1 + 1, 4, none⟩ = some (.int .i64 c.s20) ∧ w'.cell? ⟨rb + 1 + 1, 5, none⟩ = some (.int .i64 c.s21) ∧ w'.cell? ⟨d, 8, none⟩ = some (.int .i64 c.width)) (first | (go_split_ands; exact ⟨by assumption, by assumption, by assumption⟩) | (go_split_ands; exact ⟨hka.cell (by assumption) (fun h => h), hka.cell (by assumption) (fun h => h), hka.cell (by assumption) (fun h => h)⟩) | (go_split_ands; exact ⟨(World.cell?_setCell_far _ _ _ _ hne2).trans (by assumption), (World.cell?_setCell_far _ _ _ _ hne2).trans (by assumption), (World.cell?_setCell_far _ _ _ _ hne1).trans (by assumption)⟩)) (first | (go_at_call 145; refine (uh HH _).mono ?_; rintro e W4 ⟨rfl, hka⟩; have hb4 := ((uh HQA).drew.keeps hka (fun h => h)); have hc4 := hb4.cell (i := 2) rfl; have hf4 := hb4.frozen))
     have HB5 := hide (((uh HQA).keeps (((Keeps.refl (fun _ => False) Wq).drew).then hka) (fun h => h)).setCell 2 (.int .i64 (hv % c.width)))
     have HK5 := hide ((((uh HQK).drew.trans hka (fun _ h => h.elim))).setCell (p := ⟨rb + 1, 2, none⟩) (Or.inl rfl) (.int .i64 (hv % c.width)))
     go_wp2
     refine ⟨⟨2 + 1, a0, a1, hv % c.width, by go_num, by omega, HB5, HK5, ?_⟩, by simp [intOf]; omega⟩
     exact ⟨fun _ => (uh HV).1 (by omega), fun _ => (uh HV).2.1 (by omega), fun _ => uh HPL⟩
  ·have hkR : k = R := by omega
   subst hkR
   have hkf : decide ((k : Int) < (k : Int)) = false := by simp
   have r0 : wr.cell? ⟨rb, 0, none⟩ = some (.int .i64 0) := (uh HRr).cell rfl
   have r1 : wr.cell? ⟨rb, 1, none⟩ = some (.int .i64 0) := (uh HRr).cell rfl
   have r2 : wr.cell? ⟨rb, 2, none⟩ = some (.int .i64 0) := (uh HRr).cell rfl
   have rf := (uh HRr).frozen
   go_wp2
   have HF := hide ((((uh HRr).setCell 0 (.int .i64 a0)).setCell 1 (.int .i64 a1)).setCell 2 (.int .i64 a2))
   have HKF := hide ((((Keeps.refl (fun i => i = rb) wr).setCell (p := ⟨rb, 0, none⟩) (Or.inl rfl) (.int .i64 a0)).setCell (p := ⟨rb, 1, none⟩) (Or.inl rfl) (.int .i64 a1)).setCell (p := ⟨rb, 2, none⟩) (Or.inl rfl) (.int .i64 a2))
   generalize ((wr.setCell ⟨rb, 0, none⟩ (.int .i64 a0)).setCell ⟨rb, 1, none⟩ (.int .i64 a1)).setCell ⟨rb, 2, none⟩ (.int .i64 a2) = wf at *
   have f0 : wf.cell? ⟨rb, 0, none⟩ = some (.int .i64 a0) := (uh HF).cell rfl
   have f1 : wf.cell? ⟨rb, 1, none⟩ = some (.int .i64 a1) := (uh HF).cell rfl
   have f2 : wf.cell? ⟨rb, 2, none⟩ = some (.int .i64 a2) := (uh HF).cell rfl
   refine bodyPost_ret (v := .agg #[.int .i64 a0, .int .i64 a1, .int .i64 a2]) (by simp [results, Tryz.results220, go_sem, f0, f1, f2]) rfl ⟨a0, a1, a2, rfl, ⟨(uh HV).1 (by omega), fun h => (uh HV).2.1 (by have := uh HR; omega), fun h => (uh HV).2.2 (by have := uh HR; omega)⟩, ?_⟩
   exact (((uh HK3).trans (uh HK) (fun i hi hlt => by omega))).trans (uh HKF) (fun i hi hlt => by omega)
end Go.Proofs.YtahnliehdjncdaaGreatDoor
