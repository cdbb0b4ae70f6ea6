import Derived.Test.YtahnliehdjncdaaGreatDoorXBA
import Derived.Test.YtahnliehdjncdaaGreatDoorXAZ
import Derived.Deep.AppendLies
import Derived.Laws.AppendOwnNone
import Derived.Test.YtahnliehdjncdaaGreatDoorXAA
import Derived.Laws.Bits128
import Derived.Laws.BitsAllLaws
import Derived.Test.YtahnliehdjncdaaGreatDoorXAV
set_option maxRecDepth 100000
set_option maxHeartbeats 16000000
namespace Go.Proofs.YtahnliehdjncdaaGreatDoor
open Go.RowKit
attribute [local go_sem ↓] Pa.execOp_loadP Pa.execOp_storeP execOp_loadC execOp_buildK execOp_buildN
attribute [local go_sem] Pa.run_loadP run_loadC run_buildK run_buildN run_storeO zeros48_length bigVal_drew hasBig_drew
structure ORep (w : World) (d q : Nat) (og : Option Nat) (c : Cfg) (o : Pa.Pn) (cl : List Pa.Pn) : Prop where
 blk : Blk w d (oftCells c o q) 237
 row : Pa.RowRep w d q og cl
 dq : d ≠ q
 dg : ∀ g, og = some g → d ≠ g
theorem ORep.keeps {M : Nat → Prop} {w w' : World} {d q : Nat} {og : Option Nat} {c : Cfg} {o : Pa.Pn} {cl : List Pa.Pn} (h : ORep w d q og c o cl) (k : Keeps M w w') (hd : ¬ M d) (hq : ¬ M q) (hg : ∀ g, og = some g → ¬ M g) : ORep w' d q og c o cl :=
 ⟨h.blk.keeps k hd, h.row.keeps k hq hg, h.dq, h.dg⟩
theorem ORep.still {w w' : World} {d q : Nat} {og : Option Nat} {c : Cfg} {o : Pa.Pn} {cl : List Pa.Pn} (h : ORep w d q og c o cl) (k : Keeps (fun _ => False) w w') : ORep w' d q og c o cl := h.keeps k (fun h => h) (fun h => h) (fun _ _ h => h)
def upAt (cs : List Int) (p : Nat) : List Int := cs.set p (cs.getD p 0 + 1)
def bumpN (c : Cfg) (key : Int) : Nat → List Int → List Int
 | 0, cs => cs
 | j + 1, cs => upAt (bumpN c key j cs) (j * 16 + (placeO c key j).toNat)
theorem bumpN_length (c : Cfg) (key : Int) (cs : List Int) : ∀ n, (bumpN c key n cs).length = cs.length
 | 0 => rfl
 | n + 1 => by unfold bumpN upAt; rw [List.length_set, bumpN_length c key cs n]
def bumpP (c : Cfg) (key : Int) (n : Nat) (o : Pa.Pn) : Pa.Pn := ⟨o.no, bumpN c key n o.cs, by rw [bumpN_length, o.len]⟩
def relO (c : Cfg) (o : Pa.Pn) (cl : List Pa.Pn) (y : It) (m : Int) : Pa.Pn × List Pa.Pn :=
 let s := turnO o cl (y.t / longO c)
 (bumpP c y.k c.rows.toNat s.1, s.2.drop (pastP c s.2 (m - c.window)))
theorem upAt_bd {cs : List Int} {B : Int} (h : ∀ x ∈ cs, 0 ≤ x ∧ x ≤ B) (hB : 0 ≤ B) (p : Nat) : ∀ x ∈ upAt cs p, 0 ≤ x ∧ x ≤ B + 1 := by
 intro x hx
 unfold upAt at hx
 rcases List.mem_or_eq_of_mem_set hx with h1 | h1
 ·have := h x h1; omega
 ·have hg : 0 ≤ cs.getD p 0 ∧ cs.getD p 0 ≤ B := by
   rw [List.getD_eq_getElem?_getD]
   cases he : cs[p]? with
   | none => simpa using hB
   | some v => exact h v (List.mem_of_getElem? he)
  omega
theorem bumpN_bd {c : Cfg} {key : Int} {cs : List Int} {B : Int} (h : ∀ x ∈ cs, 0 ≤ x ∧ x ≤ B) (hB : 0 ≤ B) : ∀ n : Nat, ∀ x ∈ bumpN c key n cs, 0 ≤ x ∧ x ≤ B + n
 | 0 => by intro x hx; have := h x hx; simpa using this
 | n + 1 => by
  intro x hx
  have := upAt_bd (bumpN_bd h hB n) (by omega) _ x hx
  push_cast
  omega
theorem turnO_ok {c : Cfg} {o : Pa.Pn} {cl : List Pa.Pn} {n : Int} (h : ∀ p ∈ cl, OkP c p) (ho : OkP c o) : ∀ p ∈ (turnO o cl n).2, OkP c p := by
 unfold turnO
 split
 ·exact h
 ·dsimp only
  split
  ·exact h
  ·intro p hp
   rcases List.mem_append.1 hp with h1 | h1
   ·exact h p h1
   ·rw [List.mem_singleton.1 h1]; exact ho
theorem turnO_len (o : Pa.Pn) (cl : List Pa.Pn) (n : Int) : (turnO o cl n).2.length ≤ cl.length + 1 := by
 unfold turnO
 split
 ·exact Nat.le_succ _
 ·dsimp only
  split
  ·exact Nat.le_succ _
  ·simp
theorem turnO_cs {o : Pa.Pn} {cl : List Pa.Pn} {n B : Int} (h : ∀ x ∈ o.cs, 0 ≤ x ∧ x ≤ B) (hB : 0 ≤ B) : ∀ x ∈ (turnO o cl n).1.cs, 0 ≤ x ∧ x ≤ B := by
 unfold turnO
 split
 ·exact h
 ·intro x hx
  have hx' : x ∈ List.replicate 48 0 := hx
  rw [(List.mem_replicate.1 hx').2]
  omega
theorem oft_setc (c : Cfg) (p : Pa.Pn) (q j : Nat) (v : Value) (hj : j < 49) : (oftCells c p q).set (20 + j) v = c.cells ++ (p.cells.set j v ++ [.pointer (some ⟨q, 0, none⟩)]) := by
 have hc : c.cells.length = 20 := by simp [Cfg.cells]
 unfold oftCells
 rw [List.set_append_right _ _ (by omega), hc, Nat.add_sub_cancel_left, List.set_append_left _ _ (by rw [p.cells_length]; exact hj)]
theorem oft_up {w : World} {d q : Nat} {c : Cfg} {p p' : Pa.Pn} (i : Nat) (x : Int) (hi : i < 48) (h : Blk w d (oftCells c p q) 237) (hx : p.cs[i]? = some x) (hn : p'.no = p.no) (hu : p'.cs = upAt p.cs i) :
  Blk (w.setCell ⟨d, 21 + i, none⟩ (.int .i64 (x + 1))) d (oftCells c p' q) 237 := by
 have h1 := h.setCell (21 + i) (.int .i64 (x + 1))
 rw [show 21 + i = 20 + (i + 1) by omega, oft_setc c p q (i + 1) _ (by omega)] at h1
 have e : p.cells.set (i + 1) (.int .i64 (x + 1)) = p'.cells := by
  unfold Pa.Pn.cells
  rw [List.set_cons_succ, hn, hu]
  unfold upAt
  rw [List.map_set, List.getD_eq_getElem?_getD, hx]
  rfl
 rw [e] at h1
 rw [show 21 + i = 20 + (i + 1) by omega]
 exact h1
theorem oftRelease_any (d q : Nat) (og : Option Nat) (c : Cfg) (o : Pa.Pn) (cl : List Pa.Pn) (y : It) (m : Int) (w : World) (h : ORep w d q og c o cl) (hc : c.paned) (hrw : c.rowed) (hL : 1 ≤ longO c) (t0 : 0 ≤ y.t) (t1 : y.t ≤ 4611686018427387904) (k0 : 0 ≤ y.k) (k1 : y.k ≤ 2147483648)
  (m0 : -4611686018427387904 ≤ m) (m1 : m ≤ 4611686018427387904) (hl : cl.length ≤ 1000000000) (hp : ∀ p ∈ cl, OkP c p) (ho : OkP c o) (hcs : ∀ x ∈ o.cs, 0 ≤ x ∧ x ≤ 2305843009213693952) :
  Calls Tryz.prog 172 #[.pointer (some ⟨d, 0, none⟩), y.val, .int .i64 m] w fun e w' => e = .returned (.tuple #[]) ∧ ∃ og', ORep w' d q og' c (relO c o cl y m).1 (relO c o cl y m).2 ∧ Keeps (fun k => k = d ∨ k = q ∨ og = some k) w w' ∧ (og' = og ∨ ∃ k, og' = some k ∧ w.heap.size ≤ k) := by
 obtain ⟨W, hW⟩ : ∃ W, W = w.alloc (.cells y.cells 87) := ⟨_, rfl⟩
 have HKW := hide (show Keeps (fun _ => False) w W by rw [hW]; exact (Keeps.refl _ _).alloc _)
 have hyW : Blk W w.heap.size [.int .i64 y.t, .int .i64 y.k, .int .i64 y.d, .int .i64 y.n] 87 := by rw [hW]; exact Blk.new w _ _
 have HW0 := hide hW
 have HT := hide (h.still (uh HKW))
 clear hW
 obtain ⟨hlq, hlg⟩ := h.row.lt
 have hld := h.blk.lt
 have HYN := hide (show ¬ (w.heap.size = d ∨ w.heap.size = q ∨ og = some w.heap.size) from fun h => by
    rcases h with h | h | h
    ·omega
    ·omega
    ·have := (hlg _ h).1; omega)
 have hb := (uh HT).blk
 have c5 : W.cell? ⟨d, 5, none⟩ = some (.int .i64 c.window) := hb.cell (oft_get c o q 5 (by omega))
 have c9 : W.cell? ⟨d, 9, none⟩ = some (.int .i64 c.panes) := hb.cell (oft_get c o q 9 (by omega))
 have x0 : W.cell? ⟨w.heap.size, 0, none⟩ = some (.int .i64 y.t) := hyW.cell rfl
 have HX1 := hide (show W.cell? ⟨w.heap.size, 1, none⟩ = some (.int .i64 y.k) from hyW.cell rfl)
 have HLEN := hide (fun W' h5' h9' => length_any d c W' h5' h9' (by have := hc.w0; omega) hc.w1 hc.p0)
 have HC := hide hc
 have HRW := hide hrw
 have HP := hide hp
 have HO := hide ho
 have HCS := hide hcs
 have HRO := hide (show relO c o cl y m = (bumpP c y.k c.rows.toNat (turnO o cl (y.t / longO c)).1, (turnO o cl (y.t / longO c)).2.drop (pastP c (turnO o cl (y.t / longO c)).2 (m - c.window))) from rfl)
 have htd : y.t.tdiv (longO c) = y.t / longO c := Int.tdiv_eq_ediv_of_nonneg t0
 have hdv0 : 0 ≤ y.t / longO c := Int.ediv_nonneg t0 (by omega)
 have hdv1 : y.t / longO c ≤ y.t := Int.ediv_le_self _ t0
 have hwd : IntKind.i64.wrap (y.t.tdiv (longO c)) = y.t / longO c := by rw [htd, IntKind.wrap_i64]; omega
 have hwd2 : IntKind.i64.wrap (y.t / longO c) = y.t / longO c := by rw [IntKind.wrap_i64]; omega
 have hLz : ¬ longO c = 0 := by omega
 have hLz2 : (longO c == 0) = false := by simp; exact hLz
 have hwin := hc.w0
 have hwin1 := hc.w1
 have hwm : IntKind.i64.wrap (m - c.window) = m - c.window := by rw [IntKind.wrap_i64]; omega
 clear h hb hyW hc hrw hp ho hcs
 generalize hLe : longO c = L at *
 have HLE := hide hLe
 clear hLe
 unfold It.val
 go_enter Tryz.func172, Tryz.ntmps172
 go_wp2_with fail
 rw [show w.alloc (.cells #[.int .i64 y.t, .int .i64 y.k, .int .i64 y.d, .int .i64 y.n] 87) = W from (uh HW0).symm]
 generalize hyb : w.heap.size = yb at *
 have HYB := hide hyb
 clear hyb
 go_region_held3 (fun w' => w'.cell? ⟨yb, 0, none⟩ = some (.int .i64 y.t) ∧ w'.cell? ⟨d, 5, none⟩ = some (.int .i64 c.window) ∧ w'.cell? ⟨d, 9, none⟩ = some (.int .i64 c.panes))
  (first | (go_split_ands; exact ⟨by assumption, by assumption, by assumption⟩) | (go_split_ands; exact ⟨hka.cell (by assumption) (fun h => h), hka.cell (by assumption) (fun h => h), hka.cell (by assumption) (fun h => h)⟩) | (go_split_ands; exact ⟨hkt.cell (by assumption) (uh HYN), hbt.cell (oft_get c _ q 5 (by omega)), hbt.cell (oft_get c _ q 9 (by omega))⟩))
  (first | (go_at_call 217; refine (uh HLEN _ (by first | assumption | simpa using c5) (by first | assumption | simpa using c9)).mono ?_; rintro e W1 ⟨rfl, hka⟩) | (go_at_call 216; refine (turn_any d q og c o cl _ _ (by exact (uh HT).blk.keeps (M := fun _ => False) (((Keeps.refl _ _).drew).then hka) (fun h => h)) (by exact (uh HT).row.still (((Keeps.refl _ _).drew).then hka)) (uh HT).dq (uh HT).dg hl).mono ?_; rintro e W2 ⟨rfl, og2, hbt, hrt, hkt, hogt⟩))
 obtain ⟨o2, l2, hs⟩ : ∃ o2 l2, turnO o cl (y.t / L) = (o2, l2) := ⟨_, _, rfl⟩
 have HP2 := hide (show ∀ p ∈ l2, OkP c p from fun p hp => turnO_ok (n := y.t / L) (uh HP) (uh HO) p (by rw [hs]; exact hp))
 have hl2 : l2.length ≤ 1000000001 := by have := turnO_len o cl (y.t / L); rw [hs] at this; have h2 : l2.length ≤ cl.length + 1 := this; omega
 have HCS2 := hide (show ∀ x ∈ o2.cs, 0 ≤ x ∧ x ≤ 2305843009213693952 from fun x hx => turnO_cs (cl := cl) (n := y.t / L) (uh HCS) (by omega) x (by rw [hs]; exact hx))
 rw [hs] at hbt hrt HRO
 have HKA := hide (((Keeps.refl (fun _ => False) W).drew).then hka)
 have HKT := hide (((uh HKA).mono (M' := fun k => k = d ∨ k = q ∨ og = some k) (fun _ _ h => h.elim)).then hkt)
 have HS1 := hide (uh HKA).size
 have HOG := hide (show og2 = og ∨ ∃ k, og2 = some k ∧ W.heap.size ≤ k by
    rcases hogt with e | ⟨k, e, hk⟩
    ·exact .inl e
    ·exact .inr ⟨k, e, Nat.le_trans (uh HS1) hk⟩)
 have HDG2 := hide (show ∀ g, og2 = some g → d ≠ g from fun g hg => by
    rcases uh HOG with e | ⟨k, e, hk⟩
    ·exact (uh HT).dg g (e ▸ hg)
    ·have := (uh HT).blk.lt; rw [e] at hg; cases hg; omega)
 have HT2 := hide (show ORep W2 d q og2 c o2 l2 from ⟨hbt, hrt, (uh HT).dq, uh HDG2⟩)
 have HX2 := hide ((uh HKT).cell (uh HX1) (uh HYN))
 have HYL := hide (show yb < W.heap.size by rw [uh HW0]; simp [uh HYB])
 have HYN2 := hide (show ¬ (yb = q ∨ og2 = some yb) from fun h => by
    rcases h with h | h
    ·exact uh HYN (.inr (.inl h))
    ·rcases uh HOG with e | ⟨k, e, hk⟩
     ·exact uh HYN (.inr (.inr (e ▸ h)))
     ·rw [e] at h; cases h; have := uh HYL; omega)
 clear hka hkt hbt hrt hogt hs c5 c9 x0
 have c69 : W2.cell? ⟨d, 69, none⟩ = some (.pointer (some ⟨q, 0, none⟩)) := (uh HT2).blk.cell (oft_row c o2 q)
 have c5 : W2.cell? ⟨d, 5, none⟩ = some (.int .i64 c.window) := (uh HT2).blk.cell (oft_get c o2 q 5 (by omega))
 have c9 : W2.cell? ⟨d, 9, none⟩ = some (.int .i64 c.panes) := (uh HT2).blk.cell (oft_get c o2 q 9 (by omega))
 have HPA := hide (fun W' (k : Keeps (fun _ => False) W2 W') => panePast_any d q og2 c l2 (m - c.window) W' ((uh HT2).row.still k) (by omega) (k.cell c5 (fun h => h)) (k.cell c9 (fun h => h)) (uh HC) (uh HP2))
 have hpn := pastP_le c l2 (m - c.window)
 generalize hpe : pastP c l2 (m - c.window) = pn at *
 have HPE := hide hpe
 clear hpe
 have HDN2 := hide (show ¬ (d = q ∨ og2 = some d) from fun h => by
    rcases h with h | h
    ·exact (uh HT2).dq h
    ·exact (uh HT2).dg d h rfl)
 go_wp2_with fail
 go_region_held3 (fun w' => w'.cell? ⟨d, 69, none⟩ = some (.pointer (some ⟨q, 0, none⟩)) ∧ w'.cell? ⟨d, 5, none⟩ = some (.int .i64 c.window))
  (first | (go_split_ands; exact ⟨by assumption, by assumption⟩) | (go_split_ands; exact ⟨hkl.cell (by assumption) (uh HDN2), hkl.cell (by assumption) (uh HDN2)⟩) | (go_split_ands; exact ⟨hkb.cell (by assumption) (fun h => h), hkb.cell (by assumption) (fun h => h)⟩))
  (first | (go_at_call 219; refine (uh HPA _ ((Keeps.refl _ _).drew)).mono ?_; rintro e W3 ⟨rfl, hkb⟩) | (go_at_call 218; refine (Pa.lose_any d q og2 l2 pn _ (by exact (uh HT2).row.still (((Keeps.refl _ _).drew).then hkb)) hpn).mono ?_; rintro e W4 ⟨rfl, hr4, hkl⟩))
 have HKB := hide (((Keeps.refl (fun _ => False) W2).drew).then hkb)
 have HKL := hide (((uh HKB).mono (M' := fun k => k = q ∨ og2 = some k) (fun _ _ h => h.elim)).then hkl)
 have HT4 := hide (show ORep W4 d q og2 c o2 (l2.drop pn) from ⟨(uh HT2).blk.keeps (uh HKL) (uh HDN2), hr4, (uh HT2).dq, (uh HT2).dg⟩)
 have x1 : W4.cell? ⟨yb, 1, none⟩ = some (.int .i64 y.k) := (uh HKL).cell (uh HX2) (uh HYN2)
 clear hkb hkl hr4 c69 c5 c9
 go_wp2_with fail
 refine (places_any d c o2 q y.k _ (uh HT4).blk (uh HRW) k0 k1).mono ?_
 rintro e W5 ⟨a0, a1, a2, rfl, hpl, hkp⟩
 have HPL := hide hpl
 have HT5 := hide ((uh HT4).still hkp)
 have HKP := hide hkp
 obtain ⟨R, hR⟩ : ∃ R : Nat, c.rows = (R : Int) := ⟨c.rows.toNat, by have := (uh HRW).r0; omega⟩
 have hR3 : R ≤ 3 := by have := (uh HRW).r1; omega
 have c7 : W5.cell? ⟨d, 7, none⟩ = some (.int .i64 (R : Int)) := hR ▸ (uh HT5).blk.cell (oft_get c o2 q 7 (by omega))
 have hd5 := (uh HT5).blk.lt
 have HR := hide hR
 clear hpl hkp hR x1 hpn hwm htd hwd hwd2 hdv0 hdv1 hLz hLz2
 go_wp2_with fail
 obtain ⟨W6, hW6⟩ : ∃ W6, W6 = W5.alloc (.cells #[.int .i64 a0, .int .i64 a1, .int .i64 a2] 240) := ⟨_, rfl⟩
 have HPB := hide (show Blk W6 W5.heap.size [.int .i64 a0, .int .i64 a1, .int .i64 a2] 240 by rw [hW6]; exact Blk.new W5 _ _)
 have HK6 := hide (show Keeps (fun _ => False) W5 W6 by rw [hW6]; exact (Keeps.refl _ _).alloc _)
 have HT6 := hide ((uh HT5).still (uh HK6))
 rw [← hW6]
 clear hW6 c7
 generalize hpb : W5.heap.size = pb at *
 clear hpb
 have HDP := hide (show d ≠ pb by omega)
 have HPP := hide (show ∀ k, k < R → ∃ pk : Nat, pk < 16 ∧ (placeO c y.k k).toNat = pk ∧ ([Value.int .i64 a0, .int .i64 a1, .int .i64 a2] : List Value)[k]? = some (.int .i64 (pk : Int)) from fun k hk => by
    have hb := placeO_bd c (uh HRW) y.k k
    obtain ⟨p0, p1, p2⟩ := uh HPL
    rw [uh HR] at p1 p2
    refine ⟨(placeO c y.k k).toNat, by omega, rfl, ?_⟩
    have hk3 : k = 0 ∨ k = 1 ∨ k = 2 := by omega
    rcases hk3 with e | e | e
    ·subst e; rw [Int.toNat_of_nonneg hb.1, p0]; rfl
    ·subst e; rw [Int.toNat_of_nonneg hb.1, p1 (by omega)]; rfl
    ·subst e; rw [Int.toNat_of_nonneg hb.1, p2 (by omega)]; rfl)
 go_loopw [41] (fun i wr => ∃ k : Nat, i = .int .i64 k ∧ k ≤ R ∧ Hid (Blk wr d (oftCells c (bumpP c y.k k o2) q) 237) ∧ Hid (Keeps (fun i => i = d) W6 wr)) (fun i _ => R - (intOf i).toNat)
 case atStart => exact ⟨0, rfl, by omega, (uh HT6).blk, Keeps.refl _ _⟩
 case round =>
  obtain ⟨k, rfl, hk, HBr, HKr⟩ := hrel
  have hk0 : (0 : Int) ≤ (k : Int) := by omega
  by_cases hlt : k < R
  ·have hk3 : (k : Int) < 3 := by omega
   obtain ⟨pk, hpk, hpe, hcell⟩ := uh HPP k hlt
   have hp0 : (0 : Int) ≤ (pk : Int) := by omega
   have hp1 : (pk : Int) < 16 := by omega
   have cp : wr.cell? ⟨pb, k, none⟩ = some (.int .i64 (pk : Int)) := (uh HKr).cell ((uh HPB).cell hcell) (fun h => uh HDP h.symm)
   have hln : k * 16 + pk < (bumpN c y.k k o2.cs).length := by rw [bumpN_length, o2.len]; omega
   obtain ⟨x, hx⟩ : ∃ x, (bumpN c y.k k o2.cs)[k * 16 + pk]? = some x := ⟨_, List.getElem?_eq_getElem hln⟩
   have hxb := bumpN_bd (c := c) (key := y.k) (uh HCS2) (by omega) k x (List.mem_of_getElem? hx)
   have hwx : IntKind.i64.wrap (x + 1) = x + 1 := by rw [IntKind.wrap_i64]; omega
   have cx : wr.cell? ⟨d, 21 + k * 16 + pk, none⟩ = some (.int .i64 x) := by
    rw [show 21 + k * 16 + pk = 20 + (k * 16 + pk + 1) by omega]
    refine (uh HBr).cell ((oft_open c _ q (k * 16 + pk + 1) (by omega)).trans ?_)
    show ((.int .i64 o2.no :: (bumpN c y.k k o2.cs).map (.int .i64 ·) : List Value))[k * 16 + pk + 1]? = _
    rw [List.getElem?_cons_succ, List.getElem?_map, hx]; rfl
   have cf := (uh HBr).frozen
   have HX := hide hx
   have HPK := hide hpe
   clear hx hpe hcell hln
   go_wp2_with fail
   go_region
   go_wp2
   go_roundw
   case rel =>
    refine ⟨k + 1, by go_num, by omega, ?_, ?_⟩
    ·have := (oft_up (p' := bumpP c y.k (k + 1) o2) (k * 16 + pk) x (by omega) (uh HBr) (uh HX) rfl (by show bumpN c y.k (k + 1) o2.cs = _; unfold bumpN; rw [uh HPK]; rfl)).drew
     rw [show 21 + (k * 16 + pk) = 21 + k * 16 + pk by omega] at this
     exact this
    ·exact ((uh HKr).setCell (p := ⟨d, 21 + k * 16 + pk, none⟩) (Or.inl rfl) _).drew
   case measure => simp [intOf]; omega
  ·have hkR : k = R := by omega
   subst hkR
   go_wp2
   go_end0
   have hrn : c.rows.toNat = k := by rw [uh HR]; simp
   refine ⟨rfl, og2, ?_, ?_, ?_⟩
   ·rw [uh HRO, hrn]
    exact ⟨uh HBr, (uh HT6).row.keeps (uh HKr) (fun h => (uh HT6).dq h.symm) (fun g hg h => (uh HT6).dg g hg h.symm), (uh HT6).dq, (uh HT6).dg⟩
   ·have k1 : Keeps (fun k => k = d ∨ k = q ∨ og = some k) w W2 := ((uh HKW).mono (fun _ _ h => h.elim)).then (uh HKT)
    have k2 := k1.trans (uh HKL) (fun i hi hlt => by
       rcases hi with h | h
       ·exact .inr (.inl h)
       ·rcases uh HOG with e | ⟨k', e, hk'⟩
        ·exact .inr (.inr (e ▸ h))
        ·rw [e] at h; cases h; have := (uh HKW).size; omega)
    exact ((k2.trans (uh HKP) (fun _ h => h.elim)).trans (uh HK6) (fun _ h => h.elim)).trans (uh HKr) (fun _ h _ => .inl h)
   ·rcases uh HOG with e | ⟨k', e, hk'⟩
    ·exact .inl e
    ·exact .inr ⟨k', e, by have := (uh HKW).size; have := uh HYB; omega⟩
end Go.Proofs.YtahnliehdjncdaaGreatDoor
namespace Go.Proofs.YtahnliehdjncdaaGreatDoor
open Go.RowKit
attribute [local go_sem ↓] Pa.execOp_loadP Pa.execOp_storeP execOp_loadC execOp_buildK execOp_buildN
attribute [local go_sem] Pa.run_loadP run_loadC run_buildK run_buildN run_storeO zeros48_length bigVal_drew hasBig_drew
def plusC (a : List Int) (p : Pa.Pn) : List Int := List.zipWith (· + ·) a p.cs
def sumP (l : List Pa.Pn) : List Int := l.foldl plusC zeros48
def countedO (c : Cfg) (o : Pa.Pn) (cl : List Pa.Pn) (t : Int) : List Int :=
 if t < lastO c o then plusC (sumP (cl.drop (pastP c cl t))) o else sumP (cl.drop (pastP c cl t))
theorem plusC_length {a : List Int} {p : Pa.Pn} (h : a.length = 48) : (plusC a p).length = 48 := by simp [plusC, h, p.len]
theorem zip_bd : ∀ (a b : List Int) (A B : Int), (∀ x ∈ a, 0 ≤ x ∧ x ≤ A) → (∀ x ∈ b, 0 ≤ x ∧ x ≤ B) → ∀ x ∈ List.zipWith (· + ·) a b, 0 ≤ x ∧ x ≤ A + B
 | [], _, _, _, _, _ => by simp
 | _ :: _, [], _, _, _, _ => by simp
 | x :: a, y :: b, A, B, h1, h2 => by
  intro z hz
  rw [List.zipWith_cons_cons] at hz
  rcases List.mem_cons.1 hz with e | e
  ·have := h1 x (by simp); have := h2 y (by simp); omega
  ·exact zip_bd a b A B (fun x hx => h1 x (by simp [hx])) (fun x hx => h2 x (by simp [hx])) z e
theorem sumP_snoc (l : List Pa.Pn) (p : Pa.Pn) : sumP (l ++ [p]) = plusC (sumP l) p := by simp [sumP]
theorem fold_len : ∀ (l : List Pa.Pn) (a : List Int), a.length = 48 → (l.foldl plusC a).length = 48
 | [], _, h => h
 | p :: l, a, h => fold_len l (plusC a p) (plusC_length h)
theorem sumP_length (l : List Pa.Pn) : (sumP l).length = 48 := fold_len l _ zeros48_length
theorem fold_bd (B : Int) (hB : 0 ≤ B) : ∀ (l : List Pa.Pn) (a : List Int) (A : Int), (∀ x ∈ a, 0 ≤ x ∧ x ≤ A) → (∀ p ∈ l, ∀ x ∈ p.cs, 0 ≤ x ∧ x ≤ B) → ∀ x ∈ l.foldl plusC a, 0 ≤ x ∧ x ≤ A + l.length * B
 | [], a, A, h, _ => by intro x hx; have := h x hx; simpa using this
 | p :: l, a, A, h, hp => by
  intro x hx
  have := fold_bd B hB l (plusC a p) (A + B) (zip_bd a p.cs A B h (hp p (by simp))) (fun q hq => hp q (by simp [hq])) x hx
  rw [List.length_cons]
  push_cast
  rw [Int.add_mul]
  omega
theorem sumP_bd (B : Int) (hB : 0 ≤ B) (l : List Pa.Pn) (hp : ∀ p ∈ l, ∀ x ∈ p.cs, 0 ≤ x ∧ x ≤ B) : ∀ x ∈ sumP l, 0 ≤ x ∧ x ≤ l.length * B := by
 intro x hx
 have := fold_bd B hB l zeros48 0 (fun x hx => by have hx' : x ∈ List.replicate 48 (0 : Int) := hx; rw [(List.mem_replicate.1 hx').2]; omega) hp x hx
 omega
theorem aggC (w : World) : (isAgg 232).run Tryz.prog w = .ok true w := by kernel_rfl
theorem extractC (p : Pa.Pn) : p.cells.toArray.extract 1 (1 + 48) = (numsV p.cs).toArray := by
 unfold Pa.Pn.cells
 simp only [List.extract_toArray, List.extract_eq_take_drop, List.drop_succ_cons, List.drop_zero]
 rw [List.take_of_length_le (by simp [p.len])]
 rfl
theorem run_fieldC (p : Pa.Pn) (w : World) : (Instr.field 234 (.agg p.cells.toArray) 1).run Tryz.prog w = .ok (.agg (numsV p.cs).toArray) w := by
 unfold Instr.field
 simp only [Sem.run_bind, run_underlying Tryz.underlying234, Result.andThen_ok]
 rw [← extractC p]
 have h1 := aggC w
 simp [h1, asAgg, part]
theorem execOp_storeC (ρ : Operand → Value) (dst : Option Tmp) (x y : Operand) (ty : TypeId) (pos : String) (after : Array Edge) (guard : Option (Nat × Bool)) :
  execOp ρ { dst, op := .store 232 x y, type := ty, pos, after, guard } = Pa.storeP 232 (ρ x) (ρ y) := rfl
theorem run_storeC (w : World) (b : Nat) (cs : List Int) (hc : cs.length = 48) (ht : w.there b 0 48) :
  (Pa.storeP 232 (.pointer (some ⟨b, 0, none⟩)) (.agg (numsV cs).toArray)).run Tryz.prog w = .ok .skip (w.setCells b 0 (numsV cs)) := by
 have hl : (numsV cs).length = 48 := by simp [numsV, hc]
 have h1 : ∀ u ∈ numsV cs, u.oneCell' = true := fun u hu => by unfold numsV at hu; obtain ⟨y, _, rfl⟩ := List.mem_map.1 hu; rfl
 unfold Pa.storeP
 rw [Sem.run_bind, run_storeAt_mid w b 0 232 (numsV cs).toArray (by simpa [hl] using ht) (by rw [sizeC]; simp [hl]) (by simpa using h1)]
 rfl
attribute [local go_sem ↓] execOp_storeC
attribute [local go_sem] run_fieldC run_storeC
theorem load_end (W : World) (rb : Nat) (S : List Int) (hb : Blk W rb (numsV zeros48) 232) (hS : S.length = 48) :
  (loadVar 232 ⟨rb, 0, none⟩).run Tryz.prog (W.setCells rb 0 (numsV S)) = .ok (.agg (numsV S).toArray) (W.setCells rb 0 (numsV S)) := by
 have hl : (numsV S).length = 48 := by simp [numsV, hS]
 have h1 := Blk.setCells (numsV S) 0 _ _ hb (by simp [numsV, hS, zeros48_length])
 have e : over (numsV zeros48) 0 (numsV S) = numsV S := by
  unfold over
  rw [hl, List.drop_eq_nil_of_le (by simp [numsV, zeros48_length])]
  simp
 rw [e] at h1
 exact run_loadVar_mid _ rb 0 232 (numsV S) _ (fun j v hv => by rw [Nat.zero_add]; exact h1.cell hv) Tryz.underlying232 rfl (by rw [sizeC, hl])
def panesO (c : Cfg) (o : Pa.Pn) (cl : List Pa.Pn) (t : Int) : List Pa.Pn := cl.drop (pastP c cl t) ++ (if t < lastO c o ∧ o.cs ≠ zeros48 then [o] else [])
theorem plusC_zero {a : List Int} {p : Pa.Pn} (h : a.length = 48) (hp : p.cs = zeros48) : plusC a p = a := by
 unfold plusC
 rw [hp]
 unfold zeros48
 rw [← h]
 clear h hp
 induction a with
 | nil => rfl
 | cons x a ih => simp only [List.length_cons, List.replicate_succ, List.zipWith_cons_cons, ih, Int.add_zero]
theorem sumP_panes (c : Cfg) (o : Pa.Pn) (cl : List Pa.Pn) (t : Int) : sumP (panesO c o cl t) = countedO c o cl t := by
 unfold panesO countedO
 by_cases h1 : t < lastO c o
 ·rw [if_pos h1]
  by_cases h2 : o.cs = zeros48
  ·rw [if_neg (by simp [h2]), List.append_nil, plusC_zero (sumP_length _) h2]
  ·rw [if_pos ⟨h1, h2⟩, sumP_snoc]
 ·rw [if_neg h1, if_neg (by simp [h1]), List.append_nil]
theorem ownsK0 {w w' : World} {base : Nat} {t size : Nat} {v : Value} {n : Nat} {xs : List Value} (h : w.ownsRow base t size v n xs) (hk : Keeps (fun _ => False) w w') : w'.ownsRow base t size v n xs := by
 refine ⟨h.1, ?_⟩
 rcases h.2 with h2 | ⟨g, cap, cur, rfl, hb, hg, r⟩
 ·exact .inl h2
 ·exact .inr ⟨g, cap, cur, rfl, hb, by rw [hk.block g (Array.getElem?_eq_some_iff.1 hg).1 (fun h => h)]; exact hg, r⟩
attribute [local go_sem ↓] Pa.execOp_bsP
attribute [local go_sem] Pa.run_bsP
theorem panes_any (d q : Nat) (og : Option Nat) (c : Cfg) (o : Pa.Pn) (cl : List Pa.Pn) (t : Int) (w : World) (h : ORep w d q og c o cl) (hc : c.paned) (hl : cl.length ≤ 1000) (hp : ∀ p ∈ cl, OkP c p) (ho : OkP c o) :
  Calls Tryz.prog 222 #[.pointer (some ⟨d, 0, none⟩), .int .i64 t] w fun e w' => ∃ v, e = .returned v ∧ w'.ownsRow w.heap.size 234 49 v (panesO c o cl t).length (Pa.flatP (panesO c o cl t)) ∧ Keeps (fun _ => False) w w' := by
 have c69 : w.cell? ⟨d, 69, none⟩ = some (.pointer (some ⟨q, 0, none⟩)) := h.blk.cell (oft_row c o q)
 have HT := hide h
 have HC := hide hc
 have HO := hide ho
 have HPA := hide (panePast_any d q og c cl t w h.row (by omega) (h.blk.cell (oft_get c o q 5 (by omega))) (h.blk.cell (oft_get c o q 9 (by omega))) hc hp)
 have HPO := hide (show panesO c o cl t = cl.drop (pastP c cl t) ++ (if t < lastO c o ∧ o.cs ≠ zeros48 then [o] else []) from rfl)
 have hpn := pastP_le c cl t
 obtain ⟨i0, hi0, hz0, hz1, hz2⟩ := info_parts Pa.infoBk
 generalize pastP c cl t = pn at *
 clear hc hp ho h
 go_enter Tryz.func222, Tryz.ntmps222
 go_wp2_with fail
 refine (uh HPA).mono ?_
 rintro e W1 ⟨rfl, hk1⟩
 have HK1 := hide hk1
 clear hk1 HPA c69
 generalize hrb : w.heap.size = rb at *
 have HRB := hide hrb
 clear hrb
 generalize hn : cl.length = n at *
 have HN := hide hn
 clear hn
 go_wp2_with fail
 go_loopw [5, 6] (fun v i wr => ∃ k : Nat, i = .int .i64 k ∧ pn ≤ k ∧ k ≤ n ∧ Hid (wr.ownsRow rb 234 49 v (k - pn) (Pa.flatP ((cl.drop pn).take (k - pn)))) ∧ Hid (Keeps (fun _ => False) w wr)) (fun _ i _ => n - (intOf i).toNat)
 case atStart => exact ⟨pn, rfl, Nat.le_refl _, hpn, by show World.ownsRow _ _ _ _ _ _ _; rw [Nat.sub_self]; exact World.ownsRow_nil _ _ _ _, HK1⟩
 case round =>
  obtain ⟨k, rfl, hk1, hk2, HBr, HKr⟩ := hrel
  generalize u5 = v at *
  have hk0 : (0 : Int) ≤ (k : Int) := by omega
  have HTr := hide ((uh HT).still (uh HKr))
  have c69 : wr.cell? ⟨d, 69, none⟩ = some (.pointer (some ⟨q, 0, none⟩)) := (uh HTr).blk.cell (oft_row c o q)
  have HLN := hide (Pa.rowLen_any d q og cl wr (uh HTr).row)
  rw [uh HN] at HLN
  by_cases hlk : k < n
  ·have hd : decide ((k : Int) < (n : Int)) = true := by simp; omega
   go_wp2_with fail
   refine (uh HLN).mono ?_
   rintro e w' ⟨rfl, hw⟩
   rw [hw]
   clear hw
   have hkl : k < cl.length := by rw [uh HN]; exact hlk
   have HAT := hide (paneAt_any d q og cl k wr (uh HTr).row hkl)
   have HD := hide (Pa.pnAt_drop cl k hkl)
   clear hkl
   generalize Pa.pnAt cl k = x at *
   go_wp2_with fail
   refine (uh HAT).mono ?_
   rintro e Wa ⟨rfl, hka⟩
   have HBa := hide (ownsK0 (uh HBr) hka)
   have HKa := hide ((uh HKr).then hka)
   have HNX := hide (show (cl.drop pn).take (k + 1 - pn) = (cl.drop pn).take (k - pn) ++ [x] by
      have hlen : k - pn < (cl.drop pn).length := by rw [List.length_drop, uh HN]; omega
      rw [show k + 1 - pn = (k - pn) + 1 by omega, List.take_succ_eq_append_getElem hlen]
      congr 2
      have h1 := uh HD
      have h2 : cl.drop k = (cl.drop pn).drop (k - pn) := by rw [List.drop_drop]; congr 1; omega
      rw [h2, List.drop_eq_getElem_cons hlen] at h1
      exact (List.cons.inj h1).1)
   have hsz : rb ≤ Wa.heap.size := by have := (uh HKa).size; have := uh HRB; omega
   clear hka
   generalize hm : k - pn = m at *
   have HM := hide hm
   clear hm
   have hm1 : m ≤ 1000 := by have := uh HM; omega
   go_wp2_with (at_builtin; refine wpList_append_lies _ rfl _ _ _ rfl rb 234 i0 _ 49 392 Tryz.underlying243 hi0 hz0 hz1 hz2 rfl (by omega) v m (Pa.flatP ((cl.drop pn).take m)) rfl ((uh HBa).alloc _) ⟨Wa.heap.size, 0, none⟩ 1 1 x.cells rfl (by rw [x.cells_length]) (World.news_of_block (cs := x.cells.toArray) (t := 234) (fr := (0, 0)) (heap_alloc_new Wa _)) x.one (by omega) (by unfold maxLen; omega) (by omega) (by simp; omega) (Wa.heap.size + 1) (by simp) ?_; intro gg cap' w3 hown3 hgrow hat hl3)
   go_roundw
   case rel =>
    refine ⟨k + 1, by go_num, by omega, by omega, ?_, ((uh HKa).alloc _).grown hgrow (fun j hj => Or.inr (by have := ((uh HBa).lt j hj).1; have := uh HRB; omega))⟩
    show World.ownsRow _ _ _ _ _ _ _
    rw [uh HNX, Pa.flatP_append, show k + 1 - pn = m + 1 by have := uh HM; omega]
    have e1 : Pa.flatP [x] = x.cells := by simp [Pa.flatP]
    rw [e1]
    exact hown3
   case measure => simp [intOf]; omega
  ·have hkn : k = n := by omega
   subst hkn
   have htk : (cl.drop pn).take (k - pn) = cl.drop pn := List.take_of_length_le (by rw [List.length_drop, uh HN]; omega)
   rw [htk] at HBr
   have HLD := hide (show (cl.drop pn).length = k - pn by rw [List.length_drop, uh HN])
   go_wp2_with fail
   refine (uh HLN).mono ?_
   rintro e w' ⟨rfl, hw⟩
   rw [hw]
   clear hw
   have hr1 := bigCells_of_range (oft_rangeP (uh HTr).blk)
   rw [o.cells_length] at hr1
   have hv1 : bigVal wr d 20 49 = .agg o.cells.toArray := by unfold bigVal; rw [hr1.1]
   have hh1 := hr1.2
   clear hr1
   have HLT := hide (lastTime_any d c o wr ((uh HTr).blk.cell (oft_get c o q 5 (by omega))) ((uh HTr).blk.cell (oft_get c o q 9 (by omega))) (uh HC) (uh HO))
   go_wp2_with fail
   refine (uh HLT).mono ?_
   rintro e Wl ⟨rfl, hkl⟩
   have HTl := hide ((uh HTr).still hkl)
   have HBl := hide (ownsK0 (uh HBr) hkl)
   have HKl := hide ((uh HKr).then hkl)
   clear hkl hv1 hh1 HLT c69
   have hr1 := bigCells_of_range (oft_rangeP (uh HTl).blk)
   rw [o.cells_length] at hr1
   have hv1 : bigVal Wl d 20 49 = .agg o.cells.toArray := by unfold bigVal; rw [hr1.1]
   have hh1 := hr1.2
   clear hr1
   generalize lastO c o = lt at *
   by_cases ht : t < lt
   ·have ht' : decide (t < lt) = true := by simpa using ht
    have HEM := hide (empty_any o Wl)
    unfold Pa.Pn.val at HEM
    go_wp2_with fail
    refine (uh HEM).mono ?_
    rintro e Wm ⟨rfl, hkm⟩
    have HTm := hide ((uh HTl).still hkm)
    have HBm := hide (ownsK0 (uh HBl) hkm)
    have HKm := hide ((uh HKl).then hkm)
    clear hkm hv1 hh1 HEM
    by_cases hz : o.cs = zeros48
    ·rw [if_neg (by simp [hz])] at HPO
     have hd : decide (o.cs = zeros48) = true := by simpa using hz
     rw [hd]
     clear hz hd
     go_wp2
     go_ret
     refine ⟨v, rfl, ?_, uh HKm⟩
     rw [uh HPO, List.append_nil, uh HLD, uh HRB]
     exact uh HBm
    ·rw [if_pos ⟨ht, hz⟩] at HPO
     have hd : decide (o.cs = zeros48) = false := by simpa using hz
     rw [hd]
     clear hz hd
     have hr1 := bigCells_of_range (oft_rangeP (uh HTm).blk)
     rw [o.cells_length] at hr1
     have hv1 : bigVal Wm d 20 49 = .agg o.cells.toArray := by unfold bigVal; rw [hr1.1]
     have hh1 := hr1.2
     clear hr1
     have hsz : rb ≤ Wm.heap.size := by have := (uh HKm).size; have := uh HRB; omega
     generalize hm : k - pn = m at *
     have hm1 : m ≤ 1000 := by omega
     have HM := hide hm
     clear hm
     go_wp2_with (at_builtin; refine wpList_append_lies _ rfl _ _ _ rfl rb 234 i0 _ 49 392 Tryz.underlying243 hi0 hz0 hz1 hz2 rfl (by omega) v m (Pa.flatP (cl.drop pn)) rfl ((uh HBm).alloc _) ⟨Wm.heap.size, 0, none⟩ 1 1 o.cells rfl (by rw [o.cells_length]) (World.news_of_block (cs := o.cells.toArray) (t := 234) (fr := (0, 0)) (heap_alloc_new Wm _)) o.one (by omega) (by unfold maxLen; omega) (by omega) (by simp; omega) (Wm.heap.size + 1) (by simp) ?_; intro gg cap' w3 hown3 hgrow hat hl3)
     go_ret
     refine ⟨_, rfl, ?_, ((uh HKm).alloc _).grown hgrow (fun j hj => Or.inr (by have := ((uh HBm).lt j hj).1; have := uh HRB; omega))⟩
     rw [uh HPO, Pa.flatP_append, List.length_append, uh HLD, uh HRB]
     have e1 : Pa.flatP [o] = o.cells := by simp [Pa.flatP]
     rw [e1]
     exact hown3
   ·have ht' : decide (t < lt) = false := by simpa using ht
    rw [if_neg (by simp [ht])] at HPO
    go_wp2
    go_ret
    refine ⟨v, rfl, ?_, uh HKl⟩
    rw [uh HPO, List.append_nil, uh HLD, uh HRB]
    exact uh HBl
end Go.Proofs.YtahnliehdjncdaaGreatDoor
namespace Go.Proofs.YtahnliehdjncdaaGreatDoor
open Go.RowKit
theorem run_append_zero {P : Program} {w : World} (base : Nat) (t ty e : TypeId) (i : TypeInfo) (size : Nat) (ht : P.underlying t = some (.slice e)) (hi : P.info? e = some i)
  (v : Value) (n : Nat) (xs : List Value) (hown : w.ownsRow base e size v n xs) (ad : Option Addr) (c : Nat) :
  (Builtin.append_ #[t, t] ty #[v, .slice ad 0 c]).run P w = .ok v w := by
 rcases hown.2 with ⟨rfl, rfl⟩ | ⟨g, cap, cur, rfl, _, _, hnc, _⟩
 ·cases ad <;> simp [Builtin.append_, run_underlying ht, sizeOf, typeInfo, hi, Builtin.lenOf, Builtin.firstCells, loadCells, loadCellsFrom]
 ·cases ad <;> simp [Builtin.append_, run_underlying ht, sizeOf, typeInfo, hi, Builtin.lenOf, Builtin.firstCells, hnc, storeCells, loadCells, loadCellsFrom]
theorem wpList_append_zero {P : Program} {w : World} {ops : Array Oper} {rest : List Oper} {o : Oper} {a : Act} {Q : Exit → Act → World → Prop} (hgd : o.guard = none) (s x : Operand) (t : TypeId)
  (ho : o.op = .call { callee := .builtin .append, args := #[s, x], argTypes := #[t, t] })
  (base : Nat) (e : TypeId) (i : TypeInfo) (size : Nat) (ht : P.underlying t = some (.slice e)) (hi : P.info? e = some i)
  (v : Value) (n : Nat) (xs : List Value) (hs : a.eval s = v) (hown : w.ownsRow base e size v n xs) (ad : Option Addr) (c : Nat) (hx : a.eval x = .slice ad 0 c)
  (h : wpList P ops Q rest (a.put o.dst v) w) : wpList P ops Q (o :: rest) a w := by
 refine wpList_plain hgd fun K hK => ?_
 have hrun := run_append_zero (P := P) (w := w) base t o.type e i size ht hi v n xs hown ad c
 unfold Oper.wp
 simp [execOp, ho, resolve, invoke, builtin, hs, hx, hrun, Result.andThen]
 exact hK _ _ h
end Go.Proofs.YtahnliehdjncdaaGreatDoor
namespace Go.Proofs.YtahnliehdjncdaaGreatDoor
open Go.RowKit
theorem ownsM {M : Nat → Prop} {w w' : World} {base : Nat} {t size : Nat} {v : Value} {n : Nat} {xs : List Value} (h : w.ownsRow base t size v n xs) (hk : Keeps M w w') (hn : ∀ i, v.ownBlock = some i → ¬ M i) : w'.ownsRow base t size v n xs := by
 refine ⟨h.1, ?_⟩
 rcases h.2 with h2 | ⟨g, cap, cur, rfl, hb, hg, r⟩
 ·exact .inl h2
 ·exact .inr ⟨g, cap, cur, rfl, hb, by rw [hk.block g (Array.getElem?_eq_some_iff.1 hg).1 (hn g rfl)]; exact hg, r⟩
theorem row_form {w : World} {base T size n : Nat} {v : Value} {xs : List Value} (h : w.ownsRow base T size v n xs) : ∃ a cap, v = .slice a n cap ∧ (0 < n → ∃ g, a = some ⟨g, 0, none⟩ ∧ base ≤ g) := by
 rcases h.2 with ⟨h1, h2⟩ | ⟨g, cap, cur, h1, hb, _⟩
 ·exact ⟨none, 0, by rw [h1, h2], fun h => by omega⟩
 ·exact ⟨some ⟨g, 0, none⟩, cap, h1, fun _ => ⟨g, rfl, hb⟩⟩
def encF : Nat → Nat → List Nat
 | 0, n => [n]
 | f + 1, n => if n ≤ 127 then [n] else (n % 128 + 128) :: encF f (n / 128)
def enc (n : Int) : List Nat := encF 9 n.toNat
def encL (l : List Int) : List Nat := l.flatMap enc
theorem encL_nil : encL [] = [] := rfl
theorem encL_cons (n : Int) (l : List Int) : encL (n :: l) = enc n ++ encL l := by simp [encL]
theorem encL_append (a b : List Int) : encL (a ++ b) = encL a ++ encL b := by simp [encL]
theorem encL_one (n : Int) : encL [n] = enc n := by simp [encL]
theorem encF_length (f n : Nat) : (encF f n).length ≤ f + 1 := by
 induction f generalizing n with
 | zero => simp [encF]
 | succ f ih =>
  unfold encF
  split
  ·simp
  ·have := ih (n / 128); simp; omega
theorem enc_length (n : Int) : (enc n).length ≤ 10 := encF_length 9 _
theorem encL_length (l : List Int) : (encL l).length ≤ 10 * l.length := by
 induction l with
 | nil => simp [encL]
 | cons a l ih => have := enc_length a; rw [encL_cons, List.length_append, List.length_cons]; omega
theorem encF_small (f n : Nat) (h : n < 128 ^ (f + 1)) : ∀ x ∈ encF f n, x < 256 := by
 induction f generalizing n with
 | zero => intro x hx; simp [encF] at hx; subst hx; omega
 | succ f ih =>
  intro x hx
  unfold encF at hx
  split at hx
  ·simp at hx; omega
  ·rcases List.mem_cons.1 hx with hx | hx
   ·omega
   ·exact ih (n / 128) (by have h2 : 128 ^ (f + 1 + 1) = 128 ^ (f + 1) * 128 := Nat.pow_succ .. ; rw [h2] at h; exact (Nat.div_lt_iff_lt_mul (by omega)).2 h) x hx
theorem enc_small (n : Int) (h : n ≤ 9223372036854775807) : ∀ x ∈ enc n, x < 256 := encF_small 9 _ (by
   have : (128 : Nat) ^ (9 + 1) = 1180591620717411303424 := by decide
   rw [this]; omega)
def bytesV (l : List Nat) : List Value := l.map fun (n : Nat) => .int .u8 (n : Int)
theorem bytesV_append (a b : List Nat) : bytesV (a ++ b) = bytesV a ++ bytesV b := by simp [bytesV]
theorem infoU8 : (Tryz.prog.info? 5).map (fun i => (i.zero, i.size, i.bytes)) = some (some (.int .u8 0), 1, 1) := by kernel_rfl
def WRow (w : World) (v : Value) (bs : List Nat) : Prop :=
 w.ownsRow 0 5 1 v bs.length (bytesV bs) ∨ ∃ g, v = .slice (some ⟨g, 0, none⟩) bs.length bs.length ∧ w.heap[g]? = some (.cells (bytesV bs).toArray 5 (bs.length, bs.length + 1))
theorem WRow.lt {w : World} {v : Value} {bs : List Nat} (h : WRow w v bs) (i : Nat) (hi : v.ownBlock = some i) : i < w.heap.size := by
 rcases h with h | ⟨g, rfl, h⟩
 ·exact (h.lt i hi).2
 ·have : g = i := by simpa [Value.ownBlock] using hi
  subst this
  exact (Array.getElem?_eq_some_iff.1 h).1
theorem WRow.keeps {M : Nat → Prop} {w w' : World} {v : Value} {bs : List Nat} (h : WRow w v bs) (hk : Keeps M w w') (hn : ∀ i, v.ownBlock = some i → ¬ M i) : WRow w' v bs := by
 rcases h with h | ⟨g, rfl, h⟩
 ·exact .inl (ownsM h hk hn)
 ·exact .inr ⟨g, rfl, by rw [hk.block g (Array.getElem?_eq_some_iff.1 h).1 (hn g rfl)]; exact h⟩
theorem WRow.form {w : World} {v : Value} {bs : List Nat} (h : WRow w v bs) : ∃ a cap, v = .slice a bs.length cap := by
 rcases h with h | ⟨g, rfl, h⟩
 ·obtain ⟨a, cap, hv, _⟩ := row_form h; exact ⟨a, cap, hv⟩
 ·exact ⟨_, _, rfl⟩
theorem WRow.cells {w : World} {v : Value} {bs : List Nat} (h : WRow w v bs) : (bs.length = 0 ∧ v = .slice none 0 0) ∨ ∃ g cap, v = .slice (some ⟨g, 0, none⟩) bs.length cap ∧ ∀ (i : Nat) u, (bytesV bs)[i]? = some u → w.cell? ⟨g, i, none⟩ = some u := by
 rcases h with h | ⟨g, rfl, h⟩
 ·rcases h.2 with ⟨h1, h2⟩ | ⟨g, cap, cur, h1, _, h3, h4, h5, h6, h7⟩
  ·exact .inl ⟨h2, h1⟩
  ·refine .inr ⟨g, cap, h1, fun i u hu => ?_⟩
   have hi : i < bs.length := by have := (List.getElem?_eq_some_iff.1 hu).1; simpa [bytesV] using this
   have : cur[i]? = some u := by
    rw [← h7, List.getElem?_take, if_pos (by omega)] at hu
    simpa using hu
   simp [World.cell?, h3, this]
 ·refine .inr ⟨g, _, rfl, fun i u hu => ?_⟩
  simp [World.cell?, h, hu]
theorem run_append_w (w : World) (ty : TypeId) (v : Value) (bs : List Nat) (h : WRow w v bs) (ad : Addr) (c : Nat) (y : Nat) (hnews : w.cell? ad = some (.int .u8 (y : Int))) (had : ad.add 0 = ad) (hl : bs.length ≤ 140737488355320) :
  ∃ g cap w', (Builtin.append_ #[134, 134] ty #[v, .slice (some ad) 1 c]).run Tryz.prog w = .ok (.slice (some ⟨g, 0, none⟩) (bs.length + 1) cap) w' ∧
   w'.ownsRow 0 5 1 (.slice (some ⟨g, 0, none⟩) (bs.length + 1) cap) (bs.length + 1) (bytesV bs ++ [.int .u8 (y : Int)]) ∧ w.grownBy w' v.ownBlock ∧ (v.ownBlock = some g ∨ g = w.heap.size) ∧ g < w'.heap.size := by
 obtain ⟨i0, hi0, hz0, hz1, hz2⟩ := info_parts infoU8
 have hn : ∀ (j : Nat) u, [Value.int .u8 (y : Int)][j]? = some u → w.cell? (ad.add j) = some u := by
  intro j u hu
  cases j with
  | zero => rw [had, hnews]; exact hu
  | succ j => simp at hu
 rcases h with h | ⟨g, rfl, h⟩
 ·exact run_append_lies (P := Tryz.prog) w 134 ty 0 5 i0 _ 1 1 Tryz.underlying134 hi0 hz0 hz1 hz2 rfl (by omega) v bs.length (bytesV bs) h ad 1 c [.int .u8 (y : Int)] rfl hn (by simp [Value.oneCell']) (by omega) (by unfold maxLen; omega) (by omega) (Nat.zero_le _) w.heap.size rfl
 ·have hr := run_append_grow (P := Tryz.prog) w 134 ty 5 i0 _ Tryz.underlying134 hi0 hz0 ⟨g, 0, none⟩ bs.length bs.length (bytesV bs) (by simp [bytesV, hz1]) (fun j u hu => by
      have hadd : (⟨g, 0, none⟩ : Addr).add j = ⟨g, j, none⟩ := by unfold Addr.add; split <;> simp_all
      rw [hadd]
      simp [World.cell?, h, hu]) ad 1 c [.int .u8 (y : Int)] (by simp [hz1]) hn (by omega) (by omega) (growslice_fits (by omega) (by rw [hz2]; omega))
  have hge := grownCap_ge w (bs.length + 1) bs.length 5
  have hcm : grownCap w (bs.length + 1) bs.length 5 ≤ maxLen := grownCap_le_maxLen w (bs.length + 1) bs.length 5 (by unfold maxLen; omega)
  refine ⟨w.heap.size, _, _, hr, ⟨by simp [bytesV], .inr ⟨w.heap.size, _, _, rfl, Nat.zero_le _, heap_alloc_new w.drew _, hge, hcm, ?_, ?_⟩⟩, ⟨rfl, rfl, rfl, by simp, fun k hk _ => Below.heap_alloc w.drew _ _ hk⟩, .inr rfl, by simp⟩
  ·simp only [Array.size_append, List.size_toArray, size_zeroCells]
   simp [bytesV, Value.cells]
   omega
  ·simp only [Array.toList_append]
   have e : (bs.length + 1) * 1 = (bytesV bs ++ [Value.int .u8 (y : Int)]).length := by simp [bytesV]
   rw [e]
   exact List.take_left
theorem wpList_append_w {w : World} {ops : Array Oper} {rest : List Oper} {o : Oper} {a : Act} {Q : Exit → Act → World → Prop} (hgd : o.guard = none) (s x : Operand)
  (ho : o.op = .call { callee := .builtin .append, args := #[s, x], argTypes := #[134, 134] })
  (v : Value) (bs : List Nat) (n : Nat) (hbn : bs.length = n) (hs : a.eval s = v) (hw : WRow w v bs) (ad : Addr) (c : Nat) (y : Nat) (hx : a.eval x = .slice (some ad) 1 c) (hnews : w.cell? ad = some (.int .u8 (y : Int))) (had : ad.add 0 = ad) (hl : n ≤ 140737488355320) (H : Nat) (hH : w.heap.size = H)
  (h : ∀ g cap w', w'.ownsRow 0 5 1 (.slice (some ⟨g, 0, none⟩) (n + 1) cap) (n + 1) (bytesV bs ++ [.int .u8 (y : Int)]) → w.grownBy w' v.ownBlock → (v.ownBlock = some g ∨ g = H) → g < w'.heap.size → wpList Tryz.prog ops Q rest (a.put o.dst (.slice (some ⟨g, 0, none⟩) (n + 1) cap)) w') : wpList Tryz.prog ops Q (o :: rest) a w := by
 subst hbn hH
 refine wpList_plain hgd fun K hK => ?_
 obtain ⟨g, cap, w', hr, h2, h3, h4, h5⟩ := run_append_w w o.type v bs hw ad c y hnews had hl
 unfold Oper.wp execOp
 simp only [ho, resolve, invoke, builtin, Sem.run_bind, Sem.run_pure, Result.andThen_ok, List.map_toArray, List.map_cons, List.map_nil, hs, hx, hr]
 exact hK _ _ (h g cap w' h2 h3 h4 h5)
structure WRep (w : World) (b : Nat) (v : Value) (bs : List Nat) : Prop where
 blk : Blk w b [v] 136
 row : WRow w v bs
 ne : v.ownBlock ≠ some b
 small : ∀ x ∈ bs, x < 256
def WFoot (b : Nat) (v : Value) (i : Nat) : Prop := i = b ∨ v.ownBlock = some i
theorem WRep.keeps {M : Nat → Prop} {w w' : World} {b : Nat} {v : Value} {bs : List Nat} (h : WRep w b v bs) (hk : Keeps M w w') (hn : ∀ i, WFoot b v i → ¬ M i) : WRep w' b v bs :=
 ⟨h.blk.keeps hk (hn b (.inl rfl)), h.row.keeps hk (fun i hi => hn i (.inr hi)), h.ne, h.small⟩
theorem WRep.still {w w' : World} {b : Nat} {v : Value} {bs : List Nat} (h : WRep w b v bs) (hk : Keeps (fun _ => False) w w') : WRep w' b v bs := h.keeps hk (fun _ _ h => h)
theorem WRep.lt {w : World} {b : Nat} {v : Value} {bs : List Nat} (h : WRep w b v bs) (i : Nat) (hi : WFoot b v i) : i < w.heap.size := by
 rcases hi with hi | hi
 ·rw [hi]; exact h.blk.lt
 ·exact h.row.lt i hi
def Wrote (w : World) (b : Nat) (v : Value) (bs : List Nat) (w' : World) : Prop :=
 ∃ v', WRep w' b v' bs ∧ (∀ i, v'.ownBlock = some i → v.ownBlock = some i ∨ w.heap.size ≤ i) ∧ Keeps (WFoot b v) w w'
theorem Wrote.refl {w : World} {b : Nat} {v : Value} {bs : List Nat} (h : WRep w b v bs) : Wrote w b v bs w := ⟨v, h, fun _ hi => .inl hi, Keeps.refl _ _⟩
theorem WRep.cells {w w' : World} {b : Nat} {v : Value} {bs : List Nat} {o : Obj} (h : WRep w b v bs) (hg : (w.alloc o).grownBy w' v.ownBlock) : w'.cell? ⟨b, 0, none⟩ = some v ∧ w'.frozen? ⟨b, 0, none⟩ = false := by
 have hb1 : w'.heap[b]? = w.heap[b]? := by
  rw [hg.block b (by have := h.blk.lt; simp; omega) (fun e => h.ne e.symm), Below.heap_alloc _ _ _ h.blk.lt]
 exact ⟨(World.cell?_of_block (a := ⟨b, 0, none⟩) hb1).trans (h.blk.cell rfl), (World.frozen?_of_block (a := ⟨b, 0, none⟩) hb1).trans (h.blk.frozen 0)⟩
theorem WRep.more {w w' : World} {b : Nat} {v : Value} {bs : List Nat} {o : Obj} {g n cap y : Nat} (h : WRep w b v bs) (hn : bs.length = n) (hg : (w.alloc o).grownBy w' v.ownBlock) (hown : w'.ownsRow 0 5 1 (.slice (some ⟨g, 0, none⟩) (n + 1) cap) (n + 1) (bytesV bs ++ [.int .u8 (y : Int)]))
  (hat : v.ownBlock = some g ∨ g = w.heap.size + 1) (hy : y < 256) : Wrote w b v (bs ++ [y]) (w'.setCell ⟨b, 0, none⟩ (.slice (some ⟨g, 0, none⟩) (n + 1) cap)) := by
 have hlt := h.blk.lt
 have hb1 : w'.heap[b]? = w.heap[b]? := by
  rw [hg.block b (by simp; omega) (fun e => h.ne e.symm), Below.heap_alloc _ _ _ hlt]
 have hblk : Blk w' b [v] 136 := by unfold Blk; rw [hb1]; exact h.blk
 have hgb : g ≠ b := by
  rcases hat with e | e
  ·intro e2; exact h.ne (by rw [e, e2])
  ·omega
 refine ⟨.slice (some ⟨g, 0, none⟩) (n + 1) cap, ⟨hblk.setCell 0 _, ?_, ?_, ?_⟩, ?_, ?_⟩
 ·refine .inl ?_
  rw [List.length_append, hn, bytesV_append]
  exact (ownsM hown ((Keeps.refl (fun i => i = b) w').setCell (p := ⟨b, 0, none⟩) (Or.inl rfl) _) (fun i hi e => hgb ((show g = i by simpa [Value.ownBlock] using hi).trans e)))
 ·intro e; exact hgb (by simpa [Value.ownBlock] using e)
 ·intro x hx
  rcases List.mem_append.1 hx with hx | hx
  ·exact h.small x hx
  ·rw [List.mem_singleton] at hx; omega
 ·intro i hi
  have hi' : g = i := by simpa [Value.ownBlock] using hi
  rcases hat with e | e
  ·exact .inl (by rw [e, hi'])
  ·exact .inr (by omega)
 ·exact (((Keeps.refl (WFoot b v) w).alloc o).grown hg (fun k hk => .inl (.inr hk))).setCell (p := ⟨b, 0, none⟩) (Or.inl (.inl rfl)) _
theorem Wrote.then {w w1 w2 : World} {b : Nat} {v v1 : Value} {bs2 : List Nat} (hv : ∀ i, v1.ownBlock = some i → v.ownBlock = some i ∨ w.heap.size ≤ i) (hk : Keeps (WFoot b v) w w1) (h2 : Wrote w1 b v1 bs2 w2) : Wrote w b v bs2 w2 := by
 obtain ⟨v2, hw2, hv2, hk2⟩ := h2
 have hs := hk.size
 refine ⟨v2, hw2, fun i hi => ?_, hk.trans hk2 (fun i hi hlt => ?_)⟩
 ·rcases hv2 i hi with h | h
  ·exact hv i h
  ·exact .inr (by omega)
 ·rcases hi with hi | hi
  ·exact .inl hi
  ·rcases hv i hi with h | h
   ·exact .inr h
   ·omega
theorem number_any (b : Nat) (v : Value) (bs : List Nat) (n : Int) (w : World) (h : WRep w b v bs) (n0 : 0 ≤ n) (n1 : n ≤ 9223372036854775807) (hl : bs.length ≤ 140737488355300) :
  Calls Tryz.prog 71 #[.pointer (some ⟨b, 0, none⟩), .int .i64 n] w fun e w' => e = .returned (.tuple #[]) ∧ Wrote w b v (bs ++ enc n) w' := by
 obtain ⟨m, rfl⟩ := Int.eq_ofNat_of_zero_le n0
 have HS := hide (enc_small (m : Int) n1)
 have HE := hide (show enc (m : Int) = encF 9 m by unfold enc; rw [Int.toNat_natCast])
 have HW := hide h
 have wq : IntKind.u64.wrap (m : Int) = (m : Int) := by rw [IntKind.wrap_u64]; omega
 clear h n0
 go_enter Tryz.func71, Tryz.ntmps71
 go_wp2
 go_loopw [4] (fun x wr => ∃ (f r : Nat) (pre : List Nat) (v' : Value), x = .int .u64 r ∧ r ≤ 9223372036854775807 ∧ f ≤ 9 ∧ r < 128 ^ (f + 1) ∧ pre.length + f = bs.length + 9 ∧ Hid (bs ++ enc (m : Int) = pre ++ encF f r) ∧ Hid (WRep wr b v' pre) ∧ Hid (∀ i, v'.ownBlock = some i → v.ownBlock = some i ∨ w.heap.size ≤ i) ∧ Hid (Keeps (WFoot b v) w wr)) (fun x _ => (intOf x).toNat)
 case atStart => exact ⟨9, m, bs, v, rfl, by omega, by omega, (by have : (128 : Nat) ^ (9 + 1) = 1180591620717411303424 := (by decide); omega), rfl, by show _ = _; rw [uh HE], HW, fun i hi => .inl hi, Keeps.refl _ _⟩
 case round =>
  obtain ⟨f, r, pre, v', rfl, hr, hf, hrf, hpl, HEQ, HWr, HVr, HKr⟩ := hrel
  obtain ⟨va, vcap, hv⟩ := (uh HWr).row.form
  subst hv
  have hc0 : wr.cell? ⟨b, 0, none⟩ = some (.slice va pre.length vcap) := (uh HWr).blk.cell rfl
  have hfz := (uh HWr).blk.frozen
  have hlt := (uh HWr).blk.lt
  have hbw := (uh HKr).size
  have hpl2 : pre.length ≤ 140737488355310 := by omega
  have HSP := hide (uh HWr).small
  generalize hpn : pre.length = pl at *
  have HPN := hide hpn
  have HOW := hide (show WRow wr (.slice va pl vcap) pre from (uh HWr).row)
  clear hpn
  have HNE := hide (uh HWr).ne
  have w8 : IntKind.u8.wrap (r : Int) = ((r % 256 : Nat) : Int) := by rw [IntKind.wrap_u8']; omega
  by_cases h127 : 127 < r
  ·have hd : decide ((127 : Int) < (r : Int)) = true := by simp; omega
   have or8 : bits BinOp.or IntKind.u8 ((r % 256 : Nat) : Int) 128 = ((r % 128 + 128 : Nat) : Int) := by
    have h1 := u8_or_nat (r % 256) 128 (by omega) (by omega)
    rw [show ((128 : Nat) : Int) = 128 from rfl] at h1
    rw [h1]
    congr 1
    have hall : ∀ x : Fin 256, x.val ||| 128 = x.val % 128 + 128 := by decide
    have := hall ⟨r % 256, by omega⟩
    simp only at this
    rw [this]
    omega
   generalize hy : r % 128 + 128 = y at *
   have HY := hide hy
   clear hy
   generalize r % 256 = r8 at *
   go_wp2_with (at_builtin; refine wpList_append_w rfl _ _ rfl (.slice va pl vcap) pre pl (uh HPN) rfl ((uh HOW).keeps ((Keeps.refl (fun _ => False) wr).alloc _) (fun _ _ h => h)) ⟨wr.heap.size, 0, none⟩ 1 y rfl (by simp) rfl (by omega) (wr.heap.size + 1) (by simp) ?_; intro gg cap' w3 hown3 hgrow hat hl3; have hcw := WRep.cells (uh HWr) hgrow; obtain ⟨hc3, hf3⟩ := hcw)
   have HM := hide (WRep.more (y := y) (uh HWr) (uh HPN) hgrow hown3 hat (by have := uh HY; omega))
   obtain ⟨f', hf'⟩ : ∃ f', f = f' + 1 := by
    cases f with
    | zero => simp at hrf; omega
    | succ f => exact ⟨f, rfl⟩
   subst hf'
   go_roundw
   case rel =>
    obtain ⟨v2, hw2, hv2, hk2⟩ := Wrote.then (uh HVr) (uh HKr) (uh HM)
    refine ⟨f', r / 128, pre ++ [y], v2, by go_num, by omega, by omega, ?_, by rw [List.length_append, uh HPN, List.length_singleton]; omega, ?_, hw2, hv2, hk2⟩
    ·rw [Nat.pow_succ] at hrf
     exact (Nat.div_lt_iff_lt_mul (by omega)).2 hrf
    ·show _ = _
     rw [uh HEQ, List.append_assoc]
     conv => lhs; unfold encF
     rw [if_neg (by omega), uh HY]
     rfl
   case measure => simp [intOf]; omega
  ·have hd : decide ((127 : Int) < (r : Int)) = false := by simp; omega
   have HR := hide (show encF f r = [r % 256] by
      cases f with
      | zero => unfold encF; rw [Nat.mod_eq_of_lt (by omega)]
      | succ f => unfold encF; rw [if_pos (by omega), Nat.mod_eq_of_lt (by omega)])
   have HY := hide (show r % 256 < 256 by omega)
   generalize r % 256 = y at *
   go_wp2_with (at_builtin; refine wpList_append_w rfl _ _ rfl (.slice va pl vcap) pre pl (uh HPN) rfl ((uh HOW).keeps ((Keeps.refl (fun _ => False) wr).alloc _) (fun _ _ h => h)) ⟨wr.heap.size, 0, none⟩ 1 y rfl (by simp) rfl (by omega) (wr.heap.size + 1) (by simp) ?_; intro gg cap' w3 hown3 hgrow hat hl3; have hcw := WRep.cells (uh HWr) hgrow; obtain ⟨hc3, hf3⟩ := hcw)
   have HM := hide (WRep.more (y := y) (uh HWr) (uh HPN) hgrow hown3 hat (uh HY))
   go_end0
   refine ⟨rfl, ?_⟩
   rw [uh HEQ, uh HR]
   exact Wrote.then (uh HVr) (uh HKr) (uh HM)
end Go.Proofs.YtahnliehdjncdaaGreatDoor
namespace Go.Proofs.YtahnliehdjncdaaGreatDoor
open Go.RowKit
attribute [local go_sem ↓] Pa.execOp_loadP Pa.execOp_storeP execOp_loadC execOp_buildK execOp_buildN execOp_storeC
attribute [local go_sem] Pa.run_loadP run_loadC run_buildK run_buildN zeros48_length bigVal_drew hasBig_drew run_fieldC run_storeC
theorem owns_zero {w : World} {base T size n : Nat} {v : Value} {xs : List Value} (h : w.ownsRow base T size v n xs) : w.ownsRow 0 T size v n xs := by
 refine ⟨h.1, ?_⟩
 rcases h.2 with h2 | ⟨g, cap, cur, h1, hb, r⟩
 ·exact .inl h2
 ·exact .inr ⟨g, cap, cur, h1, Nat.zero_le _, r⟩
theorem counted_any (d q : Nat) (og : Option Nat) (c : Cfg) (o : Pa.Pn) (cl : List Pa.Pn) (t : Int) (w : World) (h : ORep w d q og c o cl) (hc : c.paned) (hl : cl.length ≤ 1000) (hp : ∀ p ∈ cl, OkP c p) (ho : OkP c o)
  (hcs : ∀ x ∈ o.cs, 0 ≤ x ∧ x ≤ 1125899906842624) (hls : ∀ p ∈ cl, ∀ x ∈ p.cs, 0 ≤ x ∧ x ≤ 1125899906842624) :
  Calls Tryz.prog 221 #[.pointer (some ⟨d, 0, none⟩), .int .i64 t] w fun e w' => e = .returned (.agg (numsV (countedO c o cl t)).toArray) ∧ Keeps (fun _ => False) w w' := by
 obtain ⟨W, hW⟩ : ∃ W, W = (w.alloc (.cells (numsV zeros48).toArray 232)).alloc (.cells (numsV zeros48).toArray 232) := ⟨_, rfl⟩
 have HK := hide (show Keeps (fun _ => False) w W by rw [hW]; exact ((Keeps.refl _ _).alloc _).alloc _)
 have HR := hide (show Blk W w.heap.size (numsV zeros48) 232 by rw [hW]; exact (Blk.new w _ _).alloc _)
 have HS := hide (show Blk W (w.heap.size + 1) (numsV zeros48) 232 by rw [hW]; exact Blk.newAt (by simp) _ _)
 have HW := hide (show (w.alloc (.cells #[.int .i64 0, .int .i64 0, .int .i64 0, .int .i64 0, .int .i64 0, .int .i64 0, .int .i64 0, .int .i64 0, .int .i64 0, .int .i64 0, .int .i64 0, .int .i64 0, .int .i64 0, .int .i64 0, .int .i64 0, .int .i64 0, .int .i64 0, .int .i64 0, .int .i64 0, .int .i64 0, .int .i64 0, .int .i64 0, .int .i64 0, .int .i64 0, .int .i64 0, .int .i64 0, .int .i64 0, .int .i64 0, .int .i64 0, .int .i64 0, .int .i64 0, .int .i64 0, .int .i64 0, .int .i64 0, .int .i64 0, .int .i64 0, .int .i64 0, .int .i64 0, .int .i64 0, .int .i64 0, .int .i64 0, .int .i64 0, .int .i64 0, .int .i64 0, .int .i64 0, .int .i64 0, .int .i64 0, .int .i64 0] 232)).alloc (.cells #[.int .i64 0, .int .i64 0, .int .i64 0, .int .i64 0, .int .i64 0, .int .i64 0, .int .i64 0, .int .i64 0, .int .i64 0, .int .i64 0, .int .i64 0, .int .i64 0, .int .i64 0, .int .i64 0, .int .i64 0, .int .i64 0, .int .i64 0, .int .i64 0, .int .i64 0, .int .i64 0, .int .i64 0, .int .i64 0, .int .i64 0, .int .i64 0, .int .i64 0, .int .i64 0, .int .i64 0, .int .i64 0, .int .i64 0, .int .i64 0, .int .i64 0, .int .i64 0, .int .i64 0, .int .i64 0, .int .i64 0, .int .i64 0, .int .i64 0, .int .i64 0, .int .i64 0, .int .i64 0, .int .i64 0, .int .i64 0, .int .i64 0, .int .i64 0, .int .i64 0, .int .i64 0, .int .i64 0, .int .i64 0] 232) = W from hW.symm)
 have HSZ := hide (show W.heap.size = w.heap.size + 2 by rw [hW]; simp)
 have HPN := hide (panes_any d q og c o cl t W (h.still (uh HK)) hc hl hp ho)
 have HCO := hide (sumP_panes c o cl t)
 have HPL := hide (show (panesO c o cl t).length ≤ 1001 by
    unfold panesO
    rw [List.length_append, List.length_drop]
    split <;> simp <;> omega)
 have HLS := hide (show ∀ p ∈ panesO c o cl t, ∀ x ∈ p.cs, 0 ≤ x ∧ x ≤ 1125899906842624 from fun p hp => by
    unfold panesO at hp
    rcases List.mem_append.1 hp with h1 | h1
    ·exact hls p (List.mem_of_mem_drop h1)
    ·split at h1
     ·rw [List.mem_singleton] at h1; rw [h1]; exact hcs
     ·cases h1)
 generalize panesO c o cl t = L at *
 clear hW hc hp ho hcs hls h hl
 go_enter Tryz.func221, Tryz.ntmps221
 go_wp2_with fail
 rw [uh HW]
 refine (uh HPN).mono ?_
 rintro e W1 ⟨v, rfl, hown1, hk1⟩
 obtain ⟨va, vcap, hv, hva⟩ := row_form hown1
 subst hv
 have HR1 := hide ((uh HR).keeps hk1 (fun h => h))
 have HS1 := hide ((uh HS).keeps hk1 (fun h => h))
 have HK1 := hide ((uh HK).then hk1)
 have HOW := hide hown1
 have HVA := hide hva
 clear hk1 HPN HW hown1 hva HR HS HK
 generalize hrb : w.heap.size = rb at *
 have HRB := hide hrb
 clear hrb
 generalize hn : L.length = n at *
 have HN := hide hn
 clear hn
 have hn1 : n ≤ 1001 := uh HPL
 go_wp2_with fail
 go_loopw [12] (fun i wr => ∃ k : Nat, i = .int .i64 k ∧ k ≤ n ∧ Hid (Blk wr (rb + 1) (numsV (sumP (L.take k))) 232) ∧ Hid (Keeps (fun i => i = rb + 1) W1 wr)) (fun i _ => n - (intOf i).toNat)
 case atStart => exact ⟨0, rfl, Nat.zero_le _, HS1, Keeps.refl _ _⟩
 case round =>
  obtain ⟨k, rfl, hk2, HBr, HKr⟩ := hrel
  have hk0 : (0 : Int) ≤ (k : Int) := by omega
  by_cases hlk : k < n
  ·obtain ⟨g, hg, hgb⟩ := uh HVA (by omega)
   subst hg
   have hkl : k < L.length := by rw [uh HN]; exact hlk
   have hgr : g ≠ rb + 1 := by have := uh HSZ; omega
   have HBW := hide (show Pa.BRow wr g vcap L from by
      refine Pa.brow_of_owns (uh HN) (owns_zero (ownsM (uh HOW) (uh HKr) (fun i hi h => ?_)))
      have : g = i := by simpa [Value.ownBlock] using hi
      omega)
   have hrg := bigCells_of_range ((uh HBW).range k hkl)
   rw [Pa.Pn.cells_length] at hrg
   have hbv : bigVal wr g (k * 49) 49 = .agg (Pa.pnAt L k).cells.toArray := by unfold bigVal; rw [hrg.1]
   have hbh : hasBig wr g (k * 49) 49 = true := hrg.2
   have HD := hide (Pa.pnAt_drop L k hkl)
   have HM := hide (show Pa.pnAt L k ∈ L by
      have : Pa.pnAt L k = L[k] := by simp [Pa.pnAt, List.getD_eq_getElem?_getD, List.getElem?_eq_getElem hkl]
      rw [this]; exact List.getElem_mem hkl)
   clear hrg hkl
   generalize Pa.pnAt L k = x at *
   obtain ⟨W2, hst, hb2, hk2w⟩ := store_new x wr
   have HB2 := hide hb2
   have hxl := x.len
   have hxc := x.cells_length
   have hpt := bigVal_Blk_part hb2 1 48 (numsV x.cs) (by
      unfold Pa.Pn.cells
      simp only [List.drop_succ_cons, List.drop_zero]
      exact List.take_of_length_le (by simp [x.len])) (by simp [numsV, x.len])
   have hv2 : bigVal W2 wr.heap.size 1 48 = .agg (numsV x.cs).toArray := hpt.1
   have hh2 := hpt.2
   have HBa := hide ((uh HBr).keeps hk2w (fun h => h))
   have HKa := hide ((uh HKr).trans hk2w (fun _ h => h.elim))
   have HXB := hide (show ∀ z ∈ x.cs, 0 ≤ z ∧ z ≤ 2305843009213693952 from fun z hz => by have := uh HLS x (uh HM) z hz; omega)
   have HSB := hide (show ∀ z ∈ sumP (L.take k), 0 ≤ z ∧ z ≤ 2305843009213693952 from fun z hz => by
      have := sumP_bd 1125899906842624 (by omega) _ (fun p hp => uh HLS p (List.mem_of_mem_take hp)) z hz
      have hle : (L.take k).length ≤ 1001 := by rw [List.length_take, uh HN]; have := uh HPL; omega
      omega)
   have HNX := hide (show sumP (L.take (k + 1)) = plusC (sumP (L.take k)) x by
      rw [← sumP_snoc]
      congr 1
      have hlen : k < L.length := by rw [uh HN]; omega
      rw [List.take_succ_eq_append_getElem hlen]
      congr 2
      have h1 := uh HD
      rw [List.drop_eq_getElem_cons hlen] at h1
      exact (List.cons.inj h1).1)
   have hgs : g ≠ wr.heap.size := by have := (uh HBW).lt; omega
   clear hb2 hk2w hpt hgr
   have hin : (k : Int) < (n : Int) := by omega
   go_wp2_with fail
   refine (add_any (rb + 1) (sumP (L.take k)) x.cs W2 (sumP_length _) x.len (uh HBa) (uh HSB) (uh HXB)).mono ?_
   rintro e Wb ⟨rfl, hbb, hkb⟩
   have HBb := hide hbb
   have HKb := hide ((uh HKa).then hkb)
   clear hbb hkb
   go_wp2
   go_roundw
   case rel =>
    refine ⟨k + 1, by go_num, by omega, ?_, uh HKb⟩
    show Blk _ _ _ _
    rw [uh HNX]
    exact uh HBb
   case measure => simp [intOf]; omega
  ·have hkn : k = n := by omega
   subst hkn
   have htk : L.take k = L := List.take_of_length_le (by rw [uh HN]; omega)
   rw [htk, uh HCO] at HBr
   have hsl : (countedO c o cl t).length = 48 := by rw [← uh HCO]; exact sumP_length _
   have HRl := hide ((uh HR1).keeps (uh HKr) (by omega))
   obtain ⟨S, hS⟩ : ∃ S, S = countedO c o cl t := ⟨_, rfl⟩
   rw [← hS] at HBr hsl
   have HSS := hide hS
   clear hS
   have hr3 := bigVal_Blk (uh HBr) 48 (by simp [numsV, hsl])
   have hv3 : bigVal wr (rb + 1) 0 48 = .agg (numsV S).toArray := hr3.1
   have hh3 := hr3.2
   have hth : wr.there rb 0 48 := fun j hj => ⟨(uh HRl).some (by simpa [numsV, zeros48_length] using hj), (uh HRl).frozen _⟩
   have HLV := hide (load_end wr rb S (uh HRl) hsl)
   clear hr3
   go_wp2
   refine bodyPost_ret (v := .agg (numsV S).toArray) ?_ rfl ⟨by rw [uh HSS], ?_⟩
   ·simp [results, Tryz.results221, asAddr, uh HLV]
   ·have hrb := uh HRB
    exact Keeps.setCells (Or.inr (by omega)) _ _ _ ((uh HK1).trans (uh HKr) (fun i hi hlt => by omega))
end Go.Proofs.YtahnliehdjncdaaGreatDoor
