import Derived.Test.YtahnliehdjncdaaGreatDoorXBD
import Derived.Test.YtahnliehdjncdaaGreatDoorXBC
import Derived.Test.YtahnliehdjncdaaGreatDoorXBB
import Derived.Test.YtahnliehdjncdaaGreatDoorXAI
set_option maxRecDepth 100000
set_option maxHeartbeats 16000000
namespace Go.Proofs.YtahnliehdjncdaaGreatDoor
open Go.RowKit
def NumsAt (w : World) (base : Nat) (v : Value) (l : List Int) : Prop := w.ownsRow base 3 1 v l.length (l.map (.int .i64 ·))
theorem qry_any {rel last : Int} (k : Nat) (b : NB) (c : Cfg) (nt : Note) (a m : Int) (args : Array Value) (w : World) (ha : args = capsN b.d ++ #[.int .i64 a, .int .i64 m]) (h : NRep w k b c nt) (hi : NInv k c rel last nt) (hr : rel ≤ 651562446200) (hlast : last ≤ 4611686018427387904)
  (hv : validB c = true) (hk : c.kind = k) (k1 : 1 ≤ k) (k5 : k ≤ 5) (m0 : -100 ≤ m) (m1 : m ≤ 4611686018427387904) :
  Calls Tryz.prog (qryF k) args w fun e w' => ∃ og n cp, e = .returned (.tuple #[.slice og n cp, .int .i64 (qryN k c nt a m).1]) ∧ NumsAt w' w.heap.size (.slice og n cp) (qryN k c nt a m).2 ∧ Keeps (fun _ => False) w w' := by
 subst ha
 have hnil : ∀ w' : World, NumsAt w' w.heap.size (.slice none 0 0) [] := fun w' => World.ownsRow_nil _ _ _ _
 rcases five k1 k5 with e | e | e | e | e
 ·subst e
  obtain ⟨a1, a2, a3, a4⟩ := valid_count hv hk rfl
  cases hin : inB a 1 c.window
  ·refine (cntQuery_no b.d b.r b.g c nt.bs a m w (h.cnt rfl) hin).mono ?_
   rintro e w' ⟨rfl, hk⟩
   have hq : qryN 1 c nt a m = (13, []) := by unfold qryN; rw [if_neg (by omega), if_pos rfl, if_neg (by rw [hin]; simp)]
   rw [hq]
   exact ⟨none, 0, 0, rfl, hnil _, hk⟩
  ·refine (cntQuery_yes b.d b.r b.g c nt.bs a m w (h.cnt rfl) (hi.binv (by omega)) hin m0 m1 a4).mono ?_
   rintro e w' ⟨g, rfl, hg, hb, hk⟩
   have hq : qryN 1 c nt a m = (0, [estN nt.bs (m - a)]) := by unfold qryN; rw [if_neg (by omega), if_pos rfl, if_pos hin]
   rw [hq]
   exact ⟨some ⟨g, 0, none⟩, 1, 1, rfl, ⟨rfl, .inr ⟨g, 1, _, rfl, hg, hb, by simp, by unfold maxLen; omega, rfl, rfl⟩⟩, hk⟩
 ·subst e
  obtain ⟨a1, a2, a3, a4, a5⟩ := valid_distinct hv hk rfl
  obtain ⟨hd, hq⟩ := h.dis rfl
  have hq1 : 1 ≤ b.qs.length := by rw [hq]; exact Nat.pow_pos (by omega)
  have hq2 : b.qs.length ≤ 16 := by rw [hq]; exact Nat.pow_le_pow_right (n := 2) (by omega) (show c.bits.toNat ≤ 4 by omega)
  cases hin : inB a 1 c.window
  ·refine (disQuery_no b.d b.r b.qs c nt.rg a m w hd hin).mono ?_
   rintro e w' ⟨rfl, hk⟩
   have hqn : qryN 2 c nt a m = (13, []) := by unfold qryN; rw [if_neg (by omega), if_neg (by omega), if_pos rfl]; unfold qryD; rw [if_neg (by rw [hin]; simp)]
   rw [hqn]
   exact ⟨none, 0, 0, rfl, hnil _, hk⟩
  ·refine (disQuery_yes b.d b.r b.qs c nt.rg a m w hd hin hq1 hq2 a5 m0 m1 (fun i => by have := hi.rl i; omega) hi.rk).mono ?_
   rintro e w' ⟨g, cp, rfl, ho, hk⟩
   have hqn : qryN 2 c nt a m = (0, greats nt.rg b.qs.length (m - a) ++ [7 * b.qs.length * b.qs.length * 1099511627776 / (10 * sumG (greats nt.rg b.qs.length (m - a)))]) := by unfold qryN; rw [if_neg (by omega), if_neg (by omega), if_pos rfl]; unfold qryD; rw [if_pos hin, hq]
   rw [hqn]
   refine ⟨some ⟨g, 0, none⟩, b.qs.length + 1, cp, rfl, ?_, hk⟩
   unfold NumsAt
   rw [List.length_append, greats_length, List.length_singleton]
   exact ho
 ·subst e
  obtain ⟨a1, a2, a3, a4, a5⟩ := valid_often hv hk rfl
  have ho := hi.oi rfl
  have hcl : nt.cl.length ≤ 8 := by have := ho.len; have := a1.p1; omega
  cases hin : inB a 0 2147483648
  ·refine (oftQuery_no b.d a m w hin).mono ?_
   rintro e w' ⟨rfl, hk⟩
   have hqn : qryN 3 c nt a m = (10, []) := by unfold qryN; rw [if_neg (by omega), if_neg (by omega), if_neg (by omega), if_pos rfl, if_neg (by rw [hin]; simp)]
   rw [hqn]
   exact ⟨none, 0, 0, rfl, hnil _, hk⟩
  ·refine (oftQuery_yes b.d b.r b.g c nt.op nt.cl a m w (h.oft rfl) hin a1 a2 (by omega) m1 (by omega) (ho.okC hlast a3 a4) (ho.okO hlast a3 a4) (fun x hx => by have := ho.ocs x hx; omega) (fun p hp x hx => by have := ho.ccs p hp x hx; omega)).mono ?_
   rintro e w' ⟨g, rfl, hg, hb, hk⟩
   have hqn : qryN 3 c nt a m = (0, [qryO c nt.op nt.cl a m]) := by unfold qryN; rw [if_neg (by omega), if_neg (by omega), if_neg (by omega), if_pos rfl, if_pos hin]
   rw [hqn]
   exact ⟨some ⟨g, 0, none⟩, 1, 1, rfl, ⟨rfl, .inr ⟨g, 1, _, rfl, hg, hb, by simp, by unfold maxLen; omega, rfl, rfl⟩⟩, hk⟩
 ·subst e
  refine (decQuery_any b.d c nt.q nt.r a m w (h.dec rfl) (valid_weighs hv hk (by omega) (by omega)) m0 m1).mono ?_
  rintro e w' ⟨g, rfl, hg, hb, hk⟩
  exact ⟨some ⟨g, 0, none⟩, 3, 3, rfl, ⟨rfl, .inr ⟨g, 3, _, rfl, hg, hb, by simp [qryN], by unfold maxLen; omega, rfl, rfl⟩⟩, hk⟩
 ·subst e
  obtain ⟨a1, a2⟩ := valid_drawn hv hk rfl
  refine (drwQuery_any b.d b.r b.g c nt.tk a m w (h.drw rfl) a1 a2 (by have := hi.tl rfl; omega)).mono ?_
  rintro e w' ⟨g, cp, rfl, ho, hk⟩
  exact ⟨some ⟨g, 0, none⟩, _, cp, rfl, ho, hk⟩
theorem swp_any {rel last : Int} (k : Nat) (b : NB) (c : Cfg) (nt : Note) (m bu : Int) (args : Array Value) (w : World) (ha : args = capsS k b.d ++ #[.int .i64 m, .int .i64 bu]) (h : NRep w k b c nt) (hi : NInv k c rel last nt) (hr : rel ≤ 4398046511104)
  (hv : validB c = true) (hk : c.kind = k) (k1 : 1 ≤ k) (k5 : k ≤ 5) (m0 : -100 ≤ m) (m1 : m ≤ 4611686018427387904) (b0 : 0 ≤ bu) (b1 : bu ≤ 100) :
  Calls Tryz.prog (swpF k) args w fun e w' => e = .returned (.tuple #[.int .i64 (swpN k c nt m bu).2.1, .int .i64 (swpN k c nt m bu).2.2]) ∧ NRep w' k b c (swpN k c nt m bu).1 ∧ Keeps (nfoot k b) w w' := by
 subst ha
 rcases five k1 k5 with e | e | e | e | e
 ·subst e
  obtain ⟨a1, a2, a3, a4⟩ := valid_count hv hk rfl
  refine (cntSweep_any b.d b.r b.g c nt.bs m bu w (h.cnt rfl) (hi.binv hr) m0 m1 (by omega) a4 b0 b1).mono ?_
  rintro e w' ⟨rfl, hc, hk⟩
  exact ⟨rfl, ⟨(fun h => by omega), (fun _ => hc), (fun h => by omega), (fun h => by omega), (fun h => by omega)⟩, hk.mono (fun i _ hi => .inl ⟨rfl, .inr hi⟩)⟩
 all_goals
  subst e
  refine (sweepNothing_any m bu w).mono ?_
  rintro e w' ⟨rfl, rfl⟩
  exact ⟨rfl, h, Keeps.refl _ _⟩
end Go.Proofs.YtahnliehdjncdaaGreatDoor
namespace Go.Proofs.YtahnliehdjncdaaGreatDoor
open Go.RowKit
attribute [local go_sem ↓] execOp_load38 execOp_load40
attribute [local go_sem] run_load38 run_load40 bigVal_drew hasBig_drew bigVal_ne hasBig_ne bigVal_new hasBig_newB
def oftNew (c : Cfg) : List Value := c.cells ++ (Pa.pn0.cells ++ [.pointer none])
theorem execOp_buildO (ρ : Operand → Value) (dst : Option Tmp) (x : Array (Nat × Operand)) (ty : TypeId) (pos : String) (after : Array Edge) (guard : Option (Nat × Bool)) :
  execOp ρ { dst, op := .build 237 x, type := ty, pos, after, guard } = buildK 237 (x.map fun (i, y) => (i, ρ y)) := rfl
theorem run_buildO (c : Cfg) (w : World) :
  (buildK 237 #[(0, .agg c.cells.toArray)]).run Tryz.prog w = .ok (.value (.agg (oftNew c).toArray)) w := by kernel_rfl
theorem run_buildO2 (c : Cfg) (w : World) :
  (buildK 237 #[(0, .agg #[.int .i64 c.kind, .int .i64 c.lag, .int .i64 c.skew, .int .i64 c.cap, .int .i64 c.k, .int .i64 c.window, .int .i64 c.bits, .int .i64 c.rows, .int .i64 c.width, .int .i64 c.panes, .int .i64 c.size, .int .i64 c.degree, .int .i64 c.half, .int .i64 c.mark, .int .i64 c.s00, .int .i64 c.s01, .int .i64 c.s10, .int .i64 c.s11, .int .i64 c.s20, .int .i64 c.s21])]).run Tryz.prog w = .ok (.value (.agg (oftNew c).toArray)) w := run_buildO c w
attribute [local go_sem ↓] execOp_buildO
attribute [local go_sem] run_buildO run_buildO2
theorem oftNew_set (c : Cfg) (q : Nat) : (oftNew c).set 69 (.pointer (some ⟨q, 0, none⟩)) = oftCells c Pa.pn0 q := by
 unfold oftNew oftCells
 have hc : c.cells.length = 20 := by simp [Cfg.cells]
 rw [List.set_append_right _ _ (by omega), hc, List.set_append_right _ _ (by rw [Pa.Pn.cells_length]; omega), Pa.Pn.cells_length]
 rfl
theorem oftNew_row (c : Cfg) : (oftNew c)[69]? = some (.pointer none) := by
 unfold oftNew
 rw [List.getElem?_append_right (by simp [Cfg.cells]), List.getElem?_append_right (by rw [Pa.Pn.cells_length]; simp [Cfg.cells])]
 simp [Cfg.cells, Pa.Pn.cells_length]
theorem newOften_any (c : Cfg) (w : World) :
  Calls Tryz.prog 171 #[c.val] w fun e w' => ∃ d q, e = .returned (.pointer (some ⟨d, 0, none⟩)) ∧ w.heap.size ≤ d ∧ w.heap.size ≤ q ∧ ORep w' d q none c Pa.pn0 [] ∧ Keeps (fun _ => False) w w' := by
 obtain ⟨W, hW⟩ : ∃ W, W = w.alloc (.cells c.cells.toArray 38) := ⟨_, rfl⟩
 have HB := hide (show Blk W w.heap.size c.cells 38 by rw [hW]; exact Blk.new w _ _)
 have HK := hide (show Keeps (fun _ => False) w W by rw [hW]; exact (Keeps.refl (fun _ => False) w).alloc _)
 have HW := hide hW
 clear hW
 unfold Cfg.val
 go_enter Tryz.func171, Tryz.ntmps171
 go_wp2_with fail
 rw [show w.alloc (.cells #[.int .i64 c.kind, .int .i64 c.lag, .int .i64 c.skew, .int .i64 c.cap, .int .i64 c.k, .int .i64 c.window, .int .i64 c.bits, .int .i64 c.rows, .int .i64 c.width, .int .i64 c.panes, .int .i64 c.size, .int .i64 c.degree, .int .i64 c.half, .int .i64 c.mark, .int .i64 c.s00, .int .i64 c.s01, .int .i64 c.s10, .int .i64 c.s11, .int .i64 c.s20, .int .i64 c.s21] 38) = W from (uh HW).symm]
 generalize hcb : w.heap.size = cb at *
 have HCB := hide hcb
 clear hcb
 have hsz0 : cb < W.heap.size := (uh HB).lt
 obtain ⟨hv, hh⟩ := bigVal_Blk (uh HB) 20 rfl
 go_wp2_with fail
 have hWs : W.heap.size = cb + 1 := by rw [uh HW]; simp [uh HCB]
 obtain ⟨W1, hW1⟩ : ∃ W1, W1 = W.alloc (.cells (oftNew c).toArray 237) := ⟨_, rfl⟩
 rw [← hW1]
 have HB1 := hide (show Blk W1 (cb + 1) (oftNew c) 237 by rw [hW1]; exact Blk.newAt hWs _ _)
 have HK1 := hide (show Keeps (fun _ => False) W W1 by rw [hW1]; exact (Keeps.refl _ _).alloc _)
 have hs1 : W1.heap.size = cb + 1 + 1 := by rw [hW1]; simp [hWs]
 clear hW1 hv hh
 refine (Pa.rowNew_any (cb + 1) W1).mono ?_
 rintro e W2 ⟨rfl, hr2, hk2, hz2⟩
 rw [hs1] at hr2 ⊢
 have HB2 := hide ((uh HB1).keeps hk2 (fun h => h))
 have c69 : W2.cell? ⟨cb + 1, 69, none⟩ = some (.pointer none) := (uh HB2).cell (oftNew_row c)
 have f69 := (uh HB2).frozen
 have HK2 := hide (((uh HK).then (uh HK1)).then hk2)
 have HR2 := hide hr2
 clear hk2 hr2
 go_wp2
 go_ret
 have hb3 := (uh HB2).setCell 69 (.pointer (some ⟨cb + 1 + 1, 0, none⟩))
 rw [oftNew_set] at hb3
 have hcb := uh HCB
 refine ⟨cb + 1, cb + 1 + 1, rfl, by omega, by omega, ⟨hb3, ?_, by omega, fun g hg => by cases hg⟩, ?_⟩
 ·exact (uh HR2).keeps (M := fun i => i = cb + 1) ((Keeps.refl (fun i => i = cb + 1) _).setCell (p := ⟨cb + 1, 69, none⟩) (Or.inl rfl) _) (fun h => by have h' : cb + 1 + 1 = cb + 1 := h; omega) (fun g hg => by cases hg)
 ·exact (uh HK2).trans ((Keeps.refl (fun i => i = cb + 1) _).setCell (p := ⟨cb + 1, 69, none⟩) (Or.inl rfl) _) (fun i hi hlt => by omega)
def oftRelV (d : Nat) : Value := .func (.func 172) #[.pointer (some ⟨d, 0, none⟩)] #[]
def oftLodV (d : Nat) : Value := .func (.func 175) #[.pointer (some ⟨d, 0, none⟩)] #[]
def oftSavV (d : Nat) : Value := .func (.func 174) #[.pointer (some ⟨d, 0, none⟩)] #[]
def oftQryV (d : Nat) : Value := .func (.func 173) #[.pointer (some ⟨d, 0, none⟩)] #[]
theorem startOften_any (c : Cfg) (w : World) :
  Calls Tryz.prog 130 #[c.val] w fun e w' => ∃ d q, e = .returned (.agg #[oftRelV d, oftQryV d, noSwpV, oftSavV d, oftLodV d]) ∧ w.heap.size ≤ d ∧ w.heap.size ≤ q ∧ ORep w' d q none c Pa.pn0 [] ∧ Keeps (fun _ => False) w w' := by
 obtain ⟨W, hW⟩ : ∃ W, W = (w.alloc (.cells c.cells.toArray 38)).alloc (.cells #[.nilFunc, .nilFunc, .nilFunc, .nilFunc, .nilFunc] 100) := ⟨_, rfl⟩
 have HT := hide (show Blk W (w.heap.size + 1) [.nilFunc, .nilFunc, .nilFunc, .nilFunc, .nilFunc] 100 by rw [hW]; exact Blk.newAt (by simp) _ _)
 have HK := hide (show Keeps (fun _ => False) w W by rw [hW]; exact ((Keeps.refl (fun _ => False) w).alloc _).alloc _)
 have HW := hide hW
 have HN := hide (newOften_any c W)
 clear hW
 unfold Cfg.val at *
 go_enter Tryz.func130, Tryz.ntmps130
 go_wp2_with fail
 rw [show (w.alloc (.cells #[.int .i64 c.kind, .int .i64 c.lag, .int .i64 c.skew, .int .i64 c.cap, .int .i64 c.k, .int .i64 c.window, .int .i64 c.bits, .int .i64 c.rows, .int .i64 c.width, .int .i64 c.panes, .int .i64 c.size, .int .i64 c.degree, .int .i64 c.half, .int .i64 c.mark, .int .i64 c.s00, .int .i64 c.s01, .int .i64 c.s10, .int .i64 c.s11, .int .i64 c.s20, .int .i64 c.s21] 38)).alloc (.cells #[.nilFunc, .nilFunc, .nilFunc, .nilFunc, .nilFunc] 100) = W from (uh HW).symm]
 generalize hcb : w.heap.size = cb at *
 have HCB := hide hcb
 clear hcb
 refine (uh HN).mono ?_
 rintro e w2 ⟨d, q, rfl, hd, hq, hc2, hk2⟩
 have HC2 := hide hc2
 have HT2 := hide ((uh HT).keeps hk2 (fun h => h))
 have HK2 := hide ((uh HK).then hk2)
 have HSZ := hide (uh HK).size
 have HLT := hide (uh HT).lt
 clear hc2 hk2 HT HK HN
 have f0 := (uh HT2).frozen
 have q0 : w2.cell? ⟨cb + 1, 0, none⟩ = some .nilFunc := (uh HT2).cell rfl
 have q1 : w2.cell? ⟨cb + 1, 1, none⟩ = some .nilFunc := (uh HT2).cell rfl
 have q2 : w2.cell? ⟨cb + 1, 2, none⟩ = some .nilFunc := (uh HT2).cell rfl
 have q3 : w2.cell? ⟨cb + 1, 3, none⟩ = some .nilFunc := (uh HT2).cell rfl
 have q4 : w2.cell? ⟨cb + 1, 4, none⟩ = some .nilFunc := (uh HT2).cell rfl
 go_wp2
 have hcb := uh HCB
 have hsz := uh HSZ
 have hkf : Keeps (fun i => i = cb + 1) w2 (((((w2.setCell ⟨cb + 1, 0, none⟩ (oftRelV d)).setCell ⟨cb + 1, 1, none⟩ (oftQryV d)).setCell ⟨cb + 1, 2, none⟩ noSwpV).setCell ⟨cb + 1, 3, none⟩ (oftSavV d)).setCell ⟨cb + 1, 4, none⟩ (oftLodV d)) := (((((Keeps.refl (fun i => i = cb + 1) w2).setCell (p := ⟨cb + 1, 0, none⟩) (Or.inl rfl) _).setCell (p := ⟨cb + 1, 1, none⟩) (Or.inl rfl) _).setCell (p := ⟨cb + 1, 2, none⟩) (Or.inl rfl) _).setCell (p := ⟨cb + 1, 3, none⟩) (Or.inl rfl) _).setCell (p := ⟨cb + 1, 4, none⟩) (Or.inl rfl) _
 refine bodyPost_ret (v := .agg #[oftRelV d, oftQryV d, noSwpV, oftSavV d, oftLodV d]) (by simp [results, Tryz.results130, go_sem, q0, q1, q2, q3, q4, oftRelV, oftQryV, noSwpV, oftSavV, oftLodV]) rfl ⟨d, q, rfl, by omega, by omega, ?_, ?_⟩
 ·exact (uh HC2).keeps hkf (fun h => by have := uh HLT; omega) (fun h => by have := uh HLT; omega) (fun g hg => by cases hg)
 ·exact (uh HK2).trans hkf (fun i hi hlt => by omega)
end Go.Proofs.YtahnliehdjncdaaGreatDoor
namespace Go.Proofs.YtahnliehdjncdaaGreatDoor
open Go.RowKit
theorem start_any (c : Cfg) (k : Nat) (w : World) (h1 : 1 ≤ k) (h5 : k ≤ 5) (hv : validB c = true) (hkd : c.kind = k) :
  Calls Tryz.prog (startF k) #[c.val] w fun e w' => ∃ b : NB, e = .returned (.agg #[relV k b.d, qryV k b.d, swpV k b.d, savV k b.d, lodV k b.d]) ∧ (∀ i, nfoot k b i → w.heap.size ≤ i) ∧ NRep w' k b c note0 ∧ Keeps (fun _ => False) w w' := by
 rcases five h1 h5 with hk | hk | hk | hk | hk
 ·subst hk
  refine (startCount_any c w).mono ?_
  rintro e w' ⟨d, r, rfl, hd, hr, hc, hk⟩
  refine ⟨⟨d, r, none, []⟩, rfl, ?_, ⟨(fun h => by omega), (fun _ => hc), (fun h => by omega), (fun h => by omega), (fun h => by omega)⟩, hk⟩
  rintro i (⟨_, hi | hi | hi⟩ | ⟨h4, _⟩ | ⟨h4, _⟩ | ⟨h4, _⟩ | ⟨h4, _⟩)
  ·have : i = d := hi; omega
  ·have : i = r := hi; omega
  ·cases hi
  all_goals omega
 ·subst hk
  obtain ⟨a1, a2, a3, a4, a5⟩ := valid_distinct hv hkd rfl
  refine (startDistinct_any c (regN c) w (by omega) a3 rfl).mono ?_
  rintro e w' ⟨d, rg, qs, rfl, hd, hr, hq, hn, hc, hk⟩
  refine ⟨⟨d, rg, none, qs⟩, rfl, ?_, ⟨(fun h => by omega), (fun h => by omega), (fun _ => ⟨hc, hn⟩), (fun h => by omega), (fun h => by omega)⟩, hk⟩
  rintro i (⟨h4, _⟩ | ⟨h4, _⟩ | ⟨_, hi | hi | ⟨j, hj, hi⟩⟩ | ⟨h4, _⟩ | ⟨h4, _⟩)
  ·omega
  ·omega
  ·have : i = d := hi; omega
  ·have : i = rg := hi; omega
  ·exact hq j i hj hi
  all_goals omega
 ·subst hk
  refine (startOften_any c w).mono ?_
  rintro e w' ⟨d, r, rfl, hd, hr, hc, hk⟩
  refine ⟨⟨d, r, none, []⟩, rfl, ?_, ⟨(fun h => by omega), (fun h => by omega), (fun h => by omega), (fun _ => hc), (fun h => by omega)⟩, hk⟩
  rintro i (⟨h4, _⟩ | ⟨h4, _⟩ | ⟨h4, _⟩ | ⟨_, hi | hi | hi⟩ | ⟨h4, _⟩)
  ·omega
  ·omega
  ·omega
  ·have : i = d := hi; omega
  ·have : i = r := hi; omega
  ·cases hi
  ·omega
 ·subst hk
  refine (startDecay_any c w).mono ?_
  rintro e w' ⟨d, rfl, hd, hb, hk⟩
  refine ⟨⟨d, 0, none, []⟩, rfl, ?_, ⟨(fun _ => hb), (fun h => by omega), (fun h => by omega), (fun h => by omega), (fun h => by omega)⟩, hk⟩
  rintro i (⟨h4, _⟩ | ⟨_, hi⟩ | ⟨h4, _⟩ | ⟨h4, _⟩ | ⟨h4, _⟩)
  ·omega
  ·have : i = d := hi; omega
  all_goals omega
 ·subst hk
  refine (startDrawn_any c w).mono ?_
  rintro e w' ⟨d, r, rfl, hd, hr, hc, hk⟩
  refine ⟨⟨d, r, none, []⟩, rfl, ?_, ⟨(fun h => by omega), (fun h => by omega), (fun h => by omega), (fun h => by omega), (fun _ => hc)⟩, hk⟩
  rintro i (⟨h4, _⟩ | ⟨h4, _⟩ | ⟨h4, _⟩ | ⟨h4, _⟩ | ⟨_, hi | hi | hi⟩)
  ·omega
  ·omega
  ·omega
  ·omega
  ·have : i = d := hi; omega
  ·have : i = r := hi; omega
  ·cases hi
end Go.Proofs.YtahnliehdjncdaaGreatDoor
namespace Go.Proofs.YtahnliehdjncdaaGreatDoor
def leP (a b : It) : Prop := a.t < b.t ∨ (a.t = b.t ∧ a.n ≤ b.n)
theorem leP.refl (a : It) : leP a a := .inr ⟨rfl, Int.le_refl _⟩
theorem leP.trans {a b c : It} (h : leP a b) (k : leP b c) : leP a c := by
 unfold leP at *; omega
theorem ahead_leP {a b : It} (h : aheadB a b = true) : leP a b := by
 unfold aheadB at h; unfold leP
 split at h
 ·rename_i he; simp at h; omega
 ·simp at h; omega
theorem not_ahead_leP {a b : It} (h : aheadB a b = false) : leP b a := by
 unfold aheadB at h; unfold leP
 split at h
 ·rename_i he; simp at h; omega
 ·simp at h; omega
def HeapL (l : List It) : Prop := ∀ i, 0 < i → i < l.length → leP (itAt l ((i - 1) / 2)) (itAt l i)
theorem itAt_swap (l : List It) (i j k : Nat) (hi : i < l.length) (hj : j < l.length) (hk : k < l.length) :
  itAt (swapL l i j) k = if k = j then itAt l i else if k = i then itAt l j else itAt l k := by
 unfold swapL itAt
 rw [List.getD_eq_getElem?_getD, List.getElem?_set]
 by_cases h1 : j = k
 ·subst h1; simp [hj]
 ·rw [if_neg h1, if_neg (Ne.symm h1), List.getElem?_set]
  by_cases h2 : i = k
  ·subst h2; simp [hi]
  ·rw [if_neg h2, if_neg (Ne.symm h2), List.getD_eq_getElem?_getD]
structure RiseAt (l : List It) (i : Nat) : Prop where
 up : ∀ j, 0 < j → j < l.length → j ≠ i → leP (itAt l ((j - 1) / 2)) (itAt l j)
 over : ∀ c, 0 < i → c < l.length → 0 < c → (c - 1) / 2 = i → leP (itAt l ((i - 1) / 2)) (itAt l c)
theorem riseL_heap (f : Nat) : ∀ (l : List It) (i : Nat), i < l.length → i < f → RiseAt l i → HeapL (riseL f l i) := by
 induction f with
 | zero => intro l i _ h; omega
 | succ f ih =>
  intro l i hl hf h
  unfold riseL
  split
  ·rename_i h0
   intro j hj hjl
   exact h.up j hj hjl (by omega)
  ·rename_i h0
   split
   ·rename_i ha
    have hle := ahead_leP ha
    have hp : (i - 1) / 2 < i := by omega
    generalize hpp : (i - 1) / 2 = p at *
    refine ih _ p (by rw [swapL_length]; omega) (by omega) ⟨?_, ?_⟩
    ·intro j hj hjl hjp
     rw [swapL_length] at hjl
     rw [itAt_swap l i p _ hl (by omega) (by omega), itAt_swap l i p j hl (by omega) hjl]
     rw [if_neg hjp]
     by_cases hji : j = i
     ·subst hji
      rw [if_pos hpp, if_pos rfl]; exact hle
     ·rw [if_neg hji]
      by_cases h1 : (j - 1) / 2 = p
      ·rw [if_pos h1]
       have := h.up j hj hjl hji
       rw [h1] at this
       exact hle.trans this
      ·rw [if_neg h1]
       by_cases h2 : (j - 1) / 2 = i
       ·rw [if_pos h2]
        have := h.over j (by omega) hjl hj h2
        rw [hpp] at this
        exact this
       ·rw [if_neg h2]
        exact h.up j hj hjl hji
    ·intro c hp0 hcl hc0 hcp
     rw [swapL_length] at hcl
     rw [itAt_swap l i p _ hl (by omega) (by omega), itAt_swap l i p c hl (by omega) hcl]
     rw [if_neg (show (p - 1) / 2 ≠ p by omega), if_neg (show (p - 1) / 2 ≠ i by omega), if_neg (show c ≠ p by omega)]
     have hpp' := h.up p hp0 (by omega) (by omega)
     by_cases hci : c = i
     ·rw [if_pos hci]; exact hpp'
     ·rw [if_neg hci]
      have := h.up c hc0 hcl hci
      rw [hcp] at this
      exact hpp'.trans this
   ·rename_i ha
    have hle := not_ahead_leP (by simpa using ha)
    intro j hj hjl
    by_cases hji : j = i
    ·subst hji; exact hle
    ·exact h.up j hj hjl hji
structure SinkAt (l : List It) (i : Nat) : Prop where
 up : ∀ j, 0 < j → j < l.length → (j - 1) / 2 ≠ i → leP (itAt l ((j - 1) / 2)) (itAt l j)
 over : ∀ c, 0 < i → c < l.length → 0 < c → (c - 1) / 2 = i → leP (itAt l ((i - 1) / 2)) (itAt l c)
theorem childL_least (l : List It) (i c : Nat) (h : childL l i = c) : 0 < c ∧ (c - 1) / 2 = i ∧ ∀ d, d < l.length → 0 < d → (d - 1) / 2 = i → leP (itAt l c) (itAt l d) := by
 unfold childL at h
 split at h
 ·split at h
  ·split at h
   ·rename_i h1 h2 h3
    have hc : c = 2 * i + 2 := by omega
    subst hc
    refine ⟨by omega, by omega, fun d hd h0 hp => ?_⟩
    have : d = 2 * i + 1 ∨ d = 2 * i + 2 := by omega
    rcases this with rfl | rfl
    ·exact ahead_leP h3
    ·exact leP.refl _
   ·rename_i h1 h2 h3
    have hc : c = 2 * i + 1 := by omega
    subst hc
    refine ⟨by omega, by omega, fun d hd h0 hp => ?_⟩
    have : d = 2 * i + 1 ∨ d = 2 * i + 2 := by omega
    rcases this with rfl | rfl
    ·exact leP.refl _
    ·exact not_ahead_leP (by simpa using h3)
  ·rename_i h1 h2
   have hc : c = 2 * i + 1 := by omega
   subst hc
   refine ⟨by omega, by omega, fun d hd h0 hp => ?_⟩
   have : d = 2 * i + 1 := by omega
   subst this
   exact leP.refl _
 ·omega
theorem childL_none (l : List It) (i : Nat) (h : childL l i < 0) : ∀ d, d < l.length → 0 < d → (d - 1) / 2 ≠ i := by
 intro d hd h0 hp
 unfold childL at h
 split at h
 ·split at h
  ·split at h <;> omega
  ·omega
 ·omega
theorem sinkL_heap (f : Nat) : ∀ (l : List It) (i : Nat), i < l.length → l.length ≤ f + i → SinkAt l i → HeapL (sinkL f l i) := by
 induction f with
 | zero => intro l i _ h; omega
 | succ f ih =>
  intro l i hl hf h
  unfold sinkL
  split
  ·rename_i h0
   intro j hj hjl
   exact h.up j hj hjl (childL_none l i h0 j hjl hj)
  ·rename_i h0
   rcases childL_range l i with hc | ⟨c, hc, hic, hcl⟩
   ·omega
   ·rw [hc, Int.toNat_natCast]
    obtain ⟨hc0, hcp, hcm⟩ := childL_least l i c hc
    split
    ·rename_i ha
     have hle := ahead_leP ha
     refine ih _ c (by rw [swapL_length]; omega) (by rw [swapL_length]; omega) ⟨?_, ?_⟩
     ·intro j hj hjl hjp
      rw [swapL_length] at hjl
      rw [itAt_swap l i c _ hl hcl (by omega), itAt_swap l i c j hl hcl hjl, if_neg hjp]
      by_cases hjc : j = c
      ·subst hjc
       rw [if_pos hcp, if_pos rfl]; exact hle
      ·rw [if_neg hjc]
       by_cases hji : j = i
       ·subst hji
        rw [if_neg (show (j - 1) / 2 ≠ j by omega), if_pos rfl]
        exact h.over c hj hcl hc0 hcp
       ·rw [if_neg hji]
        by_cases h2 : (j - 1) / 2 = i
        ·rw [if_pos h2]; exact hcm j hjl hj h2
        ·rw [if_neg h2]; exact h.up j hj hjl h2
     ·intro d hc' hdl hd0 hdp
      rw [swapL_length] at hdl
      rw [itAt_swap l i c _ hl hcl (by omega), itAt_swap l i c d hl hcl hdl]
      rw [if_neg (show (c - 1) / 2 ≠ c by omega), if_pos hcp, if_neg (show d ≠ c by omega), if_neg (show d ≠ i by omega)]
      have := h.up d hd0 hdl (by omega)
      rw [hdp] at this
      exact this
    ·rename_i ha
     have hle := not_ahead_leP (by simpa using ha)
     intro j hj hjl
     by_cases h2 : (j - 1) / 2 = i
     ·rw [h2]; exact hle.trans (hcm j hjl hj h2)
     ·exact h.up j hj hjl h2
theorem HeapL.first {l : List It} (h : HeapL l) (j : Nat) (hj : j < l.length) : leP (itAt l 0) (itAt l j) := by
 induction j using Nat.strongRecOn with
 | _ j ih =>
  by_cases h0 : j = 0
  ·subst h0; exact leP.refl _
  ·exact (ih ((j - 1) / 2) (by omega) (by omega)).trans (h j (by omega) hj)
theorem HeapL.first_mem {l : List It} (h : HeapL l) {y : It} (hy : y ∈ l) : (itAt l 0).t ≤ y.t := by
 obtain ⟨j, hj, rfl⟩ := List.mem_iff_getElem.1 hy
 have h1 := h.first j hj
 have h2 : itAt l j = l[j] := by unfold itAt; rw [List.getD_eq_getElem?_getD, List.getElem?_eq_getElem hj]; rfl
 rw [h2] at h1
 unfold leP at h1
 omega
theorem itAt_get (l : List It) (j : Nat) (hj : j < l.length) : itAt l j = l[j] := by
 unfold itAt; rw [List.getD_eq_getElem?_getD, List.getElem?_eq_getElem hj]; rfl
theorem swapL_perm (l : List It) (i j : Nat) (hi : i < l.length) (hj : j < l.length) : (swapL l i j).Perm l := by
 unfold swapL
 rw [itAt_get l i hi, itAt_get l j hj]
 exact List.set_set_perm hi hj
theorem riseL_perm (f : Nat) : ∀ (l : List It) (i : Nat), i < l.length → (riseL f l i).Perm l := by
 induction f with
 | zero => intro l i _; exact List.Perm.refl _
 | succ f ih =>
  intro l i hl
  unfold riseL
  split
  ·exact List.Perm.refl _
  ·split
   ·exact (ih _ _ (by rw [swapL_length]; omega)).trans (swapL_perm l _ _ hl (by omega))
   ·exact List.Perm.refl _
theorem sinkL_perm (f : Nat) : ∀ (l : List It) (i : Nat), i < l.length → (sinkL f l i).Perm l := by
 induction f with
 | zero => intro l i _; exact List.Perm.refl _
 | succ f ih =>
  intro l i hl
  unfold sinkL
  split
  ·exact List.Perm.refl _
  ·rename_i h0
   rcases childL_range l i with hc | ⟨c, hc, hic, hcl⟩
   ·omega
   ·rw [hc, Int.toNat_natCast]
    split
    ·exact (ih _ _ (by rw [swapL_length]; omega)).trans (swapL_perm l _ _ hl hcl)
    ·exact List.Perm.refl _
theorem put_heap (l : List It) (x : It) (h : HeapL l) : HeapL (riseL (l.length + 1) (l ++ [x]) l.length) ∧ (riseL (l.length + 1) (l ++ [x]) l.length).Perm (x :: l) := by
 have hat : ∀ j, j < l.length → itAt (l ++ [x]) j = itAt l j := by
  intro j hj
  unfold itAt
  rw [List.getD_eq_getElem?_getD, List.getD_eq_getElem?_getD, List.getElem?_append_left hj]
 refine ⟨riseL_heap _ _ _ (by simp) (by omega) ⟨?_, ?_⟩, (riseL_perm _ _ _ (by simp)).trans (List.perm_append_singleton x l)⟩
 ·intro j hj hjl hne
  rw [List.length_append, List.length_singleton] at hjl
  rw [hat _ (by omega), hat j (by omega)]
  exact h j hj (by omega)
 ·intro c h0 hcl hc0 hcp
  rw [List.length_append, List.length_singleton] at hcl
  omega
theorem take_heap (l : List It) (h : HeapL l) (hl : l ≠ []) : HeapL (takeL l) ∧ (itAt l 0 :: takeL l).Perm l := by
 have hpos : 0 < l.length := List.length_pos_iff.2 hl
 unfold takeL
 by_cases h1 : l.length = 1
 ·obtain ⟨a, rfl⟩ := List.length_eq_one_iff.1 h1
  refine ⟨?_, ?_⟩
  ·intro i _ hi
   rw [show (([a].set 0 (itAt [a] ([a].length - 1))).take ([a].length - 1)) = [] from rfl] at hi
   have : (sinkL [a].length [] 0).length = 0 := rfl
   omega
  ·exact List.Perm.refl _
 ·obtain ⟨a, m, rfl⟩ : ∃ a m, l = a :: m := by cases l with | nil => exact absurd rfl hl | cons a m => exact ⟨a, m, rfl⟩
  obtain ⟨m', z, rfl⟩ : ∃ m' z, m = m' ++ [z] := by
   refine ⟨m.dropLast, m.getLast (by intro e; subst e; simp at h1), ?_⟩
   rw [List.dropLast_concat_getLast]
  have hz : itAt (a :: (m' ++ [z])) ((a :: (m' ++ [z])).length - 1) = z := by
   rw [itAt_get _ _ (by simp)]
   simp
  have he : ((a :: (m' ++ [z])).set 0 (itAt (a :: (m' ++ [z])) ((a :: (m' ++ [z])).length - 1))).take ((a :: (m' ++ [z])).length - 1) = z :: m' := by
   rw [hz]; simp
  rw [he]
  have hat : ∀ j, 0 < j → j < (z :: m').length → itAt (z :: m') j = itAt (a :: (m' ++ [z])) j := by
   intro j h0 hj
   simp only [List.length_cons] at hj
   rw [itAt_get _ _ (by simpa using hj), itAt_get _ _ (by simp; omega)]
   obtain ⟨j, rfl⟩ : ∃ k, j = k + 1 := ⟨j - 1, by omega⟩
   simp only [List.getElem_cons_succ]
   rw [List.getElem_append_left (by omega)]
  refine ⟨sinkL_heap _ _ 0 (by simp) (by simp) ⟨?_, ?_⟩, ?_⟩
  ·intro j hj hjl hne
   rw [hat _ (by omega) (by omega), hat j hj hjl]
   exact h j hj (by simp at hjl ⊢; omega)
  ·intro c h0; omega
  ·refine (List.Perm.cons _ (sinkL_perm _ _ 0 (by simp))).trans ?_
   show (a :: z :: m').Perm (a :: (m' ++ [z]))
   exact List.Perm.cons a (List.perm_append_singleton z m').symm
end Go.Proofs.YtahnliehdjncdaaGreatDoor
namespace Go.Proofs.YtahnliehdjncdaaGreatDoor
open Go.RowKit
attribute [local go_sem ↓] execOp_load38 execOp_load40
attribute [local go_sem] run_load38 run_load40 bigVal_drew hasBig_drew bigVal_ne hasBig_ne bigVal_alloc hasBig_alloc bigVal_new hasBig_newB
structure Ser where
 id : Int
 c : Cfg
 k : Nat
 acc : Int
 rel : Int
 ref : List Int
 l : List It
 nt : Note
 last : Int
structure SB where
 s : Nat
 q : Nat
 g : Option Nat
 n : NB
def Cfg.vals (c : Cfg) (rest : List Value) : List Value := .int .i64 c.kind :: .int .i64 c.lag :: .int .i64 c.skew :: .int .i64 c.cap :: .int .i64 c.k :: .int .i64 c.window :: .int .i64 c.bits :: .int .i64 c.rows :: .int .i64 c.width :: .int .i64 c.panes :: .int .i64 c.size :: .int .i64 c.degree :: .int .i64 c.half :: .int .i64 c.mark :: .int .i64 c.s00 :: .int .i64 c.s01 :: .int .i64 c.s10 :: .int .i64 c.s11 :: .int .i64 c.s20 :: .int .i64 c.s21 :: rest
def serCells (b : SB) (x : Ser) : List Value :=
 .int .i64 x.id :: x.c.vals (fn (fitsF x.k) :: fn (namedF x.k) :: fn (pairsF x.k) :: fn (refuseF x.k) :: fn (askedF x.k) :: fn (startF x.k) :: relV x.k b.n.d :: qryV x.k b.n.d :: swpV x.k b.n.d :: savV x.k b.n.d :: lodV x.k b.n.d :: .pointer (some ⟨b.q, 0, none⟩) :: .int .i64 x.acc :: .int .i64 x.rel :: x.ref.map (.int .i64 ·))
structure SRep (w : World) (b : SB) (x : Ser) : Prop where
 blk : Blk w b.s (serCells b x) 104
 que : QRep w b.q b.g x.l
 note : NRep w x.k b.n x.c x.nt
 sq : b.s ≠ b.q
 sg : ∀ g, b.g = some g → b.s ≠ g
 sn : ∀ i, nfoot x.k b.n i → i ≠ b.s ∧ i ≠ b.q ∧ b.g ≠ some i
def SB.foot (b : SB) (k : Nat) (i : Nat) : Prop := i = b.s ∨ i = b.q ∨ b.g = some i ∨ nfoot k b.n i
theorem SRep.keeps {M : Nat → Prop} {w w' : World} {b : SB} {x : Ser} (h : SRep w b x) (hk : Keeps M w w') (hn : ∀ i, b.foot x.k i → ¬ M i) : SRep w' b x :=
 ⟨h.blk.keeps hk (hn _ (.inl rfl)), h.que.keeps hk (hn _ (.inr (.inl rfl))) (fun _ hg => hn _ (.inr (.inr (.inl hg)))),
    h.note.keeps hk (fun i hi => hn i (.inr (.inr (.inr hi)))), h.sq, h.sg, h.sn⟩
theorem SRep.still {w w' : World} {b : SB} {x : Ser} (h : SRep w b x) (hk : Keeps (fun _ => False) w w') : SRep w' b x := h.keeps hk (fun _ _ h => h)
theorem SRep.lt {w : World} {b : SB} {x : Ser} (h : SRep w b x) (i : Nat) (hi : b.foot x.k i) : i < w.heap.size := by
 rcases hi with hi | hi | hi | hi
 ·subst hi; exact h.blk.lt
 ·subst hi; exact h.que.lt.1
 ·exact (h.que.lt.2 i hi).1
 ·exact h.note.lt i hi
structure SInv (n : Int) (x : Ser) : Prop where
 valid : validB x.c = true
 kind : x.c.kind = x.k
 k1 : 1 ≤ x.k
 k5 : x.k ≤ 5
 acc0 : 0 ≤ x.acc
 accn : x.acc ≤ n
 rel0 : 0 ≤ x.rel
 rela : x.rel + x.l.length = x.acc
 reflen : x.ref.length = 12
 refn : ∀ v, v ∈ x.ref → 0 ≤ v ∧ v ≤ n
 cap : (x.l.length : Int) ≤ x.c.cap
 times : ∀ y, y ∈ x.l → 0 ≤ y.t ∧ y.t ≤ 4611686018427387904
 note : NInv x.k x.c x.rel x.last x.nt
 heap : HeapL x.l
 last0 : 0 ≤ x.last
 lastn : x.last ≤ 4611686018427387904
 lastl : ∀ y, y ∈ x.l → x.last ≤ y.t
 fits : ∀ y, y ∈ x.l → kindE x.c x.k y = 0
theorem SInv.common {n : Int} {x : Ser} (h : SInv n x) : 0 ≤ x.c.lag ∧ x.c.lag ≤ 100 ∧ 0 ≤ x.c.skew ∧ x.c.skew ≤ 100 ∧ 1 ≤ x.c.cap ∧ x.c.cap ≤ 8 := by
 have := h.valid
 simp only [validB, commonB, inB, Bool.and_eq_true, decide_eq_true_eq] at this
 omega
theorem SInv.weighs {n : Int} {x : Ser} (h : SInv n x) (h4 : 4 ≤ x.k) : x.c.weighs := valid_weighs h.valid h.kind h4 h.k5
theorem wm_any (s : Nat) (lag clock : Int) (w : World) (h : w.cell? ⟨s, 2, none⟩ = some (.int .i64 lag)) (l0 : 0 ≤ lag) (l1 : lag ≤ 100) (c0 : 0 ≤ clock) (c1 : clock ≤ 4611686018427387904) :
  Calls Tryz.prog 67 #[.pointer (some ⟨s, 0, none⟩), .int .i64 clock] w fun e w' => e = .returned (.int .i64 (clock - lag)) ∧ w' = w := by
 go_enter Tryz.func67, Tryz.ntmps67
 go_wp2
 go_ret
 exact ⟨rfl, rfl⟩
def refE (x : Ser) (clock : Int) (y : It) : Int :=
 if inB y.t 0 4611686018427387904 then
  if y.t ≤ clock - x.c.lag then 6
  else if clock + x.c.skew < y.t then 7
  else if kindE x.c x.k y ≠ 0 then kindE x.c x.k y
  else if x.c.cap ≤ x.l.length then 11 else if 4611686018427387904 ≤ x.acc then 11 else 0
 else 5
end Go.Proofs.YtahnliehdjncdaaGreatDoor
namespace Go.Proofs.YtahnliehdjncdaaGreatDoor
open Go.RowKit
attribute [local go_sem ↓] execOp_load38 execOp_load40
attribute [local go_sem] run_load38 run_load40 bigVal_drew hasBig_drew bigVal_ne hasBig_ne bigVal_alloc hasBig_alloc bigVal_new hasBig_newB
theorem bigVal_keeps {M : Nat → Prop} {w w' : World} {b o n : Nat} (hk : Keeps M w w') (hn : ¬ M b) (hlt : b < w.heap.size) : bigVal w' b o n = bigVal w b o n ∧ hasBig w' b o n = hasBig w b o n := by
 have hc : ∀ j, w'.cell? ⟨b, o + j, none⟩ = w.cell? ⟨b, o + j, none⟩ := fun j => World.cell?_of_block (a := ⟨b, o + j, none⟩) (hk.block b hlt hn)
 constructor
 ·unfold bigVal bigCells; simp only [hc]
 ·unfold hasBig; simp only [hc]
theorem refusal_any (n : Int) (b : SB) (x : Ser) (y : It) (clock : Int) (w : World) (hs : SRep w b x) (hi : SInv n x) (c0 : 0 ≤ clock) (c1 : clock ≤ 4611686018427387904) :
  Calls Tryz.prog 62 #[.pointer (some ⟨b.s, 0, none⟩), y.val, .int .i64 clock] w fun e w' => e = .returned (.int .i64 (refE x clock y)) ∧ Keeps (fun _ => False) w w' := by
 obtain ⟨l0, l1, s0, s1, p1, p8⟩ := hi.common
 have hlt := hs.blk.lt
 have HS := hide hs
 have HI := hide hi
 have HB := hide (show Blk (w.alloc (.cells y.cells 87)) w.heap.size [.int .i64 y.t, .int .i64 y.k, .int .i64 y.d, .int .i64 y.n] 87 from Blk.new w [_, _, _, _] 87)
 have HK := hide ((Keeps.refl (fun _ => False) w).alloc (.cells y.cells 87))
 have HE := hide (show refE x clock y = if inB y.t 0 4611686018427387904 then (if y.t ≤ clock - x.c.lag then 6 else if clock + x.c.skew < y.t then 7 else if kindE x.c x.k y ≠ 0 then kindE x.c x.k y else if x.c.cap ≤ x.l.length then 11 else if 4611686018427387904 ≤ x.acc then 11 else 0) else 5 from rfl)
 clear hs hi
 unfold It.val
 cases h1 : inB y.t 0 4611686018427387904
 ·go_enter Tryz.func62, Tryz.ntmps62
  go_wp2_with (go_at_call 65; refine (time_any _ _).mono ?_; rintro e w' ⟨rfl, rfl⟩)
  go_ret
  exact ⟨ret_int (by rw [uh HE, h1]; rfl), uh HK⟩
 ·obtain ⟨t0, t1⟩ := inB_iff h1
  rw [h1, if_pos rfl] at HE
  have hc2 : w.cell? ⟨b.s, 2, none⟩ = some (.int .i64 x.c.lag) := (uh HS).blk.cell rfl
  go_enter Tryz.func62, Tryz.ntmps62
  go_wp2_with fail
  refine (time_any _ _).mono ?_
  rintro e w' ⟨rfl, rfl⟩
  rw [h1]
  go_wp2_with fail
  go_region_held3 (fun w' => w'.cell? ⟨w.heap.size, 0, none⟩ = some (.int .i64 y.t) ∧ w'.cell? ⟨b.s, 2, none⟩ = some (.int .i64 x.c.lag)) (go_keep)
   (first | (go_at_call 67; refine (wm_any b.s x.c.lag clock _ (by go_keep) l0 l1 c0 c1).mono ?_; rintro e w' ⟨rfl, rfl⟩))
  have HB1 := hide ((uh HB).drew)
  have HK1 := hide ((uh HK).drew)
  clear HB HK
  have e1 : (w.alloc (.cells #[.int .i64 y.t, .int .i64 y.k, .int .i64 y.d, .int .i64 y.n] 87)).drew = (w.alloc (.cells y.cells 87)).drew := rfl
  rw [e1]
  clear e1
  generalize (w.alloc (.cells y.cells 87)).drew = w1 at *
  generalize hbx : w.heap.size = bx at *
  have HS1 := hide ((uh HS).still (uh HK1))
  clear hc2 hlt hbx
  have hlt := (uh HS1).blk.lt
  have hltx := (uh HB1).lt
  have hb0 : w1.cell? ⟨bx, 0, none⟩ = some (.int .i64 y.t) := (uh HB1).cell rfl
  have hb1 : w1.cell? ⟨bx, 1, none⟩ = some (.int .i64 y.k) := (uh HB1).cell rfl
  have hb2 : w1.cell? ⟨bx, 2, none⟩ = some (.int .i64 y.d) := (uh HB1).cell rfl
  have hb3 : w1.cell? ⟨bx, 3, none⟩ = some (.int .i64 y.n) := (uh HB1).cell rfl
  have hc3 : w1.cell? ⟨b.s, 3, none⟩ = some (.int .i64 x.c.skew) := (uh HS1).blk.cell rfl
  by_cases h6 : y.t ≤ clock - x.c.lag
  ·rw [if_pos h6] at HE
   go_wp2
   go_ret
   exact ⟨ret_int (uh HE).symm, uh HK1⟩
  ·rw [if_neg h6] at HE
   have h6' : decide (y.t ≤ clock - x.c.lag) = false := by simpa using h6
   go_wp2_with fail
   go_quiet (fail)
   by_cases h7 : clock + x.c.skew < y.t
   ·rw [if_pos h7] at HE
    go_wp2
    go_ret
    exact ⟨ret_int (uh HE).symm, (uh HK1).then (Keeps.drewN _ _ _)⟩
   ·rw [if_neg h7] at HE
    have h7' : decide (clock + x.c.skew < y.t) = false := by simpa using h7
    go_wp2_with fail
    have hkd : Keeps (fun _ => False) w1 (w1.drewN nq) := Keeps.drewN (fun _ => False) w1 nq
    have HS2 := hide ((uh HS1).still hkd)
    have HB2 := hide ((uh HB1).keeps hkd (fun h => h))
    have HK2 := hide ((uh HK1).then hkd)
    clear hkd
    generalize w1.drewN nq = w2 at *
    clear HS1 HB1 HK1 hb0 hb1 hb2 hb3 hc3 hlt hltx h6 h6' h7 h7'
    have hlt := (uh HS2).blk.lt
    have hltx := (uh HB2).lt
    have hb0 : w2.cell? ⟨bx, 0, none⟩ = some (.int .i64 y.t) := (uh HB2).cell rfl
    have hb1 : w2.cell? ⟨bx, 1, none⟩ = some (.int .i64 y.k) := (uh HB2).cell rfl
    have hb2 : w2.cell? ⟨bx, 2, none⟩ = some (.int .i64 y.d) := (uh HB2).cell rfl
    have hb3 : w2.cell? ⟨bx, 3, none⟩ = some (.int .i64 y.n) := (uh HB2).cell rfl
    have hc22 : w2.cell? ⟨b.s, 24, none⟩ = some (.func (.func (refuseF x.k)) #[] #[]) := (uh HS2).blk.cell rfl
    obtain ⟨hv, hh⟩ := bigVal_Blk_part (uh HS2).blk 1 20 x.c.cells rfl rfl
    have hown := own_refuse x.k (uh HI).k1 (uh HI).k5
    go_region_held3 (fun w' => w'.cell? ⟨b.s, 24, none⟩ = some (.func (.func (refuseF x.k)) #[] #[]) ∧ bigVal w' b.s 1 20 = .agg x.c.cells.toArray ∧ hasBig w' b.s 1 20 = true ∧
        w'.cell? ⟨bx, 0, none⟩ = some (.int .i64 y.t) ∧ w'.cell? ⟨bx, 1, none⟩ = some (.int .i64 y.k) ∧ w'.cell? ⟨bx, 2, none⟩ = some (.int .i64 y.d) ∧ w'.cell? ⟨bx, 3, none⟩ = some (.int .i64 y.n))
     (first | (simp [*, bigVal_drew, hasBig_drew]; done) | (go_split_ands; refine ⟨hk.cell (by assumption) (fun h => h), (bigVal_keeps hk (fun h => h) (by simpa using hlt)).1.trans (by assumption), (bigVal_keeps hk (fun h => h) (by simpa using hlt)).2.trans (by assumption), hk.cell (by assumption) (fun h => h), hk.cell (by assumption) (fun h => h), hk.cell (by assumption) (fun h => h), hk.cell (by assumption) (fun h => h)⟩))
     (first | (refine (refuse_any x.c x.k y _ (uh HI).k1 (uh HI).k5 (uh HI).weighs t0 t1).mono ?_; rintro e w' ⟨rfl, hk⟩))
    have hk3 : Keeps (fun _ => False) w2 w' := ((Keeps.refl (fun _ => False) w2).drew).then hk
    have HS3 := hide ((uh HS2).still hk3)
    have HK3 := hide ((uh HK2).then hk3)
    clear hk hk3 HS2 HB2 HK2 hb0 hb1 hb2 hb3 hc22 hv hh hown hlt hltx
    have hlt := (uh HS3).blk.lt
    generalize he : kindE x.c x.k y = e at *
    by_cases h8 : e = 0
    ·have h8' : (e != 0) = false := by simp [h8]
     rw [if_neg (by simpa using h8)] at HE
     have HN8 := hide h8
     clear h8
     have hc26 : w'.cell? ⟨b.s, 32, none⟩ = some (.pointer (some ⟨b.q, 0, none⟩)) := (uh HS3).blk.cell rfl
     have hc4 : w'.cell? ⟨b.s, 4, none⟩ = some (.int .i64 x.c.cap) := (uh HS3).blk.cell rfl
     have hc33 : w'.cell? ⟨b.s, 33, none⟩ = some (.int .i64 x.acc) := (uh HS3).blk.cell rfl
     by_cases h9 : x.c.cap ≤ (x.l.length : Int)
     ·rw [if_pos h9] at HE
      have h9' : decide (x.c.cap ≤ (x.l.length : Int)) = true := by simpa using h9
      go_wp2_with fail
      go_quiet (first | (go_at_call 91; refine Calls.quiet_of_same (len_any b.q b.g x.l _ (by exact (uh HS3).que.keeps (Keeps.drewN (fun _ => False) _ _) (fun h => h) (fun _ _ h => h)))))
      go_wp2
      go_ret
      exact ⟨ret_int (uh HE).symm, (uh HK3).then (Keeps.drewN _ _ _)⟩
     ·rw [if_neg h9] at HE
      have h9' : decide (x.c.cap ≤ (x.l.length : Int)) = false := by simpa using h9
      by_cases h10 : 4611686018427387904 ≤ x.acc
      ·rw [if_pos h10] at HE
       have h10' : decide (4611686018427387904 ≤ x.acc) = true := by simpa using h10
       go_wp2_with fail
       go_quiet (first | (go_at_call 91; refine Calls.quiet_of_same (len_any b.q b.g x.l _ (by exact (uh HS3).que.keeps (Keeps.drewN (fun _ => False) _ _) (fun h => h) (fun _ _ h => h)))))
       go_wp2
       go_ret
       exact ⟨ret_int (uh HE).symm, (uh HK3).then (Keeps.drewN _ _ _)⟩
      ·rw [if_neg h10] at HE
       have h10' : decide (4611686018427387904 ≤ x.acc) = false := by simpa using h10
       go_wp2_with fail
       go_quiet (first | (go_at_call 91; refine Calls.quiet_of_same (len_any b.q b.g x.l _ (by exact (uh HS3).que.keeps (Keeps.drewN (fun _ => False) _ _) (fun h => h) (fun _ _ h => h)))))
       go_wp2
       go_ret
       exact ⟨ret_int (uh HE).symm, (uh HK3).then (Keeps.drewN _ _ _)⟩
    ·have h8' : (e != 0) = true := by simp [h8]
     rw [if_pos (by simpa using h8)] at HE
     have HN8 := hide h8
     clear h8
     go_wp2
     go_ret
     exact ⟨ret_int (uh HE).symm, uh HK3⟩
end Go.Proofs.YtahnliehdjncdaaGreatDoor
namespace Go.Proofs.YtahnliehdjncdaaGreatDoor
open Go.RowKit
attribute [local go_sem ↓] execOp_load38 execOp_load40
attribute [local go_sem] run_load38 run_load40 bigVal_drew hasBig_drew bigVal_ne hasBig_ne bigVal_alloc hasBig_alloc bigVal_new hasBig_newB
def numbered (y : It) (n : Int) : It := ⟨y.t, y.k, y.d, n⟩
def accS (x : Ser) (y : It) : Ser := { x with acc := x.acc + 1, l := riseL (x.l.length + 1) (x.l ++ [numbered y (x.acc + 1)]) x.l.length }
def SB.next (b b' : SB) (k size : Nat) : Prop := b'.s = b.s ∧ ∀ i, b'.foot k i → b.foot k i ∨ size ≤ i
theorem accept_any (n : Int) (b : SB) (x : Ser) (y : It) (w : World) (hs : SRep w b x) (hi : SInv n x) (hn : n ≤ 4611686018427387904) :
  Calls Tryz.prog 64 #[.pointer (some ⟨b.s, 0, none⟩), y.val] w fun e w' => e = .returned (.int .i64 (x.acc + 1)) ∧ ∃ b', SRep w' b' (accS x y) ∧ b.next b' x.k w.heap.size ∧ Keeps (b.foot x.k) w w' := by
 obtain ⟨l0, l1, s0, s1, p1, p8⟩ := hi.common
 have hlt := hs.blk.lt
 have hcap := hi.cap
 have ha0 := hi.acc0
 have han := hi.accn
 have hlq := hs.que.lt
 have hc27 : w.cell? ⟨b.s, 33, none⟩ = some (.int .i64 x.acc) := hs.blk.cell rfl
 have hf := hs.blk.frozen
 have HS := hide hs
 clear hs hi
 have hwr : IntKind.i64.wrap (x.acc + 1) = x.acc + 1 := wrap_in (by omega) (by omega)
 unfold It.val
 go_enter Tryz.func64, Tryz.ntmps64
 go_wp2_with fail
 have hk1 : Keeps (fun i => i = b.s) w ((w.setCell ⟨b.s, 33, none⟩ (.int .i64 (x.acc + 1))).alloc (.cells #[.int .i64 y.t, .int .i64 y.k, .int .i64 y.d, .int .i64 (x.acc + 1)] 87)) :=
  ((Keeps.refl (fun i => i = b.s) w).setCell (p := ⟨b.s, 33, none⟩) (Or.inl rfl) _).alloc _
 have HB1 := hide (show Blk ((w.setCell ⟨b.s, 33, none⟩ (.int .i64 (x.acc + 1))).alloc (.cells #[.int .i64 y.t, .int .i64 y.k, .int .i64 y.d, .int .i64 (x.acc + 1)] 87)) b.s (serCells b { x with acc := x.acc + 1 }) 104 from ((uh HS).blk.setCell 33 (.int .i64 (x.acc + 1))).alloc _)
 have HX1 := hide (show Blk ((w.setCell ⟨b.s, 33, none⟩ (.int .i64 (x.acc + 1))).alloc (.cells #[.int .i64 y.t, .int .i64 y.k, .int .i64 y.d, .int .i64 (x.acc + 1)] 87)) w.heap.size [.int .i64 y.t, .int .i64 y.k, .int .i64 y.d, .int .i64 (x.acc + 1)] 87 from Blk.newAt (by simp) [_, _, _, _] 87)
 have HQ1 := hide ((uh HS).que.keeps hk1 (fun h => (uh HS).sq h.symm) (fun g hg h => (uh HS).sg g hg h.symm))
 have HD1 := hide (show NRep _ x.k b.n x.c x.nt from (uh HS).note.keeps hk1 (fun i hi h => ((uh HS).sn i hi).1 h))
 have HK1 := hide hk1
 clear hk1 hc27 hf
 generalize ((w.setCell ⟨b.s, 33, none⟩ (.int .i64 (x.acc + 1))).alloc (.cells #[.int .i64 y.t, .int .i64 y.k, .int .i64 y.d, .int .i64 (x.acc + 1)] 87)) = w1 at *
 have hsz : w.heap.size ≤ w1.heap.size := (uh HK1).size
 generalize hbx : w.heap.size = bx at *
 have HBX := hide hbx
 clear hbx
 have hlt1 := (uh HB1).lt
 have hltx := (uh HX1).lt
 have hc26 : w1.cell? ⟨b.s, 32, none⟩ = some (.pointer (some ⟨b.q, 0, none⟩)) := (uh HB1).cell rfl
 have hx0 : w1.cell? ⟨bx, 0, none⟩ = some (.int .i64 y.t) := (uh HX1).cell rfl
 have hx1 : w1.cell? ⟨bx, 1, none⟩ = some (.int .i64 y.k) := (uh HX1).cell rfl
 have hx2 : w1.cell? ⟨bx, 2, none⟩ = some (.int .i64 y.d) := (uh HX1).cell rfl
 have hx3 : w1.cell? ⟨bx, 3, none⟩ = some (.int .i64 (x.acc + 1)) := (uh HX1).cell rfl
 have HNS := hide (show ¬ (b.s = b.q ∨ b.g = some b.s) from fun h => h.elim (uh HS).sq (fun h => (uh HS).sg b.s h rfl))
 have HNX := hide (show ¬ (bx = b.q ∨ b.g = some bx) from fun h => h.elim (fun h => by omega) (fun h => by have := (hlq.2 bx h).1; omega))
 have hl9 : x.l.length ≤ 900 := by omega
 go_region_held3 (fun w' => w'.cell? ⟨b.s, 32, none⟩ = some (.pointer (some ⟨b.q, 0, none⟩)) ∧ w'.cell? ⟨bx, 0, none⟩ = some (.int .i64 y.t) ∧ w'.cell? ⟨bx, 1, none⟩ = some (.int .i64 y.k) ∧ w'.cell? ⟨bx, 2, none⟩ = some (.int .i64 y.d) ∧ w'.cell? ⟨bx, 3, none⟩ = some (.int .i64 (x.acc + 1)))
  (first | (simp [*]; done) | (go_split_ands; exact ⟨hk.cell (by assumption) (uh HNS), hk.cell (by assumption) (uh HNX), hk.cell (by assumption) (uh HNX), hk.cell (by assumption) (uh HNX), hk.cell (by assumption) (uh HNX)⟩))
  (first | (go_at_call 92; refine (put_any b.q b.g x.l (numbered y (x.acc + 1)) _ (by exact (uh HQ1).keeps ((Keeps.refl (fun _ => False) w1).drew) (fun h => h) (fun _ _ h => h)) hl9).mono ?_; rintro e w' ⟨rfl, og, hq, hk, hog⟩))
 have HF := hide (show w'.cell? ⟨bx, 3, none⟩ = some (.int .i64 (x.acc + 1)) from ((((uh HX1).drew).keeps hk (uh HNX)).cell rfl))
 have hx3' := uh HF
 have HK := hide hk
 have HQ := hide hq
 have HOG := hide hog
 clear hk hq hog hx0 hx1 hx2 hx3 hc26
 go_wp2
 go_ret
 have hkd : Keeps (fun k => k = b.q ∨ b.g = some k) w1 w' := ((Keeps.refl (fun k => k = b.q ∨ b.g = some k) w1).drew).then (uh HK)
 refine ⟨rfl, ⟨b.s, b.q, og, b.n⟩, ⟨(uh HB1).keeps hkd (uh HNS), uh HQ, (uh HD1).keeps hkd (fun i hi h => ?_), (uh HS).sq, ?_, fun i hi => ⟨((uh HS).sn i hi).1, ((uh HS).sn i hi).2.1, ?_⟩⟩, ⟨rfl, ?_⟩, ?_⟩
 ·rcases h with h | h
  ·exact ((uh HS).sn i hi).2.1 h
  ·exact ((uh HS).sn i hi).2.2 h
 ·intro g hg
  rcases uh HOG with h | ⟨k, h, hz⟩
  ·exact (uh HS).sg g (h.symm.trans hg)
  ·have hgk : g = k := by have := h.symm.trans hg; simpa using this.symm
   show b.s ≠ g
   rw [World.size_drew] at hz
   omega
 ·intro hg
  rcases uh HOG with h | ⟨k, h, hz⟩
  ·exact ((uh HS).sn i hi).2.2 (h.symm.trans hg)
  ·have hgk : i = k := by have := h.symm.trans hg; simpa using this.symm
   have := (uh HD1).lt i hi
   rw [World.size_drew] at hz
   omega
 ·intro i hi
  rcases hi with hi | hi | hi | hi
  ·exact .inl (.inl hi)
  ·exact .inl (.inr (.inl hi))
  ·rcases uh HOG with h | ⟨k, h, hz⟩
   ·exact .inl (.inr (.inr (.inl (h.symm.trans hi))))
   ·have hgk : i = k := by have := h.symm.trans hi; simpa using this.symm
    rw [World.size_drew] at hz
    exact .inr (by have := uh HBX; omega)
  ·exact .inl (.inr (.inr (.inr hi)))
 ·refine ((uh HK1).mono (M' := b.foot x.k) (fun i _ h => .inl h)).trans hkd (fun i hi _ => ?_)
  rcases hi with hi | hi
  ·exact .inr (.inl hi)
  ·exact .inr (.inr (.inl hi))
end Go.Proofs.YtahnliehdjncdaaGreatDoor
