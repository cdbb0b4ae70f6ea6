import Derived.Test.YtahnliehdjncdaaGreatDoorXBD
import Derived.Test.YtahnliehdjncdaaGreatDoorXBF
import Derived.Test.YtahnliehdjncdaaGreatDoorXBE
import Derived.Deep.Slices
import Derived.OpenShut
import Derived.ProofKit
import Derived.SizedLaws
import Derived.Test.YtahnliehdjncdaaGreatDoorRows
import Derived.Laws.AppendOwnNone
import Derived.Test.YtahnliehdjncdaaGreatDoorXAU
import Derived.Deep.DeepHandedRow
import Derived.Lib.LaidTab
import Derived.SevenTiedAt
import Derived.Test.YtahnliehdjncdaaGreatDoorCards
import Derived.Test.YtahnliehdjncdaaGreatDoorXAP
import Derived.Test.YtahnliehdjncdaaGreatDoorTie
import Derived.Test.YtahnliehdjncdaaGreatDoorXAZ
import Derived.Test.YtahnliehdjncdaaGreatDoorXAW
set_option maxRecDepth 100000
set_option maxHeartbeats 16000000
namespace Go.Proofs.YtahnliehdjncdaaGreatDoor
open Go.RowKit
attribute [local go_sem ↓] execOp_load38 execOp_load40
attribute [local go_sem] run_load38 run_load40 bigVal_drew hasBig_drew bigVal_ne hasBig_ne bigVal_alloc hasBig_alloc bigVal_new hasBig_newB
theorem step_6 (e : Nat) (v : Value) (clock : Int) (ps : List (SB × Ser)) (o : OpM) (w : World) (h : ERep w e v clock ps) (hkind : o.kind = 6) (hok : ∀ x, x ∈ ps.map (·.2) → SerOk x) (six : ps.length ≤ 6) (c0 : 0 ≤ clock) (c1 : clock ≤ 4611686018427387904) :
  Calls Tryz.prog 35 #[.pointer (some ⟨e, 0, none⟩), o.val] w fun r w' => StepPostB w e v ps clock (ps.map (·.2)) 0 [] (savedB clock (ps.map (·.2))) r w' := by
 have h0 : o.cells[0]? = some (.int .i64 o.kind) := rfl
 have hn1 : (o.kind == 1) = false := by simp [hkind]
 have hn2 : (o.kind == 2) = false := by simp [hkind]
 have hn3 : (o.kind == 3) = false := by simp [hkind]
 have hn4 : (o.kind == 4) = false := by simp [hkind]
 have hn5 : (o.kind == 5) = false := by simp [hkind]
 have hn6 : (o.kind == 6) = true := by simp [hkind]
 have HE := hide h
 have HOK := hide hok
 clear h hkind hok
 unfold OpM.val
 go_enter Tryz.func35, Tryz.ntmps35
 go_wp2_with fail
 have hk0 : Keeps (fun _ => False) w ((w.alloc (.cells o.cells.toArray 40)).alloc (.cells #[.int .i64 0, .slice none 0 0, .string ⟨#[]⟩] 33)) := ((Keeps.refl (fun _ => False) w).alloc _).alloc _
 have HR0 := hide (show Blk ((w.alloc (.cells o.cells.toArray 40)).alloc (.cells #[.int .i64 0, .slice none 0 0, .string ⟨#[]⟩] 33)) (w.heap.size + 1) [.int .i64 0, .slice none 0 0, .string noBytes] 33 from Blk.newAt (by simp) [_, _, _] 33)
 have HE0 := hide ((uh HE).still hk0)
 have HK0 := hide hk0
 clear hk0
 generalize (w.alloc (.cells o.cells.toArray 40)).alloc (.cells #[.int .i64 0, .slice none 0 0, .string ⟨#[]⟩] 33) = w0 at *
 generalize hob : w.heap.size = ob at *
 have HOB := hide hob
 clear hob
 refine (saved_any e v clock ps w0 (uh HE0) (uh HOK) six c0 c1).mono ?_
 rintro r w1 ⟨rfl, hk1⟩
 have HR1 := hide ((uh HR0).keeps hk1 (fun h => h))
 have HK1 := hide ((uh HK0).then hk1)
 clear hk1
 obtain ⟨bb, hbb⟩ : ∃ bb, savedB clock (ps.map (·.2)) = bb := ⟨_, rfl⟩
 rw [hbb]
 have HBB := hide hbb
 clear hbb
 have r0 : w1.cell? ⟨ob + 1, 0, none⟩ = some (.int .i64 0) := (uh HR1).cell rfl
 have r1 : w1.cell? ⟨ob + 1, 1, none⟩ = some (.slice none 0 0) := (uh HR1).cell rfl
 have r2 : w1.cell? ⟨ob + 1, 2, none⟩ = some (.string noBytes) := (uh HR1).cell rfl
 have rf := (uh HR1).frozen
 go_wp2
 have hbf := (((uh HR1).setCell 0 (.int .i64 0)).setCell 1 (.slice none 0 0)).setCell 2 (.string bb)
 have HKF := hide ((((Keeps.refl (fun i => i = ob + 1) w1).setCell (p := ⟨ob + 1, 0, none⟩) (Or.inl rfl) (.int .i64 0)).setCell (p := ⟨ob + 1, 1, none⟩) (Or.inl rfl) (.slice none 0 0)).setCell (p := ⟨ob + 1, 2, none⟩) (Or.inl rfl) (.string bb))
 generalize (((w1.setCell ⟨ob + 1, 0, none⟩ (.int .i64 0)).setCell ⟨ob + 1, 1, none⟩ (.slice none 0 0)).setCell ⟨ob + 1, 2, none⟩ (.string bb)) = w9 at *
 have q0 : w9.cell? ⟨ob + 1, 0, none⟩ = some (.int .i64 0) := hbf.cell rfl
 have q1 : w9.cell? ⟨ob + 1, 1, none⟩ = some (.slice none 0 0) := hbf.cell rfl
 have q2 : w9.cell? ⟨ob + 1, 2, none⟩ = some (.string bb) := hbf.cell rfl
 refine bodyPost_ret (v := ansB 0 (.slice none 0 0) bb) (by simp [results, Tryz.results35, go_sem, q0, q1, q2, ansB]) rfl ?_
 have hkf := uh HKF
 have hob := uh HOB
 have hkk : Keeps (fun _ => False) w w9 := (uh HK1).trans hkf (fun i hi hlt => by omega)
 exact ⟨.slice none 0 0, v, ps, by rw [uh HBB], (uh HE).still hkk, rfl, World.ownsRow_nil _ _ _ _, hkk.mono (fun _ _ h => h.elim), fun i hi => .inl hi, fun i hi => by cases hi⟩
end Go.Proofs.YtahnliehdjncdaaGreatDoor
namespace Go.Proofs.YtahnliehdjncdaaGreatDoor
open Go.RowKit
theorem step_any (n : Int) (e : Nat) (v : Value) (clock : Int) (ps : List (SB × Ser)) (o : OpM) (w : World) (h : ERep w e v clock ps) (hi : EInv n clock (ps.map (·.2))) (hn : n ≤ 651562446200) (hT : Tab w) (hT0 : ¬ EFoot e v ps 2) (h7 : o.kind ≠ 7) (h6 : o.kind = 6 → ∀ x, x ∈ ps.map (·.2) → SerOk x) :
  Calls Tryz.prog 35 #[.pointer (some ⟨e, 0, none⟩), o.val] w fun r w' =>
   StepPostB w e v ps (stepM ⟨clock, ps.map (·.2)⟩ o).1.clock (stepM ⟨clock, ps.map (·.2)⟩ o).1.xs (stepM ⟨clock, ps.map (·.2)⟩ o).2.1 (stepM ⟨clock, ps.map (·.2)⟩ o).2.2 (bytesM ⟨clock, ps.map (·.2)⟩ o) r w' := by
 by_cases h6' : o.kind = 6
 ·have hM : stepM ⟨clock, ps.map (·.2)⟩ o = (⟨clock, ps.map (·.2)⟩, 0, []) := by unfold stepM; rw [if_neg (by omega), if_neg (by omega), if_neg (by omega), if_neg (by omega), if_neg (by omega), if_pos h6']
  have hB : bytesM ⟨clock, ps.map (·.2)⟩ o = savedB clock (ps.map (·.2)) := by unfold bytesM saveM; rw [if_pos h6']
  rw [hM, hB]
  exact step_6 e v clock ps o w h h6' (h6 h6') (by have := hi.six; rw [List.length_map] at this; exact this) hi.c0 hi.c1
 have h67 : o.kind ≠ 6 ∧ o.kind ≠ 7 := ⟨h6', h7⟩
 have hby : bytesM ⟨clock, ps.map (·.2)⟩ o = noBytes := by unfold bytesM; rw [if_neg h67.1]
 rw [hby]
 have hfind := findP_findS ps o.id
 by_cases h1 : o.kind = 1
 ·have hM : stepM ⟨clock, ps.map (·.2)⟩ o = createM ⟨clock, ps.map (·.2)⟩ o := by unfold stepM; rw [if_pos h1]
  rw [hM]
  refine (step_1 e v clock ps o w h h1 _ _ _ _ (fun w0 h0 => ?_)).mono (fun _ _ h => h.b)
  cases hid : inB o.id 0 99
  ·have : createM ⟨clock, ps.map (·.2)⟩ o = (⟨clock, ps.map (·.2)⟩, 2, []) := by unfold createM; rw [if_neg (by rw [hid]; simp)]
   rw [this]
   exact create_id n e v clock ps o w0 h0 hi hid
  ·cases hf : findP ps o.id with
   | some p =>
    have : createM ⟨clock, ps.map (·.2)⟩ o = (⟨clock, ps.map (·.2)⟩, 2, []) := by unfold createM; rw [if_neg (by simp only; rw [hfind, hf]; simp)]
    rw [this]
    exact create_there n e v clock ps o w0 h0 hi hid p hf
   | none =>
    have hc : (inB o.id 0 99 = true ∧ (findS (⟨clock, ps.map (·.2)⟩ : WS).xs o.id).isNone = true) := ⟨hid, by simp only; rw [hfind, hf]; rfl⟩
    cases hv : validB o.cfg
    ·have : createM ⟨clock, ps.map (·.2)⟩ o = (⟨clock, ps.map (·.2)⟩, 3, []) := by unfold createM; rw [if_pos hc, if_neg (by rw [hv]; simp)]
     rw [this]
     exact create_config n e v clock ps o w0 h0 hi hid hf hv
    ·by_cases h6 : ps.length < 6
     ·have : createM ⟨clock, ps.map (·.2)⟩ o = (⟨clock, ps.map (·.2) ++ [newSer o.id o.cfg o.cfg.kind.toNat]⟩, 0, []) := by unfold createM; rw [if_pos hc, if_pos hv, if_pos (by simpa using h6)]
      rw [this]
      exact create_yes n e v clock ps o w0 h0 hi hid hf hv h6
     ·have : createM ⟨clock, ps.map (·.2)⟩ o = (⟨clock, ps.map (·.2)⟩, 4, []) := by unfold createM; rw [if_pos hc, if_pos hv, if_neg (by simpa using h6)]
      rw [this]
      have h6' : ps.length = 6 := by have := hi.six; rw [List.length_map] at this; omega
      exact create_full n e v clock ps o w0 h0 hi hid hf hv h6'
 by_cases h2 : o.kind = 2
 ·have hM : stepM ⟨clock, ps.map (·.2)⟩ o = addM ⟨clock, ps.map (·.2)⟩ o := by unfold stepM; rw [if_neg h1, if_pos h2]
  rw [hM]
  refine (step_2 e v clock ps o w h h2 _ _ _ _ (fun w0 h0 => ?_)).mono (fun _ _ h => h.b)
  cases hf : findP ps o.id with
  | none =>
   have : addM ⟨clock, ps.map (·.2)⟩ o = (⟨clock, ps.map (·.2)⟩, 2, []) := by unfold addM; simp only; rw [hfind, hf]; rfl
   rw [this]
   exact add_none n e v clock ps o w0 h0 hi hf
  | some p =>
   by_cases hr : refE p.2 clock o.item = 0
   ·have : addM ⟨clock, ps.map (·.2)⟩ o = (⟨clock, updS (ps.map (·.2)) o.id (accS p.2 o.item)⟩, 0, [p.2.acc + 1]) := by unfold addM; simp only; rw [hfind, hf]; simp only [Option.map_some]; rw [if_pos hr]
    rw [this]
    exact add_yes n e v clock ps o w0 h0 hi p hf hr (by omega)
   ·have : addM ⟨clock, ps.map (·.2)⟩ o = (⟨clock, updS (ps.map (·.2)) o.id (refS p.2 (refE p.2 clock o.item).toNat)⟩, refE p.2 clock o.item, []) := by unfold addM; simp only; rw [hfind, hf]; simp only [Option.map_some]; rw [if_neg hr]
    rw [this]
    have hrr := refE_range p.2 clock o.item
    obtain ⟨cd, hcd⟩ := Int.eq_ofNat_of_zero_le hrr.1
    rw [hcd, Int.toNat_natCast]
    exact add_no n e v clock ps o w0 h0 hi p cd hf hcd (by omega) (by omega)
 by_cases h3 : o.kind = 3
 ·have hM : stepM ⟨clock, ps.map (·.2)⟩ o = tickM ⟨clock, ps.map (·.2)⟩ o := by unfold stepM; rw [if_neg h1, if_neg h2, if_pos h3]
  rw [hM]
  refine (step_3 e v clock ps o w h h3 _ _ _ _ (fun w0 h0 hk0 => ?_)).mono (fun _ _ h => h.b)
  cases ha : inB o.a 0 4611686018427387904
  ·have : tickM ⟨clock, ps.map (·.2)⟩ o = (⟨clock, ps.map (·.2)⟩, 5, []) := by unfold tickM; rw [if_neg (by rw [ha]; simp)]
   rw [this]
   exact tick_time n e v clock ps o w0 h0 hi ha
  ·cases hb : inB o.b 0 100
   ·have : tickM ⟨clock, ps.map (·.2)⟩ o = (⟨clock, ps.map (·.2)⟩, 12, []) := by unfold tickM; rw [if_pos ha, if_neg (by rw [hb]; simp)]
    rw [this]
    exact tick_budget n e v clock ps o w0 h0 hi ha hb
   ·have : tickM ⟨clock, ps.map (·.2)⟩ o = (⟨maxC clock o.a, (sweepL (maxC clock o.a) o.b ((ps.map (·.2)).map (tickOne (maxC clock o.a)))).1⟩, 0, [(sweepL (maxC clock o.a) o.b ((ps.map (·.2)).map (tickOne (maxC clock o.a)))).2]) := by unfold tickM; rw [if_pos ha, if_pos hb]
    rw [this]
    exact tick_yes n e v clock ps o w0 h0 hi ha hb hn (hT.keeps hk0 (fun h => h)) hT0
 by_cases h4 : o.kind = 4
 ·have hM : stepM ⟨clock, ps.map (·.2)⟩ o = queryM ⟨clock, ps.map (·.2)⟩ o := by unfold stepM; rw [if_neg h1, if_neg h2, if_neg h3, if_pos h4]
  rw [hM]
  refine (step_4 e v clock ps o w h h4 _ _ _ _ (fun w0 h0 => ?_)).mono (fun _ _ h => h.b)
  cases hf : findP ps o.id with
  | none =>
   have : queryM ⟨clock, ps.map (·.2)⟩ o = (⟨clock, ps.map (·.2)⟩, 2, []) := by unfold queryM; simp only; rw [hfind, hf]; rfl
   rw [this]
   exact query_none n e v clock ps o w0 h0 hi hf
  | some p =>
   have : queryM ⟨clock, ps.map (·.2)⟩ o = (⟨clock, ps.map (·.2)⟩, qryN p.2.k p.2.c p.2.nt o.a (clock - p.2.c.lag)) := by unfold queryM; simp only; rw [hfind, hf]; rfl
   rw [this]
   exact query_some n e v clock ps o w0 h0 hi hn p hf
 by_cases h5 : o.kind = 5
 ·have hM : stepM ⟨clock, ps.map (·.2)⟩ o = statsM ⟨clock, ps.map (·.2)⟩ o := by unfold stepM; rw [if_neg h1, if_neg h2, if_neg h3, if_neg h4, if_pos h5]
  rw [hM]
  refine (step_5 e v clock ps o w h h5 _ _ _ _ (fun w0 h0 => ?_)).mono (fun _ _ h => h.b)
  cases hf : findP ps o.id with
  | none =>
   have : statsM ⟨clock, ps.map (·.2)⟩ o = (⟨clock, ps.map (·.2)⟩, 2, []) := by unfold statsM; simp only; rw [hfind, hf]; rfl
   rw [this]
   exact stats_no n e v clock ps o w0 h0 hi hf
  | some p =>
   have : statsM ⟨clock, ps.map (·.2)⟩ o = (⟨clock, ps.map (·.2)⟩, 0, statsL p.2) := by unfold statsM; simp only; rw [hfind, hf]; rfl
   rw [this]
   exact stats_yes n e v clock ps o w0 h0 hi p hf
 have hM : stepM ⟨clock, ps.map (·.2)⟩ o = (⟨clock, ps.map (·.2)⟩, 1, []) := by unfold stepM; rw [if_neg h1, if_neg h2, if_neg h3, if_neg h4, if_neg h5, if_neg h67.1, if_neg h67.2]
 rw [hM]
 exact (step_no e v clock ps o w h (by omega)).mono (fun _ _ h => h.b)
end Go.Proofs.YtahnliehdjncdaaGreatDoor
namespace Go.Proofs.YtahnliehdjncdaaGreatDoor
open Go.RowKit
def c0 : Cfg := ⟨4, 0, 9, 8, 0, 0, 0, 0, 0, 0, 0, 0, 0, 0, 0, 0, 0, 0, 0, 0⟩
def cz : Cfg := ⟨0, 0, 0, 0, 0, 0, 0, 0, 0, 0, 0, 0, 0, 0, 0, 0, 0, 0, 0, 0⟩
def o1 : OpM := ⟨1, 7, 0, 0, 0, c0, noBytes⟩
def o2 : OpM := ⟨2, 7, 3, 0, 0, cz, noBytes⟩
def o3 : OpM := ⟨3, 0, 5, 0, 0, cz, noBytes⟩
def o4 : OpM := ⟨2, 7, 5, 0, 0, cz, noBytes⟩
def o5 : OpM := ⟨4, 7, 0, 0, 0, cz, noBytes⟩
def fiveCells : List Value := o1.cells ++ (o2.cells ++ (o3.cells ++ (o4.cells ++ o5.cells)))
theorem run_b38 (w : World) : (buildBig 38 #[(0, .int .i64 4), (2, .int .i64 9), (3, .int .i64 8)]).run Tryz.prog w = .ok (.value (.agg c0.cells.toArray)) w := by kernel_rfl
theorem run_b1 (w : World) : (buildBig 40 #[(0, .int .i64 1), (1, .int .i64 7), (5, .agg c0.cells.toArray)]).run Tryz.prog w = .ok (.value (.agg o1.cells.toArray)) w := by kernel_rfl
theorem run_b2 (w : World) : (buildBig 40 #[(0, .int .i64 2), (1, .int .i64 7), (2, .int .i64 3)]).run Tryz.prog w = .ok (.value (.agg o2.cells.toArray)) w := by kernel_rfl
theorem run_b3 (w : World) : (buildBig 40 #[(0, .int .i64 3), (2, .int .i64 5)]).run Tryz.prog w = .ok (.value (.agg o3.cells.toArray)) w := by kernel_rfl
theorem run_b4 (w : World) : (buildBig 40 #[(0, .int .i64 2), (1, .int .i64 7), (2, .int .i64 5)]).run Tryz.prog w = .ok (.value (.agg o4.cells.toArray)) w := by kernel_rfl
theorem run_b5 (w : World) : (buildBig 40 #[(0, .int .i64 4), (1, .int .i64 7)]).run Tryz.prog w = .ok (.value (.agg o5.cells.toArray)) w := by kernel_rfl
theorem execOp_build38 (ρ : Operand → Value) (dst : Option Tmp) (x : Array (Nat × Operand)) (ty : TypeId) (pos : String) (after : Array Edge) (guard : Option (Nat × Bool)) :
  execOp ρ { dst, op := .build 38 x, type := ty, pos, after, guard } = buildBig 38 (x.map fun (i, y) => (i, ρ y)) := rfl
theorem execOp_build40 (ρ : Operand → Value) (dst : Option Tmp) (x : Array (Nat × Operand)) (ty : TypeId) (pos : String) (after : Array Edge) (guard : Option (Nat × Bool)) :
  execOp ρ { dst, op := .build 40 x, type := ty, pos, after, guard } = buildBig 40 (x.map fun (i, y) => (i, ρ y)) := rfl
def bsBig (ty : TypeId) (n : Nat) (ps : Array (Nat × Value)) : Sem Next := do pure (.value (← Instr.buildSlice ty n ps))
theorem execOp_bs22 (ρ : Operand → Value) (dst : Option Tmp) (n : Nat) (x : Array (Nat × Operand)) (ty : TypeId) (pos : String) (after : Array Edge) (guard : Option (Nat × Bool)) :
  execOp ρ { dst, op := .buildSlice 22 n x, type := ty, pos, after, guard } = bsBig 22 n (x.map fun (i, y) => (i, ρ y)) := rfl
theorem run_bs (w : World) : (bsBig 22 5 #[(0, .agg o1.cells.toArray), (1, .agg o2.cells.toArray), (2, .agg o3.cells.toArray), (3, .agg o4.cells.toArray), (4, .agg o5.cells.toArray)]).run Tryz.prog w =
  .ok (.value (.slice (some ⟨w.heap.size, 0, none⟩) 5 5)) (w.alloc (.cells fiveCells.toArray 40)) := by kernel_rfl
theorem execOp_store38 (ρ : Operand → Value) (dst : Option Tmp) (x y : Operand) (ty : TypeId) (pos : String) (after : Array Edge) (guard : Option (Nat × Bool)) :
  execOp ρ { dst, op := .store 38 x y, type := ty, pos, after, guard } = storeBig 38 (ρ x) (ρ y) := rfl
theorem run_store38 (w : World) (zs : List Value) (cs : List Value) (hz : zs.length = 20) (hc : cs.length = 20) (h1 : cs.toArray.all (·.oneCell') = true) :
  (storeBig 38 (.pointer (some ⟨w.heap.size, 0, none⟩)) (.agg cs.toArray)).run Tryz.prog (w.alloc (.cells zs.toArray 38)) = .ok .skip (w.alloc (.cells cs.toArray 38)) := by
 unfold storeBig
 have ht : (w.alloc (.cells zs.toArray 38)).there w.heap.size 0 cs.toArray.size := by
  intro j hj
  have hj' : j < 20 := by simpa [hc] using hj
  rw [Nat.zero_add, World.cell?_alloc_new, World.frozen?_alloc_new]
  simp [hz, hj']
 rw [Sem.run_bind, run_storeAt_mid _ w.heap.size 0 38 cs.toArray ht (by rw [size38]; simp [hc]) h1]
 have h2 := setFrom_all cs [] zs (by omega)
 simp only [List.nil_append, List.length_nil] at h2
 rw [setCells_new, List.toList_toArray, h2]
 rfl
end Go.Proofs.YtahnliehdjncdaaGreatDoor
namespace Go.Proofs.YtahnliehdjncdaaGreatDoor
open Go.RowKit
theorem Dr.swapL_all {P : Dr.It → Prop} (h0 : P ⟨0, 0, 0, 0, 0⟩) {l : List Dr.It} (h : ∀ y, y ∈ l → P y) (i j : Nat) : ∀ y, y ∈ Dr.swapL l i j → P y := by
 have hat : ∀ i, P (Dr.itAt l i) := by
  intro i
  unfold Dr.itAt
  rw [List.getD_eq_getElem?_getD]
  cases hi : l[i]? with
  | none => exact h0
  | some v => exact h v (List.mem_of_getElem? hi)
 intro y hy
 unfold Dr.swapL at hy
 rcases List.mem_or_eq_of_mem_set hy with hy | hy
 ·rcases List.mem_or_eq_of_mem_set hy with hy | hy
  ·exact h y hy
  ·subst hy; exact hat j
 ·subst hy; exact hat i
theorem Dr.itAt_all {P : Dr.It → Prop} (h0 : P ⟨0, 0, 0, 0, 0⟩) {l : List Dr.It} (h : ∀ y, y ∈ l → P y) (i : Nat) : P (Dr.itAt l i) := by
 unfold Dr.itAt
 rw [List.getD_eq_getElem?_getD]
 cases hi : l[i]? with
 | none => exact h0
 | some v => exact h v (List.mem_of_getElem? hi)
theorem Dr.riseL_all {P : Dr.It → Prop} (h0 : P ⟨0, 0, 0, 0, 0⟩) (f : Nat) (l : List Dr.It) (i : Nat) (h : ∀ y, y ∈ l → P y) : ∀ y, y ∈ Dr.riseL f l i → P y := by
 induction f generalizing l i with
 | zero => exact h
 | succ f ih =>
  unfold Dr.riseL
  split
  ·exact h
  ·split
   ·exact ih _ _ (Dr.swapL_all h0 h _ _)
   ·exact h
theorem Dr.sinkL_all {P : Dr.It → Prop} (h0 : P ⟨0, 0, 0, 0, 0⟩) (f : Nat) (l : List Dr.It) (i : Nat) (h : ∀ y, y ∈ l → P y) : ∀ y, y ∈ Dr.sinkL f l i → P y := by
 induction f generalizing l i with
 | zero => exact h
 | succ f ih =>
  unfold Dr.sinkL
  split
  ·exact h
  ·split
   ·exact ih _ _ (Dr.swapL_all h0 h _ _)
   ·exact h
theorem Dr.takeL_all {P : Dr.It → Prop} (h0 : P ⟨0, 0, 0, 0, 0⟩) (l : List Dr.It) (h : ∀ y, y ∈ l → P y) : ∀ y, y ∈ Dr.takeL l → P y := by
 unfold Dr.takeL
 refine Dr.sinkL_all h0 _ _ _ (fun y hy => ?_)
 have hy := List.mem_of_mem_take hy
 rcases List.mem_or_eq_of_mem_set hy with hy | hy
 ·exact h y hy
 ·subst hy; exact Dr.itAt_all h0 h _
theorem Dr.allL_all {P : Dr.It → Prop} (h0 : P ⟨0, 0, 0, 0, 0⟩) : ∀ (f : Nat) (l : List Dr.It), (∀ y, y ∈ l → P y) → ∀ y, y ∈ Dr.allL f l → P y
 | 0, _, _ => fun y hy => by simp [Dr.allL] at hy
 | f + 1, l, h => fun y hy => by
  unfold Dr.allL at hy
  split at hy
  ·cases hy
  ·rcases List.mem_cons.1 hy with e | e
   ·rw [e]; exact Dr.itAt_all h0 h 0
   ·exact Dr.allL_all h0 f _ (Dr.takeL_all h0 l h) y e
theorem Qi.allL_all {P : It → Prop} (h0 : P ⟨0, 0, 0, 0⟩) : ∀ (f : Nat) (l : List It), (∀ y, y ∈ l → P y) → ∀ y, y ∈ Qi.allL f l → P y
 | 0, _, _ => fun y hy => by simp [Qi.allL] at hy
 | f + 1, l, h => fun y hy => by
  unfold Qi.allL at hy
  split at hy
  ·cases hy
  ·rcases List.mem_cons.1 hy with e | e
   ·rw [e]; exact itAt_all h0 h 0
   ·exact Qi.allL_all h0 f _ (takeL_all h0 l h) y e
def Fall (l : List Bk) : Prop := l.Pairwise (fun a b => b.t < a.t)
theorem Fall.take {l : List Bk} (h : Fall l) (k : Nat) : Fall (l.take k) := List.Pairwise.sublist (List.take_sublist k l) h
theorem Fall.drop {l : List Bk} (h : Fall l) (k : Nat) : Fall (l.drop k) := List.Pairwise.sublist (List.drop_sublist k l) h
theorem dropT_gt (r : Int) : ∀ (n : Nat) (l : List Bk), l.length = n → Fall l → ∀ b, b ∈ dropT r l → r < b.t
 | 0, l, hn, _ => fun b hb => by
  have : l = [] := List.length_eq_zero_iff.1 hn
  subst this
  rw [dropT_nil] at hb
  cases hb
 | n + 1, l, hn, hf => fun b hb => by
  have hp : 0 < l.length := by omega
  by_cases hc : (bkAt l (l.length - 1)).t ≤ r
  ·rw [dropT_step hp hc] at hb
   exact dropT_gt r n (l.take (l.length - 1)) (by rw [List.length_take]; omega) (hf.take _) b hb
  ·rw [dropT_stop hp hc] at hb
   rw [last_split l hp] at hb hf
   rcases List.mem_append.1 hb with h1 | h1
   ·have := (List.pairwise_append.1 hf).2.2 b h1 _ (List.mem_singleton.2 rfl)
    omega
   ·rw [List.mem_singleton] at h1; rw [h1]; omega
theorem keepL_fall {l : List Bk} (x : Bk) (h : Fall l) : Fall (keepL l x) := by
 obtain ⟨k, hk, _⟩ := dropT_pre x.t l
 unfold keepL
 split
 ·rw [hk]; exact h.take k
 ·refine List.pairwise_append.2 ⟨by rw [hk]; exact h.take k, List.pairwise_singleton _ _, fun a ha b hb => ?_⟩
  rw [List.mem_singleton] at hb
  rw [hb]
  exact dropT_gt x.t l.length l rfl h a ha
theorem fall_length : ∀ (l : List Bk) (m : Int), Fall l → (∀ b ∈ l, 1 ≤ b.t ∧ b.t ≤ m) → (l.length : Int) ≤ max m 0
 | [], m, _, _ => by simp; omega
 | a :: l, m, h, hb => by
  have h1 := hb a (by simp)
  have h2 := List.pairwise_cons.1 h
  have h3 := fall_length l (a.t - 1) h2.2 (fun b hb' => ⟨(hb b (by simp [hb'])).1, by have := h2.1 b hb'; omega⟩)
  rw [List.length_cons]
  omega
def TkOk (z : Dr.It) : Prop := (0 ≤ z.t ∧ z.t ≤ 4611686018427387904) ∧ (0 ≤ z.k ∧ z.k ≤ 4611686018427387904) ∧ (0 ≤ z.d ∧ z.d ≤ 4611686018427387904) ∧ (0 ≤ z.n ∧ z.n ≤ 4611686018427387904)
structure NX (k : Nat) (nt : Note) : Prop where
 bt : ∀ b ∈ nt.bs, 0 ≤ b.t ∧ b.t ≤ 4611686018427387904
 rt : ∀ i, ∀ b ∈ nt.rg i, 0 ≤ b.sz ∧ b.sz ≤ 4611686018427387904
 rf : ∀ i, Fall (nt.rg i)
 tt : k = 5 → ∀ z ∈ nt.tk, TkOk z
theorem joinL_all {P : Int → Prop} (h0 : P 0) (K : Int) (f : Nat) (l : List Bk) (sz : Int) (e : Nat) (h : ∀ b ∈ l, P b.t) : ∀ b ∈ joinL K f l sz e, P b.t := by
 induction f generalizing l sz e with
 | zero => exact h
 | succ f ih =>
  unfold joinL
  split
  ·exact h
  ·refine ih _ _ _ (joinAt_all (P := fun b => P b.t) l _ _ h ?_)
   show P (bkAt l _).t
   unfold bkAt
   rw [List.getD_eq_getElem?_getD]
   cases hi : l[startN l sz e + 1]? with
   | none => exact h0
   | some b => exact h b (List.mem_of_getElem? hi)
theorem relN_nx {k : Nat} {c : Cfg} {nt : Note} (h : NX k nt) (y : It) (m : Int) (t0 : 0 ≤ y.t) (t1 : y.t ≤ 4611686018427387904) (hy : k = 5 → (0 ≤ y.k ∧ y.k ≤ 4611686018427387904) ∧ (0 ≤ y.d ∧ y.d ≤ 4611686018427387904) ∧ (0 ≤ y.n ∧ y.n ≤ 4611686018427387904)) : NX k (relN k c nt y m) := by
 unfold relN
 split
 ·exact ⟨h.bt, h.rt, h.rf, h.tt⟩
 ·split
  ·refine ⟨?_, h.rt, h.rf, h.tt⟩
   refine joinL_all (P := fun t => 0 ≤ t ∧ t ≤ 4611686018427387904) (by omega) _ _ _ _ _ (fun b hb => ?_)
   unfold putB at hb
   rcases List.mem_append.1 hb with hb | hb
   ·exact h.bt b (List.mem_of_mem_drop hb)
   ·rw [List.mem_singleton] at hb; rw [hb]; exact ⟨t0, t1⟩
  ·split
   ·refine ⟨h.bt, fun i b hb => ?_, fun i => ?_, h.tt⟩
    ·have hb' : b ∈ relD c (regN c) nt.rg y m i := hb
     unfold relD at hb'
     split at hb'
     ·rcases keepL_mem hb' with hb' | hb'
      ·exact h.rt i b (List.mem_of_mem_drop hb')
      ·rw [hb']; exact ⟨t0, t1⟩
     ·exact h.rt i b hb'
    ·show Fall (relD c (regN c) nt.rg y m i)
     unfold relD
     split
     ·exact keepL_fall _ ((h.rf i).drop _)
     ·exact h.rf i
   ·split
    ·exact ⟨h.bt, h.rt, h.rf, h.tt⟩
    ·split
     ·rename_i h5
      refine ⟨h.bt, h.rt, h.rf, fun _ => ?_⟩
      have hz : TkOk ⟨0, 0, 0, 0, 0⟩ := ⟨⟨by simp, by simp⟩, ⟨by simp, by simp⟩, ⟨by simp, by simp⟩, ⟨by simp, by simp⟩⟩
      have h1 : ∀ z, z ∈ Dr.riseL (nt.tk.length + 1) (nt.tk ++ [tick c y]) nt.tk.length → TkOk z := Dr.riseL_all hz _ _ _ (fun z hz' => by
         rcases List.mem_append.1 hz' with hz' | hz'
         ·exact h.tt h5 z hz'
         ·rw [List.mem_singleton] at hz'; rw [hz']; exact ⟨⟨t0, t1⟩, hy h5⟩)
      show ∀ z ∈ relT c nt.tk y, TkOk z
      unfold relT
      split
      ·exact Dr.takeL_all hz _ h1
      ·exact h1
     ·exact h
structure SX (x : Ser) : Prop where
 id0 : 0 ≤ x.id ∧ x.id ≤ 99
 accm : x.acc ≤ 4611686018427387904
 nums : ∀ y, y ∈ x.l → 0 ≤ y.n ∧ y.n ≤ 4611686018427387904
 refm : ∀ v, v ∈ x.ref → v ≤ 4611686018427387904
 note : NX x.k x.nt
theorem kindE_five {c : Cfg} {k : Nat} {y : It} (h : kindE c k y = 0) (hk : k = 5) : (0 ≤ y.k ∧ y.k ≤ 4611686018427387904) ∧ (0 ≤ y.d ∧ y.d ≤ 4611686018427387904) := by
 subst hk
 have h2 : drawnE c y = 0 := h
 unfold drawnE at h2
 split at h2
 ·split at h2
  ·rename_i h3
   split at h2
   ·rename_i h4
    have a := inB_iff h3
    have b := inB_iff h4
    omega
   ·omega
  ·omega
 ·omega
theorem relOne_sx {n : Int} {x : Ser} (h : SX x) (hi : SInv n x) (hl : x.l ≠ []) (m : Int) : SX (relOne x m) := by
 have hmem := itAt_mem hl
 have ht := hi.times _ hmem
 refine ⟨h.id0, h.accm, fun y hy => h.nums y (takeL_sub hi.heap hl hy), h.refm, ?_⟩
 exact relN_nx h.note _ _ ht.1 ht.2 (fun e => by
    have hk := kindE_five (hi.fits _ hmem) e
    exact ⟨hk.1, hk.2, h.nums _ hmem⟩)
theorem relS_sx (f : Nat) {n : Int} {x : Ser} (h : SX x) (hi : SInv n x) (m : Int) : SX (relS f x m) := by
 induction f generalizing x with
 | zero => exact h
 | succ f ih =>
  unfold relS
  split
  ·exact h
  ·rename_i he
   have hl : x.l ≠ [] := by simpa using he
   split
   ·exact h
   ·rename_i hm
    exact ih (relOne_sx h hi hl m) (relOne_inv hi hl m hm)
theorem swpS_sx {x : Ser} (clock b : Int) (h : SX x) : SX (swpS clock b x) := by
 refine ⟨h.id0, h.accm, h.nums, h.refm, ?_⟩
 show NX x.k (swpN x.k x.c x.nt (clock - x.c.lag) b).1
 unfold swpN
 split
 ·exact ⟨fun z hz => h.note.bt z (List.mem_of_mem_drop hz), h.note.rt, h.note.rf, h.note.tt⟩
 ·exact h.note
theorem accS_sx {n : Int} {x : Ser} (h : SX x) (hi : SInv n x) (y : It) (ha : x.acc < 4611686018427387904) : SX (accS x y) := by
 have h0 := hi.acc0
 have hp := put_heap x.l (numbered y (x.acc + 1)) hi.heap
 refine ⟨h.id0, by show x.acc + 1 ≤ _; omega, fun z hz => ?_, h.refm, h.note⟩
 rcases List.mem_cons.1 (hp.2.subset hz) with e | e
 ·rw [e]; show 0 ≤ x.acc + 1 ∧ x.acc + 1 ≤ _; omega
 ·exact h.nums z e
theorem refS_sx {x : Ser} (h : SX x) (c : Nat) : SX (refS x c) := by
 refine ⟨h.id0, h.accm, h.nums, fun v hv => ?_, h.note⟩
 rcases List.mem_or_eq_of_mem_set hv with hv | hv
 ·exact h.refm v hv
 ·rw [hv]; unfold minI; split <;> omega
theorem newSer_sx (id : Int) (c : Cfg) (k : Nat) (h : 0 ≤ id ∧ id ≤ 99) : SX (newSer id c k) := by
 refine ⟨h, by show (0 : Int) ≤ _; omega, fun y hy => (by cases hy), fun v hv => ?_, ⟨fun b hb => (by cases hb), fun i b hb => (by cases hb), fun i => List.Pairwise.nil, fun _ z hz => (by cases hz)⟩⟩
 have : v = 0 := by simpa [newSer] using hv
 omega
def EX (s : WS) : Prop := ∀ x, x ∈ s.xs → SX x
def LoadX (o : OpM) : Prop := o.kind = 7 → ∀ s', loadM o.bytes = some s' → EX s'
theorem stepM_ex {n : Int} {s : WS} (o : OpM) (h : EX s) (hi : EInv n s.clock s.xs) (hL : LoadX o) : EX (stepM s o).1 := by
 unfold stepM
 split
 ·unfold createM
  split
  ·rename_i hc
   split
   ·split
    ·intro x hx
     rcases List.mem_append.1 hx with hx | hx
     ·exact h x hx
     ·rw [List.mem_singleton] at hx; rw [hx]; exact newSer_sx _ _ _ (inB_iff hc.1)
    ·exact h
   ·exact h
  ·exact h
 ·split
  ·unfold addM
   split
   ·exact h
   ·rename_i x hf
    have hx : x ∈ s.xs := List.mem_of_find?_eq_some hf
    split
    ·rename_i hr
     obtain ⟨_, _, _, _, _, _, ha⟩ := refE_zero hr
     intro z hz
     rcases updS_mem hz with hz | hz
     ·exact h z hz
     ·rw [hz]; exact accS_sx (h x hx) (hi.sers x hx) _ ha
    ·intro z hz
     rcases updS_mem hz with hz | hz
     ·exact h z hz
     ·rw [hz]; exact refS_sx (h x hx) _
  ·split
   ·unfold tickM
    split
    ·split
     ·refine sweepL_mem (P := SX) _ (fun b x hx => swpS_sx _ b hx) _ _ (fun z hz => ?_)
      obtain ⟨x, hx, rfl⟩ := List.mem_map.1 hz
      exact relS_sx _ (h x hx) (hi.sers x hx) _
     ·exact h
    ·exact h
   ·split
    ·unfold queryM
     split <;> exact h
    ·split
     ·unfold statsM
      split <;> exact h
     ·split
      ·exact h
      ·split
       ·rename_i h7
        unfold loadS
        split
        ·exact h
        ·rename_i s' hs'
         exact hL h7 s' hs'
       ·exact h
theorem cfgNums_bd {c : Cfg} {k : Nat} (hv : validB c = true) (hk : c.kind = k) (k1 : 1 ≤ k) (k5 : k ≤ 5) : (∀ n, n ∈ cfgNums k c → 0 ≤ n ∧ n ≤ 9223372036854775807) ∧ 0 ≤ pairsN k c ∧ pairsN k c ≤ 3 := by
 have hcm : 0 ≤ c.lag ∧ c.lag ≤ 100 ∧ 0 ≤ c.skew ∧ c.skew ≤ 100 ∧ 1 ≤ c.cap ∧ c.cap ≤ 8 := by
  have := hv
  simp only [validB, commonB, inB, Bool.and_eq_true, decide_eq_true_eq] at this
  omega
 have hkn : c.kind.toNat = k := by omega
 have hfit : kindFits c k = true := by
  have := hv
  simp only [validB, Bool.and_eq_true] at this
  rw [← hkn]; exact this.2.2
 rcases five k1 k5 with e | e | e | e | e <;> subst e
 ·obtain ⟨a1, a2, a3, a4⟩ := valid_count hv hk rfl
  refine ⟨fun n hn => ?_, by simp [pairsN], by simp [pairsN]⟩
  simp [cfgNums, namedL, pairsN, seedsL, Cfg.num, Cfg.nums] at hn
  omega
 ·obtain ⟨⟨p1, p2, p3, p4⟩, a2, a3, a4, a5⟩ := valid_distinct hv hk rfl
  refine ⟨fun n hn => ?_, by simp [pairsN], by simp [pairsN]⟩
  simp [cfgNums, namedL, pairsN, seedsL, Cfg.num, Cfg.nums, List.range_succ] at hn
  omega
 ·obtain ⟨hp, hr, _⟩ := valid_often hv hk rfl
  obtain ⟨r0, r1, w0, w1, sd⟩ := hr
  have q0 := hp.w0; have q1 := hp.w1; have q2 := hp.p0; have q3 := hp.p1
  refine ⟨fun n hn => ?_, by simp [pairsN]; omega, by simp [pairsN]; omega⟩
  have hr3 : c.rows = 1 ∨ c.rows = 2 ∨ c.rows = 3 := by omega
  rcases hr3 with e | e | e
  ·have s0 := sd 0 (by omega)
   simp [cfgNums, namedL, pairsN, seedsL, Cfg.num, Cfg.nums, e, List.range_succ] at hn
   simp [sdA, sdB] at s0
   omega
  ·have s0 := sd 0 (by omega)
   have s1 := sd 1 (by omega)
   simp [cfgNums, namedL, pairsN, seedsL, Cfg.num, Cfg.nums, e, List.range_succ] at hn
   simp [sdA, sdB] at s0 s1
   omega
  ·have s0 := sd 0 (by omega)
   have s1 := sd 1 (by omega)
   have s2 := sd 2 (by omega)
   simp [cfgNums, namedL, pairsN, seedsL, Cfg.num, Cfg.nums, e, List.range_succ] at hn
   simp [sdA, sdB] at s0 s1 s2
   omega
 ·have hd : decayB c = true := hfit
  simp only [decayB, inB, Bool.and_eq_true, decide_eq_true_eq] at hd
  refine ⟨fun n hn => ?_, by simp [pairsN], by simp [pairsN]⟩
  simp [cfgNums, namedL, pairsN, seedsL, Cfg.num, Cfg.nums] at hn
  omega
 ·have hd : drawnB c = true := hfit
  simp only [drawnB, decayB, inB, Bool.and_eq_true, decide_eq_true_eq] at hd
  refine ⟨fun n hn => ?_, by simp [pairsN], by simp [pairsN]⟩
  simp [cfgNums, namedL, pairsN, seedsL, Cfg.num, Cfg.nums] at hn
  omega
theorem serOk_of {n : Int} {x : Ser} (h : SX x) (hi : SInv n x) (hn : x.rel ≤ 1000000000000) : SerOk x := by
 obtain ⟨a1, a2, a3⟩ := cfgNums_bd hi.valid hi.kind hi.k1 hi.k5
 have hcm := hi.common
 have hcap := hi.cap
 have hlen : x.l.length ≤ 8 := by omega
 have hni := hi.note
 have hr0 := hi.rel0
 have hone := length_le_sumB hni.one
 have hsum := hni.sum
 refine ⟨by have := h.id0; omega, a1, a2, a3, hi.reflen, fun v hv => by have h1 := hi.refn v hv; have h2 := h.refm v hv; omega, by omega, hlen, ?_, ?_, hi.valid, hi.kind, hi.k1, hi.k5⟩
 ·intro m hm
  unfold bufN at hm
  obtain ⟨y, hy, hmy⟩ := List.mem_flatMap.1 hm
  have hP := Qi.allL_all (P := fun y => (0 ≤ y.n ∧ y.n ≤ 4611686018427387904) ∧ (0 ≤ y.t ∧ y.t ≤ 4611686018427387904) ∧ (x.k = 2 ∨ x.k = 3 ∨ x.k = 5 → 0 ≤ y.k ∧ y.k ≤ 4611686018427387904) ∧ (x.k = 5 → 0 ≤ y.d ∧ y.d ≤ 4611686018427387904)) (by simp) (x.l.length + 1) x.l (fun y hy => ⟨h.nums y hy, hi.times y hy, fun hk => by
       rcases hk with e | e | e
       ·have := kindE_key (hi.fits y hy) (.inl e); omega
       ·have := kindE_key (hi.fits y hy) (.inr e); omega
       ·exact (kindE_five (hi.fits y hy) e).1, fun e => (kindE_five (hi.fits y hy) e).2⟩) y hy
  obtain ⟨p1, p2, p3, p4⟩ := hP
  unfold itemN at hmy
  rcases List.mem_cons.1 hmy with e | e
  ·rw [e]; omega
  ·obtain ⟨j, hj, rfl⟩ := List.mem_map.1 e
   have hk1 := hi.k1; have hk5 := hi.k5
   have hj' : j = 0 ∨ (j = 1 ∧ (x.k = 2 ∨ x.k = 3 ∨ x.k = 5)) ∨ (j = 2 ∧ x.k = 5) := by
    have hk : x.k = 1 ∨ x.k = 2 ∨ x.k = 3 ∨ x.k = 4 ∨ x.k = 5 := by omega
    rcases hk with e | e | e | e | e <;> rw [e] at hj <;> simp [askedL] at hj <;> omega
   rcases hj' with e | ⟨e, hk⟩ | ⟨e, hk⟩
   ·subst e; show 0 ≤ y.t ∧ y.t ≤ _; omega
   ·subst e; have := p3 hk; show 0 ≤ y.k ∧ y.k ≤ _; omega
   ·subst e; have := p4 hk; show 0 ≤ y.d ∧ y.d ≤ _; omega
 ·refine ⟨by have := hni.q0; have := hni.qn; omega, by have := hni.r0; have := hni.r1; omega, by omega, fun b hb => ⟨hni.one b hb, ?_⟩, fun b hb => by have := h.note.bt b hb; omega, fun i => ?_, fun i b hb => by have h1 := h.note.rt i b hb; have h2 := hni.rk i b hb; omega, fun e => ?_, fun e => ?_, fun e m hm => ?_⟩
  ·have : b.sz ≤ sumB x.nt.bs := by
    have h1 := List.append_of_mem hb
    obtain ⟨s, t, hst⟩ := h1
    rw [hst, sumB_append]
    have h2 := sumB_nonneg (l := s) (fun z hz => hni.one z (by rw [hst]; simp [hz]))
    have h3 := sumB_nonneg (l := t) (fun z hz => hni.one z (by rw [hst]; simp [hz]))
    simp only [sumB]; omega
   omega
  ·have := fall_length (x.nt.rg i) 40 (h.note.rf i) (hni.rk i)
   omega
  ·obtain ⟨b1, b2, b3, b4, b5⟩ := valid_often hi.valid hi.kind e
   have ho := hni.oi e
   have hcl : x.nt.cl.length ≤ 8 := by have := ho.len; have := b1.p1; omega
   exact ⟨by omega, ho.okC hi.lastn b3 b4, ho.okO hi.lastn b3 b4, fun z hz => by have := ho.ocs z hz; omega, fun p hp z hz => by have := ho.ccs p hp z hz; omega⟩
  ·have h1 := hni.tl e
   have h2 := (valid_drawn hi.valid hi.kind e).2
   omega
  ·unfold savT at hm
   obtain ⟨z, hz, hmz⟩ := List.mem_flatMap.1 hm
   have hP : TkOk z := Dr.allL_all (P := TkOk) ⟨⟨by simp, by simp⟩, ⟨by simp, by simp⟩, ⟨by simp, by simp⟩, ⟨by simp, by simp⟩⟩ _ _ (h.note.tt e) z hz
   obtain ⟨z1, z2, z3, z4⟩ := hP
   simp at hmz
   rcases hmz with e | e | e | e <;> rw [e] <;> omega
end Go.Proofs.YtahnliehdjncdaaGreatDoor
namespace Go.Proofs.YtahnliehdjncdaaGreatDoor
open Go.RowKit
attribute [local go_sem ↓] execOp_load38 execOp_load40 execOp_store38 execOp_build38 execOp_build40 execOp_bs22
attribute [local go_sem] run_load38 run_load40 bigVal_drew hasBig_drew bigVal_ne hasBig_ne bigVal_alloc hasBig_alloc run_b38 run_b1 run_b2 run_b3 run_b4 run_b5 run_bs
def OkRun (ops : List OpM) : Prop := ∀ o, o ∈ ops → o.kind ≠ 7
theorem endM_ex {n : Int} {s : WS} (l : List OpM) (h : EX s) (hi : EInv n s.clock s.xs) (hn : 0 ≤ n) (hok : OkRun l) : EX (endM s l) := by
 induction l generalizing s n with
 | nil => exact h
 | cons a l ih =>
  have ha := hok a (by simp)
  exact ih (stepM_ex a h hi (fun e => (ha e).elim)) (stepM_inv a hi hn (loadOk_none ha)) (by omega) (fun o ho => hok o (by simp [ho]))
theorem run_all (sb so cap : Nat) (ops : List OpM) (w : World) (hsc : ScriptAt w sb so ops) (hlt : sb < w.heap.size) (hlen : ops.length ≤ 651562446090) (hT : Tab w) (hok : OkRun ops) :
  Calls Tryz.prog 19 #[.slice (some ⟨sb, so, none⟩) ops.length cap] w fun r w' => ∃ v l, r = .returned v ∧ ARep w' w.heap.size v l ∧ l.map (fun x => (x.code, x.nums)) = runM ws0 ops ∧ l.map (·.bs) = runB ws0 ops ∧ Keeps (fun _ => False) w w' :=
 run_any sb so cap ops w hsc hlt hlen hT (fun _ o ho => loadOk_none (hok o (List.mem_of_getElem? ho))) (fun i e v clock ps o w ho hs h hi hn hT hT0 => step_any i e v clock ps o w h hi hn hT hT0 (hok o (List.mem_of_getElem? ho)) (fun _ x hx => by
      have hex : EX (endM ws0 (ops.take i)) := endM_ex (ops.take i) (fun x hx => by simp [ws0] at hx) inv0 (by omega) (fun o ho => hok o (List.mem_of_mem_take ho))
      rw [← hs] at hex
      have hsi := hi.sers x hx
      exact serOk_of (hex x hx) hsi (by have h1 := hsi.rela; have h2 := hsi.accn; omega)))
theorem runB_no (s : WS) (ops : List OpM) (h : ∀ o, o ∈ ops → o.kind ≠ 6) : runB s ops = List.replicate ops.length noBytes := by
 induction ops generalizing s with
 | nil => rfl
 | cons o r ih =>
  unfold runB bytesM
  rw [if_neg (h o (by simp)), ih _ (fun x hx => h x (by simp [hx])), List.length_cons, List.replicate_succ]
theorem bs_no {l : List Ans} {ops : List OpM} (hb : l.map (·.bs) = runB ws0 ops) (h : ∀ o, o ∈ ops → o.kind ≠ 6) : ∀ x, x ∈ l → x.bs = noBytes := by
 intro x hx
 have h1 : x.bs ∈ l.map (·.bs) := List.mem_map_of_mem hx
 rw [hb, runB_no _ _ h] at h1
 exact (List.mem_replicate.1 h1).2
theorem ans_row {w : World} {base : Nat} {v : Value} {l : List Ans} (h : ARep w base v l) (hl : l ≠ []) : ∃ g cap, v = .slice (some ⟨g, 0, none⟩) l.length cap ∧ ∀ i u, (ansFlat l)[i]? = some u → w.cell? ⟨g, i, none⟩ = some u := by
 rcases h.row.2 with ⟨_, h2⟩ | ⟨g, cap, cur, h1, _, h3, h4, h5, h6, h7⟩
 ·exact absurd (List.length_eq_zero_iff.1 h2) hl
 ·refine ⟨g, cap, h1, fun i u hu => ?_⟩
  have hi : i < l.length * 3 := by have := (List.getElem?_eq_some_iff.1 hu).1; have := h.row.1; omega
  have : cur[i]? = some u := by
   rw [← h7, List.getElem?_take, if_pos hi] at hu
   simpa using hu
  simp [World.cell?, h3, this]
end Go.Proofs.YtahnliehdjncdaaGreatDoor
namespace Go.Proofs.YtahnliehdjncdaaGreatDoor
open Go.RowKit
attribute [local go_sem ↓] execOp_load38 execOp_load40 execOp_store40
attribute [local go_sem] run_load38 run_load40 bigVal_drew hasBig_drew bigVal_ne hasBig_ne bigVal_alloc hasBig_alloc
theorem step_nums {n : Int} {s : WS} (o : OpM) (h : EInv n s.clock s.xs) : (stepM s o).2.2.length ≤ 17 := by
 unfold stepM
 split
 ·unfold createM; (repeat' split) <;> simp
 split
 ·unfold addM; (repeat' split) <;> simp
 split
 ·unfold tickM; (repeat' split) <;> simp
 split
 ·unfold queryM; split
  ·simp
  ·rename_i x hx
   have hi := h.sers x (List.mem_of_find?_eq_some hx)
   show (qryN x.k x.c x.nt o.a (s.clock - x.c.lag)).2.length ≤ 17
   unfold qryN
   split
   ·simp
   split
   ·split <;> simp
   split
   ·rename_i h2
    obtain ⟨_, _, b4, _, _⟩ := valid_distinct hi.valid hi.kind h2
    unfold qryD
    split
    ·show (greats _ _ _ ++ [_]).length ≤ 17
     rw [List.length_append, greats_length, List.length_singleton]
     have : regN x.c ≤ 16 := Nat.pow_le_pow_right (n := 2) (by omega) (show x.c.bits.toNat ≤ 4 by omega)
     omega
    ·simp
   split
   ·split <;> simp
   split
   ·rename_i h5
    have hd := valid_drawn hi.valid hi.kind h5
    show (qryT x.c x.nt.tk).length ≤ 17
    unfold qryT
    simp only [List.length_append, three_length, List.length_take]
    simp
    omega
   ·simp
 split
 ·unfold statsM; (repeat' split) <;> simp [statsL, toldL]
 split
 ·simp
 split
 ·unfold loadS; split <;> simp
 ·simp
theorem runM_nums {n : Int} {s : WS} (ops : List OpM) (hs : EInv n s.clock s.xs) (hn : 0 ≤ n) (hL : ∀ (i : Nat) o, ops[i]? = some o → LoadOk (n + i + 1) o) (x : Int × List Int) (h : x ∈ runM s ops) : x.2.length ≤ 17 := by
 induction ops generalizing s n with
 | nil => simp [runM] at h
 | cons o r ih =>
  rcases List.mem_cons.1 h with h | h
  ·subst h; exact step_nums o hs
  ·exact ih (stepM_inv o hs hn (by have := hL 0 o rfl; simpa using this)) (by omega) (fun i o ho => by
      have := hL (i + 1) o (by simpa using ho)
      rw [show n + 1 + (i : Int) + 1 = n + ((i + 1 : Nat) : Int) + 1 by omega]
      exact this) h
theorem runM_nums0 (ops : List OpM) (hok : OkRun ops) (x : Int × List Int) (h : x ∈ runM ws0 ops) : x.2.length ≤ 17 :=
 runM_nums ops inv0 (by omega) (fun _ o ho => loadOk_none (hok o (List.mem_of_getElem? ho))) x h
theorem run_nil (a : Option Addr) (cap : Nat) (w : World) :
  Calls Tryz.prog 19 #[.slice a 0 cap] w fun r w' => ∃ v l, r = .returned v ∧ ARep w' w.heap.size v l ∧ l.map (fun x => (x.code, x.nums)) = runM ws0 [] ∧ l.map (·.bs) = runB ws0 [] ∧ Keeps (fun _ => False) w w' := by
 obtain ⟨i0, hi0, hz0, hz1, hz2⟩ := info_parts info33
 go_enter Tryz.func19, Tryz.ntmps19
 go_wp2_with (at_make; refine wpList_make_own _ rfl _ _ _ rfl w.heap.size 33 i0 _ 3 Tryz.underlying27 hi0 hz0 hz1 _ _ _ 0 rfl rfl rfl (by rw [hz2]; omega) (by unfold maxLen; omega) (by simp) ?_; intro w1 ho1 hg1)
 rw [World.size_alloc] at ho1
 have hkw1 : Keeps (fun _ => False) w w1 := ((Keeps.refl (fun _ => False) w).alloc _).grown hg1 (fun k hk => by cases hk)
 have HA1 := hide (show ARep w1 w.heap.size (.slice (some ⟨w.heap.size + 1, 0, none⟩) 0 0) [] from ⟨ho1, fun x hx => by simp at hx, fun x hx => by simp at hx⟩)
 have HK1 := hide hkw1
 clear hg1 ho1 hkw1
 go_loopw [4, 12] (fun av i wr => i = .int .i64 0 ∧ av = .slice (some ⟨w.heap.size + 1, 0, none⟩) 0 0 ∧ wr = w1) (fun _ _ _ => 0)
 case atStart => exact ⟨rfl, rfl, rfl⟩
 case round =>
  obtain ⟨rfl, rfl, rfl⟩ := hrel
  go_wp2
  go_ret
  exact ⟨_, [], rfl, uh HA1, rfl, rfl, uh HK1⟩
end Go.Proofs.YtahnliehdjncdaaGreatDoor
namespace Go.Proofs.YtahnliehdjncdaaGreatDoor
open Go.RowKit
attribute [local go_sem ↓] execOp_load38 execOp_load40 execOp_store40
attribute [local go_sem] run_load38 run_load40 bigVal_drew hasBig_drew bigVal_ne hasBig_ne bigVal_alloc hasBig_alloc
theorem ansFlat_get (l : List Ans) (i j : Nat) (x : Ans) (h : l[i]? = some x) (hj : j < 3) : (ansFlat l)[i * 3 + j]? = x.cells[j]? := by
 induction l generalizing i with
 | nil => simp at h
 | cons a l ih =>
  have hc : ansFlat (a :: l) = a.cells ++ ansFlat l := by simp [ansFlat]
  rw [hc]
  cases i with
  | zero =>
   have : a = x := by simpa using h
   subst this
   rw [List.getElem?_append_left (by simp [Ans.cells]; omega)]
   simp
  | succ i =>
   rw [List.getElem?_append_right (by simp [Ans.cells]; omega)]
   have := ih i (by simpa using h)
   rw [← this]
   congr 1
   simp [Ans.cells]; omega
theorem row_form0 {w : World} {base T c : Nat} {v : Value} {n : Nat} {l : List Value} (h : w.ownsRow base T c v n l) : ∃ a cap, v = .slice a n cap := by
 rcases h.2 with ⟨h1, h2⟩ | ⟨g, cap, cur, h1, _⟩
 ·exact ⟨none, 0, by rw [h1, h2]⟩
 ·exact ⟨_, _, h1⟩
theorem ans_cells {w : World} {base : Nat} {a : Option Addr} {n cap : Nat} {l : List Ans} (h : ARep w base (.slice a n cap) l) (i : Nat) (x : Ans) (hx : l[i]? = some x) :
  ∃ g, a = some ⟨g, 0, none⟩ ∧ w.cell? ⟨g, i * 3, none⟩ = some (.int .i64 x.code) ∧ w.cell? ⟨g, i * 3 + 1, none⟩ = some x.nv ∧ w.cell? ⟨g, i * 3 + 2, none⟩ = some (.string x.bs) := by
 obtain ⟨g, cap', hv, hc⟩ := ans_row h (by intro h; rw [h] at hx; simp at hx)
 injection hv with h1 h2 h3
 exact ⟨g, h1, hc _ _ (ansFlat_get l i 0 x hx (by omega)), hc _ _ (ansFlat_get l i 1 x hx (by omega)), hc _ _ (ansFlat_get l i 2 x hx (by omega))⟩
end Go.Proofs.YtahnliehdjncdaaGreatDoor
namespace Go.Proofs.YtahnliehdjncdaaGreatDoor
open Go.ChangeShapes Go.WideShapes Go.ChangeAt Go.RowKit Go.Deep
def opOf (V : Nat → Int) (b : ByteArray) : OpM := ⟨V 0, V 1, V 2, V 3, V 4, ⟨V 5, V 6, V 7, V 8, V 9, V 10, V 11, V 12, V 13, V 14, V 15, V 16, V 17, V 18, V 19, V 20, V 21, V 22, V 23, V 24⟩, b⟩
theorem opOf_cells (V : Nat → Int) (b : ByteArray) : (opOf V b).cells = (List.range 25).map (fun j => .int .i64 (V j)) ++ [.string b] := rfl
theorem cells3 : Tryz.prog.cellsOf 3 = 1 := by kernel_rfl
theorem cells35 : Tryz.prog.cellsOf 35 = 2 := by kernel_rfl
theorem cells40 : Tryz.prog.cellsOf 40 = 26 := by kernel_rfl
theorem bytes40 : Tryz.prog.bytesOf 40 = 216 := by kernel_rfl
section
variable {H : Type} {enc : TypeId × Value → H} {w : World} {base : Nat} {spare : Nat → Bool} {held : Bool}
def IntAt (cs : List Value) (i : Nat) : Prop := ∃ n, cs[i]? = some (.int .i64 n) ∧ (Lit.int .i64 n).wf = true
theorem sub_at {cs : List Value} {off n i : Nat} {v : Value} (h : ((cs.drop off).take n)[i]? = some v) : cs[off + i]? = some v := by
 rw [List.getElem?_take] at h
 split at h
 ·rw [List.getElem?_drop] at h; exact h
 ·cases h
theorem IntAt.sub {cs : List Value} {off n i : Nat} (h : IntAt ((cs.drop off).take n) i) : IntAt cs (off + i) := by
 obtain ⟨k, h1, h2⟩ := h
 exact ⟨k, sub_at h1, h2⟩
theorem int_at {m : Nat} {cs : List Value} {x : DataW H × List MemPlace} (h : DataW.trod enc Tryz.prog w base spare held m 3 cs = some x) : IntAt cs 0 := by
 obtain ⟨n, rfl, _, hw⟩ := DataW.trod_int Tryz.underlying3 h
 exact ⟨n, rfl, hw⟩
theorem some_at {α : Type} {xs : List α} {n i : Nat} (h : xs.length = n) (hi : i < n) : ∃ x, xs[i]? = some x := ⟨xs[i], List.getElem?_eq_getElem (by omega)⟩
theorem arr2_at {m : Nat} {cs : List Value} {x : DataW H × List MemPlace} (h : DataW.trod enc Tryz.prog w base spare held m 35 cs = some x) (i : Nat) (hi : i < 2) : IntAt cs i := by
 obtain ⟨xs, k, _, _, _, hl, hx⟩ := DataW.trod_array Tryz.underlying35 h
 obtain ⟨y, hy⟩ := some_at hl hi
 have h1 := hx i hi
 rw [hy, cells3, Nat.mul_one] at h1
 have := (int_at h1).sub
 simpa using this
theorem arr6_at {m : Nat} {cs : List Value} {x : DataW H × List MemPlace} (h : DataW.trod enc Tryz.prog w base spare held m 36 cs = some x) (i : Nat) (hi : i < 6) : IntAt cs i := by
 obtain ⟨xs, k, _, _, _, hl, hx⟩ := DataW.trod_array Tryz.underlying36 h
 have hq : i / 2 < 3 := by omega
 obtain ⟨y, hy⟩ := some_at hl hq
 have h1 := hx (i / 2) hq
 rw [hy, cells35] at h1
 have := (arr2_at h1 (i % 2) (by omega)).sub
 rwa [show i / 2 * 2 + i % 2 = i by omega] at this
theorem cfg_at {m : Nat} {cs : List Value} {x : DataW H × List MemPlace} (h : DataW.trod enc Tryz.prog w base spare held m 38 cs = some x) (i : Nat) (hi : i < 20) : IntAt cs i := by
 obtain ⟨xs, k, _, _, _, hl, hx⟩ := DataW.trod_struct Tryz.underlying38 h
 have hl15 : xs.length = 15 := hl
 have one : ∀ (j : Nat) (f : Field), (Option.map (fun f : Field => (f.type, f.offset)) (some f)) = some (3, j) → j < 14 → DataW.trod enc Tryz.prog w base spare held k f.type ((cs.drop f.offset).take (Tryz.prog.cellsOf f.type)) = xs[j]? → IntAt cs j := by
  intro j f hf hj h1
  obtain ⟨y, hy⟩ := some_at hl15 (show j < 15 by omega)
  simp only [Option.map_some, Option.some.injEq, Prod.mk.injEq] at hf
  rw [hf.1, hf.2, hy] at h1
  have := (int_at h1).sub
  simpa using this
 by_cases h14 : i < 14
 ·have hc : i = 0 ∨ i = 1 ∨ i = 2 ∨ i = 3 ∨ i = 4 ∨ i = 5 ∨ i = 6 ∨ i = 7 ∨ i = 8 ∨ i = 9 ∨ i = 10 ∨ i = 11 ∨ i = 12 ∨ i = 13 := by omega
  rcases hc with rfl | rfl | rfl | rfl | rfl | rfl | rfl | rfl | rfl | rfl | rfl | rfl | rfl | rfl <;> exact one _ _ rfl h14 (hx _ _ rfl)
 ·obtain ⟨y, hy⟩ := some_at hl15 (show 14 < 15 by omega)
  have h1 : DataW.trod enc Tryz.prog w base spare held k 36 ((cs.drop 14).take (Tryz.prog.cellsOf 36)) = xs[14]? := hx 14 _ rfl
  rw [hy] at h1
  have := (arr6_at h1 (i - 14) (by omega)).sub
  rwa [show 14 + (i - 14) = i by omega] at this
theorem op_open {m : Nat} {cs : List Value} {x : DataW H × List MemPlace} (h : DataW.trod enc Tryz.prog w base spare held m 40 cs = some x) :
  ∃ (V : Nat → Int) (b : ByteArray), cs = (opOf V b).cells ∧ ∀ i, i < 25 → (Lit.int .i64 (V i)).wf = true := by
 obtain ⟨xs, k, _, _, hlen, hl, hx⟩ := DataW.trod_struct Tryz.underlying40 h
 rw [cells40] at hlen
 have hl7 : xs.length = 7 := hl
 have one : ∀ (j : Nat) (f : Field), (Option.map (fun f : Field => (f.type, f.offset)) (some f)) = some (3, j) → j < 5 → DataW.trod enc Tryz.prog w base spare held k f.type ((cs.drop f.offset).take (Tryz.prog.cellsOf f.type)) = xs[j]? → IntAt cs j := by
  intro j f hf hj h1
  obtain ⟨y, hy⟩ := some_at hl7 (show j < 7 by omega)
  simp only [Option.map_some, Option.some.injEq, Prod.mk.injEq] at hf
  rw [hf.1, hf.2, hy] at h1
  have := (int_at h1).sub
  simpa using this
 have hints : ∀ i, i < 25 → IntAt cs i := by
  intro i hi
  by_cases h5 : i < 5
  ·have hc : i = 0 ∨ i = 1 ∨ i = 2 ∨ i = 3 ∨ i = 4 := by omega
   rcases hc with rfl | rfl | rfl | rfl | rfl <;> exact one _ _ rfl h5 (hx _ _ rfl)
  ·obtain ⟨y, hy⟩ := some_at hl7 (show 5 < 7 by omega)
   have h1 : DataW.trod enc Tryz.prog w base spare held k 38 ((cs.drop 5).take (Tryz.prog.cellsOf 38)) = xs[5]? := hx 5 _ rfl
   rw [hy] at h1
   have := (cfg_at h1 (i - 5) (by omega)).sub
   rwa [show 5 + (i - 5) = i by omega] at this
 obtain ⟨V, hV⟩ := choose_lt (α := Int) hints
 obtain ⟨y, hy⟩ := some_at hl7 (show 6 < 7 by omega)
 have h1 : DataW.trod enc Tryz.prog w base spare held k 9 ((cs.drop 25).take (Tryz.prog.cellsOf 9)) = xs[6]? := hx 6 _ rfl
 rw [hy] at h1
 obtain ⟨b, hb, _, _⟩ := DataW.trod_string Tryz.underlying9 h1
 have hb' : cs[25]? = some (.string b) := sub_at (off := 25) (i := 0) (by rw [hb]; rfl)
 refine ⟨V, b, ?_, fun i hi => (hV i hi).2⟩
 rw [opOf_cells]
 apply List.ext_getElem?
 intro j
 by_cases hj : j < 25
 ·rw [(hV j hj).1, List.getElem?_append_left (by simpa using hj)]
  simp [hj]
 ·by_cases hj2 : j = 25
  ·subst hj2; rw [hb']; rfl
  ·rw [List.getElem?_eq_none (by omega), List.getElem?_eq_none (by simp; omega)]
end
end Go.Proofs.YtahnliehdjncdaaGreatDoor
namespace Go.Proofs.YtahnliehdjncdaaGreatDoor
open Go.ChangeShapes Go.WideShapes Go.ChangeAt Go.RowKit Go.Deep
theorem Tryz.own : ownKnob Tryz.prog.godebug = none := by kernel_rfl
theorem Tryz.laidOut : laidOutB Tryz.prog = true := by kernel_rfl
theorem Keeps.below {w w' : World} (h : Keeps (fun _ => False) w w') : Below w.heap.size w w' := ⟨h.os, h.tape, h.output, h.size, fun k hk => h.block k hk (fun h => h)⟩
end Go.Proofs.YtahnliehdjncdaaGreatDoor
namespace Go.Proofs.YtahnliehdjncdaaGreatDoor
open Go.RowKit
attribute [local go_sem ↓] execOp_load38 execOp_load40 execOp_store40 execOp_bs22
attribute [local go_sem] run_load38 run_load40 bigVal_drew hasBig_drew bigVal_ne hasBig_ne bigVal_alloc hasBig_alloc
def opFlat (l : List OpM) : List Value := l.flatMap OpM.cells
theorem opFlat_append (a b : List OpM) : opFlat (a ++ b) = opFlat a ++ opFlat b := by simp [opFlat]
theorem opFlat_length (l : List OpM) : (opFlat l).length = l.length * 26 := by
 induction l with
 | nil => rfl
 | cons a l ih =>
  have hc : opFlat (a :: l) = a.cells ++ opFlat l := by simp [opFlat]
  rw [hc, List.length_append, ih, List.length_cons]
  have : a.cells.length = 26 := rfl
  omega
theorem opFlat_get (l : List OpM) (i j : Nat) (x : OpM) (h : l[i]? = some x) (hj : j < 26) : (opFlat l)[i * 26 + j]? = x.cells[j]? := by
 induction l generalizing i with
 | nil => simp at h
 | cons a l ih =>
  have hc : opFlat (a :: l) = a.cells ++ opFlat l := by simp [opFlat]
  have hl : a.cells.length = 26 := rfl
  rw [hc]
  cases i with
  | zero =>
   have : a = x := by simpa using h
   subst this
   rw [List.getElem?_append_left (by omega)]
   simp
  | succ i =>
   rw [List.getElem?_append_right (by omega)]
   have := ih i (by simpa using h)
   rw [← this]
   congr 1
   omega
theorem opFlat_one (l : List OpM) (u : Value) (h : u ∈ opFlat l) : u.oneCell' = true := by
 obtain ⟨o, _, hu⟩ := List.mem_flatMap.1 h
 have := op_oneCell o
 simp only [List.all_toArray, List.all_eq_true] at this
 exact this u hu
abbrev OwnS (w : World) (base : Nat) (v : Value) (ops : List OpM) : Prop := w.ownsRow base 40 26 v ops.length (opFlat ops)
def ScriptW (w : World) (v : Value) (ops : List OpM) : Prop := ((∃ a c, v = .slice a 0 c) ∧ ops = []) ∨ ∃ sb so cap, v = .slice (some ⟨sb, so, none⟩) ops.length cap ∧ ops.length ≤ cap ∧ ScriptAt w sb so ops ∧ sb < w.heap.size
theorem ScriptAt.keeps {w w' : World} {sb so : Nat} {ops : List OpM} (h : ScriptAt w sb so ops) (hk : Keeps (fun _ => False) w w') : ScriptAt w' sb so ops :=
 fun i o ho j u hu => hk.cell (h i o ho j u hu) (fun h => h)
theorem ScriptW.keeps {w w' : World} {v : Value} {ops : List OpM} (h : ScriptW w v ops) (hk : Keeps (fun _ => False) w w') : ScriptW w' v ops := by
 rcases h with h | ⟨sb, so, cap, h1, h2, h3, h4⟩
 ·exact .inl h
 ·exact .inr ⟨sb, so, cap, h1, h2, h3.keeps hk, by have := hk.size; omega⟩
theorem run_script' (v : Value) (ops : List OpM) (w : World) (h : ScriptW w v ops) (hlen : ops.length ≤ 651562446090) (hT : Tab w) (hok : OkRun ops) :
  Calls Tryz.prog 19 #[v] w fun r w' => ∃ v l, r = .returned v ∧ ARep w' w.heap.size v l ∧ l.map (fun x => (x.code, x.nums)) = runM ws0 ops ∧ l.map (·.bs) = runB ws0 ops ∧ Keeps (fun _ => False) w w' := by
 rcases h with ⟨⟨a, c, rfl⟩, rfl⟩ | ⟨sb, so, cap, rfl, h2, h3, h4⟩
 ·exact run_nil a c w
 ·exact run_all sb so cap ops w h3 h4 hlen hT hok
theorem own_script {w : World} {base : Nat} {v : Value} {ops : List OpM} (h : OwnS w base v ops) : (v = .slice none 0 0 ∧ ops = []) ∨ ∃ g cap, v = .slice (some ⟨g, 0, none⟩) ops.length cap ∧ ops.length ≤ cap ∧ ScriptAt w g 0 ops ∧ g < w.heap.size ∧ base ≤ g ∧ cap ≤ maxLen := by
 rcases h.2 with ⟨h1, h2⟩ | ⟨g, cap, cur, h1, h2, h3, h4, h5, h6, h7⟩
 ·exact .inl ⟨h1, List.length_eq_zero_iff.1 h2⟩
 ·refine .inr ⟨g, cap, h1, h4, ?_, (Array.getElem?_eq_some_iff.1 h3).1, h2, h5⟩
  intro i o ho j u hu
  have hj : j < 26 := by have := (List.getElem?_eq_some_iff.1 hu).1; exact this
  have hi : i < ops.length := (List.getElem?_eq_some_iff.1 ho).1
  have hf := opFlat_get ops i j o ho hj
  have hc : cur[i * 26 + j]? = some u := by
   rw [← h7, List.getElem?_take, if_pos (by omega), hu] at hf
   simpa using hf
  rw [Nat.zero_add]
  simp [World.cell?, h3, hc]
theorem own_scriptW {w : World} {base : Nat} {v : Value} {ops : List OpM} (h : OwnS w base v ops) : ScriptW w v ops := by
 rcases own_script h with ⟨h1, h2⟩ | ⟨g, cap, h1, h2, h3, h4, _, _⟩
 ·exact .inl ⟨⟨_, _, h1⟩, h2⟩
 ·exact .inr ⟨g, 0, cap, h1, h2, h3, h4⟩
def cz0 : List Value := (⟨0, 0, 0, 0, 0, cz, noBytes⟩ : OpM).cells
theorem info40 : (Tryz.prog.info? 40).map (fun i => (i.zero, i.size, i.bytes)) = some (some (.agg cz0.toArray), 26, 216) := by kernel_rfl
end Go.Proofs.YtahnliehdjncdaaGreatDoor
namespace Go.Proofs.YtahnliehdjncdaaGreatDoor
open Go.RowKit
attribute [local go_sem ↓] execOp_load38 execOp_load40 execOp_store40 execOp_bs22
attribute [local go_sem] run_load38 run_load40 bigVal_drew hasBig_drew bigVal_ne hasBig_ne bigVal_alloc hasBig_alloc
theorem wpList_append_ops {w : World} {ops : Array Oper} {rest : List Oper} {o : Oper} {a : Act} {Q : Exit → Act → World → Prop} (hgd : o.guard = none) (s x : Operand)
  (ho : o.op = .call { callee := .builtin .append, args := #[s, x], argTypes := #[22, 22] })
  (base : Nat) (v : Value) (A : List OpM) (hs : a.eval s = v) (hown : OwnS w base v A) (u : Value) (B : List OpM) (hx : a.eval x = u) (hB : ScriptW w u B)
  (hlen : A.length + B.length ≤ 651562446089) (hbase : base ≤ w.heap.size)
  (h : ∀ ad c w', OwnS w' base (.slice ad (A.length + B.length) c) (A ++ B) → Keeps (fun i => v.ownBlock = some i) w w' → (∀ i, (Value.slice ad (A.length + B.length) c).ownBlock = some i → v.ownBlock = some i ∨ w.heap.size ≤ i) → wpList Tryz.prog ops Q rest (a.put o.dst (.slice ad (A.length + B.length) c)) w') : wpList Tryz.prog ops Q (o :: rest) a w := by
 obtain ⟨i0, hi0, hz0, hz1, hz2⟩ := info_parts info40
 by_cases hb : B = []
 ·subst hb
  have hu : ∃ ad c, u = .slice ad 0 c := by
   rcases hB with ⟨h, _⟩ | ⟨sb, so, cap, h, _⟩
   ·exact h
   ·exact ⟨_, _, h⟩
  obtain ⟨ad, c, rfl⟩ := hu
  obtain ⟨av, ac, hv⟩ := row_form0 hown
  refine wpList_append_zero hgd s x 22 ho base 40 i0 26 Tryz.underlying22 hi0 v A.length (opFlat A) hs hown ad c hx ?_
  have := h av ac w (by rw [List.append_nil]; rw [hv] at hown; exact hown) (Keeps.refl _ _) (by rw [hv]; exact fun i hi => .inl hi)
  rw [hv]
  exact this
 ·rcases hB with ⟨_, h0⟩ | ⟨sb, so, cap, rfl, hcap, hsc, hlt⟩
  ·exact absurd h0 hb
  ·have hpos : 0 < B.length := List.length_pos_iff.2 hb
   refine wpList_append_lies w hgd s x 22 ho base 40 i0 (.agg cz0.toArray) 26 216 Tryz.underlying22 hi0 hz0 hz1 hz2 (by rfl) (by omega) v A.length (opFlat A) hs hown ⟨sb, so, none⟩ B.length cap (opFlat B) hx (opFlat_length B) ?_ (opFlat_one B) hpos (by unfold maxLen; omega) (by omega) hbase w.heap.size rfl ?_
   ·intro j z hz
    have hj : j < B.length * 26 := by have := (List.getElem?_eq_some_iff.1 hz).1; rwa [opFlat_length] at this
    have hq : j / 26 < B.length := by omega
    have hf := opFlat_get B (j / 26) (j % 26) B[j / 26] (List.getElem?_eq_getElem hq) (by omega)
    rw [show j / 26 * 26 + j % 26 = j by omega, hz] at hf
    have := hsc (j / 26) B[j / 26] (List.getElem?_eq_getElem hq) (j % 26) z hf.symm
    rw [Go.WideShapes.add_plain, show so + j = so + j / 26 * 26 + j % 26 by omega]
    exact this
   ·intro g c w' hown' hgrow hat hlt'
    refine h (some ⟨g, 0, none⟩) c w' ?_ ?_ ?_
    ·show w'.ownsRow base 40 26 _ (A ++ B).length (opFlat (A ++ B))
     rw [opFlat_append, List.length_append]; exact hown'
    ·exact ⟨hgrow.os, hgrow.tape, hgrow.output, hgrow.size, fun k hk hn => hgrow.block k hk (fun h => hn h.symm)⟩
    ·intro i hi
     have : g = i := by simpa [Value.ownBlock] using hi
     subst this
     rcases hat with h1 | h1
     ·exact .inl h1
     ·exact .inr (by omega)
theorem run_bs1 (w : World) (o : OpM) : (bsBig 22 1 #[(0, .agg o.cells.toArray)]).run Tryz.prog w = .ok (.value (.slice (some ⟨w.heap.size, 0, none⟩) 1 1)) (w.alloc (.cells o.cells.toArray 40)) := by kernel_rfl
theorem blk_script {w : World} {b : Nat} {o : OpM} (h : Blk w b o.cells 40) : ScriptW w (.slice (some ⟨b, 0, none⟩) 1 1) [o] := by
 refine .inr ⟨b, 0, 1, rfl, by simp, ?_, h.lt⟩
 intro i x hx j u hu
 have hi : i = 0 := by have := (List.getElem?_eq_some_iff.1 hx).1; simp at this; omega
 subst hi
 have : o = x := by simpa using hx
 subst this
 have := h.cell hu
 simpa using this
attribute [local go_sem] run_bs1
end Go.Proofs.YtahnliehdjncdaaGreatDoor
namespace Go.Proofs.YtahnliehdjncdaaGreatDoor
open Go.ChangeShapes Go.WideShapes Go.ChangeAt Go.RowKit Go.Deep
theorem gTab : Tryz.prog.globalNamed "math/bits.deBruijn64tab" = some 2 := by kernel_rfl
theorem gTabType : (Tryz.prog.globals[2]?).map (·.type) = some 287 := by kernel_rfl
theorem cells64 : Tryz.prog.cellsOf 287 = 64 := by kernel_rfl
theorem cells5' : Tryz.prog.cellsOf 5 = 1 := by kernel_rfl
theorem under5' : Tryz.prog.underlying 5 = some (.int .u8) := by kernel_rfl
def tabInts : List Int := Lib.deBruijn64tab.map fun (n : Nat) => (n : Int)
def tabVals : Array Value := (tabInts.map (.int .u8 ·)).toArray
theorem tab_of {W : World} (h : laidMetH Tryz.prog [("math/bits.deBruijn64tab", Rows.laid_math_bits_deBruijn64tab)] W) : Tab W := by
 have ht : Lib.TabIs Tryz.prog W "math/bits.deBruijn64tab" .u8 tabInts := Lib.tabIs_of_head (rest := []) gTab gTabType Tryz.underlying287 under5' cells5' cells64 h
 intro j hj
 have h1 := ht.cell gTab j (by simpa [tabInts] using hj)
 rw [h1]
 unfold tabInts
 rw [List.getD_eq_getElem?_getD, List.getD_eq_getElem?_getD, List.getElem?_map, List.getElem?_eq_getElem hj]
 rfl
noncomputable def laidWorld (os : Os) : World :=
 { World.holding Tryz.prog os ⟨#[], #[], []⟩ with heap := (World.holding Tryz.prog os ⟨#[], #[], []⟩).heap.modify 2 fun
     | .cells _ t frozen => .cells tabVals t frozen
     | o => o }
theorem script_open {H : Type} {enc : TypeId × Value → H} {W : World} {fuel : Nat} {a0 : Option Addr} {len cap : Nat} {d : DataW H} {p : List MemPlace}
  (hf : DataW.trod enc Tryz.prog W 0 (fun _ => true) true fuel 22 (Value.slice a0 len cap).cells.toList = some (d, p)) (hlt : ∀ x ∈ p, x.block < W.heap.size) :
  ∃ ops, ScriptW W (.slice a0 len cap) ops ∧ ops.length = len ∧ (len ≠ 0 → ∃ elems spare, d = .slice elems spare ∧ len ≤ elems.length + spare.length) := by
 by_cases hl0 : len = 0
 ·subst hl0
  exact ⟨[], .inl ⟨⟨_, _, rfl⟩, rfl⟩, rfl, fun h => absurd rfl h⟩
 ·rcases open_slice Tryz.underlying22 hf with ⟨hcs, hx⟩ | ⟨a, len', cap', k, n, D, Pl, hcs, _, hl, hm, hk, hx, hcell⟩
  ·simp [Value.cells] at hcs
   exact absurd hcs.2.1 hl0
  ·simp [Value.cells] at hcs
   obtain ⟨rfl, rfl, rfl⟩ := hcs
   simp only [Prod.mk.injEq] at hx
   obtain ⟨rfl, rfl⟩ := hx
   simp only [if_true] at hk
   subst k
   rw [cells40] at hcell
   obtain ⟨b, off, spot⟩ := a
   have hspot : spot = none := by
    obtain ⟨cs', h1, _⟩ := hcell 0 (by omega)
    obtain ⟨_, h2, h3⟩ := World.cells?_some h1
    have h4 := h3 0 (by omega)
    rw [List.getElem?_eq_getElem (by omega)] at h4
    simpa [Addr.add] using World.cell?_spot h4
   subst hspot
   have hbW : b < W.heap.size := hlt (.cell b off) (List.mem_append_left _ (MemPlace.mem_row.2 ⟨0, by rw [cells40]; omega, by simp⟩))
   have hops : ∀ i, i < len → ∃ o : OpM, W.rangeAt b (off + i * 26) o.cells := by
    intro i hi
    obtain ⟨cs', h1, h2⟩ := hcell i (by omega)
    obtain ⟨V, bs, rfl, _⟩ := op_open h2
    obtain ⟨_, h3, h4⟩ := World.cells?_some h1
    refine ⟨opOf V bs, fun j v hv => ?_⟩
    have hj : j < 26 := by have := (List.getElem?_eq_some_iff.1 hv).1; omega
    have := h4 j hj
    rw [add_add, add_plain, hv, ← Nat.add_assoc] at this
    exact this
   haveI : Inhabited OpM := ⟨o1⟩
   obtain ⟨O, hO⟩ := choose_lt (α := OpM) hops
   refine ⟨(List.range len).map O, .inr ⟨b, off, cap, by simp, by simpa using hl, ?_, hbW⟩, by simp, fun _ => ⟨_, _, rfl, by simp⟩⟩
   intro i o ho
   have hi : i < len := by have := (List.getElem?_eq_some_iff.1 ho).1; simpa using this
   have : O i = o := by simpa [hi] using ho
   rw [← this]
   exact hO i hi
end Go.Proofs.YtahnliehdjncdaaGreatDoor
namespace Go.Proofs.YtahnliehdjncdaaGreatDoor
structure RIt where
 t : Int
 k : Int
 d : Int
 n : Int
 tick : Int
structure REv where
 t : Int
 m : Int
 away : Bool
 throw : Int
structure RSer where
 id : Int
 c : Cfg
 items : List RIt
 events : List REv
 ref : List Int
structure RWS where
 clock : Int
 ticks : Int
 xs : List RSer
def waitT (l : List RIt) : List Int := (l.filter (fun z => z.tick == 0)).map (·.t)
def relRT (l : List RIt) : List Int := (l.filter (fun z => !(z.tick == 0))).map (·.t)
def rAt (l : List RIt) (i : Nat) : RIt := l.getD i ⟨0, 0, 0, 0, 0⟩
def weighR (c : Cfg) (a : Int) : Int := if (c.kind == 4 || c.kind == 5) && inB a 0 4611686018427387904 then optInt (weightO c a) else 1
def keyedR (c : Cfg) : Bool := c.kind == 2 || (c.kind == 3 || c.kind == 5)
def refuR (y : RSer) (clock : Int) (o : OpM) : Int :=
 if inB o.a 0 4611686018427387904 then
  if o.a ≤ clock - y.c.lag then 6
  else if clock < o.a - y.c.skew then 7
  else if weighR y.c o.a = 0 then 8
  else if keyedR y.c && !inB o.b 0 2147483648 then 10
  else if y.c.kind == 5 && !inB o.c 1 2147483648 then 9
  else if y.c.cap ≤ (waitT y.items).length then 11 else 0
 else 5
def nextL (all : List RIt) (mark : Int) : List RIt → Nat → Int → Int
 | [], _, k => k
 | x :: r, i, k => nextL all mark r (i + 1) (if x.tick = 0 ∧ x.t ≤ mark ∧ (k < 0 ∨ x.t < (rAt all k.toNat).t) then (i : Int) else k)
def nextR (all : List RIt) (mark : Int) : Int := nextL all mark all 0 (-1)
def tickAt (l : List RIt) (i : Nat) (ticks : Int) : List RIt := l.set i { rAt l i with tick := ticks }
def releaseR : Nat → RSer → Int → Int → RSer
 | 0, y, _, _ => y
 | f + 1, y, mark, ticks => if nextR y.items mark < 0 then y
  else releaseR f { y with items := tickAt y.items (nextR y.items mark).toNat ticks, events := y.events ++ [⟨(rAt y.items (nextR y.items mark).toNat).t, mark, false, 0⟩] } mark ticks
def tickOneR (clock ticks : Int) (y : RSer) : RSer := releaseR (y.items.length + 1) y (clock - y.c.lag) ticks
def stepE (c : Cfg) (l : List Bk) (e : REv) : List Bk := if e.away then l.drop e.throw.toNat else relB c l e.t e.m
def bucketsE (c : Cfg) (evs : List REv) : List Bk := evs.foldl (stepE c) []
structure OkE (c : Cfg) (evs : List REv) : Prop where
 thr : ∀ (i : Nat) e, evs[i]? = some e → e.away = true → 0 ≤ e.throw ∧ e.throw ≤ (bucketsE c (evs.take i)).length
 mark : ∀ e, e ∈ evs → -100 ≤ e.m ∧ e.m ≤ 4611686018427387904
def TS (q : List Bk) : Prop := ∀ i j, i ≤ j → j < q.length → (bkAt q i).t ≤ (bkAt q j).t
structure CInv (clock : Int) (y : RSer) : Prop where
 ok : OkE y.c y.events
 ts : TS (bucketsE y.c y.events)
 le : ∀ b, b ∈ bucketsE y.c y.events → b.t ≤ clock - y.c.lag
 wt : ∀ t, t ∈ waitT y.items → clock - y.c.lag < t
def deadR (clock : Int) (y : RSer) : Int := pastN (bucketsE y.c y.events) (clock - y.c.lag - y.c.window)
def awayR (clock b : Int) (y : RSer) : RSer := { y with events := y.events ++ [⟨0, 0, true, min (deadR clock y) b⟩] }
def tickAllR (clock ticks : Int) : Int → List RSer → List RSer × Int
 | _, [] => ([], 0)
 | b, y :: ys => if y.c.kind = 1 then
   (awayR clock b (tickOneR clock ticks y) :: (tickAllR clock ticks (b - min (deadR clock (tickOneR clock ticks y)) b) ys).1,
      deadR clock (tickOneR clock ticks y) - min (deadR clock (tickOneR clock ticks y)) b + (tickAllR clock ticks (b - min (deadR clock (tickOneR clock ticks y)) b) ys).2)
  else (tickOneR clock ticks y :: (tickAllR clock ticks b ys).1, (tickAllR clock ticks b ys).2)
def updR : List RSer → Int → RSer → List RSer
 | [], _, _ => []
 | x :: r, id, y => if x.id == id then y :: r else x :: updR r id y
def findR (xs : List RSer) (id : Int) : Option RSer := xs.find? (fun x => x.id == id)
def newR (id : Int) (c : Cfg) : RSer := ⟨id, c, [], [], List.replicate 15 0⟩
def refR (x : RSer) (c : Nat) : RSer := { x with ref := x.ref.set c (refAt x.ref c + 1) }
def accR (x : RSer) (o : OpM) : RSer := { x with items := x.items ++ [⟨o.a, o.b, o.c, x.items.length + 1, 0⟩] }
def createR (s : RWS) (o : OpM) : RWS × Int × List Int :=
 if inB o.id 0 99 = true ∧ (findR s.xs o.id).isNone = true then
  if validB o.cfg = true then (if s.xs.length = 6 then (s, 4, []) else (⟨s.clock, s.ticks, s.xs ++ [newR o.id o.cfg]⟩, 0, [])) else (s, 3, [])
 else (s, 2, [])
def addR (s : RWS) (o : OpM) : RWS × Int × List Int :=
 match findR s.xs o.id with
 | none => (s, 2, [])
 | some y => if refuR y s.clock o = 0 then (⟨s.clock, s.ticks, updR s.xs o.id (accR y o)⟩, 0, [(y.items.length : Int) + 1])
  else (⟨s.clock, s.ticks, updR s.xs o.id (refR y (refuR y s.clock o).toNat)⟩, refuR y s.clock o, [])
def tickR (s : RWS) (o : OpM) : RWS × Int × List Int :=
 if inB o.a 0 4611686018427387904 = true then
  if inB o.b 0 100 = true then (⟨maxC s.clock o.a, s.ticks + 1, (tickAllR (maxC s.clock o.a) (s.ticks + 1) o.b s.xs).1⟩, 0, [(tickAllR (maxC s.clock o.a) (s.ticks + 1) o.b s.xs).2]) else (s, 12, [])
 else (s, 5, [])
def stepR (s : RWS) (o : OpM) : RWS × Int × List Int :=
 if o.kind = 1 then createR s o else if o.kind = 2 then addR s o else if o.kind = 3 then tickR s o else (s, 1, [])
def decGo (c : Cfg) : List RIt → Int → Int → Int × Int
 | [], hi, lo => (hi, lo)
 | z :: r, hi, lo => if 0 < z.tick then decGo c r (hi + optInt (weightO c z.t) / 2305843009213693952 + (lo + optInt (weightO c z.t) % 2305843009213693952) / 2305843009213693952) ((lo + optInt (weightO c z.t) % 2305843009213693952) % 2305843009213693952) else decGo c r hi lo
def queryR (s : RWS) (o : OpM) : Int × List Int :=
 match findR s.xs o.id with
 | none => (2, [])
 | some y => if y.c.kind = 1 then (if inB o.a 1 y.c.window = true then (0, [estN (bucketsE y.c y.events) (s.clock - y.c.lag - o.a)]) else (13, [])) else (0, [(decGo y.c y.items 0 0).1, (decGo y.c y.items 0 0).2, optInt (weightO y.c (s.clock - y.c.lag))])
def statsR (s : RWS) (o : OpM) : Int × List Int :=
 match findR s.xs o.id with
 | none => (2, [])
 | some y => (0, (y.items.length : Int) :: ((y.items.length : Int) - (waitT y.items).length) :: toldL.map (refAt y.ref))
def ansR (s : RWS) (o : OpM) : Int × List Int := if o.kind = 4 then queryR s o else if o.kind = 5 then statsR s o else (stepR s o).2
def goR (s : RWS) (o : OpM) : RWS := if o.kind = 4 ∨ o.kind = 5 then s else (stepR s o).1
def rs0 : RWS := ⟨0, 0, []⟩
def sumF (f : Int → Int) : List Int → Int
 | [] => 0
 | a :: l => f a + sumF f l
theorem sumF_append (f : Int → Int) (a b : List Int) : sumF f (a ++ b) = sumF f a + sumF f b := by
 induction a with
 | nil => simp [sumF]
 | cons x a ih => simp only [List.cons_append, sumF, ih]; omega
theorem sumF_perm (f : Int → Int) {a b : List Int} (h : a.Perm b) : sumF f a = sumF f b := by
 induction h with
 | nil => rfl
 | cons x _ ih => simp only [sumF, ih]
 | swap x y l => simp only [sumF]; omega
 | trans _ _ h1 h2 => exact h1.trans h2
def turnT (m ticks : Int) (z : RIt) : RIt := if z.tick = 0 ∧ z.t ≤ m then { z with tick := ticks } else z
theorem waitT_turn (m ticks : Int) (ht : ticks ≠ 0) (l : List RIt) : waitT (l.map (turnT m ticks)) = (waitT l).filter (fun t => decide (m < t)) := by
 induction l with
 | nil => rfl
 | cons z l ih =>
  have ih' : (List.filter (fun z => z.tick == 0) (l.map (turnT m ticks))).map (·.t) = (waitT l).filter (fun t => decide (m < t)) := ih
  unfold waitT
  rw [List.map_cons, List.filter_cons]
  by_cases h0 : z.tick = 0
  ·by_cases h1 : z.t ≤ m
   ·have : turnT m ticks z = { z with tick := ticks } := by unfold turnT; rw [if_pos ⟨h0, h1⟩]
    rw [this, List.filter_cons]
    have hb : (ticks == 0) = false := by simpa using ht
    have hd : decide (m < z.t) = false := by simp; omega
    simp only [hb, h0, beq_self_eq_true, if_true, List.map_cons, List.filter_cons, hd, Bool.false_eq_true, if_false]
    exact ih'
   ·have : turnT m ticks z = z := by unfold turnT; rw [if_neg (fun h => h1 h.2)]
    rw [this, List.filter_cons]
    have hd : decide (m < z.t) = true := by simp; omega
    simp only [h0, beq_self_eq_true, if_true, List.map_cons, List.filter_cons, hd]
    rw [ih']; rfl
  ·have : turnT m ticks z = z := by unfold turnT; rw [if_neg (fun h => h0 h.1)]
   have hb : (z.tick == 0) = false := by simpa using h0
   rw [this, List.filter_cons]
   simp only [hb, Bool.false_eq_true, if_false]
   exact ih'
theorem relT_turn (m ticks : Int) (ht : ticks ≠ 0) (l : List RIt) : (relRT (l.map (turnT m ticks))).Perm (relRT l ++ (waitT l).filter (fun t => decide (t ≤ m))) := by
 induction l with
 | nil => exact List.Perm.refl _
 | cons z l ih =>
  by_cases h0 : z.tick = 0
  ·have e1 : relRT (z :: l) = relRT l := by unfold relRT; rw [List.filter_cons]; simp [h0]
   have e2 : waitT (z :: l) = z.t :: waitT l := by unfold waitT; rw [List.filter_cons]; simp [h0]
   rw [e1, e2, List.map_cons, List.filter_cons]
   by_cases h1 : z.t ≤ m
   ·have : turnT m ticks z = { z with tick := ticks } := by unfold turnT; rw [if_pos ⟨h0, h1⟩]
    have e3 : relRT (turnT m ticks z :: l.map (turnT m ticks)) = z.t :: relRT (l.map (turnT m ticks)) := by
     rw [this]; unfold relRT; rw [List.filter_cons]; simp [ht]
    rw [e3, if_pos (by simpa using h1)]
    exact (List.Perm.cons _ ih).trans List.perm_middle.symm
   ·have : turnT m ticks z = z := by unfold turnT; rw [if_neg (fun h => h1 h.2)]
    have e3 : relRT (turnT m ticks z :: l.map (turnT m ticks)) = relRT (l.map (turnT m ticks)) := by
     rw [this]; unfold relRT; rw [List.filter_cons]; simp [h0]
    rw [e3, if_neg (by simpa using h1)]
    exact ih
  ·have e1 : relRT (z :: l) = z.t :: relRT l := by unfold relRT; rw [List.filter_cons]; simp [h0]
   have e2 : waitT (z :: l) = waitT l := by unfold waitT; rw [List.filter_cons]; simp [h0]
   have : turnT m ticks z = z := by unfold turnT; rw [if_neg (fun h => h0 h.1)]
   have e3 : relRT (turnT m ticks z :: l.map (turnT m ticks)) = z.t :: relRT (l.map (turnT m ticks)) := by
    rw [this]; unfold relRT; rw [List.filter_cons]; simp [h0]
   rw [e1, e2, List.map_cons, e3, List.cons_append]
   exact List.Perm.cons _ ih
theorem wait_rel (l : List RIt) : (waitT l).length + (relRT l).length = l.length := by
 induction l with
 | nil => rfl
 | cons z l ih =>
  unfold waitT relRT at *
  rw [List.filter_cons, List.filter_cons]
  cases (z.tick == 0) <;> simp at ih ⊢ <;> omega
theorem rAt_get (l : List RIt) (j : Nat) (hj : j < l.length) : rAt l j = l[j] := by
 unfold rAt; rw [List.getD_eq_getElem?_getD, List.getElem?_eq_getElem hj]; rfl
def Due (all : List RIt) (mark : Int) (k : Int) : Prop := (0 ≤ k ∧ k.toNat < all.length ∧ (rAt all k.toNat).tick = 0 ∧ (rAt all k.toNat).t ≤ mark)
theorem nextL_spec (all : List RIt) (mark : Int) (l : List RIt) : ∀ (i : Nat) (k : Int), l = all.drop i → (k = -1 ∨ Due all mark k) → (k = -1 → ∀ j, j < i → j < all.length → (rAt all j).tick = 0 → mark < (rAt all j).t) →
  (nextL all mark l i k = -1 ∧ ∀ j, j < all.length → (rAt all j).tick = 0 → mark < (rAt all j).t) ∨ Due all mark (nextL all mark l i k) := by
 induction l with
 | nil =>
  intro i k hd hk hb
  have hlen : all.length ≤ i := by
   have := congrArg List.length hd
   simp at this; omega
  unfold nextL
  rcases hk with hk | hk
  ·exact .inl ⟨hk, fun j hj => hb hk j (by omega) hj⟩
  ·exact .inr hk
 | cons x r ih =>
  intro i k hd hk hb
  have hi : i < all.length := by
   have := congrArg List.length hd
   simp at this; omega
  rw [List.drop_eq_getElem_cons hi] at hd
  injection hd with hx hr
  have hxa : rAt all i = x := by rw [rAt_get _ _ hi, hx]
  unfold nextL
  by_cases hc : x.tick = 0 ∧ x.t ≤ mark ∧ (k < 0 ∨ x.t < (rAt all k.toNat).t)
  ·rw [if_pos hc]
   refine ih (i + 1) i hr (.inr ⟨by omega, by simpa using hi, ?_, ?_⟩) (fun h => by omega)
   ·rw [Int.toNat_natCast, hxa]; exact hc.1
   ·rw [Int.toNat_natCast, hxa]; exact hc.2.1
  ·rw [if_neg hc]
   refine ih (i + 1) k hr hk (fun h j hj hja ht => ?_)
   by_cases hji : j = i
   ·subst hji
    rw [hxa] at ht ⊢
    by_cases h1 : x.t ≤ mark
    ·exact absurd ⟨ht, h1, .inl (by omega)⟩ hc
    ·omega
   ·exact hb h j (by omega) hja ht
theorem nextR_spec (all : List RIt) (mark : Int) : (nextR all mark = -1 ∧ ∀ z, z ∈ all → z.tick = 0 → mark < z.t) ∨ Due all mark (nextR all mark) := by
 rcases nextL_spec all mark all 0 (-1) rfl (.inl rfl) (fun _ j hj => absurd hj (by omega)) with ⟨h, hb⟩ | h
 ·refine .inl ⟨h, fun z hz ht => ?_⟩
  obtain ⟨j, hj, rfl⟩ := List.mem_iff_getElem.1 hz
  have := hb j hj
  rw [rAt_get _ _ hj] at this
  exact this ht
 ·exact .inr h
theorem turn_none (mark ticks : Int) (all : List RIt) (h : ∀ z, z ∈ all → z.tick = 0 → mark < z.t) : all.map (turnT mark ticks) = all := by
 conv => rhs; rw [← List.map_id all]
 refine List.map_congr_left fun z hz => ?_
 unfold turnT
 rw [if_neg (fun hc => by have := h z hz hc.1; omega)]
 rfl
theorem turn_one (mark ticks : Int) (ht : ticks ≠ 0) (all : List RIt) (k : Nat) (hk : k < all.length) (h0 : (rAt all k).tick = 0) (h1 : (rAt all k).t ≤ mark) : (tickAt all k ticks).map (turnT mark ticks) = all.map (turnT mark ticks) := by
 unfold tickAt
 rw [List.map_set]
 have e1 : turnT mark ticks (rAt all k) = { rAt all k with tick := ticks } := by unfold turnT; rw [if_pos ⟨h0, h1⟩]
 have e2 : turnT mark ticks { rAt all k with tick := ticks } = { rAt all k with tick := ticks } := by unfold turnT; rw [if_neg (fun h => ht h.1)]
 rw [e2, ← e1, rAt_get _ _ hk]
 apply List.ext_getElem?
 intro j
 rw [List.getElem?_set]
 by_cases hj : k = j
 ·subst hj; simp [hk]
 ·rw [if_neg hj]
theorem wait_one (ticks : Int) (ht : ticks ≠ 0) (all : List RIt) (k : Nat) (hk : k < all.length) (h0 : (rAt all k).tick = 0) : (waitT (tickAt all k ticks)).length + 1 = (waitT all).length := by
 unfold tickAt waitT
 rw [rAt_get _ _ hk] at h0 ⊢
 rw [List.set_eq_take_append_cons_drop, if_pos hk]
 conv => rhs; rw [← List.take_append_drop k all, List.drop_eq_getElem_cons hk]
 rw [List.filter_append, List.filter_append, List.filter_cons, List.filter_cons]
 simp [ht, h0]
 omega
theorem releaseR_spec (mark ticks : Int) (ht : ticks ≠ 0) (f : Nat) : ∀ y : RSer, (waitT y.items).length < f →
  (releaseR f y mark ticks).items = y.items.map (turnT mark ticks) ∧ (releaseR f y mark ticks).id = y.id ∧ (releaseR f y mark ticks).c = y.c ∧ (releaseR f y mark ticks).ref = y.ref := by
 induction f with
 | zero => intro y h; omega
 | succ f ih =>
  intro y hf
  unfold releaseR
  rcases nextR_spec y.items mark with ⟨h, hb⟩ | ⟨h1, h2, h3, h4⟩
  ·rw [if_pos (by omega)]
   exact ⟨(turn_none mark ticks _ hb).symm, rfl, rfl, rfl⟩
  ·rw [if_neg (by omega)]
   have hw := wait_one ticks ht y.items _ h2 h3
   obtain ⟨i1, i2, i3, i4⟩ := ih { y with items := tickAt y.items (nextR y.items mark).toNat ticks, events := y.events ++ [⟨(rAt y.items (nextR y.items mark).toNat).t, mark, false, 0⟩] } (by show (waitT (tickAt _ _ _)).length < f; omega)
   exact ⟨i1.trans (turn_one mark ticks ht _ _ h2 h3 h4), i2, i3, i4⟩
end Go.Proofs.YtahnliehdjncdaaGreatDoor
