import Derived.Test.YtahnliehdjncdaaGreatDoorXBQ
import Derived.Test.YtahnliehdjncdaaGreatDoorXBR
set_option maxRecDepth 100000
set_option maxHeartbeats 16000000
namespace Go.Proofs.YtahnliehdjncdaaGreatDoor
open Go.RowKit
attribute [local go_sem ↓] execOp_load38 execOp_load40 execOp_store40
attribute [local go_sem] run_load38 run_load40 bigVal_drew hasBig_drew bigVal_ne hasBig_ne bigVal_alloc hasBig_alloc bigVal_new hasBig_newB
def opAt (ops : List OpM) (i : Nat) : OpM := ops.getD i ⟨0, 0, 0, 0, 0, ⟨0, 0, 0, 0, 0, 0, 0, 0, 0, 0, 0, 0, 0, 0, 0, 0, 0, 0, 0, 0⟩, noBytes⟩
def codeAt (cs : List Int) (i : Nat) : Int := cs.getD i 1
def CodesAt (w : World) (g : Nat) (cs : List Int) : Prop := ∀ (i : Nat), i < cs.length → w.cell? ⟨g, i * 3, none⟩ = some (.int .i64 (codeAt cs i))
theorem CodesAt.keeps {M : Nat → Prop} {w w' : World} {g : Nat} {cs : List Int} (h : CodesAt w g cs) (hk : Keeps M w w') (hn : ¬ M g) : CodesAt w' g cs := fun i hi => hk.cell (h i hi) hn
theorem opAt_cells {w : World} {sb so : Nat} {ops : List OpM} (h : ScriptAt w sb so ops) {i : Nat} (hi : i < ops.length) : w.cell? ⟨sb, so + i * 26, none⟩ = some (.int .i64 (opAt ops i).kind) ∧ w.cell? ⟨sb, so + i * 26 + 1, none⟩ = some (.int .i64 (opAt ops i).id) ∧ w.cell? ⟨sb, so + i * 26 + 2, none⟩ = some (.int .i64 (opAt ops i).a) := by
 have e : opAt ops i = ops[i] := by simp [opAt, List.getD_eq_getElem?_getD, List.getElem?_eq_getElem hi]
 have h1 := h i ops[i] (List.getElem?_eq_getElem hi)
 rw [e]
 exact ⟨by simpa using h1 0 _ rfl, h1 1 _ rfl, h1 2 _ rfl⟩
def clockD (ops : List OpM) (cs : List Int) : Nat → Int
 | 0 => 0
 | n + 1 => if (opAt ops n).kind = 3 ∧ codeAt cs n = 0 ∧ clockD ops cs n < (opAt ops n).a then (opAt ops n).a else clockD ops cs n
theorem clockD_succ (ops : List OpM) (cs : List Int) (n : Nat) : clockD ops cs (n + 1) = if (opAt ops n).kind = 3 ∧ codeAt cs n = 0 ∧ clockD ops cs n < (opAt ops n).a then (opAt ops n).a else clockD ops cs n := rfl
theorem clock_any (sb so cap g acap : Nat) (ops : List OpM) (cs : List Int) (n : Nat) (w : World) (hs : ScriptAt w sb so ops) (ha : CodesAt w g cs) (hn : n ≤ ops.length) (hc : cs.length = ops.length) (hl : ops.length ≤ 1099511627776) :
  Calls Tryz.prog 26 #[.slice (some ⟨sb, so, none⟩) ops.length cap, .slice (some ⟨g, 0, none⟩) ops.length acap, .int .i64 n] w fun r w' => r = .returned (.int .i64 (clockD ops cs n)) ∧ w' = w := by
 have HS := hide hs
 have HA := hide ha
 have HC := hide hc
 clear hs ha hc
 generalize hm : ops.length = m at *
 have HM := hide hm
 clear hm
 go_enter Tryz.func26, Tryz.ntmps26
 go_wp2
 go_loopw [7, 8] (fun t i wr => ∃ k : Nat, i = .int .i64 k ∧ k ≤ n ∧ t = .int .i64 (clockD ops cs k) ∧ wr = w) (fun _ i _ => n - (intOf i).toNat)
 case atStart => exact ⟨0, rfl, Nat.zero_le _, rfl, rfl⟩
 case round =>
  obtain ⟨k, rfl, hk, rfl, hwr⟩ := hrel
  rw [hwr]
  clear hwr wr
  by_cases hlk : k < n
  ·obtain ⟨c0, _, c2⟩ := opAt_cells (uh HS) (i := k) (by rw [uh HM]; omega)
   have ca := uh HA k (by rw [uh HC]; omega)
   have HN := hide (clockD_succ ops cs k)
   generalize opAt ops k = o at *
   generalize codeAt cs k = c at *
   generalize clockD ops cs k = T at *
   have hk0 : (0 : Int) ≤ (k : Int) := by omega
   have hkn : (k : Int) < (n : Int) := by omega
   have hkm : (k : Int) < (m : Int) := by omega
   cases h1 : (o.kind == 3)
   ·have h1' : ¬ o.kind = 3 := by simpa using h1
    have HN' := hide (show clockD ops cs (k + 1) = T by rw [uh HN, if_neg (fun h => h1' h.1)])
    clear h1'
    go_wp2
    go_roundw
    case rel => exact ⟨k + 1, by go_num, by omega, by rw [uh HN'], by simp⟩
    case measure => simp [intOf]; omega
   ·have h1' : o.kind = 3 := by simpa using h1
    cases h2 : (c == 0)
    ·have h2' : ¬ c = 0 := by simpa using h2
     have HN' := hide (show clockD ops cs (k + 1) = T by rw [uh HN, if_neg (fun h => h2' h.2.1)])
     clear h2' h1'
     go_wp2
     go_roundw
     case rel => exact ⟨k + 1, by go_num, by omega, by rw [uh HN'], by simp⟩
     case measure => simp [intOf]; omega
    ·have h2' : c = 0 := by simpa using h2
     cases h3 : decide (T < o.a)
     ·have h3' : ¬ T < o.a := by simpa using h3
      have HN' := hide (show clockD ops cs (k + 1) = T by rw [uh HN, if_neg (fun h => h3' h.2.2)])
      clear h3' h2' h1'
      go_wp2
      go_roundw
      case rel => exact ⟨k + 1, by go_num, by omega, by rw [uh HN'], by simp⟩
      case measure => simp [intOf]; omega
     ·have h3' : T < o.a := by simpa using h3
      have HN' := hide (show clockD ops cs (k + 1) = o.a by rw [uh HN, if_pos ⟨h1', h2', h3'⟩])
      clear h3' h2' h1'
      go_wp2
      go_roundw
      case rel => exact ⟨k + 1, by go_num, by omega, by rw [uh HN'], by simp⟩
      case measure => simp [intOf]; omega
  ·have hkn : k = n := by omega
   subst hkn
   have hf : decide ((k : Int) < (k : Int)) = false := by simp
   go_wp2
   go_ret
   exact ⟨rfl, rfl⟩
def configD (ops : List OpM) (cs : List Int) (id : Int) : Nat → Option Cfg
 | 0 => none
 | n + 1 => match configD ops cs id n with
  | some c => some c
  | none => if (opAt ops n).kind = 1 ∧ (opAt ops n).id = id ∧ codeAt cs n = 0 then some (opAt ops n).cfg else none
theorem configD_none (ops : List OpM) (cs : List Int) (id : Int) (n : Nat) (h : configD ops cs id n = none) : configD ops cs id (n + 1) = if (opAt ops n).kind = 1 ∧ (opAt ops n).id = id ∧ codeAt cs n = 0 then some (opAt ops n).cfg else none := by
 show (match configD ops cs id n with | some c => some c | none => _) = _
 rw [h]
theorem configD_some (ops : List OpM) (cs : List Int) (id : Int) (n m : Nat) (c : Cfg) (h : configD ops cs id n = some c) (hm : n ≤ m) : configD ops cs id m = some c := by
 induction m with
 | zero =>
  have : n = 0 := by omega
  subst this
  exact h
 | succ m ih =>
  by_cases e : n = m + 1
  ·rw [← e]; exact h
  ·show (match configD ops cs id m with | some c => some c | none => _) = _
   rw [ih (by omega)]
theorem range_cfg {w : World} {sb so : Nat} {ops : List OpM} (h : ScriptAt w sb so ops) {i : Nat} (hi : i < ops.length) : bigVal w sb (so + i * 26 + 5) 20 = .agg (opAt ops i).cfg.cells.toArray ∧ hasBig w sb (so + i * 26 + 5) 20 = true := by
 have e : opAt ops i = ops[i] := by simp [opAt, List.getD_eq_getElem?_getD, List.getElem?_eq_getElem hi]
 have h1 := h i ops[i] (List.getElem?_eq_getElem hi)
 rw [e]
 have h2 : w.rangeAt sb (so + i * 26 + 5) ops[i].cfg.cells := by
  intro j v hv
  have hj : j < 20 := by have := (List.getElem?_eq_some_iff.1 hv).1; simpa [Cfg.cells] using this
  have h3 : ops[i].cells[5 + j]? = some v := by
   have e2 : (ops[i].cells.drop 5).take 20 = ops[i].cfg.cells := rfl
   rw [← e2, List.getElem?_take, if_pos hj, List.getElem?_drop] at hv
   exact hv
  have := h1 (5 + j) v h3
  rw [show so + i * 26 + 5 + j = so + i * 26 + (5 + j) by omega]
  exact this
 have h3 := bigCells_of_range h2
 have e3 : ops[i].cfg.cells.length = 20 := rfl
 rw [e3] at h3
 exact ⟨by unfold bigVal; rw [h3.1], h3.2⟩
def cfg0 : Cfg := ⟨0, 0, 0, 0, 0, 0, 0, 0, 0, 0, 0, 0, 0, 0, 0, 0, 0, 0, 0, 0⟩
attribute [local go_sem ↓] execOp_store38 execOp_build38
theorem run_z38 (w : World) : (buildBig 38 #[]).run Tryz.prog w = .ok (.value (.agg cfg0.cells.toArray)) w := by kernel_rfl
attribute [local go_sem] run_z38
theorem config_any (sb so cap g acap : Nat) (ops : List OpM) (cs : List Int) (n : Nat) (id : Int) (w : World) (hs : ScriptAt w sb so ops) (ha : CodesAt w g cs) (hn : n ≤ ops.length) (hc : cs.length = ops.length) (hl : ops.length ≤ 1099511627776) :
  Calls Tryz.prog 25 #[.slice (some ⟨sb, so, none⟩) ops.length cap, .slice (some ⟨g, 0, none⟩) ops.length acap, .int .i64 n, .int .i64 id] w fun r w' => r = .returned (.tuple #[((configD ops cs id n).getD cfg0).val, .bool (configD ops cs id n).isSome]) ∧ Keeps (fun _ => False) w w' := by
 obtain ⟨W, hW⟩ : ∃ W, W = w.alloc (.cells cfg0.cells.toArray 38) := ⟨_, rfl⟩
 have hkW : Keeps (fun _ => False) w W := by rw [hW]; exact (Keeps.refl _ _).alloc _
 have HS := hide (show ScriptAt W sb so ops from fun i o ho j v hv => hkW.cell (hs i o ho j v hv) (fun h => h))
 have HA := hide (ha.keeps hkW (fun h => h))
 have HC := hide hc
 have HK := hide hkW
 have HW := hide (show w.alloc (.cells #[.int .i64 0, .int .i64 0, .int .i64 0, .int .i64 0, .int .i64 0, .int .i64 0, .int .i64 0, .int .i64 0, .int .i64 0, .int .i64 0, .int .i64 0, .int .i64 0, .int .i64 0, .int .i64 0, .int .i64 0, .int .i64 0, .int .i64 0, .int .i64 0, .int .i64 0, .int .i64 0] 38) = W from hW.symm)
 have HWW := hide hW
 have HST := hide (show ∀ c : Cfg, (storeBig 38 (.pointer (some ⟨w.heap.size, 0, none⟩)) (.agg c.cells.toArray)).run Tryz.prog W = .ok .skip (w.alloc (.cells c.cells.toArray 38)) from fun c => by
    rw [hW]; exact run_store38 w cfg0.cells c.cells rfl rfl (by simp [Cfg.cells, Value.oneCell']))
 clear hs ha hc hkW hW
 generalize hm : ops.length = m at *
 have HM := hide hm
 clear hm
 go_enter Tryz.func25, Tryz.ntmps25
 go_wp2_with fail
 rw [uh HW]
 go_loopw [10] (fun i wr => ∃ k : Nat, i = .int .i64 k ∧ k ≤ n ∧ Hid (configD ops cs id k = none) ∧ wr = W) (fun i _ => n - (intOf i).toNat)
 case atStart => exact ⟨0, rfl, Nat.zero_le _, rfl, rfl⟩
 case round =>
  obtain ⟨k, rfl, hk, HNO, hwr⟩ := hrel
  rw [hwr]
  clear hwr wr
  by_cases hlk : k < n
  ·obtain ⟨c0, c1, _⟩ := opAt_cells (uh HS) (i := k) (by rw [uh HM]; omega)
   have ca := uh HA k (by rw [uh HC]; omega)
   have HN := hide (configD_none ops cs id k (uh HNO))
   have HCF := hide (range_cfg (uh HS) (i := k) (by rw [uh HM]; omega))
   generalize opAt ops k = o at *
   generalize codeAt cs k = c at *
   have hk0 : (0 : Int) ≤ (k : Int) := by omega
   have hkn : (k : Int) < (n : Int) := by omega
   have hkm : (k : Int) < (m : Int) := by omega
   by_cases hh : o.kind = 1 ∧ o.id = id ∧ c = 0
   ·obtain ⟨h1, h2, h3⟩ := hh
    have HN' := hide (show configD ops cs id n = some o.cfg from configD_some ops cs id (k + 1) n _ (by rw [uh HN, if_pos ⟨h1, h2, h3⟩]) (by omega))
    obtain ⟨hv, hb⟩ := uh HCF
    have hst := uh HST o.cfg
    have e1 : (o.kind == 1) = true := by simpa using h1
    have e2 : (o.id == id) = true := by simpa using h2
    have e3 : (c == 0) = true := by simpa using h3
    clear h1 h2 h3
    have hv1 : bigVal (w.alloc (.cells o.cfg.cells.toArray 38)) w.heap.size 0 20 = .agg o.cfg.cells.toArray := bigVal_new w o.cfg.cells 38 20 rfl
    have hh1 : hasBig (w.alloc (.cells o.cfg.cells.toArray 38)) w.heap.size 0 20 = true := hasBig_new w o.cfg.cells 38 20 rfl
    go_wp2
    have hb9 := Blk.new w o.cfg.cells 38
    have HK9 := hide ((Keeps.refl (fun _ => False) w).alloc (.cells o.cfg.cells.toArray 38))
    generalize w.alloc (.cells o.cfg.cells.toArray 38) = W9 at *
    have HLV := hide (show (loadVar 38 ⟨w.heap.size, 0, none⟩).run Tryz.prog W9 = .ok (.agg o.cfg.cells.toArray) W9 from run_loadVar_mid W9 w.heap.size 0 38 o.cfg.cells _ (fun j v hv => by rw [Nat.zero_add]; exact hb9.cell hv) Tryz.underlying38 rfl (by rw [size38]; rfl))
    clear hb9
    refine bodyPost_ret (v := .tuple #[o.cfg.val, .bool true]) (by simp [results, Tryz.results25, asAddr, uh HLV]; rfl) rfl ?_
    exact ⟨by rw [uh HN']; rfl, uh HK9⟩
   ·have HN' := hide (show configD ops cs id (k + 1) = none by rw [uh HN, if_neg hh])
    cases h1 : (o.kind == 1)
    ·clear hh
     go_wp2
     go_roundw
     case rel => exact ⟨k + 1, by go_num, by omega, HN', by simp⟩
     case measure => simp [intOf]; omega
    ·cases h2 : (o.id == id)
     ·clear hh
      go_wp2
      go_roundw
      case rel => exact ⟨k + 1, by go_num, by omega, HN', by simp⟩
      case measure => simp [intOf]; omega
     ·have h3 : (c == 0) = false := by
       cases h3 : (c == 0)
       ·rfl
       ·exact absurd ⟨by simpa using h1, by simpa using h2, by simpa using h3⟩ hh
      clear hh
      go_wp2
      go_roundw
      case rel => exact ⟨k + 1, by go_num, by omega, HN', by simp⟩
      case measure => simp [intOf]; omega
  ·have hkn : k = n := by omega
   subst hkn
   have hf : decide ((k : Int) < (k : Int)) = false := by simp
   have hst := uh HST cfg0
   go_wp2
   have hb9 := Blk.new w cfg0.cells 38
   have HK9 := hide ((Keeps.refl (fun _ => False) w).alloc (.cells cfg0.cells.toArray 38))
   generalize w.alloc (.cells cfg0.cells.toArray 38) = W9 at *
   have HLV := hide (show (loadVar 38 ⟨w.heap.size, 0, none⟩).run Tryz.prog W9 = .ok (.agg cfg0.cells.toArray) W9 from run_loadVar_mid W9 w.heap.size 0 38 cfg0.cells _ (fun j v hv => by rw [Nat.zero_add]; exact hb9.cell hv) Tryz.underlying38 rfl (by rw [size38]; rfl))
   clear hb9
   refine bodyPost_ret (v := .tuple #[cfg0.val, .bool false]) (by simp [results, Tryz.results25, asAddr, uh HLV]; rfl) rfl ?_
   exact ⟨by rw [uh HNO]; rfl, uh HK9⟩
end Go.Proofs.YtahnliehdjncdaaGreatDoor
namespace Go.Proofs.YtahnliehdjncdaaGreatDoor
open Go.RowKit
attribute [local go_sem ↓] execOp_load38 execOp_load40 execOp_store40 execOp_bs22
attribute [local go_sem] run_load38 run_load40 bigVal_drew hasBig_drew bigVal_ne hasBig_ne bigVal_alloc hasBig_alloc bigVal_new hasBig_newB run_bs1
def itemsD (ops : List OpM) (cs : List Int) (id fr to : Int) : Nat → List OpM
 | 0 => []
 | n + 1 => itemsD ops cs id fr to n ++ (if (opAt ops n).kind = 2 ∧ (opAt ops n).id = id ∧ codeAt cs n = 0 ∧ fr < (opAt ops n).a ∧ (opAt ops n).a ≤ to then [opAt ops n] else [])
theorem itemsD_succ (ops : List OpM) (cs : List Int) (id fr to : Int) (n : Nat) : itemsD ops cs id fr to (n + 1) = itemsD ops cs id fr to n ++ (if (opAt ops n).kind = 2 ∧ (opAt ops n).id = id ∧ codeAt cs n = 0 ∧ fr < (opAt ops n).a ∧ (opAt ops n).a ≤ to then [opAt ops n] else []) := rfl
theorem itemsD_length (ops : List OpM) (cs : List Int) (id fr to : Int) (n : Nat) : (itemsD ops cs id fr to n).length ≤ n := by
 induction n with
 | zero => simp [itemsD]
 | succ n ih => rw [itemsD_succ, List.length_append]; split <;> simp <;> omega
theorem range_op {w : World} {sb so : Nat} {ops : List OpM} (h : ScriptAt w sb so ops) {i : Nat} (hi : i < ops.length) : bigVal w sb (so + i * 26) 26 = .agg (opAt ops i).cells.toArray ∧ hasBig w sb (so + i * 26) 26 = true := by
 have e : opAt ops i = ops[i] := by simp [opAt, List.getD_eq_getElem?_getD, List.getElem?_eq_getElem hi]
 have h3 := bigCells_of_range (h i ops[i] (List.getElem?_eq_getElem hi))
 have e3 : ops[i].cells.length = 26 := rfl
 rw [e3] at h3
 rw [e]
 exact ⟨by unfold bigVal; rw [h3.1], h3.2⟩
theorem ScriptAt.keepsM {M : Nat → Prop} {w w' : World} {sb so : Nat} {ops : List OpM} (h : ScriptAt w sb so ops) (hk : Keeps M w w') (hn : ¬ M sb) : ScriptAt w' sb so ops := fun i o ho j v hv => hk.cell (h i o ho j v hv) hn
theorem items_any (sb so cap g acap : Nat) (ops : List OpM) (cs : List Int) (n : Nat) (id fr to : Int) (w : World) (hs : ScriptAt w sb so ops) (hgl : g < w.heap.size) (ha : CodesAt w g cs) (hn : n ≤ ops.length) (hc : cs.length = ops.length) (hl : ops.length ≤ 651562446088) :
  Calls Tryz.prog 27 #[.slice (some ⟨sb, so, none⟩) ops.length cap, .slice (some ⟨g, 0, none⟩) ops.length acap, .int .i64 n, .int .i64 id, .int .i64 fr, .int .i64 to] w fun r w' => ∃ v, r = .returned v ∧ OwnS w' w.heap.size v (itemsD ops cs id fr to n) ∧ Keeps (fun _ => False) w w' := by
 have HS := hide hs
 have HA := hide ha
 have HC := hide hc
 clear hs ha hc
 generalize hm : ops.length = m at *
 have HM := hide hm
 clear hm
 go_enter Tryz.func27, Tryz.ntmps27
 go_wp2_with fail
 go_loopw [13, 14] (fun l i wr => ∃ (k mm cp : Nat) (ad : Option Addr), k ≤ n ∧ i = .int .i64 k ∧ l = .slice ad mm cp ∧ Hid (OwnS wr w.heap.size l (itemsD ops cs id fr to k)) ∧ Hid (Keeps (fun _ => False) w wr)) (fun _ i _ => n - (intOf i).toNat)
 case atStart => exact ⟨0, 0, 0, none, by omega, rfl, rfl, World.ownsRow_nil _ _ _ _, Keeps.refl _ _⟩
 case round =>
  obtain ⟨k, mm, cp, ad, hk, rfl, rfl, HO, HK⟩ := hrel
  by_cases hlk : k < n
  ·have HSr := hide ((uh HS).keepsM (uh HK) (fun h => h))
   obtain ⟨hv0, hh0⟩ := range_op (uh HSr) (i := k) (by rw [uh HM]; omega)
   have ca : wr.cell? ⟨g, k * 3, none⟩ = some (.int .i64 (codeAt cs k)) := (uh HK).cell (uh HA k (by rw [uh HC]; omega)) (fun h => h)
   have HN := hide (itemsD_succ ops cs id fr to k)
   have hAl := itemsD_length ops cs id fr to k
   have hm' : mm = (itemsD ops cs id fr to k).length := by
    obtain ⟨_, _, e⟩ := row_form0 (uh HO)
    injection e
   generalize opAt ops k = o at *
   generalize codeAt cs k = c at *
   have hst : ∀ zs : List Value, zs.length = 26 → (storeBig 40 (.pointer (some ⟨wr.heap.size, 0, none⟩)) (.agg o.cells.toArray)).run Tryz.prog (wr.alloc (.cells zs.toArray 40)) = .ok .skip (wr.alloc (.cells o.cells.toArray 40)) := fun zs hz => run_store40 wr zs o.cells hz rfl (op_oneCell o)
   have hv1 : bigVal (wr.alloc (.cells o.cells.toArray 40)) wr.heap.size 0 26 = .agg o.cells.toArray := bigVal_new wr o.cells 40 26 rfl
   have hh1 : hasBig (wr.alloc (.cells o.cells.toArray 40)) wr.heap.size 0 26 = true := hasBig_new wr o.cells 40 26 rfl
   have o0 : o.cells[0]? = some (.int .i64 o.kind) := rfl
   have o1 : o.cells[1]? = some (.int .i64 o.id) := rfl
   have o2 : o.cells[2]? = some (.int .i64 o.a) := rfl
   have hgne : g < wr.heap.size := by have := (uh HK).size; omega
   have ca2 : (wr.alloc (.cells o.cells.toArray 40)).cell? ⟨g, k * 3, none⟩ = some (.int .i64 c) := ((Keeps.refl (fun _ => False) wr).alloc _).cell ca (fun h => h)
   have hk0 : (0 : Int) ≤ (k : Int) := by omega
   have hkn : (k : Int) < (n : Int) := by omega
   have hkm : (k : Int) < (m : Int) := by omega
   cases h0 : (o.kind == 2)
   ·have hx : ¬ o.kind = 2 := by simpa using h0
    have HH := hide (show itemsD ops cs id fr to (k + 1) = itemsD ops cs id fr to k by rw [uh HN, if_neg (fun h => hx h.1), List.append_nil])
    clear hx
    have HK2 := hide ((uh HK).alloc (.cells o.cells.toArray 40))
    have HO2 := hide (owns_keeps (uh HO) ((Keeps.refl (fun _ => False) wr).alloc (.cells o.cells.toArray 40)) (fun _ _ h => h))
    go_wp2_with fail
    go_roundw
    case rel => exact ⟨k + 1, _, _, _, by omega, by go_num, rfl, by show OwnS _ _ _ _; rw [uh HH]; exact uh HO2, HK2⟩
    case measure => simp [intOf]; omega
   ·skip
    cases h1 : (o.id == id)
    ·have hx : ¬ o.id = id := by simpa using h1
     have HH := hide (show itemsD ops cs id fr to (k + 1) = itemsD ops cs id fr to k by rw [uh HN, if_neg (fun h => hx h.2.1), List.append_nil])
     clear hx
     have HK2 := hide ((uh HK).alloc (.cells o.cells.toArray 40))
     have HO2 := hide (owns_keeps (uh HO) ((Keeps.refl (fun _ => False) wr).alloc (.cells o.cells.toArray 40)) (fun _ _ h => h))
     go_wp2_with fail
     go_roundw
     case rel => exact ⟨k + 1, _, _, _, by omega, by go_num, rfl, by show OwnS _ _ _ _; rw [uh HH]; exact uh HO2, HK2⟩
     case measure => simp [intOf]; omega
    ·skip
     cases h2 : (c == 0)
     ·have hx : ¬ c = 0 := by simpa using h2
      have HH := hide (show itemsD ops cs id fr to (k + 1) = itemsD ops cs id fr to k by rw [uh HN, if_neg (fun h => hx h.2.2.1), List.append_nil])
      clear hx
      have HK2 := hide ((uh HK).alloc (.cells o.cells.toArray 40))
      have HO2 := hide (owns_keeps (uh HO) ((Keeps.refl (fun _ => False) wr).alloc (.cells o.cells.toArray 40)) (fun _ _ h => h))
      go_wp2_with fail
      go_roundw
      case rel => exact ⟨k + 1, _, _, _, by omega, by go_num, rfl, by show OwnS _ _ _ _; rw [uh HH]; exact uh HO2, HK2⟩
      case measure => simp [intOf]; omega
     ·skip
      cases h3 : decide (fr < o.a)
      ·have hx : ¬ fr < o.a := by simpa using h3
       have HH := hide (show itemsD ops cs id fr to (k + 1) = itemsD ops cs id fr to k by rw [uh HN, if_neg (fun h => hx h.2.2.2.1), List.append_nil])
       clear hx
       have HK2 := hide ((uh HK).alloc (.cells o.cells.toArray 40))
       have HO2 := hide (owns_keeps (uh HO) ((Keeps.refl (fun _ => False) wr).alloc (.cells o.cells.toArray 40)) (fun _ _ h => h))
       go_wp2_with fail
       go_roundw
       case rel => exact ⟨k + 1, _, _, _, by omega, by go_num, rfl, by show OwnS _ _ _ _; rw [uh HH]; exact uh HO2, HK2⟩
       case measure => simp [intOf]; omega
      ·skip
       cases h4 : decide (o.a ≤ to)
       ·have hx : ¬ o.a ≤ to := by simpa using h4
        have HH := hide (show itemsD ops cs id fr to (k + 1) = itemsD ops cs id fr to k by rw [uh HN, if_neg (fun h => hx h.2.2.2.2), List.append_nil])
        clear hx
        have HK2 := hide ((uh HK).alloc (.cells o.cells.toArray 40))
        have HO2 := hide (owns_keeps (uh HO) ((Keeps.refl (fun _ => False) wr).alloc (.cells o.cells.toArray 40)) (fun _ _ h => h))
        go_wp2_with fail
        go_roundw
        case rel => exact ⟨k + 1, _, _, _, by omega, by go_num, rfl, by show OwnS _ _ _ _; rw [uh HH]; exact uh HO2, HK2⟩
        case measure => simp [intOf]; omega
       ·skip
        have HH := hide (show itemsD ops cs id fr to (k + 1) = itemsD ops cs id fr to k ++ [o] by rw [uh HN, if_pos ⟨by simpa using h0, by simpa using h1, by simpa using h2, by simpa using h3, by simpa using h4⟩])
        generalize itemsD ops cs id fr to k = A at *
        go_wp2_with (at_builtin; refine wpList_append_ops rfl _ _ rfl w.heap.size (.slice ad mm cp) A rfl (by exact owns_keeps (uh HO) (((Keeps.refl (fun _ => False) wr).alloc _).alloc _) (fun _ _ h => h)) _ [o] rfl (by exact blk_script (Blk.newAt (by simp) o.cells 40)) (by simp; omega) (by have := (uh HK).size; simp; omega) ?_; intro ad2 c2 w2 hown2 hk2 hat2)
        have HK2 := hide ((((uh HK).alloc (.cells o.cells.toArray 40)).alloc (.cells o.cells.toArray 40)).trans hk2 (fun i hi hlt => by have := ((uh HO).lt i hi).1; omega))
        go_roundw
        case rel => exact ⟨k + 1, _, _, _, by omega, by go_num, rfl, by show OwnS _ _ _ _; rw [uh HH]; exact hown2, HK2⟩
        case measure => simp [intOf]; omega
  ·have hkn : k = n := by omega
   subst hkn
   have hf : decide ((k : Int) < (k : Int)) = false := by simp
   go_wp2
   go_ret
   exact ⟨_, rfl, uh HO, uh HK⟩
end Go.Proofs.YtahnliehdjncdaaGreatDoor
namespace Go.Proofs.YtahnliehdjncdaaGreatDoor
theorem runM_at (s : WS) (ops : List OpM) (i : Nat) (o : OpM) (h : ops[i]? = some o) : (runM s ops)[i]? = some (stepM (endM s (ops.take i)) o).2 := by
 induction ops generalizing s i with
 | nil => simp at h
 | cons a l ih =>
  cases i with
  | zero =>
   have : a = o := by simpa using h
   subst this
   rfl
  | succ i =>
   have := ih (stepM s a).1 i (by simpa using h)
   simpa [runM, endM] using this
def codesOf (ops : List OpM) : List Int := (runM ws0 ops).map (·.1)
theorem codesOf_length (ops : List OpM) : (codesOf ops).length = ops.length := by simp [codesOf, runM_length]
theorem opAt_get {ops : List OpM} {i : Nat} (hi : i < ops.length) : ops[i]? = some (opAt ops i) := by
 simp [opAt, List.getD_eq_getElem?_getD, List.getElem?_eq_getElem hi]
theorem codeAt_is (ops : List OpM) (i : Nat) (hi : i < ops.length) : codeAt (codesOf ops) i = (stepM (endM ws0 (ops.take i)) (opAt ops i)).2.1 := by
 unfold codeAt codesOf
 rw [List.getD_eq_getElem?_getD, List.getElem?_map, runM_at ws0 ops i _ (opAt_get hi)]
 rfl
theorem take_opAt {ops : List OpM} {i : Nat} (hi : i < ops.length) : ops.take (i + 1) = ops.take i ++ [opAt ops i] := by
 rw [List.take_add_one, opAt_get hi]; rfl
theorem opAt_mem {ops : List OpM} {i : Nat} (hi : i < ops.length) : opAt ops i ∈ ops := List.mem_of_getElem? (opAt_get hi)
theorem clockD_is (ops : List OpM) (hok : OkRun ops) (n : Nat) (hn : n ≤ ops.length) : clockD ops (codesOf ops) n = (endM ws0 (ops.take n)).clock := by
 induction n with
 | zero => rfl
 | succ n ih =>
  have hi : n < ops.length := by omega
  rw [clockD_succ, ih (by omega), codeAt_is ops n hi, take_opAt hi, endM_snoc, step_clock _ _ (hok _ (opAt_mem hi))]
theorem configD_is (ops : List OpM) (hok : OkRun ops) (id : Int) (n : Nat) (hn : n ≤ ops.length) : configD ops (codesOf ops) id n = (findS (endM ws0 (ops.take n)).xs id).map (·.c) := by
 induction n with
 | zero => rfl
 | succ n ih =>
  have hi : n < ops.length := by omega
  rw [take_opAt hi, endM_snoc, step_cfg _ _ _ (hok _ (opAt_mem hi)), ← ih (by omega), ← codeAt_is ops n hi]
  rfl
end Go.Proofs.YtahnliehdjncdaaGreatDoor
namespace Go.Proofs.YtahnliehdjncdaaGreatDoor
open Go.RowKit
attribute [local go_sem ↓] execOp_load38 execOp_load40 execOp_build38 execOp_build40 execOp_bs22 execOp_store38
def cc : Cfg := ⟨1, 0, 9, 8, 1, 5, 0, 0, 0, 0, 0, 0, 0, 0, 0, 0, 0, 0, 0, 0⟩
def p1 : OpM := ⟨1, 7, 0, 0, 0, cc, noBytes⟩
def p4 : OpM := ⟨4, 7, 5, 0, 0, cz, noBytes⟩
def fourCells : List Value := p1.cells ++ (o2.cells ++ (o3.cells ++ p4.cells))
theorem run_c38 (w : World) : (buildBig 38 #[(0, .int .i64 1), (2, .int .i64 9), (3, .int .i64 8), (4, .int .i64 1), (5, .int .i64 5)]).run Tryz.prog w = .ok (.value (.agg cc.cells.toArray)) w := by kernel_rfl
theorem run_c1 (w : World) : (buildBig 40 #[(0, .int .i64 1), (1, .int .i64 7), (5, .agg cc.cells.toArray)]).run Tryz.prog w = .ok (.value (.agg p1.cells.toArray)) w := by kernel_rfl
theorem run_c4 (w : World) : (buildBig 40 #[(0, .int .i64 4), (1, .int .i64 7), (2, .int .i64 5)]).run Tryz.prog w = .ok (.value (.agg p4.cells.toArray)) w := by kernel_rfl
theorem run_cs (w : World) : (bsBig 22 4 #[(0, .agg p1.cells.toArray), (1, .agg o2.cells.toArray), (2, .agg o3.cells.toArray), (3, .agg p4.cells.toArray)]).run Tryz.prog w =
  .ok (.value (.slice (some ⟨w.heap.size, 0, none⟩) 4 4)) (w.alloc (.cells fourCells.toArray 40)) := by kernel_rfl
attribute [local go_sem] run_load38 run_load40 bigVal_drew hasBig_drew bigVal_ne hasBig_ne bigVal_alloc hasBig_alloc run_c38 run_c1 run_b2 run_b3 run_c4 run_cs
end Go.Proofs.YtahnliehdjncdaaGreatDoor
namespace Go.Proofs.YtahnliehdjncdaaGreatDoor
open Go.RowKit
theorem emod_le' (c n : Int) (hc : 0 ≤ c) (hn : 1 ≤ n) : c % n ≤ c := by
 have h1 := Int.mul_nonneg (show 0 ≤ n by omega) (Int.ediv_nonneg hc (show 0 ≤ n by omega))
 have h2 := Int.emod_add_mul_ediv c n
 omega
theorem pick_big (c n : Int) (w : World) (hn : 1 ≤ n) (c0 : -9223372036854775808 ≤ c) (c1 : c ≤ 9223372036854775807) :
  Calls Tryz.prog 18 #[.int .i64 c, .int .i64 n] w fun e w' => ∃ k : Nat, (k : Int) < n ∧ e = .returned (.int .i64 k) ∧ w' = w := by
 by_cases h : c < 0
 ·obtain ⟨k, hk⟩ : ∃ k : Nat, (k : Int) = (-(c + 1)) % n := ⟨((-(c + 1)) % n).toNat, Int.toNat_of_nonneg (Int.emod_nonneg _ (by omega))⟩
  have hlt := Int.emod_lt_of_pos (-(c + 1)) (show 0 < n by omega)
  have hke := emod_le' (-(c + 1)) n (by omega) hn
  have HK := hide hk
  clear hk
  go_enter Tryz.func18, Tryz.ntmps18
  go_wp2
  go_ret
  exact ⟨k, by rw [uh HK]; exact hlt, ret_int ((Int.neg_tmod (c + 1) n).symm.trans ((Int.tmod_eq_emod_of_nonneg (by omega)).trans (uh HK).symm)), rfl⟩
 ·obtain ⟨k, hk⟩ : ∃ k : Nat, (k : Int) = c % n := ⟨(c % n).toNat, Int.toNat_of_nonneg (Int.emod_nonneg _ (by omega))⟩
  have hlt := Int.emod_lt_of_pos c (show 0 < n by omega)
  have hke := emod_le' c n (by omega) hn
  have HK := hide hk
  clear hk
  go_enter Tryz.func18, Tryz.ntmps18
  go_wp2
  go_ret
  exact ⟨k, by rw [uh HK]; exact hlt, ret_int (uh HK).symm, rfl⟩
def appS (t : TypeId) (x y : Value) : Sem Next := do pure (.value (← Builtin.append_ #[22, 22] t #[x, y]))
theorem execOp_appS (ρ : Operand → Value) (dst : Option Tmp) (x y : Operand) (ty : TypeId) (pos : String) (after : Array Edge) (guard : Option (Nat × Bool)) :
  execOp ρ { dst, op := .call { callee := .builtin .append, args := #[x, y], argTypes := #[22, 22] }, type := ty, pos, after, guard } = appS ty (ρ x) (ρ y) := by
 rw [BigFrame.execOp_builtin, BigFrame.builtin_append]
 simp [appS]
end Go.Proofs.YtahnliehdjncdaaGreatDoor
