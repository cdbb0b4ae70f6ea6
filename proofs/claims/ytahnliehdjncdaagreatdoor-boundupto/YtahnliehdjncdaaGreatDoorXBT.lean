import Derived.Test.YtahnliehdjncdaaGreatDoorXBP
import Derived.Test.YtahnliehdjncdaaGreatDoorXBS
set_option maxRecDepth 100000
set_option maxHeartbeats 16000000
namespace Go.Proofs.YtahnliehdjncdaaGreatDoor
open Go.RowKit
attribute [local go_sem ↓] execOp_load38 execOp_load40 execOp_store40 execOp_bs22
attribute [local go_sem] run_load38 run_load40 bigVal_drew hasBig_drew bigVal_ne hasBig_ne bigVal_alloc hasBig_alloc bigVal_new hasBig_newB run_bs1
def itemsD (ops : List OpM) (cs : List Int) (id fr to : Int) : Nat → List OpM
 | 0 => []
 | n + 1 => itemsD ops cs id fr to n ++ (if (opAt ops n).kind = 2 ∧ (opAt ops n).id = id ∧ codeAt cs n = 0 ∧ fr < (opAt ops n).a ∧ (opAt ops n).a ≤ to then [opAt ops n] else [])
theorem itemsD_succ (ops : List OpM) (cs : List Int) (id fr to : Int) (n : Nat) : itemsD ops cs id fr to (n + 1) = itemsD ops cs id fr to n ++ (if (opAt ops n).kind = 2 ∧ (opAt ops n).id = id ∧ codeAt cs n = 0 ∧ fr < (opAt ops n).a ∧ (opAt ops n).a ≤ to then [opAt ops n] else []) := rfl
theorem itemsD_length (ops : List OpM) (cs : List Int) (id fr to : Int) (n : Nat) : (itemsD ops cs id fr to n).length ≤ n := by
 induction n with
 | zero => simp [itemsD]
 | succ n ih => rw [itemsD_succ, List.length_append]; split <;> simp <;> omega
theorem range_op {w : World} {sb so : Nat} {ops : List OpM} (h : ScriptAt w sb so ops) {i : Nat} (hi : i < ops.length) : bigVal w sb (so + i * 26) 26 = .agg (opAt ops i).cells.toArray ∧ hasBig w sb (so + i * 26) 26 = true := by
 have e : opAt ops i = ops[i] := by simp [opAt, List.getD_eq_getElem?_getD, List.getElem?_eq_getElem hi]
 have h3 := bigCells_of_range (h i ops[i] (List.getElem?_eq_getElem hi))
 have e3 : ops[i].cells.length = 26 := rfl
 rw [e3] at h3
 rw [e]
 exact ⟨by unfold bigVal; rw [h3.1], h3.2⟩
theorem ScriptAt.keepsM {M : Nat → Prop} {w w' : World} {sb so : Nat} {ops : List OpM} (h : ScriptAt w sb so ops) (hk : Keeps M w w') (hn : ¬ M sb) : ScriptAt w' sb so ops := fun i o ho j v hv => hk.cell (h i o ho j v hv) hn
theorem items_any (sb so cap g acap : Nat) (ops : List OpM) (cs : List Int) (n : Nat) (id fr to : Int) (w : World) (hs : ScriptAt w sb so ops) (hgl : g < w.heap.size) (ha : CodesAt w g cs) (hn : n ≤ ops.length) (hc : cs.length = ops.length) (hl : ops.length ≤ 651562446088) :
  Calls Tryz.prog 27 #[.slice (some ⟨sb, so, none⟩) ops.length cap, .slice (some ⟨g, 0, none⟩) ops.length acap, .int .i64 n, .int .i64 id, .int .i64 fr, .int .i64 to] w fun r w' => ∃ v, r = .returned v ∧ OwnS w' w.heap.size v (itemsD ops cs id fr to n) ∧ Keeps (fun _ => False) w w' := by
 have HS := hide hs
 have HA := hide ha
 have HC := hide hc
 clear hs ha hc
 generalize hm : ops.length = m at *
 have HM := hide hm
 clear hm
 go_enter Tryz.func27, Tryz.ntmps27
 go_wp2_with fail
 go_loopw [13, 14] (fun l i wr => ∃ (k mm cp : Nat) (ad : Option Addr), k ≤ n ∧ i = .int .i64 k ∧ l = .slice ad mm cp ∧ Hid (OwnS wr w.heap.size l (itemsD ops cs id fr to k)) ∧ Hid (Keeps (fun _ => False) w wr)) (fun _ i _ => n - (intOf i).toNat)
 case atStart => exact ⟨0, 0, 0, none, by omega, rfl, rfl, World.ownsRow_nil _ _ _ _, Keeps.refl _ _⟩
 case round =>
  obtain ⟨k, mm, cp, ad, hk, rfl, rfl, HO, HK⟩ := hrel
  by_cases hlk : k < n
  ·have HSr := hide ((uh HS).keepsM (uh HK) (fun h => h))
   obtain ⟨hv0, hh0⟩ := range_op (uh HSr) (i := k) (by rw [uh HM]; omega)
   have ca : wr.cell? ⟨g, k * 3, none⟩ = some (.int .i64 (codeAt cs k)) := (uh HK).cell (uh HA k (by rw [uh HC]; omega)) (fun h => h)
   have HN := hide (itemsD_succ ops cs id fr to k)
   have hAl := itemsD_length ops cs id fr to k
   have hm' : mm = (itemsD ops cs id fr to k).length := by
    obtain ⟨_, _, e⟩ := row_form0 (uh HO)
    injection e
   generalize opAt ops k = o at *
   generalize codeAt cs k = c at *
   have hst : ∀ zs : List Value, zs.length = 26 → (storeBig 40 (.pointer (some ⟨wr.heap.size, 0, none⟩)) (.agg o.cells.toArray)).run Tryz.prog (wr.alloc (.cells zs.toArray 40)) = .ok .skip (wr.alloc (.cells o.cells.toArray 40)) := fun zs hz => run_store40 wr zs o.cells hz rfl (op_oneCell o)
   have hv1 : bigVal (wr.alloc (.cells o.cells.toArray 40)) wr.heap.size 0 26 = .agg o.cells.toArray := bigVal_new wr o.cells 40 26 rfl
   have hh1 : hasBig (wr.alloc (.cells o.cells.toArray 40)) wr.heap.size 0 26 = true := hasBig_new wr o.cells 40 26 rfl
   have o0 : o.cells[0]? = some (.int .i64 o.kind) := rfl
   have o1 : o.cells[1]? = some (.int .i64 o.id) := rfl
   have o2 : o.cells[2]? = some (.int .i64 o.a) := rfl
   have hgne : g < wr.heap.size := by have := (uh HK).size; omega
   have ca2 : (wr.alloc (.cells o.cells.toArray 40)).cell? ⟨g, k * 3, none⟩ = some (.int .i64 c) := ((Keeps.refl (fun _ => False) wr).alloc _).cell ca (fun h => h)
   have hk0 : (0 : Int) ≤ (k : Int) := by omega
   have hkn : (k : Int) < (n : Int) := by omega
   have hkm : (k : Int) < (m : Int) := by omega
   cases h0 : (o.kind == 2)
   ·have hx : ¬ o.kind = 2 := by simpa using h0
    have HH := hide (show itemsD ops cs id fr to (k + 1) = itemsD ops cs id fr to k by rw [uh HN, if_neg (fun h => hx h.1), List.append_nil])
    clear hx
    have HK2 := hide ((uh HK).alloc (.cells o.cells.toArray 40))
    have HO2 := hide (owns_keeps (uh HO) ((Keeps.refl (fun _ => False) wr).alloc (.cells o.cells.toArray 40)) (fun _ _ h => h))
    go_wp2_with fail
    go_roundw
    case rel => exact ⟨k + 1, _, _, _, by omega, by go_num, rfl, by show OwnS _ _ _ _; rw [uh HH]; exact uh HO2, HK2⟩
    case measure => simp [intOf]; omega
   ·skip
    cases h1 : (o.id == id)
    ·have hx : ¬ o.id = id := by simpa using h1
     have HH := hide (show itemsD ops cs id fr to (k + 1) = itemsD ops cs id fr to k by rw [uh HN, if_neg (fun h => hx h.2.1), List.append_nil])
     clear hx
     have HK2 := hide ((uh HK).alloc (.cells o.cells.toArray 40))
     have HO2 := hide (owns_keeps (uh HO) ((Keeps.refl (fun _ => False) wr).alloc (.cells o.cells.toArray 40)) (fun _ _ h => h))
     go_wp2_with fail
     go_roundw
     case rel => exact ⟨k + 1, _, _, _, by omega, by go_num, rfl, by show OwnS _ _ _ _; rw [uh HH]; exact uh HO2, HK2⟩
     case measure => simp [intOf]; omega
    ·skip
     cases h2 : (c == 0)
     ·have hx : ¬ c = 0 := by simpa using h2
      have HH := hide (show itemsD ops cs id fr to (k + 1) = itemsD ops cs id fr to k by rw [uh HN, if_neg (fun h => hx h.2.2.1), List.append_nil])
      clear hx
      have HK2 := hide ((uh HK).alloc (.cells o.cells.toArray 40))
      have HO2 := hide (owns_keeps (uh HO) ((Keeps.refl (fun _ => False) wr).alloc (.cells o.cells.toArray 40)) (fun _ _ h => h))
      go_wp2_with fail
      go_roundw
      case rel => exact ⟨k + 1, _, _, _, by omega, by go_num, rfl, by show OwnS _ _ _ _; rw [uh HH]; exact uh HO2, HK2⟩
      case measure => simp [intOf]; omega
     ·skip
      cases h3 : decide (fr < o.a)
      ·have hx : ¬ fr < o.a := by simpa using h3
       have HH := hide (show itemsD ops cs id fr to (k + 1) = itemsD ops cs id fr to k by rw [uh HN, if_neg (fun h => hx h.2.2.2.1), List.append_nil])
       clear hx
       have HK2 := hide ((uh HK).alloc (.cells o.cells.toArray 40))
       have HO2 := hide (owns_keeps (uh HO) ((Keeps.refl (fun _ => False) wr).alloc (.cells o.cells.toArray 40)) (fun _ _ h => h))
       go_wp2_with fail
       go_roundw
       case rel => exact ⟨k + 1, _, _, _, by omega, by go_num, rfl, by show OwnS _ _ _ _; rw [uh HH]; exact uh HO2, HK2⟩
       case measure => simp [intOf]; omega
      ·skip
       cases h4 : decide (o.a ≤ to)
       ·have hx : ¬ o.a ≤ to := by simpa using h4
        have HH := hide (show itemsD ops cs id fr to (k + 1) = itemsD ops cs id fr to k by rw [uh HN, if_neg (fun h => hx h.2.2.2.2), List.append_nil])
        clear hx
        have HK2 := hide ((uh HK).alloc (.cells o.cells.toArray 40))
        have HO2 := hide (owns_keeps (uh HO) ((Keeps.refl (fun _ => False) wr).alloc (.cells o.cells.toArray 40)) (fun _ _ h => h))
        go_wp2_with fail
        go_roundw
        case rel => exact ⟨k + 1, _, _, _, by omega, by go_num, rfl, by show OwnS _ _ _ _; rw [uh HH]; exact uh HO2, HK2⟩
        case measure => simp [intOf]; omega
       ·skip
        have HH := hide (show itemsD ops cs id fr to (k + 1) = itemsD ops cs id fr to k ++ [o] by rw [uh HN, if_pos ⟨by simpa using h0, by simpa using h1, by simpa using h2, by simpa using h3, by simpa using h4⟩])
        generalize itemsD ops cs id fr to k = A at *
        go_wp2_with (at_builtin; refine wpList_append_ops rfl _ _ rfl w.heap.size (.slice ad mm cp) A rfl (by exact owns_keeps (uh HO) (((Keeps.refl (fun _ => False) wr).alloc _).alloc _) (fun _ _ h => h)) _ [o] rfl (by exact blk_script (Blk.newAt (by simp) o.cells 40)) (by simp; omega) (by have := (uh HK).size; simp; omega) ?_; intro ad2 c2 w2 hown2 hk2 hat2)
        have HK2 := hide ((((uh HK).alloc (.cells o.cells.toArray 40)).alloc (.cells o.cells.toArray 40)).trans hk2 (fun i hi hlt => by have := ((uh HO).lt i hi).1; omega))
        go_roundw
        case rel => exact ⟨k + 1, _, _, _, by omega, by go_num, rfl, by show OwnS _ _ _ _; rw [uh HH]; exact hown2, HK2⟩
        case measure => simp [intOf]; omega
  ·have hkn : k = n := by omega
   subst hkn
   have hf : decide ((k : Int) < (k : Int)) = false := by simp
   go_wp2
   go_ret
   exact ⟨_, rfl, uh HO, uh HK⟩
end Go.Proofs.YtahnliehdjncdaaGreatDoor
namespace Go.Proofs.YtahnliehdjncdaaGreatDoor
theorem runM_at (s : WS) (ops : List OpM) (i : Nat) (o : OpM) (h : ops[i]? = some o) : (runM s ops)[i]? = some (stepM (endM s (ops.take i)) o).2 := by
 induction ops generalizing s i with
 | nil => simp at h
 | cons a l ih =>
  cases i with
  | zero =>
   have : a = o := by simpa using h
   subst this
   rfl
  | succ i =>
   have := ih (stepM s a).1 i (by simpa using h)
   simpa [runM, endM] using this
def codesOf (ops : List OpM) : List Int := (runM ws0 ops).map (·.1)
theorem codesOf_length (ops : List OpM) : (codesOf ops).length = ops.length := by simp [codesOf, runM_length]
theorem opAt_get {ops : List OpM} {i : Nat} (hi : i < ops.length) : ops[i]? = some (opAt ops i) := by
 simp [opAt, List.getD_eq_getElem?_getD, List.getElem?_eq_getElem hi]
theorem codeAt_is (ops : List OpM) (i : Nat) (hi : i < ops.length) : codeAt (codesOf ops) i = (stepM (endM ws0 (ops.take i)) (opAt ops i)).2.1 := by
 unfold codeAt codesOf
 rw [List.getD_eq_getElem?_getD, List.getElem?_map, runM_at ws0 ops i _ (opAt_get hi)]
 rfl
theorem take_opAt {ops : List OpM} {i : Nat} (hi : i < ops.length) : ops.take (i + 1) = ops.take i ++ [opAt ops i] := by
 rw [List.take_add_one, opAt_get hi]; rfl
theorem opAt_mem {ops : List OpM} {i : Nat} (hi : i < ops.length) : opAt ops i ∈ ops := List.mem_of_getElem? (opAt_get hi)
theorem clockD_is (ops : List OpM) (hok : OkRun ops) (n : Nat) (hn : n ≤ ops.length) : clockD ops (codesOf ops) n = (endM ws0 (ops.take n)).clock := by
 induction n with
 | zero => rfl
 | succ n ih =>
  have hi : n < ops.length := by omega
  rw [clockD_succ, ih (by omega), codeAt_is ops n hi, take_opAt hi, endM_snoc, step_clock _ _ (hok _ (opAt_mem hi))]
theorem configD_is (ops : List OpM) (hok : OkRun ops) (id : Int) (n : Nat) (hn : n ≤ ops.length) : configD ops (codesOf ops) id n = (findS (endM ws0 (ops.take n)).xs id).map (·.c) := by
 induction n with
 | zero => rfl
 | succ n ih =>
  have hi : n < ops.length := by omega
  rw [take_opAt hi, endM_snoc, step_cfg _ _ _ (hok _ (opAt_mem hi)), ← ih (by omega), ← codeAt_is ops n hi]
  rfl
theorem itemsD_is (ops : List OpM) (id fr to : Int) (n : Nat) (hn : n ≤ ops.length) : (itemsD ops (codesOf ops) id fr to n).map (·.a) = (accOf ws0 (ops.take n) id).filter (fun t => decide (fr < t ∧ t ≤ to)) := by
 induction n with
 | zero => rfl
 | succ n ih =>
  have hi : n < ops.length := by omega
  rw [itemsD_succ, take_opAt hi, accOf_snoc, List.filter_append, List.map_append, ih (by omega), codeAt_is ops n hi]
  congr 1
  unfold accd
  by_cases h1 : (opAt ops n).kind = 2 ∧ (opAt ops n).id = id ∧ (stepM (endM ws0 (ops.take n)) (opAt ops n)).2.1 = 0
  ·rw [if_pos h1]
   by_cases h2 : fr < (opAt ops n).a ∧ (opAt ops n).a ≤ to
   ·rw [if_pos ⟨h1.1, h1.2.1, h1.2.2, h2⟩]
    simp [h2.1, h2.2]
   ·rw [if_neg (fun h => h2 h.2.2.2)]
    rw [List.filter_cons_of_neg (by simpa using h2)]
    rfl
  ·rw [if_neg h1, if_neg (fun h => h1 ⟨h.1, h.2.1, h.2.2.1⟩)]
   rfl
end Go.Proofs.YtahnliehdjncdaaGreatDoor
