import Derived.Test.YtahnliehdjncdaaGreatDoorXBO
import Derived.Test.YtahnliehdjncdaaGreatDoorXBR
set_option maxRecDepth 100000
set_option maxHeartbeats 16000000
namespace Go.Proofs.YtahnliehdjncdaaGreatDoor
def accOf : WS → List OpM → Int → List Int
 | _, [], _ => []
 | s, o :: r, id => accd s o id ++ accOf (stepM s o).1 r id
theorem end_WB (l : List OpM) : ∀ {n : Int} {s : WS} {A : Int → List Int}, 0 ≤ n → EInv n s.clock s.xs → OkRun l → WB s A → WB (endM s l) (fun id => A id ++ accOf s l id) := by
 induction l with
 | nil => intro n s A _ _ _ h; exact h.same (fun id => by simp [accOf])
 | cons o l ih =>
  intro n s A hn hi hok h
  have ho := hok o (by simp)
  have := ih (n := n + 1) (by omega) (stepM_inv o hi hn (loadOk_none ho)) (fun p hp => hok p (by simp [hp])) (step_WB hi h o ho)
  exact this.same (fun id => by simp [accOf, List.append_assoc])
theorem accOf_snoc (l : List OpM) (o : OpM) (id : Int) : ∀ s, accOf s (l ++ [o]) id = accOf s l id ++ accd (endM s l) o id := by
 induction l with
 | nil => intro s; simp [accOf, endM]
 | cons a l ih => intro s; simp only [List.cons_append, accOf, ih, List.append_assoc]; rfl
theorem step_clock (s : WS) (o : OpM) (h7 : o.kind ≠ 7) : (stepM s o).1.clock = if o.kind = 3 ∧ (stepM s o).2.1 = 0 ∧ s.clock < o.a then o.a else s.clock := by
 by_cases h3 : o.kind = 3
 ·have hs : stepM s o = tickM s o := by unfold stepM; rw [if_neg (by omega), if_neg (by omega), if_pos h3]
  rw [hs]
  unfold tickM
  by_cases ha : inB o.a 0 4611686018427387904 = true
  ·rw [if_pos ha]
   by_cases hb : inB o.b 0 100 = true
   ·rw [if_pos hb]
    show maxC s.clock o.a = _
    unfold maxC
    by_cases hc : s.clock < o.a
    ·rw [if_pos hc, if_pos ⟨h3, rfl, hc⟩]
    ·rw [if_neg hc, if_neg (fun h => hc h.2.2)]
   ·rw [if_neg hb, if_neg (fun h => by have := h.2.1; simp at this)]
  ·rw [if_neg ha, if_neg (fun h => by have := h.2.1; simp at this)]
 ·rw [if_neg (fun h => h3 h.1)]
  unfold stepM
  split
  ·unfold createM; split
   ·split
    ·split <;> rfl
    ·rfl
   ·rfl
  ·split
   ·unfold addM; split
    ·rfl
    ·split <;> rfl
   ·split
    ·unfold queryM; split <;> rfl
    ·split
     ·unfold statsM; split <;> rfl
     ·first | (rw [if_neg h7]; split <;> rfl) | (split <;> rfl)
theorem find_c (id : Int) : ∀ (l l' : List Ser), l.map (fun x => (x.id, x.c)) = l'.map (fun x => (x.id, x.c)) → (findS l id).map (·.c) = (findS l' id).map (·.c) := by
 intro l
 induction l with
 | nil => intro l' h; cases l' with
  | nil => rfl
  | cons a l' => simp at h
 | cons a l ih =>
  intro l' h
  cases l' with
  | nil => simp at h
  | cons b l' =>
   simp only [List.map_cons, List.cons.injEq, Prod.mk.injEq] at h
   obtain ⟨⟨h1, h2⟩, h3⟩ := h
   have := ih l' h3
   unfold findS at *
   rw [List.find?_cons, List.find?_cons, h1]
   cases (b.id == id)
   ·exact this
   ·simp [h2]
theorem upd_c {xs : List Ser} {id : Int} {x y : Ser} (hf : findS xs id = some x) (h1 : y.id = x.id) (h2 : y.c = x.c) : (updS xs id y).map (fun x => (x.id, x.c)) = xs.map (fun x => (x.id, x.c)) := by
 obtain ⟨l1, l2, he, _, hu⟩ := find_split hf
 rw [hu, he]; simp [h1, h2]
theorem sweepL_c (c : Int) (xs : List Ser) : ∀ b, (sweepL c b xs).1.map (fun x => (x.id, x.c)) = xs.map (fun x => (x.id, x.c)) := by
 induction xs with
 | nil => intro b; rfl
 | cons x xs ih => intro b; simp only [sweepL, List.map_cons, ih]; rfl
theorem step_cfg (s : WS) (o : OpM) (id : Int) (h7 : o.kind ≠ 7) : (findS (stepM s o).1.xs id).map (·.c) = match (findS s.xs id).map (·.c) with
  | some c => some c
  | none => if o.kind = 1 ∧ o.id = id ∧ (stepM s o).2.1 = 0 then some o.cfg else none := by
 have key : ∀ (p : Prop) [Decidable p] (r : Option Cfg), ¬ p → r = match r with | some c => some c | none => if p then some o.cfg else none := by
  intro p _ r hp; cases r with
  | none => simp [hp]
  | some c => rfl
 by_cases h1 : o.kind = 1
 ·have hs : stepM s o = createM s o := by unfold stepM; rw [if_pos h1]
  rw [hs]
  unfold createM
  by_cases ha : inB o.id 0 99 = true ∧ (findS s.xs o.id).isNone = true
  ·rw [if_pos ha]
   by_cases hv : validB o.cfg = true
   ·rw [if_pos hv]
    by_cases h6 : s.xs.length < 6
    ·rw [if_pos h6]
     show (findS (s.xs ++ [newSer o.id o.cfg o.cfg.kind.toNat]) id).map (·.c) = _
     have e : findS (s.xs ++ [newSer o.id o.cfg o.cfg.kind.toNat]) id = (findS s.xs id).or (findS [newSer o.id o.cfg o.cfg.kind.toNat] id) := List.find?_append
     rw [e]
     cases hf : findS s.xs id with
     | some x => rfl
     | none =>
      simp only [Option.none_or, Option.map_none]
      by_cases hid : o.id = id
      ·rw [if_pos ⟨h1, hid, by simp⟩]
       simp [findS, newSer, hid]
      ·rw [if_neg (fun h => hid h.2.1)]
       simp [findS, newSer, hid]
    ·rw [if_neg h6]; exact key _ _ (fun h => by have := h.2.2; simp at this)
   ·rw [if_neg hv]; exact key _ _ (fun h => by have := h.2.2; simp at this)
  ·rw [if_neg ha]; exact key _ _ (fun h => by have := h.2.2; simp at this)
 ·have hsame : (findS (stepM s o).1.xs id).map (·.c) = (findS s.xs id).map (·.c) := by
   refine find_c id _ _ ?_
   unfold stepM
   rw [if_neg h1]
   split
   ·unfold addM
    split
    ·rfl
    ·rename_i x hf
     split
     ·exact upd_c hf rfl rfl
     ·exact upd_c hf rfl rfl
   ·split
    ·unfold tickM
     split
     ·split
      ·show (sweepL _ _ _).1.map _ = _
       rw [sweepL_c, List.map_map]
       refine List.map_congr_left fun x _ => ?_
       have h := relS_k (x.l.length + 1) x (maxC s.clock o.a - x.c.lag)
       show ((tickOne _ x).id, (tickOne _ x).c) = _
       unfold tickOne
       rw [h.2.1, h.2.2]
      ·rfl
     ·rfl
    ·split
     ·unfold queryM; split <;> rfl
     ·split
      ·unfold statsM; split <;> rfl
      ·first | (rw [if_neg h7]; split <;> rfl) | (split <;> rfl)
  rw [hsame]; exact key _ _ (fun h => h1 h.1)
end Go.Proofs.YtahnliehdjncdaaGreatDoor
namespace Go.Proofs.YtahnliehdjncdaaGreatDoor
open Go.RowKit
attribute [local go_sem ↓] execOp_load38 execOp_load40 execOp_store40
attribute [local go_sem] run_load38 run_load40 bigVal_drew hasBig_drew bigVal_ne hasBig_ne bigVal_alloc hasBig_alloc bigVal_new hasBig_newB
def opAt (ops : List OpM) (i : Nat) : OpM := ops.getD i ⟨0, 0, 0, 0, 0, ⟨0, 0, 0, 0, 0, 0, 0, 0, 0, 0, 0, 0, 0, 0, 0, 0, 0, 0, 0, 0⟩, noBytes⟩
def codeAt (cs : List Int) (i : Nat) : Int := cs.getD i 1
def CodesAt (w : World) (g : Nat) (cs : List Int) : Prop := ∀ (i : Nat), i < cs.length → w.cell? ⟨g, i * 3, none⟩ = some (.int .i64 (codeAt cs i))
theorem CodesAt.keeps {M : Nat → Prop} {w w' : World} {g : Nat} {cs : List Int} (h : CodesAt w g cs) (hk : Keeps M w w') (hn : ¬ M g) : CodesAt w' g cs := fun i hi => hk.cell (h i hi) hn
theorem opAt_cells {w : World} {sb so : Nat} {ops : List OpM} (h : ScriptAt w sb so ops) {i : Nat} (hi : i < ops.length) : w.cell? ⟨sb, so + i * 26, none⟩ = some (.int .i64 (opAt ops i).kind) ∧ w.cell? ⟨sb, so + i * 26 + 1, none⟩ = some (.int .i64 (opAt ops i).id) ∧ w.cell? ⟨sb, so + i * 26 + 2, none⟩ = some (.int .i64 (opAt ops i).a) := by
 have e : opAt ops i = ops[i] := by simp [opAt, List.getD_eq_getElem?_getD, List.getElem?_eq_getElem hi]
 have h1 := h i ops[i] (List.getElem?_eq_getElem hi)
 rw [e]
 exact ⟨by simpa using h1 0 _ rfl, h1 1 _ rfl, h1 2 _ rfl⟩
def clockD (ops : List OpM) (cs : List Int) : Nat → Int
 | 0 => 0
 | n + 1 => if (opAt ops n).kind = 3 ∧ codeAt cs n = 0 ∧ clockD ops cs n < (opAt ops n).a then (opAt ops n).a else clockD ops cs n
theorem clockD_succ (ops : List OpM) (cs : List Int) (n : Nat) : clockD ops cs (n + 1) = if (opAt ops n).kind = 3 ∧ codeAt cs n = 0 ∧ clockD ops cs n < (opAt ops n).a then (opAt ops n).a else clockD ops cs n := rfl
theorem clock_any (sb so cap g acap : Nat) (ops : List OpM) (cs : List Int) (n : Nat) (w : World) (hs : ScriptAt w sb so ops) (ha : CodesAt w g cs) (hn : n ≤ ops.length) (hc : cs.length = ops.length) (hl : ops.length ≤ 1099511627776) :
  Calls Tryz.prog 26 #[.slice (some ⟨sb, so, none⟩) ops.length cap, .slice (some ⟨g, 0, none⟩) ops.length acap, .int .i64 n] w fun r w' => r = .returned (.int .i64 (clockD ops cs n)) ∧ w' = w := by
 have HS := hide hs
 have HA := hide ha
 have HC := hide hc
 clear hs ha hc
 generalize hm : ops.length = m at *
 have HM := hide hm
 clear hm
 go_enter Tryz.func26, Tryz.ntmps26
 go_wp2
 go_loopw [7, 8] (fun t i wr => ∃ k : Nat, i = .int .i64 k ∧ k ≤ n ∧ t = .int .i64 (clockD ops cs k) ∧ wr = w) (fun _ i _ => n - (intOf i).toNat)
 case atStart => exact ⟨0, rfl, Nat.zero_le _, rfl, rfl⟩
 case round =>
  obtain ⟨k, rfl, hk, rfl, hwr⟩ := hrel
  rw [hwr]
  clear hwr wr
  by_cases hlk : k < n
  ·obtain ⟨c0, _, c2⟩ := opAt_cells (uh HS) (i := k) (by rw [uh HM]; omega)
   have ca := uh HA k (by rw [uh HC]; omega)
   have HN := hide (clockD_succ ops cs k)
   generalize opAt ops k = o at *
   generalize codeAt cs k = c at *
   generalize clockD ops cs k = T at *
   have hk0 : (0 : Int) ≤ (k : Int) := by omega
   have hkn : (k : Int) < (n : Int) := by omega
   have hkm : (k : Int) < (m : Int) := by omega
   cases h1 : (o.kind == 3)
   ·have h1' : ¬ o.kind = 3 := by simpa using h1
    have HN' := hide (show clockD ops cs (k + 1) = T by rw [uh HN, if_neg (fun h => h1' h.1)])
    clear h1'
    go_wp2
    go_roundw
    case rel => exact ⟨k + 1, by go_num, by omega, by rw [uh HN'], by simp⟩
    case measure => simp [intOf]; omega
   ·have h1' : o.kind = 3 := by simpa using h1
    cases h2 : (c == 0)
    ·have h2' : ¬ c = 0 := by simpa using h2
     have HN' := hide (show clockD ops cs (k + 1) = T by rw [uh HN, if_neg (fun h => h2' h.2.1)])
     clear h2' h1'
     go_wp2
     go_roundw
     case rel => exact ⟨k + 1, by go_num, by omega, by rw [uh HN'], by simp⟩
     case measure => simp [intOf]; omega
    ·have h2' : c = 0 := by simpa using h2
     cases h3 : decide (T < o.a)
     ·have h3' : ¬ T < o.a := by simpa using h3
      have HN' := hide (show clockD ops cs (k + 1) = T by rw [uh HN, if_neg (fun h => h3' h.2.2)])
      clear h3' h2' h1'
      go_wp2
      go_roundw
      case rel => exact ⟨k + 1, by go_num, by omega, by rw [uh HN'], by simp⟩
      case measure => simp [intOf]; omega
     ·have h3' : T < o.a := by simpa using h3
      have HN' := hide (show clockD ops cs (k + 1) = o.a by rw [uh HN, if_pos ⟨h1', h2', h3'⟩])
      clear h3' h2' h1'
      go_wp2
      go_roundw
      case rel => exact ⟨k + 1, by go_num, by omega, by rw [uh HN'], by simp⟩
      case measure => simp [intOf]; omega
  ·have hkn : k = n := by omega
   subst hkn
   have hf : decide ((k : Int) < (k : Int)) = false := by simp
   go_wp2
   go_ret
   exact ⟨rfl, rfl⟩
def configD (ops : List OpM) (cs : List Int) (id : Int) : Nat → Option Cfg
 | 0 => none
 | n + 1 => match configD ops cs id n with
  | some c => some c
  | none => if (opAt ops n).kind = 1 ∧ (opAt ops n).id = id ∧ codeAt cs n = 0 then some (opAt ops n).cfg else none
theorem configD_none (ops : List OpM) (cs : List Int) (id : Int) (n : Nat) (h : configD ops cs id n = none) : configD ops cs id (n + 1) = if (opAt ops n).kind = 1 ∧ (opAt ops n).id = id ∧ codeAt cs n = 0 then some (opAt ops n).cfg else none := by
 show (match configD ops cs id n with | some c => some c | none => _) = _
 rw [h]
theorem configD_some (ops : List OpM) (cs : List Int) (id : Int) (n m : Nat) (c : Cfg) (h : configD ops cs id n = some c) (hm : n ≤ m) : configD ops cs id m = some c := by
 induction m with
 | zero => have : n = 0 := by omega
      subst this; exact h
 | succ m ih =>
  by_cases e : n = m + 1
  ·rw [← e]; exact h
  ·show (match configD ops cs id m with | some c => some c | none => _) = _
   rw [ih (by omega)]
theorem range_cfg {w : World} {sb so : Nat} {ops : List OpM} (h : ScriptAt w sb so ops) {i : Nat} (hi : i < ops.length) : bigVal w sb (so + i * 26 + 5) 20 = .agg (opAt ops i).cfg.cells.toArray ∧ hasBig w sb (so + i * 26 + 5) 20 = true := by
 have e : opAt ops i = ops[i] := by simp [opAt, List.getD_eq_getElem?_getD, List.getElem?_eq_getElem hi]
 have h1 := h i ops[i] (List.getElem?_eq_getElem hi)
 rw [e]
 have h2 : w.rangeAt sb (so + i * 26 + 5) ops[i].cfg.cells := by
  intro j v hv
  have hj : j < 20 := by have := (List.getElem?_eq_some_iff.1 hv).1; simpa [Cfg.cells] using this
  have h3 : ops[i].cells[5 + j]? = some v := by
   have e2 : (ops[i].cells.drop 5).take 20 = ops[i].cfg.cells := rfl
   rw [← e2, List.getElem?_take, if_pos hj, List.getElem?_drop] at hv
   exact hv
  have := h1 (5 + j) v h3
  rw [show so + i * 26 + 5 + j = so + i * 26 + (5 + j) by omega]
  exact this
 have h3 := bigCells_of_range h2
 have e3 : ops[i].cfg.cells.length = 20 := rfl
 rw [e3] at h3
 exact ⟨by unfold bigVal; rw [h3.1], h3.2⟩
def cfg0 : Cfg := ⟨0, 0, 0, 0, 0, 0, 0, 0, 0, 0, 0, 0, 0, 0, 0, 0, 0, 0, 0, 0⟩
attribute [local go_sem ↓] execOp_store38 execOp_build38
theorem run_z38 (w : World) : (buildBig 38 #[]).run Tryz.prog w = .ok (.value (.agg cfg0.cells.toArray)) w := by kernel_rfl
attribute [local go_sem] run_z38
theorem config_any (sb so cap g acap : Nat) (ops : List OpM) (cs : List Int) (n : Nat) (id : Int) (w : World) (hs : ScriptAt w sb so ops) (ha : CodesAt w g cs) (hn : n ≤ ops.length) (hc : cs.length = ops.length) (hl : ops.length ≤ 1099511627776) :
  Calls Tryz.prog 25 #[.slice (some ⟨sb, so, none⟩) ops.length cap, .slice (some ⟨g, 0, none⟩) ops.length acap, .int .i64 n, .int .i64 id] w fun r w' => r = .returned (.tuple #[((configD ops cs id n).getD cfg0).val, .bool (configD ops cs id n).isSome]) ∧ Keeps (fun _ => False) w w' := by
 obtain ⟨W, hW⟩ : ∃ W, W = w.alloc (.cells cfg0.cells.toArray 38) := ⟨_, rfl⟩
 have hkW : Keeps (fun _ => False) w W := by rw [hW]; exact (Keeps.refl _ _).alloc _
 have HS := hide (show ScriptAt W sb so ops from fun i o ho j v hv => hkW.cell (hs i o ho j v hv) (fun h => h))
 have HA := hide (ha.keeps hkW (fun h => h))
 have HC := hide hc
 have HK := hide hkW
 have HW := hide (show w.alloc (.cells #[.int .i64 0, .int .i64 0, .int .i64 0, .int .i64 0, .int .i64 0, .int .i64 0, .int .i64 0, .int .i64 0, .int .i64 0, .int .i64 0, .int .i64 0, .int .i64 0, .int .i64 0, .int .i64 0, .int .i64 0, .int .i64 0, .int .i64 0, .int .i64 0, .int .i64 0, .int .i64 0] 38) = W from hW.symm)
 have HWW := hide hW
 have HST := hide (show ∀ c : Cfg, (storeBig 38 (.pointer (some ⟨w.heap.size, 0, none⟩)) (.agg c.cells.toArray)).run Tryz.prog W = .ok .skip (w.alloc (.cells c.cells.toArray 38)) from fun c => by
    rw [hW]; exact run_store38 w cfg0.cells c.cells rfl rfl (by simp [Cfg.cells, Value.oneCell']))
 clear hs ha hc hkW hW
 generalize hm : ops.length = m at *
 have HM := hide hm
 clear hm
 go_enter Tryz.func25, Tryz.ntmps25
 go_wp2_with fail
 rw [uh HW]
 go_loopw [10] (fun i wr => ∃ k : Nat, i = .int .i64 k ∧ k ≤ n ∧ Hid (configD ops cs id k = none) ∧ wr = W) (fun i _ => n - (intOf i).toNat)
 case atStart => exact ⟨0, rfl, Nat.zero_le _, rfl, rfl⟩
 case round =>
  obtain ⟨k, rfl, hk, HNO, hwr⟩ := hrel
  rw [hwr]
  clear hwr wr
  by_cases hlk : k < n
  ·obtain ⟨c0, c1, _⟩ := opAt_cells (uh HS) (i := k) (by rw [uh HM]; omega)
   have ca := uh HA k (by rw [uh HC]; omega)
   have HN := hide (configD_none ops cs id k (uh HNO))
   have HCF := hide (range_cfg (uh HS) (i := k) (by rw [uh HM]; omega))
   generalize opAt ops k = o at *
   generalize codeAt cs k = c at *
   have hk0 : (0 : Int) ≤ (k : Int) := by omega
   have hkn : (k : Int) < (n : Int) := by omega
   have hkm : (k : Int) < (m : Int) := by omega
   by_cases hh : o.kind = 1 ∧ o.id = id ∧ c = 0
   ·obtain ⟨h1, h2, h3⟩ := hh
    have HN' := hide (show configD ops cs id n = some o.cfg from configD_some ops cs id (k + 1) n _ (by rw [uh HN, if_pos ⟨h1, h2, h3⟩]) (by omega))
    obtain ⟨hv, hb⟩ := uh HCF
    have hst := uh HST o.cfg
    have e1 : (o.kind == 1) = true := by simpa using h1
    have e2 : (o.id == id) = true := by simpa using h2
    have e3 : (c == 0) = true := by simpa using h3
    clear h1 h2 h3
    have hv1 : bigVal (w.alloc (.cells o.cfg.cells.toArray 38)) w.heap.size 0 20 = .agg o.cfg.cells.toArray := bigVal_new w o.cfg.cells 38 20 rfl
    have hh1 : hasBig (w.alloc (.cells o.cfg.cells.toArray 38)) w.heap.size 0 20 = true := hasBig_new w o.cfg.cells 38 20 rfl
    go_wp2
    have hb9 := Blk.new w o.cfg.cells 38
    have HK9 := hide ((Keeps.refl (fun _ => False) w).alloc (.cells o.cfg.cells.toArray 38))
    generalize w.alloc (.cells o.cfg.cells.toArray 38) = W9 at *
    have HLV := hide (show (loadVar 38 ⟨w.heap.size, 0, none⟩).run Tryz.prog W9 = .ok (.agg o.cfg.cells.toArray) W9 from run_loadVar_mid W9 w.heap.size 0 38 o.cfg.cells _ (fun j v hv => by rw [Nat.zero_add]; exact hb9.cell hv) Tryz.underlying38 rfl (by rw [size38]; rfl))
    clear hb9
    refine bodyPost_ret (v := .tuple #[o.cfg.val, .bool true]) (by simp [results, Tryz.results25, asAddr, uh HLV]; rfl) rfl ?_
    exact ⟨by rw [uh HN']; rfl, uh HK9⟩
   ·have HN' := hide (show configD ops cs id (k + 1) = none by rw [uh HN, if_neg hh])
    cases h1 : (o.kind == 1)
    ·clear hh
     go_wp2
     go_roundw
     case rel => exact ⟨k + 1, by go_num, by omega, HN', by simp⟩
     case measure => simp [intOf]; omega
    ·cases h2 : (o.id == id)
     ·clear hh
      go_wp2
      go_roundw
      case rel => exact ⟨k + 1, by go_num, by omega, HN', by simp⟩
      case measure => simp [intOf]; omega
     ·have h3 : (c == 0) = false := by
       cases h3 : (c == 0)
       ·rfl
       ·exact absurd ⟨by simpa using h1, by simpa using h2, by simpa using h3⟩ hh
      clear hh
      go_wp2
      go_roundw
      case rel => exact ⟨k + 1, by go_num, by omega, HN', by simp⟩
      case measure => simp [intOf]; omega
  ·have hkn : k = n := by omega
   subst hkn
   have hf : decide ((k : Int) < (k : Int)) = false := by simp
   have hst := uh HST cfg0
   go_wp2
   have hb9 := Blk.new w cfg0.cells 38
   have HK9 := hide ((Keeps.refl (fun _ => False) w).alloc (.cells cfg0.cells.toArray 38))
   generalize w.alloc (.cells cfg0.cells.toArray 38) = W9 at *
   have HLV := hide (show (loadVar 38 ⟨w.heap.size, 0, none⟩).run Tryz.prog W9 = .ok (.agg cfg0.cells.toArray) W9 from run_loadVar_mid W9 w.heap.size 0 38 cfg0.cells _ (fun j v hv => by rw [Nat.zero_add]; exact hb9.cell hv) Tryz.underlying38 rfl (by rw [size38]; rfl))
   clear hb9
   refine bodyPost_ret (v := .tuple #[cfg0.val, .bool false]) (by simp [results, Tryz.results25, asAddr, uh HLV]; rfl) rfl ?_
   exact ⟨by rw [uh HNO]; rfl, uh HK9⟩
end Go.Proofs.YtahnliehdjncdaaGreatDoor
