import Derived.Test.YtjhaihbjhikhlaaGreatE8
namespace Go.Proofs.YtjhaihbjhikhlaaGreat
open Go.RowKit
attribute [local go_sem ↓] execOp_load38 execOp_load40
attribute [local go_sem] run_load38 run_load40 bigVal_drew hasBig_drew bigVal_ne hasBig_ne bigVal_alloc hasBig_alloc bigVal_new hasBig_newB

theorem valid_parts {c : Cfg} (h : validB c = true) : ∃ k : Nat, c.kind = k ∧ 1 ≤ k ∧ k ≤ 5 ∧ commonB c = true ∧ kindFits c k = true := by
  simp only [validB, Bool.and_eq_true] at h
  obtain ⟨h1, h2, h3⟩ := h
  obtain ⟨a, b⟩ := inB_iff h1
  refine ⟨c.kind.toNat, by omega, by omega, by omega, h2, h3⟩
theorem kindsOf_no (c : Cfg) (w : World) (h : validB c = false) :
    Calls Tryz.prog 32 #[c.val] w fun e w' => e = .returned (.tuple #[.agg #[.nilFunc, .nilFunc, .nilFunc], .bool false]) ∧ Keeps (fun _ => False) w w' := by
  cases h1 : inB c.kind 1 5
  · exact kindsOf_no1 c w h1
  · obtain ⟨a, b⟩ := inB_iff h1
    have hk : c.kind = (c.kind.toNat : Int) := by omega
    cases h2 : commonB c
    · exact kindsOf_no2 c c.kind.toNat w hk (by omega) (by omega) h2
    · cases h3 : kindFits c c.kind.toNat
      · exact kindsOf_no3 c c.kind.toNat w hk (by omega) (by omega) h2 h3
      · simp [validB, h1, h2, h3] at h

set_option maxRecDepth 100000 in
set_option maxHeartbeats 4000000 in
theorem create_id (n : Int) (e : Nat) (v : Value) (clock : Int) (ps : List (SB × Ser)) (o : OpM) (w : World) (h : ERep w e v clock ps) (hi : EInv n clock (ps.map (·.2))) (hid : inB o.id 0 99 = false) :
    Calls Tryz.prog 17 #[.pointer (some ⟨e, 0, none⟩), o.val] w fun r w' => StepPost w e v ps clock (ps.map (·.2)) 2 [] r w' := by
  have h1 : o.cells[1]? = some (.int .i64 o.id) := rfl
  have HE := hide h
  have HI := hide hi
  have hl : ps.length ≤ 1000 := by have := hi.six; rw [List.length_map] at this; omega
  clear h hi
  unfold OpM.val
  go_enter Tryz.func17, Tryz.ntmps17
  go_wp2_with fail
  have hk0 : Keeps (fun _ => False) w ((w.alloc (.cells o.cells.toArray 35)).alloc (.cells #[.int .i64 0, .slice none 0 0, .string ⟨#[]⟩] 41)) := ((Keeps.refl (fun _ => False) w).alloc _).alloc _
  have HO0 := hide (show Blk ((w.alloc (.cells o.cells.toArray 35)).alloc (.cells #[.int .i64 0, .slice none 0 0, .string ⟨#[]⟩] 41)) w.heap.size o.cells 35 from (Blk.new w o.cells 35).alloc _)
  have HR0 := hide (show Blk ((w.alloc (.cells o.cells.toArray 35)).alloc (.cells #[.int .i64 0, .slice none 0 0, .string ⟨#[]⟩] 41)) (w.heap.size + 1) [.int .i64 0, .slice none 0 0, .string noBytes] 41 from Blk.newAt (by simp) [_, _, _] 41)
  have HE0 := hide ((unhide HE).still hk0)
  have HK0 := hide hk0
  clear hk0
  generalize (w.alloc (.cells o.cells.toArray 35)).alloc (.cells #[.int .i64 0, .slice none 0 0, .string ⟨#[]⟩] 41) = w0 at *
  have HLT := hide (show ∀ i, EFoot e v ps i → i < w.heap.size from (unhide HE).lt)
  generalize hob : w.heap.size = ob at *
  have HOB := hide hob
  clear hob
  have hsz0 : ob + 1 < w0.heap.size := (unhide HR0).lt
  refine (within_any _ _ _ w0).mono ?_
  rintro r w1 ⟨rfl, hw1⟩
  rw [hw1, hid]
  clear hw1 w1
  go_wp2_with fail
  refine (no_any 2 w0).mono ?_
  rintro r w1 ⟨rfl, hk1⟩
  unfold ansV
  have HR1 := hide ((unhide HR0).keeps hk1 (fun h => h))
  have HK1 := hide ((unhide HK0).then hk1)
  clear hk1
  have r0 : w1.cell? ⟨ob + 1, 0, none⟩ = some (.int .i64 0) := (unhide HR1).cell rfl
  have r1 : w1.cell? ⟨ob + 1, 1, none⟩ = some (.slice none 0 0) := (unhide HR1).cell rfl
  have r2 : w1.cell? ⟨ob + 1, 2, none⟩ = some (.string noBytes) := (unhide HR1).cell rfl
  have rf := (unhide HR1).frozen
  go_wp2
  have hbf := (((unhide HR1).setCell 0 (.int .i64 2)).setCell 1 (.slice none 0 0)).setCell 2 (.string noBytes)
  have HKF := hide ((((Keeps.refl (fun i => i = ob + 1) w1).setCell (p := ⟨ob + 1, 0, none⟩) (Or.inl rfl) (.int .i64 2)).setCell (p := ⟨ob + 1, 1, none⟩) (Or.inl rfl) (.slice none 0 0)).setCell (p := ⟨ob + 1, 2, none⟩) (Or.inl rfl) (.string noBytes))
  have e9 : (((w1.setCell ⟨ob + 1, 0, none⟩ (.int .i64 2)).setCell ⟨ob + 1, 1, none⟩ (.slice none 0 0)).setCell ⟨ob + 1, 2, none⟩ (.string ⟨#[]⟩)) = (((w1.setCell ⟨ob + 1, 0, none⟩ (.int .i64 2)).setCell ⟨ob + 1, 1, none⟩ (.slice none 0 0)).setCell ⟨ob + 1, 2, none⟩ (.string noBytes)) := rfl
  first | rw [e9] | skip
  generalize (((w1.setCell ⟨ob + 1, 0, none⟩ (.int .i64 2)).setCell ⟨ob + 1, 1, none⟩ (.slice none 0 0)).setCell ⟨ob + 1, 2, none⟩ (.string noBytes)) = w9 at *
  have q0 : w9.cell? ⟨ob + 1, 0, none⟩ = some (.int .i64 2) := hbf.cell rfl
  have q1 : w9.cell? ⟨ob + 1, 1, none⟩ = some (.slice none 0 0) := hbf.cell rfl
  have q2 : w9.cell? ⟨ob + 1, 2, none⟩ = some (.string noBytes) := hbf.cell rfl
  refine bodyPost_ret (v := ansV 2 (.slice none 0 0)) (by simp [results, Tryz.results17, go_sem, q0, q1, q2, ansV]) rfl ?_
  have hkf := unhide HKF
  have hob := unhide HOB
  have hkk : Keeps (fun _ => False) w w9 := (unhide HK1).trans hkf (fun i hi hlt => by omega)
  exact step_still (unhide HE) hkk (World.ownsRow_nil _ _ _ _)

set_option maxRecDepth 100000 in
set_option maxHeartbeats 4000000 in
theorem create_there (n : Int) (e : Nat) (v : Value) (clock : Int) (ps : List (SB × Ser)) (o : OpM) (w : World) (h : ERep w e v clock ps) (hi : EInv n clock (ps.map (·.2))) (hid : inB o.id 0 99 = true) (p : SB × Ser) (hf : findP ps o.id = some p) :
    Calls Tryz.prog 17 #[.pointer (some ⟨e, 0, none⟩), o.val] w fun r w' => StepPost w e v ps clock (ps.map (·.2)) 2 [] r w' := by
  have h1 : o.cells[1]? = some (.int .i64 o.id) := rfl
  have HE := hide h
  have HI := hide hi
  have hl : ps.length ≤ 1000 := by have := hi.six; rw [List.length_map] at this; omega
  have HF := hide hf
  clear h hi hf
  unfold OpM.val
  go_enter Tryz.func17, Tryz.ntmps17
  go_wp2_with fail
  have hk0 : Keeps (fun _ => False) w ((w.alloc (.cells o.cells.toArray 35)).alloc (.cells #[.int .i64 0, .slice none 0 0, .string ⟨#[]⟩] 41)) := ((Keeps.refl (fun _ => False) w).alloc _).alloc _
  have HO0 := hide (show Blk ((w.alloc (.cells o.cells.toArray 35)).alloc (.cells #[.int .i64 0, .slice none 0 0, .string ⟨#[]⟩] 41)) w.heap.size o.cells 35 from (Blk.new w o.cells 35).alloc _)
  have HR0 := hide (show Blk ((w.alloc (.cells o.cells.toArray 35)).alloc (.cells #[.int .i64 0, .slice none 0 0, .string ⟨#[]⟩] 41)) (w.heap.size + 1) [.int .i64 0, .slice none 0 0, .string noBytes] 41 from Blk.newAt (by simp) [_, _, _] 41)
  have HE0 := hide ((unhide HE).still hk0)
  have HK0 := hide hk0
  clear hk0
  generalize (w.alloc (.cells o.cells.toArray 35)).alloc (.cells #[.int .i64 0, .slice none 0 0, .string ⟨#[]⟩] 41) = w0 at *
  have HLT := hide (show ∀ i, EFoot e v ps i → i < w.heap.size from (unhide HE).lt)
  generalize hob : w.heap.size = ob at *
  have HOB := hide hob
  clear hob
  have hsz0 : ob + 1 < w0.heap.size := (unhide HR0).lt
  refine (within_any _ _ _ w0).mono ?_
  rintro r w1 ⟨rfl, hw1⟩
  rw [hw1, hid]
  clear hw1 w1
  have hoi : w0.cell? ⟨ob, 1, none⟩ = some (.int .i64 o.id) := (unhide HO0).cell rfl
  go_wp2_with fail
  refine (find_any e v clock o.id ps w0 (unhide HE0) hl).mono ?_
  rintro r w1 ⟨rfl, hw1⟩
  rw [hw1, unhide HF]
  clear hw1 w1
  unfold ptrOf
  go_wp2_with fail
  refine (no_any 2 w0).mono ?_
  rintro r w1 ⟨rfl, hk1⟩
  unfold ansV
  have HR1 := hide ((unhide HR0).keeps hk1 (fun h => h))
  have HK1 := hide ((unhide HK0).then hk1)
  clear hk1
  have r0 : w1.cell? ⟨ob + 1, 0, none⟩ = some (.int .i64 0) := (unhide HR1).cell rfl
  have r1 : w1.cell? ⟨ob + 1, 1, none⟩ = some (.slice none 0 0) := (unhide HR1).cell rfl
  have r2 : w1.cell? ⟨ob + 1, 2, none⟩ = some (.string noBytes) := (unhide HR1).cell rfl
  have rf := (unhide HR1).frozen
  go_wp2
  have hbf := (((unhide HR1).setCell 0 (.int .i64 2)).setCell 1 (.slice none 0 0)).setCell 2 (.string noBytes)
  have HKF := hide ((((Keeps.refl (fun i => i = ob + 1) w1).setCell (p := ⟨ob + 1, 0, none⟩) (Or.inl rfl) (.int .i64 2)).setCell (p := ⟨ob + 1, 1, none⟩) (Or.inl rfl) (.slice none 0 0)).setCell (p := ⟨ob + 1, 2, none⟩) (Or.inl rfl) (.string noBytes))
  have e9 : (((w1.setCell ⟨ob + 1, 0, none⟩ (.int .i64 2)).setCell ⟨ob + 1, 1, none⟩ (.slice none 0 0)).setCell ⟨ob + 1, 2, none⟩ (.string ⟨#[]⟩)) = (((w1.setCell ⟨ob + 1, 0, none⟩ (.int .i64 2)).setCell ⟨ob + 1, 1, none⟩ (.slice none 0 0)).setCell ⟨ob + 1, 2, none⟩ (.string noBytes)) := rfl
  first | rw [e9] | skip
  generalize (((w1.setCell ⟨ob + 1, 0, none⟩ (.int .i64 2)).setCell ⟨ob + 1, 1, none⟩ (.slice none 0 0)).setCell ⟨ob + 1, 2, none⟩ (.string noBytes)) = w9 at *
  have q0 : w9.cell? ⟨ob + 1, 0, none⟩ = some (.int .i64 2) := hbf.cell rfl
  have q1 : w9.cell? ⟨ob + 1, 1, none⟩ = some (.slice none 0 0) := hbf.cell rfl
  have q2 : w9.cell? ⟨ob + 1, 2, none⟩ = some (.string noBytes) := hbf.cell rfl
  refine bodyPost_ret (v := ansV 2 (.slice none 0 0)) (by simp [results, Tryz.results17, go_sem, q0, q1, q2, ansV]) rfl ?_
  have hkf := unhide HKF
  have hob := unhide HOB
  have hkk : Keeps (fun _ => False) w w9 := (unhide HK1).trans hkf (fun i hi hlt => by omega)
  exact step_still (unhide HE) hkk (World.ownsRow_nil _ _ _ _)

set_option maxRecDepth 100000 in
set_option maxHeartbeats 4000000 in
theorem create_config (n : Int) (e : Nat) (v : Value) (clock : Int) (ps : List (SB × Ser)) (o : OpM) (w : World) (h : ERep w e v clock ps) (hi : EInv n clock (ps.map (·.2))) (hid : inB o.id 0 99 = true) (hf : findP ps o.id = none) (hv : validB o.cfg = false) :
    Calls Tryz.prog 17 #[.pointer (some ⟨e, 0, none⟩), o.val] w fun r w' => StepPost w e v ps clock (ps.map (·.2)) 3 [] r w' := by
  have h1 : o.cells[1]? = some (.int .i64 o.id) := rfl
  have HE := hide h
  have HI := hide hi
  have hl : ps.length ≤ 1000 := by have := hi.six; rw [List.length_map] at this; omega
  have HF := hide hf
  clear h hi hf
  unfold OpM.val
  go_enter Tryz.func17, Tryz.ntmps17
  go_wp2_with fail
  have hk0 : Keeps (fun _ => False) w ((w.alloc (.cells o.cells.toArray 35)).alloc (.cells #[.int .i64 0, .slice none 0 0, .string ⟨#[]⟩] 41)) := ((Keeps.refl (fun _ => False) w).alloc _).alloc _
  have HO0 := hide (show Blk ((w.alloc (.cells o.cells.toArray 35)).alloc (.cells #[.int .i64 0, .slice none 0 0, .string ⟨#[]⟩] 41)) w.heap.size o.cells 35 from (Blk.new w o.cells 35).alloc _)
  have HR0 := hide (show Blk ((w.alloc (.cells o.cells.toArray 35)).alloc (.cells #[.int .i64 0, .slice none 0 0, .string ⟨#[]⟩] 41)) (w.heap.size + 1) [.int .i64 0, .slice none 0 0, .string noBytes] 41 from Blk.newAt (by simp) [_, _, _] 41)
  have HE0 := hide ((unhide HE).still hk0)
  have HK0 := hide hk0
  clear hk0
  generalize (w.alloc (.cells o.cells.toArray 35)).alloc (.cells #[.int .i64 0, .slice none 0 0, .string ⟨#[]⟩] 41) = w0 at *
  have HLT := hide (show ∀ i, EFoot e v ps i → i < w.heap.size from (unhide HE).lt)
  generalize hob : w.heap.size = ob at *
  have HOB := hide hob
  clear hob
  have hsz0 : ob + 1 < w0.heap.size := (unhide HR0).lt
  refine (within_any _ _ _ w0).mono ?_
  rintro r w1 ⟨rfl, hw1⟩
  rw [hw1, hid]
  clear hw1 w1
  have hoi : w0.cell? ⟨ob, 1, none⟩ = some (.int .i64 o.id) := (unhide HO0).cell rfl
  go_wp2_with fail
  refine (find_any e v clock o.id ps w0 (unhide HE0) hl).mono ?_
  rintro r w1 ⟨rfl, hw1⟩
  rw [hw1, unhide HF]
  clear hw1 w1
  unfold ptrOf
  obtain ⟨hv0, hh0⟩ := bigVal_Blk_part (unhide HO0) 5 20 o.cfg.cells rfl rfl
  go_wp2_with fail
  refine (kindsOf_no o.cfg w0 hv).mono ?_
  rintro r w1 ⟨rfl, hk1⟩
  have hka : Keeps (fun _ => False) w0 (w1.alloc (.cells #[.nilFunc, .nilFunc, .nilFunc] 61)) := hk1.alloc _
  have HRa := hide ((unhide HR0).keeps hka (fun h => h))
  have HKa := hide ((unhide HK0).then hka)
  clear hk1 hka hv0 hh0 hoi
  go_wp2_with fail
  refine (no_any 3 (w1.alloc (.cells #[.nilFunc, .nilFunc, .nilFunc] 61))).mono ?_
  rintro r w2 ⟨rfl, hk1⟩
  unfold ansV
  have HR1 := hide ((unhide HRa).keeps hk1 (fun h => h))
  have HK1 := hide ((unhide HKa).then hk1)
  clear hk1
  have r0 : w2.cell? ⟨ob + 1, 0, none⟩ = some (.int .i64 0) := (unhide HR1).cell rfl
  have r1 : w2.cell? ⟨ob + 1, 1, none⟩ = some (.slice none 0 0) := (unhide HR1).cell rfl
  have r2 : w2.cell? ⟨ob + 1, 2, none⟩ = some (.string noBytes) := (unhide HR1).cell rfl
  have rf := (unhide HR1).frozen
  go_wp2
  have hbf := (((unhide HR1).setCell 0 (.int .i64 3)).setCell 1 (.slice none 0 0)).setCell 2 (.string noBytes)
  have HKF := hide ((((Keeps.refl (fun i => i = ob + 1) w2).setCell (p := ⟨ob + 1, 0, none⟩) (Or.inl rfl) (.int .i64 3)).setCell (p := ⟨ob + 1, 1, none⟩) (Or.inl rfl) (.slice none 0 0)).setCell (p := ⟨ob + 1, 2, none⟩) (Or.inl rfl) (.string noBytes))
  have e9 : (((w2.setCell ⟨ob + 1, 0, none⟩ (.int .i64 3)).setCell ⟨ob + 1, 1, none⟩ (.slice none 0 0)).setCell ⟨ob + 1, 2, none⟩ (.string ⟨#[]⟩)) = (((w2.setCell ⟨ob + 1, 0, none⟩ (.int .i64 3)).setCell ⟨ob + 1, 1, none⟩ (.slice none 0 0)).setCell ⟨ob + 1, 2, none⟩ (.string noBytes)) := rfl
  first | rw [e9] | skip
  generalize (((w2.setCell ⟨ob + 1, 0, none⟩ (.int .i64 3)).setCell ⟨ob + 1, 1, none⟩ (.slice none 0 0)).setCell ⟨ob + 1, 2, none⟩ (.string noBytes)) = w9 at *
  have q0 : w9.cell? ⟨ob + 1, 0, none⟩ = some (.int .i64 3) := hbf.cell rfl
  have q1 : w9.cell? ⟨ob + 1, 1, none⟩ = some (.slice none 0 0) := hbf.cell rfl
  have q2 : w9.cell? ⟨ob + 1, 2, none⟩ = some (.string noBytes) := hbf.cell rfl
  refine bodyPost_ret (v := ansV 3 (.slice none 0 0)) (by simp [results, Tryz.results17, go_sem, q0, q1, q2, ansV]) rfl ?_
  have hkf := unhide HKF
  have hob := unhide HOB
  have hkk : Keeps (fun _ => False) w w9 := (unhide HK1).trans hkf (fun i hi hlt => by omega)
  exact step_still (unhide HE) hkk (World.ownsRow_nil _ _ _ _)

set_option maxRecDepth 100000 in
set_option maxHeartbeats 4000000 in
theorem create_full (n : Int) (e : Nat) (v : Value) (clock : Int) (ps : List (SB × Ser)) (o : OpM) (w : World) (h : ERep w e v clock ps) (hi : EInv n clock (ps.map (·.2))) (hid : inB o.id 0 99 = true) (hf : findP ps o.id = none) (hv : validB o.cfg = true) (h6 : ps.length = 6) :
    Calls Tryz.prog 17 #[.pointer (some ⟨e, 0, none⟩), o.val] w fun r w' => StepPost w e v ps clock (ps.map (·.2)) 4 [] r w' := by
  obtain ⟨k, hk, hk1, hk5, hcm, hft⟩ := valid_parts hv
  have HKD := hide hk
  clear hk
  have h1 : o.cells[1]? = some (.int .i64 o.id) := rfl
  have HE := hide h
  have HI := hide hi
  have hl : ps.length ≤ 1000 := by have := hi.six; rw [List.length_map] at this; omega
  have HF := hide hf
  clear h hi hf
  unfold OpM.val
  go_enter Tryz.func17, Tryz.ntmps17
  go_wp2_with fail
  have hk0 : Keeps (fun _ => False) w ((w.alloc (.cells o.cells.toArray 35)).alloc (.cells #[.int .i64 0, .slice none 0 0, .string ⟨#[]⟩] 41)) := ((Keeps.refl (fun _ => False) w).alloc _).alloc _
  have HO0 := hide (show Blk ((w.alloc (.cells o.cells.toArray 35)).alloc (.cells #[.int .i64 0, .slice none 0 0, .string ⟨#[]⟩] 41)) w.heap.size o.cells 35 from (Blk.new w o.cells 35).alloc _)
  have HR0 := hide (show Blk ((w.alloc (.cells o.cells.toArray 35)).alloc (.cells #[.int .i64 0, .slice none 0 0, .string ⟨#[]⟩] 41)) (w.heap.size + 1) [.int .i64 0, .slice none 0 0, .string noBytes] 41 from Blk.newAt (by simp) [_, _, _] 41)
  have HE0 := hide ((unhide HE).still hk0)
  have HK0 := hide hk0
  clear hk0
  generalize (w.alloc (.cells o.cells.toArray 35)).alloc (.cells #[.int .i64 0, .slice none 0 0, .string ⟨#[]⟩] 41) = w0 at *
  have HLT := hide (show ∀ i, EFoot e v ps i → i < w.heap.size from (unhide HE).lt)
  generalize hob : w.heap.size = ob at *
  have HOB := hide hob
  clear hob
  have hsz0 : ob + 1 < w0.heap.size := (unhide HR0).lt
  refine (within_any _ _ _ w0).mono ?_
  rintro r w1 ⟨rfl, hw1⟩
  rw [hw1, hid]
  clear hw1 w1
  have hoi : w0.cell? ⟨ob, 1, none⟩ = some (.int .i64 o.id) := (unhide HO0).cell rfl
  go_wp2_with fail
  refine (find_any e v clock o.id ps w0 (unhide HE0) hl).mono ?_
  rintro r w1 ⟨rfl, hw1⟩
  rw [hw1, unhide HF]
  clear hw1 w1
  unfold ptrOf
  obtain ⟨hv0, hh0⟩ := bigVal_Blk_part (unhide HO0) 5 20 o.cfg.cells rfl rfl
  go_wp2_with fail
  refine (kindsOf_yes o.cfg k w0 (unhide HKD) hk1 hk5 hcm hft).mono ?_
  rintro r w1 ⟨rfl, hw1⟩
  unfold kindCells fn
  have hlv : ∃ a cap, v = .slice a 6 cap := by
    rcases (unhide HE0).row.2 with ⟨h1, h2⟩ | ⟨g, cap, cur, h1, _⟩
    · omega
    · exact ⟨some ⟨g, 0, none⟩, cap, by rw [h1, h6]⟩
  obtain ⟨va, vcap, hvv⟩ := hlv
  have hka : Keeps (fun _ => False) w0 (w1.alloc (.cells #[.func (.func (fitsF k)) #[] #[], .func (.func (refuseF k)) #[] #[], .func (.func (startF k)) #[] #[]] 61)) := hw1.alloc _
  have HRa := hide ((unhide HR0).keeps hka (fun h => h))
  have HKa := hide ((unhide HK0).then hka)
  have hc1 : w1.cell? ⟨e, 1, none⟩ = some (.slice va 6 vcap) := by rw [← hvv]; exact ((unhide HE0).still hw1).blk.cell rfl
  have hle : e < w1.heap.size := ((unhide HE0).still hw1).blk.lt
  clear hw1 hka hv0 hh0 hoi hvv
  go_wp2_with fail
  generalize w1.alloc (.cells #[.func (.func (fitsF k)) #[] #[], .func (.func (refuseF k)) #[] #[], .func (.func (startF k)) #[] #[]] 61) = wa at *
  refine (no_any 4 wa).mono ?_
  rintro r w2 ⟨rfl, hk1⟩
  unfold ansV
  have HR1 := hide ((unhide HRa).keeps hk1 (fun h => h))
  have HK1 := hide ((unhide HKa).then hk1)
  clear hk1
  have r0 : w2.cell? ⟨ob + 1, 0, none⟩ = some (.int .i64 0) := (unhide HR1).cell rfl
  have r1 : w2.cell? ⟨ob + 1, 1, none⟩ = some (.slice none 0 0) := (unhide HR1).cell rfl
  have r2 : w2.cell? ⟨ob + 1, 2, none⟩ = some (.string noBytes) := (unhide HR1).cell rfl
  have rf := (unhide HR1).frozen
  go_wp2
  have hbf := (((unhide HR1).setCell 0 (.int .i64 4)).setCell 1 (.slice none 0 0)).setCell 2 (.string noBytes)
  have HKF := hide ((((Keeps.refl (fun i => i = ob + 1) w2).setCell (p := ⟨ob + 1, 0, none⟩) (Or.inl rfl) (.int .i64 4)).setCell (p := ⟨ob + 1, 1, none⟩) (Or.inl rfl) (.slice none 0 0)).setCell (p := ⟨ob + 1, 2, none⟩) (Or.inl rfl) (.string noBytes))
  have e9 : (((w2.setCell ⟨ob + 1, 0, none⟩ (.int .i64 4)).setCell ⟨ob + 1, 1, none⟩ (.slice none 0 0)).setCell ⟨ob + 1, 2, none⟩ (.string ⟨#[]⟩)) = (((w2.setCell ⟨ob + 1, 0, none⟩ (.int .i64 4)).setCell ⟨ob + 1, 1, none⟩ (.slice none 0 0)).setCell ⟨ob + 1, 2, none⟩ (.string noBytes)) := rfl
  first | rw [e9] | skip
  generalize (((w2.setCell ⟨ob + 1, 0, none⟩ (.int .i64 4)).setCell ⟨ob + 1, 1, none⟩ (.slice none 0 0)).setCell ⟨ob + 1, 2, none⟩ (.string noBytes)) = w9 at *
  have q0 : w9.cell? ⟨ob + 1, 0, none⟩ = some (.int .i64 4) := hbf.cell rfl
  have q1 : w9.cell? ⟨ob + 1, 1, none⟩ = some (.slice none 0 0) := hbf.cell rfl
  have q2 : w9.cell? ⟨ob + 1, 2, none⟩ = some (.string noBytes) := hbf.cell rfl
  refine bodyPost_ret (v := ansV 4 (.slice none 0 0)) (by simp [results, Tryz.results17, go_sem, q0, q1, q2, ansV]) rfl ?_
  have hkf := unhide HKF
  have hob := unhide HOB
  have hkk : Keeps (fun _ => False) w w9 := (unhide HK1).trans hkf (fun i hi hlt => by omega)
  exact step_still (unhide HE) hkk (World.ownsRow_nil _ _ _ _)

end Go.Proofs.YtjhaihbjhikhlaaGreat
