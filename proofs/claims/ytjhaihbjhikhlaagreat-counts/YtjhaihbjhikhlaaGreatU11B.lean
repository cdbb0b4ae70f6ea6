import Derived.Test.YtjhaihbjhikhlaaGreatXY
import Derived.Test.YtjhaihbjhikhlaaGreatU19
import Derived.Test.YtjhaihbjhikhlaaGreatTC2
namespace Go.Proofs.YtjhaihbjhikhlaaGreat
open Go.RowKit
attribute [local go_sem ↓] execOp_load38 execOp_load40
attribute [local go_sem] run_load38 run_load40 bigVal_drew hasBig_drew bigVal_ne hasBig_ne bigVal_alloc hasBig_alloc bigVal_new hasBig_newB

set_option maxRecDepth 100000 in
set_option maxHeartbeats 8000000 in
theorem rquery_cnt (n : Int) (e : Nat) (v : Value) (clock ticks : Int) (ps : List (RB × RSer)) (o : OpM) (w : World) (h : RWRep w e v clock ticks ps) (hi : RWInv n clock ticks (ps.map (·.2))) (hn : n < 1099511627776) (p : RB × RSer) (hf : findRP ps o.id = some p) (hkd : p.2.c.kind = 1) (hw : inB o.a 1 p.2.c.window = true) :
    Calls Tryz.prog 25 #[.pointer (some ⟨e, 0, none⟩), o.val] w fun r w' => AnsPost w (0, [estN (bucketsE p.2.c p.2.events) (clock - p.2.c.lag - o.a)]) r w' := by
  have hmem : p ∈ ps := List.mem_of_find?_eq_some hf
  have HM := hide hmem
  have hip := hi.sers p.2 (List.mem_map_of_mem hmem)
  have HIP := hide hip
  have hil := hip.items
  have hci := hi.cnt p.2 (List.mem_map_of_mem hmem) hkd
  have hvc := valid_count (k := 1) hip.valid hkd rfl
  have hcf : CfgC p.2.c := ⟨hvc.1, hvc.2.1, hvc.2.2.1, hvc.2.2.2⟩
  have HCI := hide hci
  have HCF := hide hcf
  obtain ⟨a0, a1⟩ := inB_iff hw
  have a2 : o.a ≤ 1000 := by omega
  have HEL := hide (show p.2.events.length ≤ 4398046511103 by have h1 := hip.events; have h2 := wait_rel p.2.items; omega)
  clear hci hvc hcf a1
  obtain ⟨la0, la1, _, _, _, _⟩ := hip.common
  have hc0 := hi.c0
  have hc1 := hi.c1
  have hl : ps.length ≤ 1000 := by have := hi.six; rw [List.length_map] at this; omega
  have h1 : o.cells[1]? = some (.int .i64 o.id) := rfl
  have HE := hide h
  have HF := hide hf
  have HKD := hide hkd
  clear h hip hmem hi hf hkd
  unfold OpM.val
  go_enter Tryz.func25, Tryz.ntmps25
  go_wp2_with fail
  have hk0 : Keeps (fun _ => False) w ((w.alloc (.cells o.cells.toArray 35)).alloc (.cells #[.int .i64 0, .slice none 0 0, .string ⟨#[]⟩] 41)) := ((Keeps.refl (fun _ => False) w).alloc _).alloc _
  have HO0 := hide (show Blk ((w.alloc (.cells o.cells.toArray 35)).alloc (.cells #[.int .i64 0, .slice none 0 0, .string ⟨#[]⟩] 41)) w.heap.size o.cells 35 from (Blk.new w o.cells 35).alloc _)
  have HR0 := hide (show Blk ((w.alloc (.cells o.cells.toArray 35)).alloc (.cells #[.int .i64 0, .slice none 0 0, .string ⟨#[]⟩] 41)) (w.heap.size + 1) [.int .i64 0, .slice none 0 0, .string noBytes] 41 from Blk.newAt (by simp) [_, _, _] 41)
  have HE0 := hide ((unhide HE).still hk0)
  have HK0 := hide hk0
  clear hk0
  generalize (w.alloc (.cells o.cells.toArray 35)).alloc (.cells #[.int .i64 0, .slice none 0 0, .string ⟨#[]⟩] 41) = w0 at *
  generalize hob : w.heap.size = ob at *
  have HOB := hide hob
  clear hob
  refine (rfind_any e v clock ticks o.id ps w0 (unhide HE0) hl).mono ?_
  rintro r w1 ⟨rfl, hw1⟩
  rw [hw1, unhide HF]
  clear hw1 w1
  unfold rptrOf
  have HP0 := hide ((unhide HE0).reps p (unhide HM))
  go_wp2_with fail
  refine (rmark_any e p.1.s p.2.c.lag clock w0 ((unhide HE0).blk.cell rfl) ((unhide HP0).blk.cell rfl) la0 la1 hc0 hc1).mono ?_
  rintro r w1 ⟨rfl, hk1⟩
  have HO1 := hide ((unhide HO0).keeps hk1 (fun h => h))
  have HR1 := hide ((unhide HR0).keeps hk1 (fun h => h))
  have HP1 := hide ((unhide HP0).still hk1)
  have HK1 := hide ((unhide HK0).then hk1)
  clear hk1 h1
  have o2 : w1.cell? ⟨ob, 2, none⟩ = some (.int .i64 o.a) := (unhide HO1).cell rfl
  have s1 : w1.cell? ⟨p.1.s, 1, none⟩ = some (.int .i64 1) := by
    rw [← unhide HKD]; exact (unhide HP1).blk.cell rfl
  have s6 : w1.cell? ⟨p.1.s, 6, none⟩ = some (.int .i64 p.2.c.window) := (unhide HP1).blk.cell rfl
  generalize hmk : clock - p.2.c.lag = mark at *
  have HMK := hide hmk
  have hmk0 : -100 ≤ mark := by omega
  have hmk1 : mark ≤ 4611686018427387904 := by omega
  clear hmk
  go_wp2_with fail
  go_region_held3 (fun w' => w'.cell? ⟨ob, 2, none⟩ = some (.int .i64 o.a) ∧ w'.cell? ⟨p.1.s, 6, none⟩ = some (.int .i64 p.2.c.window)) (go_keep)
    (first | (go_at_call 43; refine (rin_any _ _ _ _).mono ?_; rintro r w9 ⟨rfl, rfl⟩))
  have HO2 := hide ((unhide HO1).drew)
  have HR2 := hide ((unhide HR1).drew)
  have HP2 := hide ((unhide HP1).still ((Keeps.refl (fun _ => False) w1).drew))
  have HK2 := hide ((unhide HK1).drew)
  clear o2 s1 s6 HO1 HR1 HP1 HK1
  generalize w1.drew = w2 at *
  have o2 : w2.cell? ⟨ob, 2, none⟩ = some (.int .i64 o.a) := (unhide HO2).cell rfl
  go_wp2_with fail
  refine (rin_any _ _ _ _).mono ?_
  rintro r w9 ⟨rfl, hw9⟩
  rw [hw9]
  clear hw9 w9
  go_wp2_with fail
  refine (restimate_any p.1 p.2 o.a mark w2 (unhide HP2) (unhide HCF) (unhide HCI).ok (unhide HCI).ts (unhide HEL) a0 a2 hmk0 hmk1).mono ?_
  rintro r w3 ⟨g, rfl, hgs, hgb, hk3⟩
  have HR3 := hide ((unhide HR2).keeps hk3 (fun h => h))
  have HK3 := hide ((unhide HK2).then hk3)
  have HGB := hide hgb
  have hsz2 : ob + 1 < w2.heap.size := (unhide HR2).lt
  clear hk3 hgb
  have r0 : w3.cell? ⟨ob + 1, 0, none⟩ = some (.int .i64 0) := (unhide HR3).cell rfl
  have r1 : w3.cell? ⟨ob + 1, 1, none⟩ = some (.slice none 0 0) := (unhide HR3).cell rfl
  have r2 : w3.cell? ⟨ob + 1, 2, none⟩ = some (.string noBytes) := (unhide HR3).cell rfl
  have rf := (unhide HR3).frozen
  go_wp2
  have hbf := (((unhide HR3).setCell 0 (.int .i64 0)).setCell 1 (.slice (some ⟨g, 0, none⟩) 1 1)).setCell 2 (.string noBytes)
  have HKF := hide ((((Keeps.refl (fun i => i = ob + 1) w3).setCell (p := ⟨ob + 1, 0, none⟩) (Or.inl rfl) (.int .i64 0)).setCell (p := ⟨ob + 1, 1, none⟩) (Or.inl rfl) (.slice (some ⟨g, 0, none⟩) 1 1)).setCell (p := ⟨ob + 1, 2, none⟩) (Or.inl rfl) (.string noBytes))
  have e9 : (((w3.setCell ⟨ob + 1, 0, none⟩ (.int .i64 0)).setCell ⟨ob + 1, 1, none⟩ (.slice (some ⟨g, 0, none⟩) 1 1)).setCell ⟨ob + 1, 2, none⟩ (.string ⟨#[]⟩)) = (((w3.setCell ⟨ob + 1, 0, none⟩ (.int .i64 0)).setCell ⟨ob + 1, 1, none⟩ (.slice (some ⟨g, 0, none⟩) 1 1)).setCell ⟨ob + 1, 2, none⟩ (.string noBytes)) := rfl
  first | rw [e9] | skip
  generalize (((w3.setCell ⟨ob + 1, 0, none⟩ (.int .i64 0)).setCell ⟨ob + 1, 1, none⟩ (.slice (some ⟨g, 0, none⟩) 1 1)).setCell ⟨ob + 1, 2, none⟩ (.string noBytes)) = w9 at *
  have q0 : w9.cell? ⟨ob + 1, 0, none⟩ = some (.int .i64 0) := hbf.cell rfl
  have q1 : w9.cell? ⟨ob + 1, 1, none⟩ = some (.slice (some ⟨g, 0, none⟩) 1 1) := hbf.cell rfl
  have q2 : w9.cell? ⟨ob + 1, 2, none⟩ = some (.string noBytes) := hbf.cell rfl
  refine bodyPost_ret (v := ansV 0 (.slice (some ⟨g, 0, none⟩) 1 1)) (by simp [results, Tryz.results25, go_sem, q0, q1, q2, ansV]) rfl ?_
  have hob := unhide HOB
  have hsz := (unhide HK2).size
  refine ⟨_, rfl, ?_, (unhide HK3).trans (unhide HKF) (fun i hi hlt => by omega)⟩
  have hb9 := (unhide HGB).keeps (unhide HKF) (fun h => by omega)
  rw [unhide HMK]
  exact ⟨rfl, .inr ⟨g, 1, _, rfl, by omega, hb9, by simp, by unfold maxLen; simp, rfl, rfl⟩⟩

set_option maxRecDepth 100000 in
set_option maxHeartbeats 8000000 in
theorem rquery_rng (n : Int) (e : Nat) (v : Value) (clock ticks : Int) (ps : List (RB × RSer)) (o : OpM) (w : World) (h : RWRep w e v clock ticks ps) (hi : RWInv n clock ticks (ps.map (·.2))) (p : RB × RSer) (hf : findRP ps o.id = some p) (hkd : p.2.c.kind = 1) (hw : inB o.a 1 p.2.c.window = false) :
    Calls Tryz.prog 25 #[.pointer (some ⟨e, 0, none⟩), o.val] w fun r w' => AnsPost w (13, []) r w' := by
  have hmem : p ∈ ps := List.mem_of_find?_eq_some hf
  have HM := hide hmem
  have hip := hi.sers p.2 (List.mem_map_of_mem hmem)
  have HIP := hide hip
  have hil := hip.items
  obtain ⟨la0, la1, _, _, _, _⟩ := hip.common
  have hc0 := hi.c0
  have hc1 := hi.c1
  have hl : ps.length ≤ 1000 := by have := hi.six; rw [List.length_map] at this; omega
  have h1 : o.cells[1]? = some (.int .i64 o.id) := rfl
  have HE := hide h
  have HF := hide hf
  have HKD := hide hkd
  clear h hip hmem hi hf hkd
  unfold OpM.val
  go_enter Tryz.func25, Tryz.ntmps25
  go_wp2_with fail
  have hk0 : Keeps (fun _ => False) w ((w.alloc (.cells o.cells.toArray 35)).alloc (.cells #[.int .i64 0, .slice none 0 0, .string ⟨#[]⟩] 41)) := ((Keeps.refl (fun _ => False) w).alloc _).alloc _
  have HO0 := hide (show Blk ((w.alloc (.cells o.cells.toArray 35)).alloc (.cells #[.int .i64 0, .slice none 0 0, .string ⟨#[]⟩] 41)) w.heap.size o.cells 35 from (Blk.new w o.cells 35).alloc _)
  have HR0 := hide (show Blk ((w.alloc (.cells o.cells.toArray 35)).alloc (.cells #[.int .i64 0, .slice none 0 0, .string ⟨#[]⟩] 41)) (w.heap.size + 1) [.int .i64 0, .slice none 0 0, .string noBytes] 41 from Blk.newAt (by simp) [_, _, _] 41)
  have HE0 := hide ((unhide HE).still hk0)
  have HK0 := hide hk0
  clear hk0
  generalize (w.alloc (.cells o.cells.toArray 35)).alloc (.cells #[.int .i64 0, .slice none 0 0, .string ⟨#[]⟩] 41) = w0 at *
  generalize hob : w.heap.size = ob at *
  have HOB := hide hob
  clear hob
  refine (rfind_any e v clock ticks o.id ps w0 (unhide HE0) hl).mono ?_
  rintro r w1 ⟨rfl, hw1⟩
  rw [hw1, unhide HF]
  clear hw1 w1
  unfold rptrOf
  have HP0 := hide ((unhide HE0).reps p (unhide HM))
  go_wp2_with fail
  refine (rmark_any e p.1.s p.2.c.lag clock w0 ((unhide HE0).blk.cell rfl) ((unhide HP0).blk.cell rfl) la0 la1 hc0 hc1).mono ?_
  rintro r w1 ⟨rfl, hk1⟩
  have HO1 := hide ((unhide HO0).keeps hk1 (fun h => h))
  have HR1 := hide ((unhide HR0).keeps hk1 (fun h => h))
  have HP1 := hide ((unhide HP0).still hk1)
  have HK1 := hide ((unhide HK0).then hk1)
  clear hk1 h1
  have o2 : w1.cell? ⟨ob, 2, none⟩ = some (.int .i64 o.a) := (unhide HO1).cell rfl
  have s1 : w1.cell? ⟨p.1.s, 1, none⟩ = some (.int .i64 1) := by
    rw [← unhide HKD]; exact (unhide HP1).blk.cell rfl
  have s6 : w1.cell? ⟨p.1.s, 6, none⟩ = some (.int .i64 p.2.c.window) := (unhide HP1).blk.cell rfl
  generalize hmk : clock - p.2.c.lag = mark at *
  have HMK := hide hmk
  have hmk0 : -100 ≤ mark := by omega
  have hmk1 : mark ≤ 4611686018427387904 := by omega
  clear hmk
  go_wp2_with fail
  go_region_held3 (fun w' => w'.cell? ⟨ob, 2, none⟩ = some (.int .i64 o.a) ∧ w'.cell? ⟨p.1.s, 6, none⟩ = some (.int .i64 p.2.c.window)) (go_keep)
    (first | (go_at_call 43; refine (rin_any _ _ _ _).mono ?_; rintro r w9 ⟨rfl, rfl⟩))
  have HO2 := hide ((unhide HO1).drew)
  have HR2 := hide ((unhide HR1).drew)
  have HP2 := hide ((unhide HP1).still ((Keeps.refl (fun _ => False) w1).drew))
  have HK2 := hide ((unhide HK1).drew)
  clear o2 s1 s6 HO1 HR1 HP1 HK1
  generalize w1.drew = w2 at *
  have o2 : w2.cell? ⟨ob, 2, none⟩ = some (.int .i64 o.a) := (unhide HO2).cell rfl
  go_wp2_with fail
  refine (rin_any _ _ _ _).mono ?_
  rintro r w9 ⟨rfl, hw9⟩
  rw [hw9]
  clear hw9 w9
  go_wp2_with fail
  refine (rno_any 13 w2).mono ?_
  rintro r w3 ⟨rfl, hk1⟩
  unfold ansV
  have HR1 := hide ((unhide HR2).keeps hk1 (fun h => h))
  have HK1 := hide ((unhide HK2).then hk1)
  clear hk1
  have r0 : w3.cell? ⟨ob + 1, 0, none⟩ = some (.int .i64 0) := (unhide HR1).cell rfl
  have r1 : w3.cell? ⟨ob + 1, 1, none⟩ = some (.slice none 0 0) := (unhide HR1).cell rfl
  have r2 : w3.cell? ⟨ob + 1, 2, none⟩ = some (.string noBytes) := (unhide HR1).cell rfl
  have rf := (unhide HR1).frozen
  go_wp2
  have hbf := (((unhide HR1).setCell 0 (.int .i64 13)).setCell 1 (.slice none 0 0)).setCell 2 (.string noBytes)
  have HKF := hide ((((Keeps.refl (fun i => i = ob + 1) w3).setCell (p := ⟨ob + 1, 0, none⟩) (Or.inl rfl) (.int .i64 13)).setCell (p := ⟨ob + 1, 1, none⟩) (Or.inl rfl) (.slice none 0 0)).setCell (p := ⟨ob + 1, 2, none⟩) (Or.inl rfl) (.string noBytes))
  have e9 : (((w3.setCell ⟨ob + 1, 0, none⟩ (.int .i64 13)).setCell ⟨ob + 1, 1, none⟩ (.slice none 0 0)).setCell ⟨ob + 1, 2, none⟩ (.string ⟨#[]⟩)) = (((w3.setCell ⟨ob + 1, 0, none⟩ (.int .i64 13)).setCell ⟨ob + 1, 1, none⟩ (.slice none 0 0)).setCell ⟨ob + 1, 2, none⟩ (.string noBytes)) := rfl
  first | rw [e9] | skip
  generalize (((w3.setCell ⟨ob + 1, 0, none⟩ (.int .i64 13)).setCell ⟨ob + 1, 1, none⟩ (.slice none 0 0)).setCell ⟨ob + 1, 2, none⟩ (.string noBytes)) = w9 at *
  have q0 : w9.cell? ⟨ob + 1, 0, none⟩ = some (.int .i64 13) := hbf.cell rfl
  have q1 : w9.cell? ⟨ob + 1, 1, none⟩ = some (.slice none 0 0) := hbf.cell rfl
  have q2 : w9.cell? ⟨ob + 1, 2, none⟩ = some (.string noBytes) := hbf.cell rfl
  refine bodyPost_ret (v := ansV 13 (.slice none 0 0)) (by simp [results, Tryz.results25, go_sem, q0, q1, q2, ansV]) rfl ?_
  have hob := unhide HOB
  exact ⟨_, rfl, World.ownsRow_nil _ _ _ _, (unhide HK1).trans (unhide HKF) (fun i hi hlt => by omega)⟩

end Go.Proofs.YtjhaihbjhikhlaaGreat
