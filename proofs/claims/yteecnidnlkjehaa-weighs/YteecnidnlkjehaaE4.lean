import Derived.Test.YteecnidnlkjehaaE3
namespace Go.Proofs.Yteecnidnlkjehaa
open Go.RowKit
attribute [local go_sem ↓] execOp_load38 execOp_load40
attribute [local go_sem] run_load38 run_load40 bigVal_drew hasBig_drew bigVal_ne hasBig_ne bigVal_alloc hasBig_alloc bigVal_new hasBig_newB

set_option maxRecDepth 100000 in
set_option maxHeartbeats 4000000 in
theorem query_none (n : Int) (e : Nat) (v : Value) (clock : Int) (ps : List (SB × Ser)) (o : OpM) (w : World) (h : ERep w e v clock ps) (hi : EInv n clock (ps.map (·.2))) (hf : findP ps o.id = none) :
    Calls Try.prog 28 #[.pointer (some ⟨e, 0, none⟩), o.val] w fun r w' => StepPost w e v ps clock (ps.map (·.2)) 2 [] r w' := by
  have h1 : o.cells[1]? = some (.int .i64 o.id) := rfl
  have HE := hide h
  have HI := hide hi
  have hl : ps.length ≤ 1000 := by have := hi.six; rw [List.length_map] at this; omega
  have HF := hide hf
  clear h hi hf
  unfold OpM.val
  go_enter Try.func28, Try.ntmps28
  go_wp2_with fail
  have hk0 : Keeps (fun _ => False) w ((w.alloc (.cells o.cells.toArray 40)).alloc (.cells #[.int .i64 0, .slice none 0 0, .string ⟨#[]⟩] 33)) := ((Keeps.refl (fun _ => False) w).alloc _).alloc _
  have HO0 := hide (show Blk ((w.alloc (.cells o.cells.toArray 40)).alloc (.cells #[.int .i64 0, .slice none 0 0, .string ⟨#[]⟩] 33)) w.heap.size o.cells 40 from (Blk.new w o.cells 40).alloc _)
  have HR0 := hide (show Blk ((w.alloc (.cells o.cells.toArray 40)).alloc (.cells #[.int .i64 0, .slice none 0 0, .string ⟨#[]⟩] 33)) (w.heap.size + 1) [.int .i64 0, .slice none 0 0, .string noBytes] 33 from Blk.newAt (by simp) [_, _, _] 33)
  have HE0 := hide ((unhide HE).still hk0)
  have HK0 := hide hk0
  clear hk0
  generalize (w.alloc (.cells o.cells.toArray 40)).alloc (.cells #[.int .i64 0, .slice none 0 0, .string ⟨#[]⟩] 33) = w0 at *
  have HLT := hide (show ∀ i, EFoot e v ps i → i < w.heap.size from (unhide HE).lt)
  generalize hob : w.heap.size = ob at *
  have HOB := hide hob
  clear hob
  have hsz0 : ob + 1 < w0.heap.size := (unhide HR0).lt
  refine (find_any e v clock o.id ps w0 (unhide HE0) hl).mono ?_
  rintro r w1 ⟨rfl, hw1⟩
  rw [hw1]
  clear hw1 w1
  rw [unhide HF]
  unfold ptrOf
  go_wp2_with fail
  refine (no_any 2 w0).mono ?_
  rintro r w1 ⟨rfl, hk1⟩
  unfold ansV
  have HR1 := hide ((unhide HR0).keeps hk1 (fun h => h))
  have HK1 := hide ((unhide HK0).then hk1)
  clear hk1
  have r0 : w1.cell? ⟨ob + 1, 0, none⟩ = some (.int .i64 0) := (unhide HR1).cell rfl
  have r1 : w1.cell? ⟨ob + 1, 1, none⟩ = some (.slice none 0 0) := (unhide HR1).cell rfl
  have r2 : w1.cell? ⟨ob + 1, 2, none⟩ = some (.string noBytes) := (unhide HR1).cell rfl
  have rf := (unhide HR1).frozen
  go_wp2
  have hbf := (((unhide HR1).setCell 0 (.int .i64 2)).setCell 1 (.slice none 0 0)).setCell 2 (.string noBytes)
  have HKF := hide ((((Keeps.refl (fun i => i = ob + 1) w1).setCell (p := ⟨ob + 1, 0, none⟩) (Or.inl rfl) (.int .i64 2)).setCell (p := ⟨ob + 1, 1, none⟩) (Or.inl rfl) (.slice none 0 0)).setCell (p := ⟨ob + 1, 2, none⟩) (Or.inl rfl) (.string noBytes))
  have e9 : (((w1.setCell ⟨ob + 1, 0, none⟩ (.int .i64 2)).setCell ⟨ob + 1, 1, none⟩ (.slice none 0 0)).setCell ⟨ob + 1, 2, none⟩ (.string ⟨#[]⟩)) = (((w1.setCell ⟨ob + 1, 0, none⟩ (.int .i64 2)).setCell ⟨ob + 1, 1, none⟩ (.slice none 0 0)).setCell ⟨ob + 1, 2, none⟩ (.string noBytes)) := rfl
  first | rw [e9] | skip
  generalize (((w1.setCell ⟨ob + 1, 0, none⟩ (.int .i64 2)).setCell ⟨ob + 1, 1, none⟩ (.slice none 0 0)).setCell ⟨ob + 1, 2, none⟩ (.string noBytes)) = w9 at *
  have q0 : w9.cell? ⟨ob + 1, 0, none⟩ = some (.int .i64 2) := hbf.cell rfl
  have q1 : w9.cell? ⟨ob + 1, 1, none⟩ = some (.slice none 0 0) := hbf.cell rfl
  have q2 : w9.cell? ⟨ob + 1, 2, none⟩ = some (.string noBytes) := hbf.cell rfl
  refine bodyPost_ret (v := ansV 2 (.slice none 0 0)) (by simp [results, Try.results28, go_sem, q0, q1, q2, ansV]) rfl ?_
  have hkf := unhide HKF
  have hob := unhide HOB
  have hkk : Keeps (fun _ => False) w w9 := (unhide HK1).trans hkf (fun i hi hlt => by omega)
  exact step_still (unhide HE) hkk (World.ownsRow_nil _ _ _ _)

set_option maxRecDepth 100000 in
set_option maxHeartbeats 4000000 in
theorem query_other (n : Int) (e : Nat) (v : Value) (clock : Int) (ps : List (SB × Ser)) (o : OpM) (w : World) (h : ERep w e v clock ps) (hi : EInv n clock (ps.map (·.2))) (p : SB × Ser) (hf : findP ps o.id = some p) (hk4 : p.2.k ≠ 4) :
    Calls Try.prog 28 #[.pointer (some ⟨e, 0, none⟩), o.val] w fun r w' => StepPost w e v ps clock (ps.map (·.2)) 1 [] r w' := by
  have hmem : p ∈ ps := List.mem_of_find?_eq_some hf
  have HM := hide hmem
  have H4 := hide hk4
  clear hmem hk4
  have h1 : o.cells[1]? = some (.int .i64 o.id) := rfl
  have HE := hide h
  have HI := hide hi
  have hl : ps.length ≤ 1000 := by have := hi.six; rw [List.length_map] at this; omega
  have HF := hide hf
  clear h hi hf
  unfold OpM.val
  go_enter Try.func28, Try.ntmps28
  go_wp2_with fail
  have hk0 : Keeps (fun _ => False) w ((w.alloc (.cells o.cells.toArray 40)).alloc (.cells #[.int .i64 0, .slice none 0 0, .string ⟨#[]⟩] 33)) := ((Keeps.refl (fun _ => False) w).alloc _).alloc _
  have HO0 := hide (show Blk ((w.alloc (.cells o.cells.toArray 40)).alloc (.cells #[.int .i64 0, .slice none 0 0, .string ⟨#[]⟩] 33)) w.heap.size o.cells 40 from (Blk.new w o.cells 40).alloc _)
  have HR0 := hide (show Blk ((w.alloc (.cells o.cells.toArray 40)).alloc (.cells #[.int .i64 0, .slice none 0 0, .string ⟨#[]⟩] 33)) (w.heap.size + 1) [.int .i64 0, .slice none 0 0, .string noBytes] 33 from Blk.newAt (by simp) [_, _, _] 33)
  have HE0 := hide ((unhide HE).still hk0)
  have HK0 := hide hk0
  clear hk0
  generalize (w.alloc (.cells o.cells.toArray 40)).alloc (.cells #[.int .i64 0, .slice none 0 0, .string ⟨#[]⟩] 33) = w0 at *
  have HLT := hide (show ∀ i, EFoot e v ps i → i < w.heap.size from (unhide HE).lt)
  generalize hob : w.heap.size = ob at *
  have HOB := hide hob
  clear hob
  have hsz0 : ob + 1 < w0.heap.size := (unhide HR0).lt
  refine (find_any e v clock o.id ps w0 (unhide HE0) hl).mono ?_
  rintro r w1 ⟨rfl, hw1⟩
  rw [hw1]
  clear hw1 w1
  rw [unhide HF]
  unfold ptrOf
  have HS0 := hide ((unhide HE0).reps p (unhide HM))
  have HSI := hide ((unhide HI).sers p.2 (List.mem_map_of_mem (unhide HM)))
  obtain ⟨l0, l1, s0, s1, p1, p8⟩ := (unhide HSI).common
  have cl0 := (unhide HI).c0
  have cl1 := (unhide HI).c1
  have hc25 : w0.cell? ⟨p.1.s, 25, none⟩ = some (qryV p.2.k p.1.d) := (unhide HS0).blk.cell rfl
  have hc2 : w0.cell? ⟨p.1.s, 2, none⟩ = some (.int .i64 p.2.c.lag) := (unhide HS0).blk.cell rfl
  have hce : w0.cell? ⟨e, 0, none⟩ = some (.int .i64 clock) := (unhide HE0).blk.cell rfl
  have hoa : w0.cell? ⟨ob, 2, none⟩ = some (.int .i64 o.a) := (unhide HO0).cell rfl
  unfold qryV at hc25
  rw [if_neg (unhide H4)] at hc25
  go_wp2_with fail
  go_region_held3 (fun w' => w'.cell? ⟨p.1.s, 25, none⟩ = some (.func (.func 97) #[] #[]) ∧ w'.cell? ⟨p.1.s, 2, none⟩ = some (.int .i64 p.2.c.lag) ∧ w'.cell? ⟨e, 0, none⟩ = some (.int .i64 clock) ∧ w'.cell? ⟨ob, 2, none⟩ = some (.int .i64 o.a))
    (go_keep)
    (first | (go_at_call 46; refine (wm_any p.1.s p.2.c.lag clock _ (by go_keep) l0 l1 cl0 cl1).mono ?_; rintro e w' ⟨rfl, rfl⟩) | (go_at_call 97; refine (nothing2_any _ _ _).mono ?_; rintro e w' ⟨rfl, rfl⟩))
  have HRD := hide ((unhide HR0).drew)
  have HKD := hide ((unhide HK0).drew)
  clear hc25 hc2 hce hoa HR0 HK0 HE0 HO0 HS0
  generalize w0.drew = wd at *
  go_wp2_with fail
  refine (no_any 1 wd).mono ?_
  rintro r w1 ⟨rfl, hk1⟩
  unfold ansV
  have HR1 := hide ((unhide HRD).keeps hk1 (fun h => h))
  have HK1 := hide ((unhide HKD).then hk1)
  clear hk1
  have r0 : w1.cell? ⟨ob + 1, 0, none⟩ = some (.int .i64 0) := (unhide HR1).cell rfl
  have r1 : w1.cell? ⟨ob + 1, 1, none⟩ = some (.slice none 0 0) := (unhide HR1).cell rfl
  have r2 : w1.cell? ⟨ob + 1, 2, none⟩ = some (.string noBytes) := (unhide HR1).cell rfl
  have rf := (unhide HR1).frozen
  go_wp2
  have hbf := (((unhide HR1).setCell 0 (.int .i64 1)).setCell 1 (.slice none 0 0)).setCell 2 (.string noBytes)
  have HKF := hide ((((Keeps.refl (fun i => i = ob + 1) w1).setCell (p := ⟨ob + 1, 0, none⟩) (Or.inl rfl) (.int .i64 1)).setCell (p := ⟨ob + 1, 1, none⟩) (Or.inl rfl) (.slice none 0 0)).setCell (p := ⟨ob + 1, 2, none⟩) (Or.inl rfl) (.string noBytes))
  have e9 : (((w1.setCell ⟨ob + 1, 0, none⟩ (.int .i64 1)).setCell ⟨ob + 1, 1, none⟩ (.slice none 0 0)).setCell ⟨ob + 1, 2, none⟩ (.string ⟨#[]⟩)) = (((w1.setCell ⟨ob + 1, 0, none⟩ (.int .i64 1)).setCell ⟨ob + 1, 1, none⟩ (.slice none 0 0)).setCell ⟨ob + 1, 2, none⟩ (.string noBytes)) := rfl
  first | rw [e9] | skip
  generalize (((w1.setCell ⟨ob + 1, 0, none⟩ (.int .i64 1)).setCell ⟨ob + 1, 1, none⟩ (.slice none 0 0)).setCell ⟨ob + 1, 2, none⟩ (.string noBytes)) = w9 at *
  have q0 : w9.cell? ⟨ob + 1, 0, none⟩ = some (.int .i64 1) := hbf.cell rfl
  have q1 : w9.cell? ⟨ob + 1, 1, none⟩ = some (.slice none 0 0) := hbf.cell rfl
  have q2 : w9.cell? ⟨ob + 1, 2, none⟩ = some (.string noBytes) := hbf.cell rfl
  refine bodyPost_ret (v := ansV 1 (.slice none 0 0)) (by simp [results, Try.results28, go_sem, q0, q1, q2, ansV]) rfl ?_
  have hkf := unhide HKF
  have hob := unhide HOB
  have hkk : Keeps (fun _ => False) w w9 := (unhide HK1).trans hkf (fun i hi hlt => by omega)
  exact step_still (unhide HE) hkk (World.ownsRow_nil _ _ _ _)

set_option maxRecDepth 100000 in
set_option maxHeartbeats 4000000 in
theorem query_decay (n : Int) (e : Nat) (v : Value) (clock : Int) (ps : List (SB × Ser)) (o : OpM) (w : World) (h : ERep w e v clock ps) (hi : EInv n clock (ps.map (·.2))) (p : SB × Ser) (hf : findP ps o.id = some p) (hk4 : p.2.k = 4) :
    Calls Try.prog 28 #[.pointer (some ⟨e, 0, none⟩), o.val] w fun r w' => StepPost w e v ps clock (ps.map (·.2)) 0 [p.2.q, p.2.r, optInt (weightO p.2.c (clock - p.2.c.lag))] r w' := by
  have hmem : p ∈ ps := List.mem_of_find?_eq_some hf
  have HM := hide hmem
  have H4 := hide hk4
  clear hmem hk4
  have h1 : o.cells[1]? = some (.int .i64 o.id) := rfl
  have HE := hide h
  have HI := hide hi
  have hl : ps.length ≤ 1000 := by have := hi.six; rw [List.length_map] at this; omega
  have HF := hide hf
  clear h hi hf
  unfold OpM.val
  go_enter Try.func28, Try.ntmps28
  go_wp2_with fail
  have hk0 : Keeps (fun _ => False) w ((w.alloc (.cells o.cells.toArray 40)).alloc (.cells #[.int .i64 0, .slice none 0 0, .string ⟨#[]⟩] 33)) := ((Keeps.refl (fun _ => False) w).alloc _).alloc _
  have HO0 := hide (show Blk ((w.alloc (.cells o.cells.toArray 40)).alloc (.cells #[.int .i64 0, .slice none 0 0, .string ⟨#[]⟩] 33)) w.heap.size o.cells 40 from (Blk.new w o.cells 40).alloc _)
  have HR0 := hide (show Blk ((w.alloc (.cells o.cells.toArray 40)).alloc (.cells #[.int .i64 0, .slice none 0 0, .string ⟨#[]⟩] 33)) (w.heap.size + 1) [.int .i64 0, .slice none 0 0, .string noBytes] 33 from Blk.newAt (by simp) [_, _, _] 33)
  have HE0 := hide ((unhide HE).still hk0)
  have HK0 := hide hk0
  clear hk0
  generalize (w.alloc (.cells o.cells.toArray 40)).alloc (.cells #[.int .i64 0, .slice none 0 0, .string ⟨#[]⟩] 33) = w0 at *
  have HLT := hide (show ∀ i, EFoot e v ps i → i < w.heap.size from (unhide HE).lt)
  generalize hob : w.heap.size = ob at *
  have HOB := hide hob
  clear hob
  have hsz0 : ob + 1 < w0.heap.size := (unhide HR0).lt
  refine (find_any e v clock o.id ps w0 (unhide HE0) hl).mono ?_
  rintro r w1 ⟨rfl, hw1⟩
  rw [hw1]
  clear hw1 w1
  rw [unhide HF]
  unfold ptrOf
  have HS0 := hide ((unhide HE0).reps p (unhide HM))
  have HSI := hide ((unhide HI).sers p.2 (List.mem_map_of_mem (unhide HM)))
  obtain ⟨l0, l1, s0, s1, p1, p8⟩ := (unhide HSI).common
  have cl0 := (unhide HI).c0
  have cl1 := (unhide HI).c1
  have hc25 : w0.cell? ⟨p.1.s, 25, none⟩ = some (qryV p.2.k p.1.d) := (unhide HS0).blk.cell rfl
  have hc2 : w0.cell? ⟨p.1.s, 2, none⟩ = some (.int .i64 p.2.c.lag) := (unhide HS0).blk.cell rfl
  have hce : w0.cell? ⟨e, 0, none⟩ = some (.int .i64 clock) := (unhide HE0).blk.cell rfl
  have hoa : w0.cell? ⟨ob, 2, none⟩ = some (.int .i64 o.a) := (unhide HO0).cell rfl
  unfold qryV at hc25
  rw [if_pos (unhide H4)] at hc25
  have HDD := hide ((unhide HS0).dec (unhide H4))
  have HWW := hide ((unhide HSI).weighs (by have := unhide H4; omega))
  go_wp2_with fail
  go_region_held3 (fun w' => w'.cell? ⟨p.1.s, 25, none⟩ = some (.func (.func 102) #[.pointer (some ⟨p.1.d, 0, none⟩)] #[]) ∧ w'.cell? ⟨p.1.s, 2, none⟩ = some (.int .i64 p.2.c.lag) ∧ w'.cell? ⟨e, 0, none⟩ = some (.int .i64 clock) ∧ w'.cell? ⟨ob, 2, none⟩ = some (.int .i64 o.a))
    (first | (simp [*]; done) | (go_split_ands; exact ⟨hk1.cell (by assumption) (fun h => h), hk1.cell (by assumption) (fun h => h), hk1.cell (by assumption) (fun h => h), hk1.cell (by assumption) (fun h => h)⟩))
    (first | (go_at_call 46; refine (wm_any p.1.s p.2.c.lag clock _ (by go_keep) l0 l1 cl0 cl1).mono ?_; rintro e w' ⟨rfl, rfl⟩) | (go_at_call 102; refine (decQuery_any p.1.d p.2.c p.2.q p.2.r o.a (clock - p.2.c.lag) _ (by exact (unhide HDD).drew) (unhide HWW) (by omega) (by omega)).mono ?_; rintro e w1 ⟨g, rfl, hg, hb1, hk1⟩))
  have hk0d : Keeps (fun _ => False) w0 w1 := ((Keeps.refl (fun _ => False) w0).drew).then hk1
  have HR1 := hide ((unhide HR0).keeps hk0d (fun h => h))
  have HK1 := hide ((unhide HK0).then hk0d)
  have HSZ := hide ((unhide HK0).size)
  have hg' : w0.heap.size ≤ g := hg
  have HBN := hide hb1
  clear hc25 hc2 hce hoa HR0 HK0 HE0 HO0 HS0 hk1 hb1 hk0d HDD hg
  have r0 : w1.cell? ⟨ob + 1, 0, none⟩ = some (.int .i64 0) := (unhide HR1).cell rfl
  have r1 : w1.cell? ⟨ob + 1, 1, none⟩ = some (.slice none 0 0) := (unhide HR1).cell rfl
  have r2 : w1.cell? ⟨ob + 1, 2, none⟩ = some (.string noBytes) := (unhide HR1).cell rfl
  have rf := (unhide HR1).frozen
  go_wp2
  have hbf := (((unhide HR1).setCell 0 (.int .i64 0)).setCell 1 (.slice (some ⟨g, 0, none⟩) 3 3)).setCell 2 (.string noBytes)
  have HKF := hide ((((Keeps.refl (fun i => i = ob + 1) w1).setCell (p := ⟨ob + 1, 0, none⟩) (Or.inl rfl) (.int .i64 0)).setCell (p := ⟨ob + 1, 1, none⟩) (Or.inl rfl) (.slice (some ⟨g, 0, none⟩) 3 3)).setCell (p := ⟨ob + 1, 2, none⟩) (Or.inl rfl) (.string noBytes))
  have e9 : (((w1.setCell ⟨ob + 1, 0, none⟩ (.int .i64 0)).setCell ⟨ob + 1, 1, none⟩ (.slice (some ⟨g, 0, none⟩) 3 3)).setCell ⟨ob + 1, 2, none⟩ (.string ⟨#[]⟩)) = (((w1.setCell ⟨ob + 1, 0, none⟩ (.int .i64 0)).setCell ⟨ob + 1, 1, none⟩ (.slice (some ⟨g, 0, none⟩) 3 3)).setCell ⟨ob + 1, 2, none⟩ (.string noBytes)) := rfl
  first | rw [e9] | skip
  generalize (((w1.setCell ⟨ob + 1, 0, none⟩ (.int .i64 0)).setCell ⟨ob + 1, 1, none⟩ (.slice (some ⟨g, 0, none⟩) 3 3)).setCell ⟨ob + 1, 2, none⟩ (.string noBytes)) = w9 at *
  have q0 : w9.cell? ⟨ob + 1, 0, none⟩ = some (.int .i64 0) := hbf.cell rfl
  have q1 : w9.cell? ⟨ob + 1, 1, none⟩ = some (.slice (some ⟨g, 0, none⟩) 3 3) := hbf.cell rfl
  have q2 : w9.cell? ⟨ob + 1, 2, none⟩ = some (.string noBytes) := hbf.cell rfl
  refine bodyPost_ret (v := ansV 0 (.slice (some ⟨g, 0, none⟩) 3 3)) (by simp [results, Try.results28, go_sem, q0, q1, q2, ansV]) rfl ?_
  have hkf := unhide HKF
  have hob := unhide HOB
  have hkk : Keeps (fun _ => False) w w9 := (unhide HK1).trans hkf (fun i hi hlt => by omega)
  have hbn := (unhide HBN).keeps hkf (fun h => by omega)
  exact step_still (unhide HE) hkk ⟨rfl, .inr ⟨g, 3, _, rfl, by have := unhide HSZ; omega, hbn, by simp, by unfold maxLen; omega, rfl, rfl⟩⟩

end Go.Proofs.Yteecnidnlkjehaa
