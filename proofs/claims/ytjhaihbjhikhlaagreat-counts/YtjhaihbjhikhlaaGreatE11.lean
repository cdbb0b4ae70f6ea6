import Derived.Test.YtjhaihbjhikhlaaGreatE9
namespace Go.Proofs.YtjhaihbjhikhlaaGreat
open Go.RowKit
attribute [local go_sem ↓] execOp_load38 execOp_load40
attribute [local go_sem] run_load38 run_load40 bigVal_drew hasBig_drew bigVal_ne hasBig_ne bigVal_alloc hasBig_alloc

/-- A step's answer is handed on by its caller. -/
theorem step_wrap {w w0 w1 w9 : World} {e ob : Nat} {v : Value} {ps : List (SB × Ser)} {clock' : Int} {xs' : List Ser} {code : Int} {nums : List Int} {nv v' : Value} {ps' : List (SB × Ser)}
    (hk0 : Keeps (fun _ => False) w w0) (hob : w.heap.size = ob) (hlt : ∀ i, EFoot e v ps i → i < ob) (hsz : ob + 1 < w0.heap.size)
    (hE : ERep w1 e v' clock' ps') (hx : ps'.map (·.2) = xs') (hn : w1.ownsRow w0.heap.size 3 1 nv nums.length (ints nums)) (hk : Keeps (EFoot e v ps) w0 w1)
    (hf : ∀ i, EFoot e v' ps' i → EFoot e v ps i ∨ w0.heap.size ≤ i) (hd : ∀ i, nv.ownBlock = some i → ¬ EFoot e v' ps' i) (hkf : Keeps (fun i => i = ob + 1) w1 w9) :
    StepPost w e v ps clock' xs' code nums (.returned (ansV code nv)) w9 := by
  have hs := hk0.size
  refine ⟨nv, v', ps', rfl, hE.keeps hkf (fun i hi h => ?_), hx, owns_keeps (owns_base hn hs) hkf (fun i hi h => ?_), ?_, fun i hi => ?_, hd⟩
  · rcases hf i hi with h1 | h1
    · have := hlt i h1; omega
    · omega
  · have := (hn.lt i hi).1; omega
  · exact ((hk0.mono (M' := EFoot e v ps) (fun _ _ h => h.elim)).then (hk.mono (fun _ _ h => h))).trans hkf (fun i hi hlt => by omega)
  · rcases hf i hi with h1 | h1
    · exact .inl h1
    · exact .inr (by omega)

theorem nv_form {w : World} {base : Nat} {nv : Value} {n : Nat} {xs : List Value} (h : w.ownsRow base 3 1 nv n xs) : ∃ a cap, nv = .slice a n cap := by
  rcases h.2 with ⟨h1, h2⟩ | ⟨g, cap, cur, h1, _⟩
  · exact ⟨none, 0, by rw [h1, h2]⟩
  · exact ⟨some ⟨g, 0, none⟩, cap, h1⟩

set_option maxRecDepth 100000 in
set_option maxHeartbeats 4000000 in
theorem step_1 (e : Nat) (v : Value) (clock : Int) (ps : List (SB × Ser)) (o : OpM) (w : World) (h : ERep w e v clock ps) (hkind : o.kind = 1) (clock' : Int) (xs' : List Ser) (code : Int) (nums : List Int)
    (hc : ∀ w0, ERep w0 e v clock ps → Calls Tryz.prog 17 #[.pointer (some ⟨e, 0, none⟩), o.val] w0 fun r w' => StepPost w0 e v ps clock' xs' code nums r w') :
    Calls Tryz.prog 14 #[.pointer (some ⟨e, 0, none⟩), o.val] w fun r w' => StepPost w e v ps clock' xs' code nums r w' := by
  have h0 : o.cells[0]? = some (.int .i64 o.kind) := rfl
  have hv0 : bigVal (w.alloc (.cells o.cells.toArray 35)) w.heap.size 0 26 = .agg o.cells.toArray := bigVal_new w o.cells 35 26 rfl
  have hh0 : hasBig (w.alloc (.cells o.cells.toArray 35)) w.heap.size 0 26 = true := hasBig_new w o.cells 35 26 rfl
  have hn1 : (o.kind == 1) = true := by simp [hkind]
  have HE := hide h
  have HC := hide hc
  clear h hc hkind
  unfold OpM.val
  go_enter Tryz.func14, Tryz.ntmps14
  go_wp2_with fail
  have hk0 : Keeps (fun _ => False) w ((w.alloc (.cells o.cells.toArray 35)).alloc (.cells #[.int .i64 0, .slice none 0 0, .string ⟨#[]⟩] 41)) := ((Keeps.refl (fun _ => False) w).alloc _).alloc _
  have HO0 := hide (show Blk ((w.alloc (.cells o.cells.toArray 35)).alloc (.cells #[.int .i64 0, .slice none 0 0, .string ⟨#[]⟩] 41)) w.heap.size o.cells 35 from (Blk.new w o.cells 35).alloc _)
  have HR0 := hide (show Blk ((w.alloc (.cells o.cells.toArray 35)).alloc (.cells #[.int .i64 0, .slice none 0 0, .string ⟨#[]⟩] 41)) (w.heap.size + 1) [.int .i64 0, .slice none 0 0, .string noBytes] 41 from Blk.newAt (by simp) [_, _, _] 41)
  have HE0 := hide ((unhide HE).still hk0)
  have HK0 := hide hk0
  clear hk0
  generalize (w.alloc (.cells o.cells.toArray 35)).alloc (.cells #[.int .i64 0, .slice none 0 0, .string ⟨#[]⟩] 41) = w0 at *
  have HLT := hide (show ∀ i, EFoot e v ps i → i < w.heap.size from (unhide HE).lt)
  generalize hob : w.heap.size = ob at *
  have HOB := hide hob
  clear hob
  have hsz0 : ob + 1 < w0.heap.size := (unhide HR0).lt
  refine (unhide HC w0 (unhide HE0)).mono ?_
  rintro r w1 ⟨nv, v', ps', rfl, hE1, hx1, hn1, hk1, hf1, hd1⟩
  obtain ⟨na, ncap, hnv⟩ := nv_form hn1
  subst hnv
  unfold ansV
  have HR1 := hide ((unhide HR0).keeps hk1 (fun h => by have := unhide HLT _ h; omega))
  have HW := hide (show ∀ w9, Keeps (fun i => i = ob + 1) w1 w9 → StepPost w e v ps clock' xs' code nums (.returned (ansV code (.slice na nums.length ncap))) w9 from fun w9 hkf => step_wrap (unhide HK0) (unhide HOB) (unhide HLT) hsz0 hE1 hx1 hn1 hk1 hf1 hd1 hkf)
  clear hE1 hx1 hn1 hk1 hf1 hd1
  have r0 : w1.cell? ⟨ob + 1, 0, none⟩ = some (.int .i64 0) := (unhide HR1).cell rfl
  have r1 : w1.cell? ⟨ob + 1, 1, none⟩ = some (.slice none 0 0) := (unhide HR1).cell rfl
  have r2 : w1.cell? ⟨ob + 1, 2, none⟩ = some (.string noBytes) := (unhide HR1).cell rfl
  have rf := (unhide HR1).frozen
  go_wp2
  have hbf := (((unhide HR1).setCell 0 (.int .i64 code)).setCell 1 (.slice na nums.length ncap)).setCell 2 (.string noBytes)
  have HKF := hide ((((Keeps.refl (fun i => i = ob + 1) w1).setCell (p := ⟨ob + 1, 0, none⟩) (Or.inl rfl) (.int .i64 code)).setCell (p := ⟨ob + 1, 1, none⟩) (Or.inl rfl) (.slice na nums.length ncap)).setCell (p := ⟨ob + 1, 2, none⟩) (Or.inl rfl) (.string noBytes))
  have e9 : (((w1.setCell ⟨ob + 1, 0, none⟩ (.int .i64 code)).setCell ⟨ob + 1, 1, none⟩ (.slice na nums.length ncap)).setCell ⟨ob + 1, 2, none⟩ (.string ⟨#[]⟩)) = (((w1.setCell ⟨ob + 1, 0, none⟩ (.int .i64 code)).setCell ⟨ob + 1, 1, none⟩ (.slice na nums.length ncap)).setCell ⟨ob + 1, 2, none⟩ (.string noBytes)) := rfl
  first | rw [e9] | skip
  generalize (((w1.setCell ⟨ob + 1, 0, none⟩ (.int .i64 code)).setCell ⟨ob + 1, 1, none⟩ (.slice na nums.length ncap)).setCell ⟨ob + 1, 2, none⟩ (.string noBytes)) = w9 at *
  have q0 : w9.cell? ⟨ob + 1, 0, none⟩ = some (.int .i64 code) := hbf.cell rfl
  have q1 : w9.cell? ⟨ob + 1, 1, none⟩ = some (.slice na nums.length ncap) := hbf.cell rfl
  have q2 : w9.cell? ⟨ob + 1, 2, none⟩ = some (.string noBytes) := hbf.cell rfl
  refine bodyPost_ret (v := ansV code (.slice na nums.length ncap)) (by simp [results, Tryz.results14, go_sem, q0, q1, q2, ansV]) rfl ?_
  have hkf := unhide HKF
  exact unhide HW w9 hkf

set_option maxRecDepth 100000 in
set_option maxHeartbeats 4000000 in
theorem step_2 (e : Nat) (v : Value) (clock : Int) (ps : List (SB × Ser)) (o : OpM) (w : World) (h : ERep w e v clock ps) (hkind : o.kind = 2) (clock' : Int) (xs' : List Ser) (code : Int) (nums : List Int)
    (hc : ∀ w0, ERep w0 e v clock ps → Calls Tryz.prog 18 #[.pointer (some ⟨e, 0, none⟩), o.val] w0 fun r w' => StepPost w0 e v ps clock' xs' code nums r w') :
    Calls Tryz.prog 14 #[.pointer (some ⟨e, 0, none⟩), o.val] w fun r w' => StepPost w e v ps clock' xs' code nums r w' := by
  have h0 : o.cells[0]? = some (.int .i64 o.kind) := rfl
  have hv0 : bigVal (w.alloc (.cells o.cells.toArray 35)) w.heap.size 0 26 = .agg o.cells.toArray := bigVal_new w o.cells 35 26 rfl
  have hh0 : hasBig (w.alloc (.cells o.cells.toArray 35)) w.heap.size 0 26 = true := hasBig_new w o.cells 35 26 rfl
  have hn1 : (o.kind == 1) = false := by simp [hkind]
  have hn2 : (o.kind == 2) = true := by simp [hkind]
  have HE := hide h
  have HC := hide hc
  clear h hc hkind
  unfold OpM.val
  go_enter Tryz.func14, Tryz.ntmps14
  go_wp2_with fail
  have hk0 : Keeps (fun _ => False) w ((w.alloc (.cells o.cells.toArray 35)).alloc (.cells #[.int .i64 0, .slice none 0 0, .string ⟨#[]⟩] 41)) := ((Keeps.refl (fun _ => False) w).alloc _).alloc _
  have HO0 := hide (show Blk ((w.alloc (.cells o.cells.toArray 35)).alloc (.cells #[.int .i64 0, .slice none 0 0, .string ⟨#[]⟩] 41)) w.heap.size o.cells 35 from (Blk.new w o.cells 35).alloc _)
  have HR0 := hide (show Blk ((w.alloc (.cells o.cells.toArray 35)).alloc (.cells #[.int .i64 0, .slice none 0 0, .string ⟨#[]⟩] 41)) (w.heap.size + 1) [.int .i64 0, .slice none 0 0, .string noBytes] 41 from Blk.newAt (by simp) [_, _, _] 41)
  have HE0 := hide ((unhide HE).still hk0)
  have HK0 := hide hk0
  clear hk0
  generalize (w.alloc (.cells o.cells.toArray 35)).alloc (.cells #[.int .i64 0, .slice none 0 0, .string ⟨#[]⟩] 41) = w0 at *
  have HLT := hide (show ∀ i, EFoot e v ps i → i < w.heap.size from (unhide HE).lt)
  generalize hob : w.heap.size = ob at *
  have HOB := hide hob
  clear hob
  have hsz0 : ob + 1 < w0.heap.size := (unhide HR0).lt
  refine (unhide HC w0 (unhide HE0)).mono ?_
  rintro r w1 ⟨nv, v', ps', rfl, hE1, hx1, hn1, hk1, hf1, hd1⟩
  obtain ⟨na, ncap, hnv⟩ := nv_form hn1
  subst hnv
  unfold ansV
  have HR1 := hide ((unhide HR0).keeps hk1 (fun h => by have := unhide HLT _ h; omega))
  have HW := hide (show ∀ w9, Keeps (fun i => i = ob + 1) w1 w9 → StepPost w e v ps clock' xs' code nums (.returned (ansV code (.slice na nums.length ncap))) w9 from fun w9 hkf => step_wrap (unhide HK0) (unhide HOB) (unhide HLT) hsz0 hE1 hx1 hn1 hk1 hf1 hd1 hkf)
  clear hE1 hx1 hn1 hk1 hf1 hd1
  have r0 : w1.cell? ⟨ob + 1, 0, none⟩ = some (.int .i64 0) := (unhide HR1).cell rfl
  have r1 : w1.cell? ⟨ob + 1, 1, none⟩ = some (.slice none 0 0) := (unhide HR1).cell rfl
  have r2 : w1.cell? ⟨ob + 1, 2, none⟩ = some (.string noBytes) := (unhide HR1).cell rfl
  have rf := (unhide HR1).frozen
  go_wp2
  have hbf := (((unhide HR1).setCell 0 (.int .i64 code)).setCell 1 (.slice na nums.length ncap)).setCell 2 (.string noBytes)
  have HKF := hide ((((Keeps.refl (fun i => i = ob + 1) w1).setCell (p := ⟨ob + 1, 0, none⟩) (Or.inl rfl) (.int .i64 code)).setCell (p := ⟨ob + 1, 1, none⟩) (Or.inl rfl) (.slice na nums.length ncap)).setCell (p := ⟨ob + 1, 2, none⟩) (Or.inl rfl) (.string noBytes))
  have e9 : (((w1.setCell ⟨ob + 1, 0, none⟩ (.int .i64 code)).setCell ⟨ob + 1, 1, none⟩ (.slice na nums.length ncap)).setCell ⟨ob + 1, 2, none⟩ (.string ⟨#[]⟩)) = (((w1.setCell ⟨ob + 1, 0, none⟩ (.int .i64 code)).setCell ⟨ob + 1, 1, none⟩ (.slice na nums.length ncap)).setCell ⟨ob + 1, 2, none⟩ (.string noBytes)) := rfl
  first | rw [e9] | skip
  generalize (((w1.setCell ⟨ob + 1, 0, none⟩ (.int .i64 code)).setCell ⟨ob + 1, 1, none⟩ (.slice na nums.length ncap)).setCell ⟨ob + 1, 2, none⟩ (.string noBytes)) = w9 at *
  have q0 : w9.cell? ⟨ob + 1, 0, none⟩ = some (.int .i64 code) := hbf.cell rfl
  have q1 : w9.cell? ⟨ob + 1, 1, none⟩ = some (.slice na nums.length ncap) := hbf.cell rfl
  have q2 : w9.cell? ⟨ob + 1, 2, none⟩ = some (.string noBytes) := hbf.cell rfl
  refine bodyPost_ret (v := ansV code (.slice na nums.length ncap)) (by simp [results, Tryz.results14, go_sem, q0, q1, q2, ansV]) rfl ?_
  have hkf := unhide HKF
  exact unhide HW w9 hkf

set_option maxRecDepth 100000 in
set_option maxHeartbeats 4000000 in
theorem step_3 (e : Nat) (v : Value) (clock : Int) (ps : List (SB × Ser)) (o : OpM) (w : World) (h : ERep w e v clock ps) (hkind : o.kind = 3) (clock' : Int) (xs' : List Ser) (code : Int) (nums : List Int)
    (hc : ∀ w0, ERep w0 e v clock ps → Calls Tryz.prog 19 #[.pointer (some ⟨e, 0, none⟩), o.val] w0 fun r w' => StepPost w0 e v ps clock' xs' code nums r w') :
    Calls Tryz.prog 14 #[.pointer (some ⟨e, 0, none⟩), o.val] w fun r w' => StepPost w e v ps clock' xs' code nums r w' := by
  have h0 : o.cells[0]? = some (.int .i64 o.kind) := rfl
  have hv0 : bigVal (w.alloc (.cells o.cells.toArray 35)) w.heap.size 0 26 = .agg o.cells.toArray := bigVal_new w o.cells 35 26 rfl
  have hh0 : hasBig (w.alloc (.cells o.cells.toArray 35)) w.heap.size 0 26 = true := hasBig_new w o.cells 35 26 rfl
  have hn1 : (o.kind == 1) = false := by simp [hkind]
  have hn2 : (o.kind == 2) = false := by simp [hkind]
  have hn3 : (o.kind == 3) = true := by simp [hkind]
  have HE := hide h
  have HC := hide hc
  clear h hc hkind
  unfold OpM.val
  go_enter Tryz.func14, Tryz.ntmps14
  go_wp2_with fail
  have hk0 : Keeps (fun _ => False) w ((w.alloc (.cells o.cells.toArray 35)).alloc (.cells #[.int .i64 0, .slice none 0 0, .string ⟨#[]⟩] 41)) := ((Keeps.refl (fun _ => False) w).alloc _).alloc _
  have HO0 := hide (show Blk ((w.alloc (.cells o.cells.toArray 35)).alloc (.cells #[.int .i64 0, .slice none 0 0, .string ⟨#[]⟩] 41)) w.heap.size o.cells 35 from (Blk.new w o.cells 35).alloc _)
  have HR0 := hide (show Blk ((w.alloc (.cells o.cells.toArray 35)).alloc (.cells #[.int .i64 0, .slice none 0 0, .string ⟨#[]⟩] 41)) (w.heap.size + 1) [.int .i64 0, .slice none 0 0, .string noBytes] 41 from Blk.newAt (by simp) [_, _, _] 41)
  have HE0 := hide ((unhide HE).still hk0)
  have HK0 := hide hk0
  clear hk0
  generalize (w.alloc (.cells o.cells.toArray 35)).alloc (.cells #[.int .i64 0, .slice none 0 0, .string ⟨#[]⟩] 41) = w0 at *
  have HLT := hide (show ∀ i, EFoot e v ps i → i < w.heap.size from (unhide HE).lt)
  generalize hob : w.heap.size = ob at *
  have HOB := hide hob
  clear hob
  have hsz0 : ob + 1 < w0.heap.size := (unhide HR0).lt
  refine (unhide HC w0 (unhide HE0)).mono ?_
  rintro r w1 ⟨nv, v', ps', rfl, hE1, hx1, hn1, hk1, hf1, hd1⟩
  obtain ⟨na, ncap, hnv⟩ := nv_form hn1
  subst hnv
  unfold ansV
  have HR1 := hide ((unhide HR0).keeps hk1 (fun h => by have := unhide HLT _ h; omega))
  have HW := hide (show ∀ w9, Keeps (fun i => i = ob + 1) w1 w9 → StepPost w e v ps clock' xs' code nums (.returned (ansV code (.slice na nums.length ncap))) w9 from fun w9 hkf => step_wrap (unhide HK0) (unhide HOB) (unhide HLT) hsz0 hE1 hx1 hn1 hk1 hf1 hd1 hkf)
  clear hE1 hx1 hn1 hk1 hf1 hd1
  have r0 : w1.cell? ⟨ob + 1, 0, none⟩ = some (.int .i64 0) := (unhide HR1).cell rfl
  have r1 : w1.cell? ⟨ob + 1, 1, none⟩ = some (.slice none 0 0) := (unhide HR1).cell rfl
  have r2 : w1.cell? ⟨ob + 1, 2, none⟩ = some (.string noBytes) := (unhide HR1).cell rfl
  have rf := (unhide HR1).frozen
  go_wp2
  have hbf := (((unhide HR1).setCell 0 (.int .i64 code)).setCell 1 (.slice na nums.length ncap)).setCell 2 (.string noBytes)
  have HKF := hide ((((Keeps.refl (fun i => i = ob + 1) w1).setCell (p := ⟨ob + 1, 0, none⟩) (Or.inl rfl) (.int .i64 code)).setCell (p := ⟨ob + 1, 1, none⟩) (Or.inl rfl) (.slice na nums.length ncap)).setCell (p := ⟨ob + 1, 2, none⟩) (Or.inl rfl) (.string noBytes))
  have e9 : (((w1.setCell ⟨ob + 1, 0, none⟩ (.int .i64 code)).setCell ⟨ob + 1, 1, none⟩ (.slice na nums.length ncap)).setCell ⟨ob + 1, 2, none⟩ (.string ⟨#[]⟩)) = (((w1.setCell ⟨ob + 1, 0, none⟩ (.int .i64 code)).setCell ⟨ob + 1, 1, none⟩ (.slice na nums.length ncap)).setCell ⟨ob + 1, 2, none⟩ (.string noBytes)) := rfl
  first | rw [e9] | skip
  generalize (((w1.setCell ⟨ob + 1, 0, none⟩ (.int .i64 code)).setCell ⟨ob + 1, 1, none⟩ (.slice na nums.length ncap)).setCell ⟨ob + 1, 2, none⟩ (.string noBytes)) = w9 at *
  have q0 : w9.cell? ⟨ob + 1, 0, none⟩ = some (.int .i64 code) := hbf.cell rfl
  have q1 : w9.cell? ⟨ob + 1, 1, none⟩ = some (.slice na nums.length ncap) := hbf.cell rfl
  have q2 : w9.cell? ⟨ob + 1, 2, none⟩ = some (.string noBytes) := hbf.cell rfl
  refine bodyPost_ret (v := ansV code (.slice na nums.length ncap)) (by simp [results, Tryz.results14, go_sem, q0, q1, q2, ansV]) rfl ?_
  have hkf := unhide HKF
  exact unhide HW w9 hkf

set_option maxRecDepth 100000 in
set_option maxHeartbeats 4000000 in
theorem step_4 (e : Nat) (v : Value) (clock : Int) (ps : List (SB × Ser)) (o : OpM) (w : World) (h : ERep w e v clock ps) (hkind : o.kind = 4) (clock' : Int) (xs' : List Ser) (code : Int) (nums : List Int)
    (hc : ∀ w0, ERep w0 e v clock ps → Calls Tryz.prog 20 #[.pointer (some ⟨e, 0, none⟩), o.val] w0 fun r w' => StepPost w0 e v ps clock' xs' code nums r w') :
    Calls Tryz.prog 14 #[.pointer (some ⟨e, 0, none⟩), o.val] w fun r w' => StepPost w e v ps clock' xs' code nums r w' := by
  have h0 : o.cells[0]? = some (.int .i64 o.kind) := rfl
  have hv0 : bigVal (w.alloc (.cells o.cells.toArray 35)) w.heap.size 0 26 = .agg o.cells.toArray := bigVal_new w o.cells 35 26 rfl
  have hh0 : hasBig (w.alloc (.cells o.cells.toArray 35)) w.heap.size 0 26 = true := hasBig_new w o.cells 35 26 rfl
  have hn1 : (o.kind == 1) = false := by simp [hkind]
  have hn2 : (o.kind == 2) = false := by simp [hkind]
  have hn3 : (o.kind == 3) = false := by simp [hkind]
  have hn4 : (o.kind == 4) = true := by simp [hkind]
  have HE := hide h
  have HC := hide hc
  clear h hc hkind
  unfold OpM.val
  go_enter Tryz.func14, Tryz.ntmps14
  go_wp2_with fail
  have hk0 : Keeps (fun _ => False) w ((w.alloc (.cells o.cells.toArray 35)).alloc (.cells #[.int .i64 0, .slice none 0 0, .string ⟨#[]⟩] 41)) := ((Keeps.refl (fun _ => False) w).alloc _).alloc _
  have HO0 := hide (show Blk ((w.alloc (.cells o.cells.toArray 35)).alloc (.cells #[.int .i64 0, .slice none 0 0, .string ⟨#[]⟩] 41)) w.heap.size o.cells 35 from (Blk.new w o.cells 35).alloc _)
  have HR0 := hide (show Blk ((w.alloc (.cells o.cells.toArray 35)).alloc (.cells #[.int .i64 0, .slice none 0 0, .string ⟨#[]⟩] 41)) (w.heap.size + 1) [.int .i64 0, .slice none 0 0, .string noBytes] 41 from Blk.newAt (by simp) [_, _, _] 41)
  have HE0 := hide ((unhide HE).still hk0)
  have HK0 := hide hk0
  clear hk0
  generalize (w.alloc (.cells o.cells.toArray 35)).alloc (.cells #[.int .i64 0, .slice none 0 0, .string ⟨#[]⟩] 41) = w0 at *
  have HLT := hide (show ∀ i, EFoot e v ps i → i < w.heap.size from (unhide HE).lt)
  generalize hob : w.heap.size = ob at *
  have HOB := hide hob
  clear hob
  have hsz0 : ob + 1 < w0.heap.size := (unhide HR0).lt
  refine (unhide HC w0 (unhide HE0)).mono ?_
  rintro r w1 ⟨nv, v', ps', rfl, hE1, hx1, hn1, hk1, hf1, hd1⟩
  obtain ⟨na, ncap, hnv⟩ := nv_form hn1
  subst hnv
  unfold ansV
  have HR1 := hide ((unhide HR0).keeps hk1 (fun h => by have := unhide HLT _ h; omega))
  have HW := hide (show ∀ w9, Keeps (fun i => i = ob + 1) w1 w9 → StepPost w e v ps clock' xs' code nums (.returned (ansV code (.slice na nums.length ncap))) w9 from fun w9 hkf => step_wrap (unhide HK0) (unhide HOB) (unhide HLT) hsz0 hE1 hx1 hn1 hk1 hf1 hd1 hkf)
  clear hE1 hx1 hn1 hk1 hf1 hd1
  have r0 : w1.cell? ⟨ob + 1, 0, none⟩ = some (.int .i64 0) := (unhide HR1).cell rfl
  have r1 : w1.cell? ⟨ob + 1, 1, none⟩ = some (.slice none 0 0) := (unhide HR1).cell rfl
  have r2 : w1.cell? ⟨ob + 1, 2, none⟩ = some (.string noBytes) := (unhide HR1).cell rfl
  have rf := (unhide HR1).frozen
  go_wp2
  have hbf := (((unhide HR1).setCell 0 (.int .i64 code)).setCell 1 (.slice na nums.length ncap)).setCell 2 (.string noBytes)
  have HKF := hide ((((Keeps.refl (fun i => i = ob + 1) w1).setCell (p := ⟨ob + 1, 0, none⟩) (Or.inl rfl) (.int .i64 code)).setCell (p := ⟨ob + 1, 1, none⟩) (Or.inl rfl) (.slice na nums.length ncap)).setCell (p := ⟨ob + 1, 2, none⟩) (Or.inl rfl) (.string noBytes))
  have e9 : (((w1.setCell ⟨ob + 1, 0, none⟩ (.int .i64 code)).setCell ⟨ob + 1, 1, none⟩ (.slice na nums.length ncap)).setCell ⟨ob + 1, 2, none⟩ (.string ⟨#[]⟩)) = (((w1.setCell ⟨ob + 1, 0, none⟩ (.int .i64 code)).setCell ⟨ob + 1, 1, none⟩ (.slice na nums.length ncap)).setCell ⟨ob + 1, 2, none⟩ (.string noBytes)) := rfl
  first | rw [e9] | skip
  generalize (((w1.setCell ⟨ob + 1, 0, none⟩ (.int .i64 code)).setCell ⟨ob + 1, 1, none⟩ (.slice na nums.length ncap)).setCell ⟨ob + 1, 2, none⟩ (.string noBytes)) = w9 at *
  have q0 : w9.cell? ⟨ob + 1, 0, none⟩ = some (.int .i64 code) := hbf.cell rfl
  have q1 : w9.cell? ⟨ob + 1, 1, none⟩ = some (.slice na nums.length ncap) := hbf.cell rfl
  have q2 : w9.cell? ⟨ob + 1, 2, none⟩ = some (.string noBytes) := hbf.cell rfl
  refine bodyPost_ret (v := ansV code (.slice na nums.length ncap)) (by simp [results, Tryz.results14, go_sem, q0, q1, q2, ansV]) rfl ?_
  have hkf := unhide HKF
  exact unhide HW w9 hkf

set_option maxRecDepth 100000 in
set_option maxHeartbeats 4000000 in
theorem step_5 (e : Nat) (v : Value) (clock : Int) (ps : List (SB × Ser)) (o : OpM) (w : World) (h : ERep w e v clock ps) (hkind : o.kind = 5) (clock' : Int) (xs' : List Ser) (code : Int) (nums : List Int)
    (hc : ∀ w0, ERep w0 e v clock ps → Calls Tryz.prog 21 #[.pointer (some ⟨e, 0, none⟩), o.val] w0 fun r w' => StepPost w0 e v ps clock' xs' code nums r w') :
    Calls Tryz.prog 14 #[.pointer (some ⟨e, 0, none⟩), o.val] w fun r w' => StepPost w e v ps clock' xs' code nums r w' := by
  have h0 : o.cells[0]? = some (.int .i64 o.kind) := rfl
  have hv0 : bigVal (w.alloc (.cells o.cells.toArray 35)) w.heap.size 0 26 = .agg o.cells.toArray := bigVal_new w o.cells 35 26 rfl
  have hh0 : hasBig (w.alloc (.cells o.cells.toArray 35)) w.heap.size 0 26 = true := hasBig_new w o.cells 35 26 rfl
  have hn1 : (o.kind == 1) = false := by simp [hkind]
  have hn2 : (o.kind == 2) = false := by simp [hkind]
  have hn3 : (o.kind == 3) = false := by simp [hkind]
  have hn4 : (o.kind == 4) = false := by simp [hkind]
  have hn5 : (o.kind == 5) = true := by simp [hkind]
  have HE := hide h
  have HC := hide hc
  clear h hc hkind
  unfold OpM.val
  go_enter Tryz.func14, Tryz.ntmps14
  go_wp2_with fail
  have hk0 : Keeps (fun _ => False) w ((w.alloc (.cells o.cells.toArray 35)).alloc (.cells #[.int .i64 0, .slice none 0 0, .string ⟨#[]⟩] 41)) := ((Keeps.refl (fun _ => False) w).alloc _).alloc _
  have HO0 := hide (show Blk ((w.alloc (.cells o.cells.toArray 35)).alloc (.cells #[.int .i64 0, .slice none 0 0, .string ⟨#[]⟩] 41)) w.heap.size o.cells 35 from (Blk.new w o.cells 35).alloc _)
  have HR0 := hide (show Blk ((w.alloc (.cells o.cells.toArray 35)).alloc (.cells #[.int .i64 0, .slice none 0 0, .string ⟨#[]⟩] 41)) (w.heap.size + 1) [.int .i64 0, .slice none 0 0, .string noBytes] 41 from Blk.newAt (by simp) [_, _, _] 41)
  have HE0 := hide ((unhide HE).still hk0)
  have HK0 := hide hk0
  clear hk0
  generalize (w.alloc (.cells o.cells.toArray 35)).alloc (.cells #[.int .i64 0, .slice none 0 0, .string ⟨#[]⟩] 41) = w0 at *
  have HLT := hide (show ∀ i, EFoot e v ps i → i < w.heap.size from (unhide HE).lt)
  generalize hob : w.heap.size = ob at *
  have HOB := hide hob
  clear hob
  have hsz0 : ob + 1 < w0.heap.size := (unhide HR0).lt
  refine (unhide HC w0 (unhide HE0)).mono ?_
  rintro r w1 ⟨nv, v', ps', rfl, hE1, hx1, hn1, hk1, hf1, hd1⟩
  obtain ⟨na, ncap, hnv⟩ := nv_form hn1
  subst hnv
  unfold ansV
  have HR1 := hide ((unhide HR0).keeps hk1 (fun h => by have := unhide HLT _ h; omega))
  have HW := hide (show ∀ w9, Keeps (fun i => i = ob + 1) w1 w9 → StepPost w e v ps clock' xs' code nums (.returned (ansV code (.slice na nums.length ncap))) w9 from fun w9 hkf => step_wrap (unhide HK0) (unhide HOB) (unhide HLT) hsz0 hE1 hx1 hn1 hk1 hf1 hd1 hkf)
  clear hE1 hx1 hn1 hk1 hf1 hd1
  have r0 : w1.cell? ⟨ob + 1, 0, none⟩ = some (.int .i64 0) := (unhide HR1).cell rfl
  have r1 : w1.cell? ⟨ob + 1, 1, none⟩ = some (.slice none 0 0) := (unhide HR1).cell rfl
  have r2 : w1.cell? ⟨ob + 1, 2, none⟩ = some (.string noBytes) := (unhide HR1).cell rfl
  have rf := (unhide HR1).frozen
  go_wp2
  have hbf := (((unhide HR1).setCell 0 (.int .i64 code)).setCell 1 (.slice na nums.length ncap)).setCell 2 (.string noBytes)
  have HKF := hide ((((Keeps.refl (fun i => i = ob + 1) w1).setCell (p := ⟨ob + 1, 0, none⟩) (Or.inl rfl) (.int .i64 code)).setCell (p := ⟨ob + 1, 1, none⟩) (Or.inl rfl) (.slice na nums.length ncap)).setCell (p := ⟨ob + 1, 2, none⟩) (Or.inl rfl) (.string noBytes))
  have e9 : (((w1.setCell ⟨ob + 1, 0, none⟩ (.int .i64 code)).setCell ⟨ob + 1, 1, none⟩ (.slice na nums.length ncap)).setCell ⟨ob + 1, 2, none⟩ (.string ⟨#[]⟩)) = (((w1.setCell ⟨ob + 1, 0, none⟩ (.int .i64 code)).setCell ⟨ob + 1, 1, none⟩ (.slice na nums.length ncap)).setCell ⟨ob + 1, 2, none⟩ (.string noBytes)) := rfl
  first | rw [e9] | skip
  generalize (((w1.setCell ⟨ob + 1, 0, none⟩ (.int .i64 code)).setCell ⟨ob + 1, 1, none⟩ (.slice na nums.length ncap)).setCell ⟨ob + 1, 2, none⟩ (.string noBytes)) = w9 at *
  have q0 : w9.cell? ⟨ob + 1, 0, none⟩ = some (.int .i64 code) := hbf.cell rfl
  have q1 : w9.cell? ⟨ob + 1, 1, none⟩ = some (.slice na nums.length ncap) := hbf.cell rfl
  have q2 : w9.cell? ⟨ob + 1, 2, none⟩ = some (.string noBytes) := hbf.cell rfl
  refine bodyPost_ret (v := ansV code (.slice na nums.length ncap)) (by simp [results, Tryz.results14, go_sem, q0, q1, q2, ansV]) rfl ?_
  have hkf := unhide HKF
  exact unhide HW w9 hkf

set_option maxRecDepth 100000 in
set_option maxHeartbeats 4000000 in
theorem step_no (e : Nat) (v : Value) (clock : Int) (ps : List (SB × Ser)) (o : OpM) (w : World) (h : ERep w e v clock ps) (hkind : o.kind < 1 ∨ 5 < o.kind) :
    Calls Tryz.prog 14 #[.pointer (some ⟨e, 0, none⟩), o.val] w fun r w' => StepPost w e v ps clock (ps.map (·.2)) 1 [] r w' := by
  have h0 : o.cells[0]? = some (.int .i64 o.kind) := rfl
  have hn1 : (o.kind == 1) = false := by simp; omega
  have hn2 : (o.kind == 2) = false := by simp; omega
  have hn3 : (o.kind == 3) = false := by simp; omega
  have hn4 : (o.kind == 4) = false := by simp; omega
  have hn5 : (o.kind == 5) = false := by simp; omega
  have HE := hide h
  clear h hkind
  unfold OpM.val
  go_enter Tryz.func14, Tryz.ntmps14
  go_wp2_with fail
  have hk0 : Keeps (fun _ => False) w ((w.alloc (.cells o.cells.toArray 35)).alloc (.cells #[.int .i64 0, .slice none 0 0, .string ⟨#[]⟩] 41)) := ((Keeps.refl (fun _ => False) w).alloc _).alloc _
  have HO0 := hide (show Blk ((w.alloc (.cells o.cells.toArray 35)).alloc (.cells #[.int .i64 0, .slice none 0 0, .string ⟨#[]⟩] 41)) w.heap.size o.cells 35 from (Blk.new w o.cells 35).alloc _)
  have HR0 := hide (show Blk ((w.alloc (.cells o.cells.toArray 35)).alloc (.cells #[.int .i64 0, .slice none 0 0, .string ⟨#[]⟩] 41)) (w.heap.size + 1) [.int .i64 0, .slice none 0 0, .string noBytes] 41 from Blk.newAt (by simp) [_, _, _] 41)
  have HE0 := hide ((unhide HE).still hk0)
  have HK0 := hide hk0
  clear hk0
  generalize (w.alloc (.cells o.cells.toArray 35)).alloc (.cells #[.int .i64 0, .slice none 0 0, .string ⟨#[]⟩] 41) = w0 at *
  have HLT := hide (show ∀ i, EFoot e v ps i → i < w.heap.size from (unhide HE).lt)
  generalize hob : w.heap.size = ob at *
  have HOB := hide hob
  clear hob
  have hsz0 : ob + 1 < w0.heap.size := (unhide HR0).lt
  refine (no_any 1 w0).mono ?_
  rintro r w1 ⟨rfl, hk1⟩
  unfold ansV
  have HR1 := hide ((unhide HR0).keeps hk1 (fun h => h))
  have HK1 := hide ((unhide HK0).then hk1)
  clear hk1
  have r0 : w1.cell? ⟨ob + 1, 0, none⟩ = some (.int .i64 0) := (unhide HR1).cell rfl
  have r1 : w1.cell? ⟨ob + 1, 1, none⟩ = some (.slice none 0 0) := (unhide HR1).cell rfl
  have r2 : w1.cell? ⟨ob + 1, 2, none⟩ = some (.string noBytes) := (unhide HR1).cell rfl
  have rf := (unhide HR1).frozen
  go_wp2
  have hbf := (((unhide HR1).setCell 0 (.int .i64 1)).setCell 1 (.slice none 0 0)).setCell 2 (.string noBytes)
  have HKF := hide ((((Keeps.refl (fun i => i = ob + 1) w1).setCell (p := ⟨ob + 1, 0, none⟩) (Or.inl rfl) (.int .i64 1)).setCell (p := ⟨ob + 1, 1, none⟩) (Or.inl rfl) (.slice none 0 0)).setCell (p := ⟨ob + 1, 2, none⟩) (Or.inl rfl) (.string noBytes))
  have e9 : (((w1.setCell ⟨ob + 1, 0, none⟩ (.int .i64 1)).setCell ⟨ob + 1, 1, none⟩ (.slice none 0 0)).setCell ⟨ob + 1, 2, none⟩ (.string ⟨#[]⟩)) = (((w1.setCell ⟨ob + 1, 0, none⟩ (.int .i64 1)).setCell ⟨ob + 1, 1, none⟩ (.slice none 0 0)).setCell ⟨ob + 1, 2, none⟩ (.string noBytes)) := rfl
  first | rw [e9] | skip
  generalize (((w1.setCell ⟨ob + 1, 0, none⟩ (.int .i64 1)).setCell ⟨ob + 1, 1, none⟩ (.slice none 0 0)).setCell ⟨ob + 1, 2, none⟩ (.string noBytes)) = w9 at *
  have q0 : w9.cell? ⟨ob + 1, 0, none⟩ = some (.int .i64 1) := hbf.cell rfl
  have q1 : w9.cell? ⟨ob + 1, 1, none⟩ = some (.slice none 0 0) := hbf.cell rfl
  have q2 : w9.cell? ⟨ob + 1, 2, none⟩ = some (.string noBytes) := hbf.cell rfl
  refine bodyPost_ret (v := ansV 1 (.slice none 0 0)) (by simp [results, Tryz.results14, go_sem, q0, q1, q2, ansV]) rfl ?_
  have hkf := unhide HKF
  have hob := unhide HOB
  have hkk : Keeps (fun _ => False) w w9 := (unhide HK1).trans hkf (fun i hi hlt => by omega)
  exact step_still (unhide HE) hkk (World.ownsRow_nil _ _ _ _)

end Go.Proofs.YtjhaihbjhikhlaaGreat
