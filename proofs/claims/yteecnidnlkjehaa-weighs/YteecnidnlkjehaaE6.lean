import Derived.Test.YteecnidnlkjehaaE5
namespace Go.Proofs.Yteecnidnlkjehaa
open Go.RowKit
attribute [local go_sem ↓] execOp_load38 execOp_load40
attribute [local go_sem] run_load38 run_load40 bigVal_drew hasBig_drew bigVal_ne hasBig_ne bigVal_alloc hasBig_alloc bigVal_new hasBig_newB

def OpM.item (o : OpM) : It := ⟨o.a, o.b, o.c, 0⟩

set_option maxRecDepth 100000 in
set_option maxHeartbeats 4000000 in
theorem add_none (n : Int) (e : Nat) (v : Value) (clock : Int) (ps : List (SB × Ser)) (o : OpM) (w : World) (h : ERep w e v clock ps) (hi : EInv n clock (ps.map (·.2))) (hf : findP ps o.id = none) :
    Calls Try.prog 26 #[.pointer (some ⟨e, 0, none⟩), o.val] w fun r w' => StepPost w e v ps clock (ps.map (·.2)) 2 [] r w' := by
  have h1 : o.cells[1]? = some (.int .i64 o.id) := rfl
  have HE := hide h
  have HI := hide hi
  have hl : ps.length ≤ 1000 := by have := hi.six; rw [List.length_map] at this; omega
  have HF := hide hf
  clear h hi hf
  unfold OpM.val
  go_enter Try.func26, Try.ntmps26
  go_wp2_with fail
  have hk0 : Keeps (fun _ => False) w ((w.alloc (.cells o.cells.toArray 40)).alloc (.cells #[.int .i64 0, .slice none 0 0, .string ⟨#[]⟩] 33)) := ((Keeps.refl (fun _ => False) w).alloc _).alloc _
  have HO0 := hide (show Blk ((w.alloc (.cells o.cells.toArray 40)).alloc (.cells #[.int .i64 0, .slice none 0 0, .string ⟨#[]⟩] 33)) w.heap.size o.cells 40 from (Blk.new w o.cells 40).alloc _)
  have HR0 := hide (show Blk ((w.alloc (.cells o.cells.toArray 40)).alloc (.cells #[.int .i64 0, .slice none 0 0, .string ⟨#[]⟩] 33)) (w.heap.size + 1) [.int .i64 0, .slice none 0 0, .string noBytes] 33 from Blk.newAt (by simp) [_, _, _] 33)
  have HE0 := hide ((unhide HE).still hk0)
  have HK0 := hide hk0
  clear hk0
  generalize (w.alloc (.cells o.cells.toArray 40)).alloc (.cells #[.int .i64 0, .slice none 0 0, .string ⟨#[]⟩] 33) = w0 at *
  have HLT := hide (show ∀ i, EFoot e v ps i → i < w.heap.size from (unhide HE).lt)
  generalize hob : w.heap.size = ob at *
  have HOB := hide hob
  clear hob
  have hsz0 : ob + 1 < w0.heap.size := (unhide HR0).lt
  refine (find_any e v clock o.id ps w0 (unhide HE0) hl).mono ?_
  rintro r w1 ⟨rfl, hw1⟩
  rw [hw1]
  clear hw1 w1
  rw [unhide HF]
  unfold ptrOf
  go_wp2_with fail
  refine (no_any 2 w0).mono ?_
  rintro r w1 ⟨rfl, hk1⟩
  unfold ansV
  have HR1 := hide ((unhide HR0).keeps hk1 (fun h => h))
  have HK1 := hide ((unhide HK0).then hk1)
  clear hk1
  have r0 : w1.cell? ⟨ob + 1, 0, none⟩ = some (.int .i64 0) := (unhide HR1).cell rfl
  have r1 : w1.cell? ⟨ob + 1, 1, none⟩ = some (.slice none 0 0) := (unhide HR1).cell rfl
  have r2 : w1.cell? ⟨ob + 1, 2, none⟩ = some (.string noBytes) := (unhide HR1).cell rfl
  have rf := (unhide HR1).frozen
  go_wp2
  have hbf := (((unhide HR1).setCell 0 (.int .i64 2)).setCell 1 (.slice none 0 0)).setCell 2 (.string noBytes)
  have HKF := hide ((((Keeps.refl (fun i => i = ob + 1) w1).setCell (p := ⟨ob + 1, 0, none⟩) (Or.inl rfl) (.int .i64 2)).setCell (p := ⟨ob + 1, 1, none⟩) (Or.inl rfl) (.slice none 0 0)).setCell (p := ⟨ob + 1, 2, none⟩) (Or.inl rfl) (.string noBytes))
  have e9 : (((w1.setCell ⟨ob + 1, 0, none⟩ (.int .i64 2)).setCell ⟨ob + 1, 1, none⟩ (.slice none 0 0)).setCell ⟨ob + 1, 2, none⟩ (.string ⟨#[]⟩)) = (((w1.setCell ⟨ob + 1, 0, none⟩ (.int .i64 2)).setCell ⟨ob + 1, 1, none⟩ (.slice none 0 0)).setCell ⟨ob + 1, 2, none⟩ (.string noBytes)) := rfl
  first | rw [e9] | skip
  generalize (((w1.setCell ⟨ob + 1, 0, none⟩ (.int .i64 2)).setCell ⟨ob + 1, 1, none⟩ (.slice none 0 0)).setCell ⟨ob + 1, 2, none⟩ (.string noBytes)) = w9 at *
  have q0 : w9.cell? ⟨ob + 1, 0, none⟩ = some (.int .i64 2) := hbf.cell rfl
  have q1 : w9.cell? ⟨ob + 1, 1, none⟩ = some (.slice none 0 0) := hbf.cell rfl
  have q2 : w9.cell? ⟨ob + 1, 2, none⟩ = some (.string noBytes) := hbf.cell rfl
  refine bodyPost_ret (v := ansV 2 (.slice none 0 0)) (by simp [results, Try.results26, go_sem, q0, q1, q2, ansV]) rfl ?_
  have hkf := unhide HKF
  have hob := unhide HOB
  have hkk : Keeps (fun _ => False) w w9 := (unhide HK1).trans hkf (fun i hi hlt => by omega)
  exact step_still (unhide HE) hkk (World.ownsRow_nil _ _ _ _)

set_option maxRecDepth 100000 in
set_option maxHeartbeats 4000000 in
theorem add_yes (n : Int) (e : Nat) (v : Value) (clock : Int) (ps : List (SB × Ser)) (o : OpM) (w : World) (h : ERep w e v clock ps) (hi : EInv n clock (ps.map (·.2))) (p : SB × Ser) (hf : findP ps o.id = some p) (hc : refE p.2 clock o.item = 0) (hn : n ≤ 1152921504606846976) :
    Calls Try.prog 26 #[.pointer (some ⟨e, 0, none⟩), o.val] w fun r w' => StepPost w e v ps clock (updS (ps.map (·.2)) o.id (accS p.2 o.item)) 0 [p.2.acc + 1] r w' := by
  have hmem : p ∈ ps := List.mem_of_find?_eq_some hf
  have HM := hide hmem
  have HC := hide (show refE p.2 clock ⟨o.a, o.b, o.c, 0⟩ = 0 from hc)
  clear hmem hc
  have h1 : o.cells[1]? = some (.int .i64 o.id) := rfl
  have HE := hide h
  have HI := hide hi
  have hl : ps.length ≤ 1000 := by have := hi.six; rw [List.length_map] at this; omega
  have HF := hide hf
  clear h hi hf
  unfold OpM.val
  go_enter Try.func26, Try.ntmps26
  go_wp2_with fail
  have hk0 : Keeps (fun _ => False) w ((w.alloc (.cells o.cells.toArray 40)).alloc (.cells #[.int .i64 0, .slice none 0 0, .string ⟨#[]⟩] 33)) := ((Keeps.refl (fun _ => False) w).alloc _).alloc _
  have HO0 := hide (show Blk ((w.alloc (.cells o.cells.toArray 40)).alloc (.cells #[.int .i64 0, .slice none 0 0, .string ⟨#[]⟩] 33)) w.heap.size o.cells 40 from (Blk.new w o.cells 40).alloc _)
  have HR0 := hide (show Blk ((w.alloc (.cells o.cells.toArray 40)).alloc (.cells #[.int .i64 0, .slice none 0 0, .string ⟨#[]⟩] 33)) (w.heap.size + 1) [.int .i64 0, .slice none 0 0, .string noBytes] 33 from Blk.newAt (by simp) [_, _, _] 33)
  have HE0 := hide ((unhide HE).still hk0)
  have HK0 := hide hk0
  clear hk0
  generalize (w.alloc (.cells o.cells.toArray 40)).alloc (.cells #[.int .i64 0, .slice none 0 0, .string ⟨#[]⟩] 33) = w0 at *
  have HLT := hide (show ∀ i, EFoot e v ps i → i < w.heap.size from (unhide HE).lt)
  generalize hob : w.heap.size = ob at *
  have HOB := hide hob
  clear hob
  have hsz0 : ob + 1 < w0.heap.size := (unhide HR0).lt
  refine (find_any e v clock o.id ps w0 (unhide HE0) hl).mono ?_
  rintro r w1 ⟨rfl, hw1⟩
  rw [hw1]
  clear hw1 w1
  rw [unhide HF]
  unfold ptrOf
  have HS0 := hide ((unhide HE0).reps p (unhide HM))
  have HSI := hide ((unhide HI).sers p.2 (List.mem_map_of_mem (unhide HM)))
  have cl0 := (unhide HI).c0
  have cl1 := (unhide HI).c1
  have hoa : w0.cell? ⟨ob, 2, none⟩ = some (.int .i64 o.a) := (unhide HO0).cell rfl
  have hobb : w0.cell? ⟨ob, 3, none⟩ = some (.int .i64 o.b) := (unhide HO0).cell rfl
  have hoc : w0.cell? ⟨ob, 4, none⟩ = some (.int .i64 o.c) := (unhide HO0).cell rfl
  go_wp2_with fail
  have hkx : Keeps (fun _ => False) w0 (w0.alloc (.cells #[.int .i64 o.a, .int .i64 o.b, .int .i64 o.c, .int .i64 0] 72)) := (Keeps.refl (fun _ => False) w0).alloc _
  have HX1 := hide (Blk.new w0 [.int .i64 o.a, .int .i64 o.b, .int .i64 o.c, .int .i64 0] 72)
  have HE1 := hide ((unhide HE0).still hkx)
  have HS1 := hide ((unhide HS0).still hkx)
  have HR1 := hide ((unhide HR0).keeps hkx (fun h => h))
  have HK1 := hide ((unhide HK0).then hkx)
  clear hkx HE0 HS0 HR0 HK0 HO0 hoa hobb hoc
  generalize w0.alloc (.cells #[.int .i64 o.a, .int .i64 o.b, .int .i64 o.c, .int .i64 0] 72) = w1 at *
  generalize hxb : w0.heap.size = xb at *
  clear hxb
  have hx0 : w1.cell? ⟨xb, 0, none⟩ = some (.int .i64 o.a) := (unhide HX1).cell rfl
  have hx1 : w1.cell? ⟨xb, 1, none⟩ = some (.int .i64 o.b) := (unhide HX1).cell rfl
  have hx2 : w1.cell? ⟨xb, 2, none⟩ = some (.int .i64 o.c) := (unhide HX1).cell rfl
  have hx3 : w1.cell? ⟨xb, 3, none⟩ = some (.int .i64 0) := (unhide HX1).cell rfl
  have hce : w1.cell? ⟨e, 0, none⟩ = some (.int .i64 clock) := (unhide HE1).blk.cell rfl
  go_region_held3 (fun w' => w'.cell? ⟨e, 0, none⟩ = some (.int .i64 clock) ∧ w'.cell? ⟨xb, 0, none⟩ = some (.int .i64 o.a) ∧ w'.cell? ⟨xb, 1, none⟩ = some (.int .i64 o.b) ∧ w'.cell? ⟨xb, 2, none⟩ = some (.int .i64 o.c) ∧ w'.cell? ⟨xb, 3, none⟩ = some (.int .i64 0))
    (first | (simp [*]; done) | (go_split_ands; exact ⟨hk2.cell (by assumption) (fun h => h), hk2.cell (by assumption) (fun h => h), hk2.cell (by assumption) (fun h => h), hk2.cell (by assumption) (fun h => h), hk2.cell (by assumption) (fun h => h)⟩))
    (first | (go_at_call 42; refine (refusal_any n p.1 p.2 ⟨o.a, o.b, o.c, 0⟩ clock _ (by exact (unhide HS1).still ((Keeps.refl (fun _ => False) w1).drew)) (unhide HSI) cl0 cl1).mono ?_; rintro r w2 ⟨rfl, hk2⟩))
  have hk2d : Keeps (fun _ => False) w1 w2 := ((Keeps.refl (fun _ => False) w1).drew).then hk2
  have HX2 := hide ((unhide HX1).keeps hk2d (fun h => h))
  have HE2 := hide ((unhide HE1).still hk2d)
  have HS2 := hide ((unhide HS1).still hk2d)
  have HR2 := hide ((unhide HR1).keeps hk2d (fun h => h))
  have HK2 := hide ((unhide HK1).then hk2d)
  clear hk2 hk2d HX1 HE1 HS1 HR1 HK1 hx0 hx1 hx2 hx3 hce
  rw [unhide HC]
  have hx0 : w2.cell? ⟨xb, 0, none⟩ = some (.int .i64 o.a) := (unhide HX2).cell rfl
  have hx1 : w2.cell? ⟨xb, 1, none⟩ = some (.int .i64 o.b) := (unhide HX2).cell rfl
  have hx2 : w2.cell? ⟨xb, 2, none⟩ = some (.int .i64 o.c) := (unhide HX2).cell rfl
  have hx3 : w2.cell? ⟨xb, 3, none⟩ = some (.int .i64 0) := (unhide HX2).cell rfl
  go_wp2_with fail
  refine (accept_any n p.1 p.2 ⟨o.a, o.b, o.c, 0⟩ w2 (unhide HS2) (unhide HSI) (by omega)).mono ?_
  rintro r w3 ⟨rfl, b', hs3, hn3, hk3⟩
  have hpf : ∀ i, p.1.foot p.2.k i → i < ob := fun i hi => unhide HLT i (.inr (.inr ⟨p, unhide HM, hi⟩))
  have HR3 := hide ((unhide HR2).keeps hk3 (fun h => by have := hpf _ h; omega))
  have HS3 := hide hs3
  have HN3 := hide hn3
  have HK3 := hide hk3
  have hsz2 : ob ≤ w2.heap.size := by have h1 := (unhide HK2).size; have h2 := unhide HOB; omega
  have hsz2' : ob + 1 < w2.heap.size := (unhide HR2).lt
  have hsz3 : w2.heap.size ≤ w3.heap.size := hk3.size
  have hr3 : ob + 1 < w3.heap.size := (unhide HR3).lt
  have r0 : w3.cell? ⟨ob + 1, 0, none⟩ = some (.int .i64 0) := (unhide HR3).cell rfl
  have r1 : w3.cell? ⟨ob + 1, 1, none⟩ = some (.slice none 0 0) := (unhide HR3).cell rfl
  have r2 : w3.cell? ⟨ob + 1, 2, none⟩ = some (.string noBytes) := (unhide HR3).cell rfl
  have rf := (unhide HR3).frozen
  have hrn : ob + 1 ≠ w3.heap.size := by omega
  have HPF := hide hpf
  clear hs3 hn3 hk3 hpf hx0 hx1 hx2 hx3 HX2
  go_wp2
  have hbf := ((((unhide HR3).setCell 0 (.int .i64 0)).setCell 1 (.slice (some ⟨w3.heap.size, 0, none⟩) 1 1)).setCell 2 (.string noBytes)).alloc (.cells #[.int .i64 (p.2.acc + 1)] 3)
  have hkF : Keeps (fun i => i = ob + 1) w3 ((((w3.setCell ⟨ob + 1, 0, none⟩ (.int .i64 0)).setCell ⟨ob + 1, 1, none⟩ (.slice (some ⟨w3.heap.size, 0, none⟩) 1 1)).setCell ⟨ob + 1, 2, none⟩ (.string noBytes)).alloc (.cells #[.int .i64 (p.2.acc + 1)] 3)) :=
    ((((Keeps.refl (fun i => i = ob + 1) w3).setCell (p := ⟨ob + 1, 0, none⟩) (Or.inl rfl) _).setCell (p := ⟨ob + 1, 1, none⟩) (Or.inl rfl) _).setCell (p := ⟨ob + 1, 2, none⟩) (Or.inl rfl) _).alloc _
  have hbn : Blk ((((w3.setCell ⟨ob + 1, 0, none⟩ (.int .i64 0)).setCell ⟨ob + 1, 1, none⟩ (.slice (some ⟨w3.heap.size, 0, none⟩) 1 1)).setCell ⟨ob + 1, 2, none⟩ (.string noBytes)).alloc (.cells #[.int .i64 (p.2.acc + 1)] 3)) w3.heap.size [.int .i64 (p.2.acc + 1)] 3 := Blk.newAt (by simp) [_] 3
  have e9 : ((((w3.setCell ⟨ob + 1, 0, none⟩ (.int .i64 0)).setCell ⟨ob + 1, 1, none⟩ (.slice (some ⟨w3.heap.size, 0, none⟩) 1 1)).setCell ⟨ob + 1, 2, none⟩ (.string ⟨#[]⟩)).alloc (.cells #[.int .i64 (p.2.acc + 1)] 3)) = ((((w3.setCell ⟨ob + 1, 0, none⟩ (.int .i64 0)).setCell ⟨ob + 1, 1, none⟩ (.slice (some ⟨w3.heap.size, 0, none⟩) 1 1)).setCell ⟨ob + 1, 2, none⟩ (.string noBytes)).alloc (.cells #[.int .i64 (p.2.acc + 1)] 3)) := rfl
  rw [e9]
  clear e9
  generalize ((((w3.setCell ⟨ob + 1, 0, none⟩ (.int .i64 0)).setCell ⟨ob + 1, 1, none⟩ (.slice (some ⟨w3.heap.size, 0, none⟩) 1 1)).setCell ⟨ob + 1, 2, none⟩ (.string noBytes)).alloc (.cells #[.int .i64 (p.2.acc + 1)] 3)) = w9 at *
  have q0 : w9.cell? ⟨ob + 1, 0, none⟩ = some (.int .i64 0) := hbf.cell rfl
  have q1 : w9.cell? ⟨ob + 1, 1, none⟩ = some (.slice (some ⟨w3.heap.size, 0, none⟩) 1 1) := hbf.cell rfl
  have q2 : w9.cell? ⟨ob + 1, 2, none⟩ = some (.string noBytes) := hbf.cell rfl
  refine bodyPost_ret (v := ansV 0 (.slice (some ⟨w3.heap.size, 0, none⟩) 1 1)) (by simp [results, Try.results26, go_sem, q0, q1, q2, ansV]) rfl ?_
  obtain ⟨l1, l2, hps, hupd⟩ := findP_some (unhide HF)
  have hob := unhide HOB
  have hE2 := unhide HE2
  have hLT := unhide HLT
  have hK2 := unhide HK2
  have hPF := unhide HPF
  rw [hupd]
  subst hps
  have hE3 : ERep w3 e v clock (l1 ++ (b', accS p.2 ⟨o.a, o.b, o.c, 0⟩) :: l2) := hE2.one (unhide HK3) (unhide HS3) rfl (unhide HN3)
  have hF3 : ∀ i, EFoot e v (l1 ++ (b', accS p.2 ⟨o.a, o.b, o.c, 0⟩) :: l2) i → EFoot e v (l1 ++ p :: l2) i ∨ w2.heap.size ≤ i := fun i hi => EFoot.one (w := w2) (x' := accS p.2 ⟨o.a, o.b, o.c, 0⟩) rfl (unhide HN3) i hi
  refine ⟨.slice (some ⟨w3.heap.size, 0, none⟩) 1 1, v, l1 ++ (b', accS p.2 ⟨o.a, o.b, o.c, 0⟩) :: l2, rfl, hE3.keeps hkF (fun i hi h => ?_), ?_, ⟨rfl, .inr ⟨w3.heap.size, 1, _, rfl, by omega, hbn, by simp, by unfold maxLen; omega, rfl, rfl⟩⟩, ?_, ?_, ?_⟩
  · rcases hF3 i hi with h1 | h1
    · have := hLT i h1; omega
    · omega
  · simp only [List.map_append, List.map_cons]; rfl
  · refine ((hK2.mono (M' := EFoot e v (l1 ++ p :: l2)) (fun _ _ h => h.elim)).trans (unhide HK3) (fun i hi _ => .inr (.inr ⟨p, by simp, hi⟩))).trans hkF (fun i hi hlt => ?_)
    omega
  · intro i hi
    rcases hF3 i hi with h1 | h1
    · exact .inl h1
    · exact .inr (by omega)
  · intro i hi hf
    have h1 : w3.heap.size = i := by simpa [Value.ownBlock] using hi
    have h2 := hE3.lt i hf
    omega

end Go.Proofs.Yteecnidnlkjehaa
