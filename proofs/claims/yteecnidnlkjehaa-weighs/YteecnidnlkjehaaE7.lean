import Derived.Test.YteecnidnlkjehaaE6
namespace Go.Proofs.Yteecnidnlkjehaa
open Go.RowKit
attribute [local go_sem ↓] execOp_load38 execOp_load40
attribute [local go_sem] run_load38 run_load40 bigVal_drew hasBig_drew bigVal_ne hasBig_ne bigVal_alloc hasBig_alloc bigVal_new hasBig_newB

set_option maxRecDepth 100000 in
set_option maxHeartbeats 4000000 in
theorem add_no (n : Int) (e : Nat) (v : Value) (clock : Int) (ps : List (SB × Ser)) (o : OpM) (w : World) (h : ERep w e v clock ps) (hi : EInv n clock (ps.map (·.2))) (p : SB × Ser) (cd : Nat) (hf : findP ps o.id = some p) (hc : refE p.2 clock o.item = cd) (hc0 : cd ≠ 0) (hn : n ≤ 1152921504606846976) :
    Calls Try.prog 26 #[.pointer (some ⟨e, 0, none⟩), o.val] w fun r w' => StepPost w e v ps clock (updS (ps.map (·.2)) o.id (refS p.2 cd)) cd [] r w' := by
  have hmem : p ∈ ps := List.mem_of_find?_eq_some hf
  have HM := hide hmem
  have HC := hide (show refE p.2 clock ⟨o.a, o.b, o.c, 0⟩ = cd from hc)
  have hc12 : cd < 12 := by have := (refE_range p.2 clock o.item).2; rw [hc] at this; omega
  clear hmem hc
  have h1 : o.cells[1]? = some (.int .i64 o.id) := rfl
  have HE := hide h
  have HI := hide hi
  have hl : ps.length ≤ 1000 := by have := hi.six; rw [List.length_map] at this; omega
  have HF := hide hf
  clear h hi hf
  unfold OpM.val
  go_enter Try.func26, Try.ntmps26
  go_wp2_with fail
  have hk0 : Keeps (fun _ => False) w ((w.alloc (.cells o.cells.toArray 40)).alloc (.cells #[.int .i64 0, .slice none 0 0, .string ⟨#[]⟩] 33)) := ((Keeps.refl (fun _ => False) w).alloc _).alloc _
  have HO0 := hide (show Blk ((w.alloc (.cells o.cells.toArray 40)).alloc (.cells #[.int .i64 0, .slice none 0 0, .string ⟨#[]⟩] 33)) w.heap.size o.cells 40 from (Blk.new w o.cells 40).alloc _)
  have HR0 := hide (show Blk ((w.alloc (.cells o.cells.toArray 40)).alloc (.cells #[.int .i64 0, .slice none 0 0, .string ⟨#[]⟩] 33)) (w.heap.size + 1) [.int .i64 0, .slice none 0 0, .string noBytes] 33 from Blk.newAt (by simp) [_, _, _] 33)
  have HE0 := hide ((unhide HE).still hk0)
  have HK0 := hide hk0
  clear hk0
  generalize (w.alloc (.cells o.cells.toArray 40)).alloc (.cells #[.int .i64 0, .slice none 0 0, .string ⟨#[]⟩] 33) = w0 at *
  have HLT := hide (show ∀ i, EFoot e v ps i → i < w.heap.size from (unhide HE).lt)
  generalize hob : w.heap.size = ob at *
  have HOB := hide hob
  clear hob
  have hsz0 : ob + 1 < w0.heap.size := (unhide HR0).lt
  refine (find_any e v clock o.id ps w0 (unhide HE0) hl).mono ?_
  rintro r w1 ⟨rfl, hw1⟩
  rw [hw1]
  clear hw1 w1
  rw [unhide HF]
  unfold ptrOf
  have HS0 := hide ((unhide HE0).reps p (unhide HM))
  have HSI := hide ((unhide HI).sers p.2 (List.mem_map_of_mem (unhide HM)))
  have cl0 := (unhide HI).c0
  have cl1 := (unhide HI).c1
  have hoa : w0.cell? ⟨ob, 2, none⟩ = some (.int .i64 o.a) := (unhide HO0).cell rfl
  have hobb : w0.cell? ⟨ob, 3, none⟩ = some (.int .i64 o.b) := (unhide HO0).cell rfl
  have hoc : w0.cell? ⟨ob, 4, none⟩ = some (.int .i64 o.c) := (unhide HO0).cell rfl
  go_wp2_with fail
  have hkx : Keeps (fun _ => False) w0 (w0.alloc (.cells #[.int .i64 o.a, .int .i64 o.b, .int .i64 o.c, .int .i64 0] 72)) := (Keeps.refl (fun _ => False) w0).alloc _
  have HX1 := hide (Blk.new w0 [.int .i64 o.a, .int .i64 o.b, .int .i64 o.c, .int .i64 0] 72)
  have HE1 := hide ((unhide HE0).still hkx)
  have HS1 := hide ((unhide HS0).still hkx)
  have HR1 := hide ((unhide HR0).keeps hkx (fun h => h))
  have HK1 := hide ((unhide HK0).then hkx)
  clear hkx HE0 HS0 HR0 HK0 HO0 hoa hobb hoc
  generalize w0.alloc (.cells #[.int .i64 o.a, .int .i64 o.b, .int .i64 o.c, .int .i64 0] 72) = w1 at *
  generalize hxb : w0.heap.size = xb at *
  clear hxb
  have hx0 : w1.cell? ⟨xb, 0, none⟩ = some (.int .i64 o.a) := (unhide HX1).cell rfl
  have hx1 : w1.cell? ⟨xb, 1, none⟩ = some (.int .i64 o.b) := (unhide HX1).cell rfl
  have hx2 : w1.cell? ⟨xb, 2, none⟩ = some (.int .i64 o.c) := (unhide HX1).cell rfl
  have hx3 : w1.cell? ⟨xb, 3, none⟩ = some (.int .i64 0) := (unhide HX1).cell rfl
  have hce : w1.cell? ⟨e, 0, none⟩ = some (.int .i64 clock) := (unhide HE1).blk.cell rfl
  go_region_held3 (fun w' => w'.cell? ⟨e, 0, none⟩ = some (.int .i64 clock) ∧ w'.cell? ⟨xb, 0, none⟩ = some (.int .i64 o.a) ∧ w'.cell? ⟨xb, 1, none⟩ = some (.int .i64 o.b) ∧ w'.cell? ⟨xb, 2, none⟩ = some (.int .i64 o.c) ∧ w'.cell? ⟨xb, 3, none⟩ = some (.int .i64 0))
    (first | (simp [*]; done) | (go_split_ands; exact ⟨hk2.cell (by assumption) (fun h => h), hk2.cell (by assumption) (fun h => h), hk2.cell (by assumption) (fun h => h), hk2.cell (by assumption) (fun h => h), hk2.cell (by assumption) (fun h => h)⟩))
    (first | (go_at_call 42; refine (refusal_any n p.1 p.2 ⟨o.a, o.b, o.c, 0⟩ clock _ (by exact (unhide HS1).still ((Keeps.refl (fun _ => False) w1).drew)) (unhide HSI) cl0 cl1).mono ?_; rintro r w2 ⟨rfl, hk2⟩))
  have hk2d : Keeps (fun _ => False) w1 w2 := ((Keeps.refl (fun _ => False) w1).drew).then hk2
  have HX2 := hide ((unhide HX1).keeps hk2d (fun h => h))
  have HE2 := hide ((unhide HE1).still hk2d)
  have HS2 := hide ((unhide HS1).still hk2d)
  have HR2 := hide ((unhide HR1).keeps hk2d (fun h => h))
  have HK2 := hide ((unhide HK1).then hk2d)
  clear hk2 hk2d HX1 HE1 HS1 HR1 HK1 hx0 hx1 hx2 hx3 hce
  rw [unhide HC]
  have hce := ser_ref p.1 p.2 (unhide HSI).reflen cd hc12
  have hcr : w2.cell? ⟨p.1.s, 29 + cd, none⟩ = some (.int .i64 (refAt p.2.ref cd)) := (unhide HS2).blk.cell hce
  have hfs := (unhide HS2).blk.frozen
  have hrb : 0 ≤ refAt p.2.ref cd ∧ refAt p.2.ref cd ≤ n := (unhide HSI).refn _ (by unfold refAt; rw [List.getD_eq_getElem?_getD, List.getElem?_eq_getElem (by have := (unhide HSI).reflen; omega)]; exact List.getElem_mem _)
  have hwr : IntKind.i64.wrap (refAt p.2.ref cd + 1) = refAt p.2.ref cd + 1 := wrap_in (by omega) (by omega)
  have hne : ((cd : Int) != 0) = true := by simp; omega
  have hi0 : (0 : Int) ≤ (cd : Int) := by omega
  have hi12 : (cd : Int) < 12 := by omega
  clear hce
  go_wp2_with fail
  go_region
  have hks : Keeps (p.1.foot p.2.k) w2 (w2.setCell ⟨p.1.s, 29 + cd, none⟩ (.int .i64 (refAt p.2.ref cd + 1))).drew := ((Keeps.refl (p.1.foot p.2.k) w2).setCell (p := ⟨p.1.s, 29 + cd, none⟩) (Or.inl (.inl rfl)) _).drew
  have hpf : ∀ i, p.1.foot p.2.k i → i < ob := fun i hi => unhide HLT i (.inr (.inr ⟨p, unhide HM, hi⟩))
  have HR3 := hide ((unhide HR2).keeps hks (fun h => by have := hpf _ h; omega))
  have HS3 := hide (show SRep (w2.setCell ⟨p.1.s, 29 + cd, none⟩ (.int .i64 (refAt p.2.ref cd + 1))).drew p.1 (refS p.2 cd) from by
    have hs := unhide HS2
    have hk1 : Keeps (fun i => i = p.1.s) w2 (w2.setCell ⟨p.1.s, 29 + cd, none⟩ (.int .i64 (refAt p.2.ref cd + 1))).drew := ((Keeps.refl (fun i => i = p.1.s) w2).setCell (p := ⟨p.1.s, 29 + cd, none⟩) (Or.inl rfl) _).drew
    refine ⟨?_, hs.que.keeps hk1 (fun h => hs.sq h.symm) (fun g hg h => hs.sg g hg h.symm), fun h4 => (hs.dec h4).keeps hk1 (fun h => (hs.sd h4).1 h.symm), hs.sq, hs.sg, hs.sd⟩
    have := (hs.blk.setCell (29 + cd) (.int .i64 (refAt p.2.ref cd + 1))).drew
    rw [refS_cells] at this
    exact this)
  have HKS := hide hks
  have hsz2 : ob + 1 < w2.heap.size := (unhide HR2).lt
  clear hks hpf hcr hfs hwr
  generalize (w2.setCell ⟨p.1.s, 29 + cd, none⟩ (.int .i64 (refAt p.2.ref cd + 1))).drew = w3 at *
  go_wp2_with fail
  refine (no_any cd w3).mono ?_
  rintro r w4 ⟨rfl, hk4⟩
  unfold ansV
  have HR4 := hide ((unhide HR3).keeps hk4 (fun h => h))
  have HK34 := hide hk4
  clear hk4
  have r0 : w4.cell? ⟨ob + 1, 0, none⟩ = some (.int .i64 0) := (unhide HR4).cell rfl
  have r1 : w4.cell? ⟨ob + 1, 1, none⟩ = some (.slice none 0 0) := (unhide HR4).cell rfl
  have r2 : w4.cell? ⟨ob + 1, 2, none⟩ = some (.string noBytes) := (unhide HR4).cell rfl
  have rf := (unhide HR4).frozen
  go_wp2
  have hbf := (((unhide HR4).setCell 0 (.int .i64 cd)).setCell 1 (.slice none 0 0)).setCell 2 (.string noBytes)
  have HKF := hide ((((Keeps.refl (fun i => i = ob + 1) w4).setCell (p := ⟨ob + 1, 0, none⟩) (Or.inl rfl) (.int .i64 cd)).setCell (p := ⟨ob + 1, 1, none⟩) (Or.inl rfl) (.slice none 0 0)).setCell (p := ⟨ob + 1, 2, none⟩) (Or.inl rfl) (.string noBytes))
  have e9 : (((w4.setCell ⟨ob + 1, 0, none⟩ (.int .i64 cd)).setCell ⟨ob + 1, 1, none⟩ (.slice none 0 0)).setCell ⟨ob + 1, 2, none⟩ (.string ⟨#[]⟩)) = (((w4.setCell ⟨ob + 1, 0, none⟩ (.int .i64 cd)).setCell ⟨ob + 1, 1, none⟩ (.slice none 0 0)).setCell ⟨ob + 1, 2, none⟩ (.string noBytes)) := rfl
  first | rw [e9] | skip
  generalize (((w4.setCell ⟨ob + 1, 0, none⟩ (.int .i64 cd)).setCell ⟨ob + 1, 1, none⟩ (.slice none 0 0)).setCell ⟨ob + 1, 2, none⟩ (.string noBytes)) = w9 at *
  have q0 : w9.cell? ⟨ob + 1, 0, none⟩ = some (.int .i64 cd) := hbf.cell rfl
  have q1 : w9.cell? ⟨ob + 1, 1, none⟩ = some (.slice none 0 0) := hbf.cell rfl
  have q2 : w9.cell? ⟨ob + 1, 2, none⟩ = some (.string noBytes) := hbf.cell rfl
  refine bodyPost_ret (v := ansV cd (.slice none 0 0)) (by simp [results, Try.results26, go_sem, q0, q1, q2, ansV]) rfl ?_
  have hkf := unhide HKF
  have hob := unhide HOB
  obtain ⟨l1, l2, hps, hupd⟩ := findP_some (unhide HF)
  have hE2 := unhide HE2
  have hLT := unhide HLT
  have hK2 := unhide HK2
  rw [hupd]
  subst hps
  have hN : p.1.next p.1 p.2.k w2.heap.size := ⟨rfl, fun _ h => .inl h⟩
  have hE3 : ERep w3 e v clock (l1 ++ (p.1, refS p.2 cd) :: l2) := hE2.one (unhide HKS) (unhide HS3) rfl hN
  have hE4 := hE3.still (unhide HK34)
  have hF3 : ∀ i, EFoot e v (l1 ++ (p.1, refS p.2 cd) :: l2) i → EFoot e v (l1 ++ p :: l2) i ∨ w2.heap.size ≤ i := fun i hi => EFoot.one (w := w2) (x' := refS p.2 cd) rfl hN i hi
  refine ⟨.slice none 0 0, v, l1 ++ (p.1, refS p.2 cd) :: l2, rfl, hE4.keeps hkf (fun i hi h => ?_), ?_, World.ownsRow_nil _ _ _ _, ?_, ?_, ?_⟩
  · rcases hF3 i hi with h1 | h1
    · have := hLT i h1; omega
    · omega
  · simp only [List.map_append, List.map_cons]
  · refine (((hK2.mono (M' := EFoot e v (l1 ++ p :: l2)) (fun _ _ h => h.elim)).trans (unhide HKS) (fun i hi _ => .inr (.inr ⟨p, by simp, hi⟩))).trans (unhide HK34) (fun _ h _ => h.elim)).trans hkf (fun i hi hlt => ?_)
    omega
  · intro i hi
    rcases hF3 i hi with h1 | h1
    · exact .inl h1
    · exact .inr (by omega)
  · intro i hi hf
    simp [Value.ownBlock] at hi

end Go.Proofs.Yteecnidnlkjehaa
