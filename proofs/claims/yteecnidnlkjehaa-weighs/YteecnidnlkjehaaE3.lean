import Derived.Test.YteecnidnlkjehaaE2
namespace Go.Proofs.Yteecnidnlkjehaa
open Go.RowKit
attribute [local go_sem ↓] execOp_load38 execOp_load40
attribute [local go_sem] run_load38 run_load40 bigVal_drew hasBig_drew bigVal_ne hasBig_ne bigVal_alloc hasBig_alloc bigVal_new hasBig_newB

theorem ERep.lt {w : World} {e : Nat} {v : Value} {clock : Int} {ps : List (SB × Ser)} (h : ERep w e v clock ps) (i : Nat) (hi : EFoot e v ps i) : i < w.heap.size := by
  rcases hi with hi | hi | ⟨p, hp, hi⟩
  · subst hi; exact h.blk.lt
  · exact (h.row.lt i hi).2
  · exact (h.reps p hp).lt i hi
theorem owns_keeps {M : Nat → Prop} {w w' : World} {base : Nat} {t size : Nat} {v : Value} {n : Nat} {xs : List Value} (h : w.ownsRow base t size v n xs) (hk : Keeps M w w') (hn : ∀ i, v.ownBlock = some i → ¬ M i) : w'.ownsRow base t size v n xs := by
  refine ⟨h.1, ?_⟩
  rcases h.2 with h2 | ⟨g, cap, cur, rfl, hb, hg, r⟩
  · exact .inl h2
  · exact .inr ⟨g, cap, cur, rfl, hb, by rw [hk.block g (Array.getElem?_eq_some_iff.1 hg).1 (hn g rfl)]; exact hg, r⟩
theorem owns_base {w : World} {base base' : Nat} {t size : Nat} {v : Value} {n : Nat} {xs : List Value} (h : w.ownsRow base t size v n xs) (hb : base' ≤ base) : w.ownsRow base' t size v n xs := by
  refine ⟨h.1, ?_⟩
  rcases h.2 with h2 | ⟨g, cap, cur, rfl, hbb, r⟩
  · exact .inl h2
  · exact .inr ⟨g, cap, cur, rfl, Nat.le_trans hb hbb, r⟩
theorem ERep.keeps {M : Nat → Prop} {w w' : World} {e : Nat} {v : Value} {clock : Int} {ps : List (SB × Ser)} (h : ERep w e v clock ps) (hk : Keeps M w w') (hn : ∀ i, EFoot e v ps i → ¬ M i) : ERep w' e v clock ps :=
  ⟨h.blk.keeps hk (hn _ (.inl rfl)), owns_keeps h.row hk (fun i hi => hn i (.inr (.inl hi))), fun p hp => (h.reps p hp).keeps hk (fun i hi => hn i (.inr (.inr ⟨p, hp, hi⟩))), h.apart, h.ev, h.ef⟩
theorem ERep.still {w w' : World} {e : Nat} {v : Value} {clock : Int} {ps : List (SB × Ser)} (h : ERep w e v clock ps) (hk : Keeps (fun _ => False) w w') : ERep w' e v clock ps := h.keeps hk (fun _ _ h => h)

/-- What a step leaves. -/
def StepPost (w : World) (e : Nat) (v : Value) (ps : List (SB × Ser)) (clock' : Int) (xs' : List Ser) (code : Int) (nums : List Int) (r : Ending) (w' : World) : Prop :=
  ∃ nv v' ps', r = .returned (ansV code nv) ∧ ERep w' e v' clock' ps' ∧ ps'.map (·.2) = xs' ∧ w'.ownsRow w.heap.size 3 1 nv nums.length (ints nums) ∧ Keeps (EFoot e v ps) w w' ∧
    (∀ i, EFoot e v' ps' i → EFoot e v ps i ∨ w.heap.size ≤ i) ∧ (∀ i, nv.ownBlock = some i → ¬ EFoot e v' ps' i)

/-- A step that changes nothing. -/
theorem step_still {w w' : World} {e : Nat} {v : Value} {clock : Int} {ps : List (SB × Ser)} {code : Int} {nums : List Int} {nv : Value} (h : ERep w e v clock ps) (hk : Keeps (fun _ => False) w w') (hn : w'.ownsRow w.heap.size 3 1 nv nums.length (ints nums)) :
    StepPost w e v ps clock (ps.map (·.2)) code nums (.returned (ansV code nv)) w' := by
  refine ⟨nv, v, ps, rfl, h.still hk, rfl, hn, hk.mono (fun _ _ h => h.elim), fun i hi => .inl hi, fun i hi hf => ?_⟩
  have h1 := h.lt i hf
  have h2 := (hn.lt i hi).1
  omega

/-- What holds of the whole; n bounds the counts. -/
structure EInv (n : Int) (clock : Int) (xs : List Ser) : Prop where
  c0 : 0 ≤ clock
  c1 : clock ≤ 4611686018427387904
  six : xs.length ≤ 6
  sers : ∀ x, x ∈ xs → SInv n x

def resCells : List Value := [.int .i64 0, .slice none 0 0, .string noBytes]
theorem noBytes_def : (⟨#[]⟩ : ByteArray) = noBytes := rfl

set_option maxRecDepth 100000 in
set_option maxHeartbeats 2000000 in
theorem stats_no (n : Int) (e : Nat) (v : Value) (clock : Int) (ps : List (SB × Ser)) (o : OpM) (w : World) (h : ERep w e v clock ps) (hi : EInv n clock (ps.map (·.2))) (hf : findP ps o.id = none) :
    Calls Try.prog 29 #[.pointer (some ⟨e, 0, none⟩), o.val] w fun r w' => StepPost w e v ps clock (ps.map (·.2)) 2 [] r w' := by
  have h1 : o.cells[1]? = some (.int .i64 o.id) := rfl
  have HE := hide h
  have HI := hide hi
  have hl : ps.length ≤ 1000 := by have := hi.six; rw [List.length_map] at this; omega
  have HF := hide hf
  clear h hi hf
  unfold OpM.val
  go_enter Try.func29, Try.ntmps29
  go_wp2_with fail
  have hk0 : Keeps (fun _ => False) w ((w.alloc (.cells o.cells.toArray 40)).alloc (.cells #[.int .i64 0, .slice none 0 0, .string ⟨#[]⟩] 33)) := ((Keeps.refl (fun _ => False) w).alloc _).alloc _
  have HO0 := hide (show Blk ((w.alloc (.cells o.cells.toArray 40)).alloc (.cells #[.int .i64 0, .slice none 0 0, .string ⟨#[]⟩] 33)) w.heap.size o.cells 40 from (Blk.new w o.cells 40).alloc _)
  have HR0 := hide (show Blk ((w.alloc (.cells o.cells.toArray 40)).alloc (.cells #[.int .i64 0, .slice none 0 0, .string ⟨#[]⟩] 33)) (w.heap.size + 1) [.int .i64 0, .slice none 0 0, .string noBytes] 33 from Blk.newAt (by simp) [_, _, _] 33)
  have HE0 := hide ((unhide HE).still hk0)
  have HK0 := hide hk0
  clear hk0
  generalize (w.alloc (.cells o.cells.toArray 40)).alloc (.cells #[.int .i64 0, .slice none 0 0, .string ⟨#[]⟩] 33) = w0 at *
  have HLT := hide (show ∀ i, EFoot e v ps i → i < w.heap.size from (unhide HE).lt)
  generalize hob : w.heap.size = ob at *
  have HOB := hide hob
  clear hob
  have hsz0 : ob + 1 < w0.heap.size := (unhide HR0).lt
  refine (find_any e v clock o.id ps w0 (unhide HE0) hl).mono ?_
  rintro r w1 ⟨rfl, hw1⟩
  rw [hw1]
  clear hw1 w1
  rw [unhide HF]
  unfold ptrOf
  go_wp2_with fail
  refine (no_any 2 w0).mono ?_
  rintro r w1 ⟨rfl, hk1⟩
  unfold ansV
  have HR1 := hide ((unhide HR0).keeps hk1 (fun h => h))
  have HK1 := hide ((unhide HK0).then hk1)
  clear hk1
  have r0 : w1.cell? ⟨ob + 1, 0, none⟩ = some (.int .i64 0) := (unhide HR1).cell rfl
  have r1 : w1.cell? ⟨ob + 1, 1, none⟩ = some (.slice none 0 0) := (unhide HR1).cell rfl
  have r2 : w1.cell? ⟨ob + 1, 2, none⟩ = some (.string noBytes) := (unhide HR1).cell rfl
  have rf := (unhide HR1).frozen
  go_wp2
  have hbf := (((unhide HR1).setCell 0 (.int .i64 2)).setCell 1 (.slice none 0 0)).setCell 2 (.string noBytes)
  have HKF := hide ((((Keeps.refl (fun i => i = ob + 1) w1).setCell (p := ⟨ob + 1, 0, none⟩) (Or.inl rfl) (.int .i64 2)).setCell (p := ⟨ob + 1, 1, none⟩) (Or.inl rfl) (.slice none 0 0)).setCell (p := ⟨ob + 1, 2, none⟩) (Or.inl rfl) (.string noBytes))
  have e9 : (((w1.setCell ⟨ob + 1, 0, none⟩ (.int .i64 2)).setCell ⟨ob + 1, 1, none⟩ (.slice none 0 0)).setCell ⟨ob + 1, 2, none⟩ (.string ⟨#[]⟩)) = (((w1.setCell ⟨ob + 1, 0, none⟩ (.int .i64 2)).setCell ⟨ob + 1, 1, none⟩ (.slice none 0 0)).setCell ⟨ob + 1, 2, none⟩ (.string noBytes)) := rfl
  first | rw [e9] | skip
  generalize (((w1.setCell ⟨ob + 1, 0, none⟩ (.int .i64 2)).setCell ⟨ob + 1, 1, none⟩ (.slice none 0 0)).setCell ⟨ob + 1, 2, none⟩ (.string noBytes)) = w9 at *
  have q0 : w9.cell? ⟨ob + 1, 0, none⟩ = some (.int .i64 2) := hbf.cell rfl
  have q1 : w9.cell? ⟨ob + 1, 1, none⟩ = some (.slice none 0 0) := hbf.cell rfl
  have q2 : w9.cell? ⟨ob + 1, 2, none⟩ = some (.string noBytes) := hbf.cell rfl
  refine bodyPost_ret (v := ansV 2 (.slice none 0 0)) (by simp [results, Try.results29, go_sem, q0, q1, q2, ansV]) rfl ?_
  have hkf := unhide HKF
  have hob := unhide HOB
  have hkk : Keeps (fun _ => False) w w9 := (unhide HK1).trans hkf (fun i hi hlt => by omega)
  exact step_still (unhide HE) hkk (World.ownsRow_nil _ _ _ _)

set_option maxRecDepth 100000 in
set_option maxHeartbeats 2000000 in
theorem stats_yes (n : Int) (e : Nat) (v : Value) (clock : Int) (ps : List (SB × Ser)) (o : OpM) (w : World) (h : ERep w e v clock ps) (hi : EInv n clock (ps.map (·.2))) (p : SB × Ser) (hf : findP ps o.id = some p) :
    Calls Try.prog 29 #[.pointer (some ⟨e, 0, none⟩), o.val] w fun r w' => StepPost w e v ps clock (ps.map (·.2)) 0 (statsL p.2) r w' := by
  have hmem : p ∈ ps := List.mem_of_find?_eq_some hf
  have HM := hide hmem
  clear hmem
  have h1 : o.cells[1]? = some (.int .i64 o.id) := rfl
  have HE := hide h
  have HI := hide hi
  have hl : ps.length ≤ 1000 := by have := hi.six; rw [List.length_map] at this; omega
  have HF := hide hf
  clear h hi hf
  unfold OpM.val
  go_enter Try.func29, Try.ntmps29
  go_wp2_with fail
  have hk0 : Keeps (fun _ => False) w ((w.alloc (.cells o.cells.toArray 40)).alloc (.cells #[.int .i64 0, .slice none 0 0, .string ⟨#[]⟩] 33)) := ((Keeps.refl (fun _ => False) w).alloc _).alloc _
  have HO0 := hide (show Blk ((w.alloc (.cells o.cells.toArray 40)).alloc (.cells #[.int .i64 0, .slice none 0 0, .string ⟨#[]⟩] 33)) w.heap.size o.cells 40 from (Blk.new w o.cells 40).alloc _)
  have HR0 := hide (show Blk ((w.alloc (.cells o.cells.toArray 40)).alloc (.cells #[.int .i64 0, .slice none 0 0, .string ⟨#[]⟩] 33)) (w.heap.size + 1) [.int .i64 0, .slice none 0 0, .string noBytes] 33 from Blk.newAt (by simp) [_, _, _] 33)
  have HE0 := hide ((unhide HE).still hk0)
  have HK0 := hide hk0
  clear hk0
  generalize (w.alloc (.cells o.cells.toArray 40)).alloc (.cells #[.int .i64 0, .slice none 0 0, .string ⟨#[]⟩] 33) = w0 at *
  have HLT := hide (show ∀ i, EFoot e v ps i → i < w.heap.size from (unhide HE).lt)
  generalize hob : w.heap.size = ob at *
  have HOB := hide hob
  clear hob
  have hsz0 : ob + 1 < w0.heap.size := (unhide HR0).lt
  refine (find_any e v clock o.id ps w0 (unhide HE0) hl).mono ?_
  rintro r w1 ⟨rfl, hw1⟩
  rw [hw1]
  clear hw1 w1
  rw [unhide HF]
  unfold ptrOf
  go_wp2_with fail
  refine (serStats_any n p.1 p.2 w0 ((unhide HE0).reps p (unhide HM)) ((unhide HI).sers p.2 (List.mem_map_of_mem (unhide HM)))).mono ?_
  rintro r w1 ⟨nv, rfl, ho, hk1⟩
  obtain ⟨g, cap, hnv, hg1, hg2⟩ := ho.form (by omega)
  rw [hnv] at ho ⊢
  have HOW := hide ho
  have HR1 := hide ((unhide HR0).keeps hk1 (fun h => h))
  have HK1 := hide ((unhide HK0).then hk1)
  have HS0 := hide ((unhide HK0).size)
  clear hk1 ho hnv
  have r0 : w1.cell? ⟨ob + 1, 0, none⟩ = some (.int .i64 0) := (unhide HR1).cell rfl
  have r1 : w1.cell? ⟨ob + 1, 1, none⟩ = some (.slice none 0 0) := (unhide HR1).cell rfl
  have r2 : w1.cell? ⟨ob + 1, 2, none⟩ = some (.string noBytes) := (unhide HR1).cell rfl
  have rf := (unhide HR1).frozen
  go_wp2
  have hbf := (((unhide HR1).setCell 0 (.int .i64 0)).setCell 1 (.slice (some ⟨g, 0, none⟩) 9 cap)).setCell 2 (.string noBytes)
  have HKF := hide ((((Keeps.refl (fun i => i = ob + 1) w1).setCell (p := ⟨ob + 1, 0, none⟩) (Or.inl rfl) (.int .i64 0)).setCell (p := ⟨ob + 1, 1, none⟩) (Or.inl rfl) (.slice (some ⟨g, 0, none⟩) 9 cap)).setCell (p := ⟨ob + 1, 2, none⟩) (Or.inl rfl) (.string noBytes))
  have e9 : (((w1.setCell ⟨ob + 1, 0, none⟩ (.int .i64 0)).setCell ⟨ob + 1, 1, none⟩ (.slice (some ⟨g, 0, none⟩) 9 cap)).setCell ⟨ob + 1, 2, none⟩ (.string ⟨#[]⟩)) = (((w1.setCell ⟨ob + 1, 0, none⟩ (.int .i64 0)).setCell ⟨ob + 1, 1, none⟩ (.slice (some ⟨g, 0, none⟩) 9 cap)).setCell ⟨ob + 1, 2, none⟩ (.string noBytes)) := rfl
  first | rw [e9] | skip
  generalize (((w1.setCell ⟨ob + 1, 0, none⟩ (.int .i64 0)).setCell ⟨ob + 1, 1, none⟩ (.slice (some ⟨g, 0, none⟩) 9 cap)).setCell ⟨ob + 1, 2, none⟩ (.string noBytes)) = w9 at *
  have q0 : w9.cell? ⟨ob + 1, 0, none⟩ = some (.int .i64 0) := hbf.cell rfl
  have q1 : w9.cell? ⟨ob + 1, 1, none⟩ = some (.slice (some ⟨g, 0, none⟩) 9 cap) := hbf.cell rfl
  have q2 : w9.cell? ⟨ob + 1, 2, none⟩ = some (.string noBytes) := hbf.cell rfl
  refine bodyPost_ret (v := ansV 0 (.slice (some ⟨g, 0, none⟩) 9 cap)) (by simp [results, Try.results29, go_sem, q0, q1, q2, ansV]) rfl ?_
  have hkf := unhide HKF
  have hob := unhide HOB
  have hkk : Keeps (fun _ => False) w w9 := (unhide HK1).trans hkf (fun i hi hlt => by omega)
  exact step_still (unhide HE) hkk (owns_keeps (owns_base (unhide HOW) (unhide HS0)) hkf (fun i hi h => by have : g = i := by simpa [Value.ownBlock] using hi
                                                                                                           omega))

end Go.Proofs.Yteecnidnlkjehaa
