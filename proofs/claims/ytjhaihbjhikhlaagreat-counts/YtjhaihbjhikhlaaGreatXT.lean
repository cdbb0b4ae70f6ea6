import Derived.Test.YtjhaihbjhikhlaaGreatU8
import Derived.Test.YtjhaihbjhikhlaaGreatXX
import Derived.Test.YtjhaihbjhikhlaaGreatXW
import Derived.Test.YtjhaihbjhikhlaaGreatXY
import Derived.Test.YtjhaihbjhikhlaaGreatXF
namespace Go.Proofs.YtjhaihbjhikhlaaGreat
open Go.RowKit
attribute [local go_sem ↓] execOp_load38 execOp_load40
attribute [local go_sem] run_load38 run_load40 bigVal_drew hasBig_drew bigVal_ne hasBig_ne bigVal_alloc hasBig_alloc bigVal_new hasBig_newB

/-- What the document's step leaves. -/
def RStepPost (w : World) (e : Nat) (v : Value) (ps : List (RB × RSer)) (x : RWS × Int × List Int) (r : Ending) (w' : World) : Prop :=
  ∃ nv, r = .returned (ansV x.2.1 nv) ∧ w'.ownsRow w.heap.size 3 1 nv x.2.2.length (ints x.2.2) ∧ RPost w e v ps x.1 w'
theorem rpost_wrap {w w0 w1 w9 : World} {e ob : Nat} {v : Value} {clock ticks : Int} {ps : List (RB × RSer)} {s' : RWS} (hE : RWRep w e v clock ticks ps) (hk0 : Keeps (fun _ => False) w w0) (h : RPost w0 e v ps s' w1) (hk : Keeps (fun i => i = ob + 1) w1 w9) (hob : w.heap.size = ob) (hlt : ob + 1 < w0.heap.size) : RPost w e v ps s' w9 := by
  obtain ⟨v', ps', h1, h2, h3, h4⟩ := h
  have hsz := hk0.size
  refine ⟨v', ps', h1.keeps hk (fun i hi hh => ?_), h2, ?_, ?_⟩
  · rcases h4 i hi with h | h
    · have := hE.lt i h; omega
    · omega
  · exact ((hk0.mono (M' := RFoot e v ps) (fun _ _ h => h.elim)).then h3).trans hk (fun i hi hl => by omega)
  · intro i hi
    rcases h4 i hi with h | h
    · exact .inl h
    · exact .inr (by omega)

theorem rcreate_any (e : Nat) (v : Value) (clock ticks : Int) (ps : List (RB × RSer)) (o : OpM) (w : World) (h : RWRep w e v clock ticks ps) (hl : ps.length ≤ 6) :
    Calls Tryz.prog 50 #[.pointer (some ⟨e, 0, none⟩), o.val] w fun r w' => r = .returned (.int .i64 (createR ⟨clock, ticks, ps.map (·.2)⟩ o).2.1) ∧ (createR ⟨clock, ticks, ps.map (·.2)⟩ o).2.2 = [] ∧ RPost w e v ps (createR ⟨clock, ticks, ps.map (·.2)⟩ o).1 w' := by
  by_cases hno : inB o.id 0 99 = true ∧ findRP ps o.id = none ∧ validB o.cfg = true ∧ ps.length ≠ 6
  · obtain ⟨h1, h2, h3, h4⟩ := hno
    have he : createR ⟨clock, ticks, ps.map (·.2)⟩ o = (⟨clock, ticks, ps.map (·.2) ++ [newR o.id o.cfg]⟩, 0, []) := by
      rw [rcreate_cases, if_pos ⟨h1, h2⟩, if_pos h3, if_neg h4]
    rw [he]
    refine (rcreate_yes e v clock ticks ps o w h (by omega) h1 h2 h3).mono ?_
    rintro r w' ⟨rfl, hp⟩
    exact ⟨rfl, rfl, hp⟩
  · exact rcreate_no e v clock ticks ps o w h (by omega) hno

set_option maxRecDepth 100000 in
set_option maxHeartbeats 4000000 in
theorem rstep_else (n : Int) (e : Nat) (v : Value) (clock ticks : Int) (ps : List (RB × RSer)) (o : OpM) (w : World) (h : RWRep w e v clock ticks ps) (hi : RWInv n clock ticks (ps.map (·.2))) (h1k : o.kind ≠ 1) (h2k : o.kind ≠ 2) (h3k : o.kind ≠ 3) :
    Calls Tryz.prog 27 #[.pointer (some ⟨e, 0, none⟩), o.val] w fun r w' => RStepPost w e v ps (⟨clock, ticks, ps.map (·.2)⟩, 1, []) r w' := by
  have h1 : o.cells[0]? = some (.int .i64 o.kind) := rfl
  have HE := hide h
  have HI := hide hi
  have hl : ps.length ≤ 1000 := by have := hi.six; rw [List.length_map] at this; omega
  clear h hi
  unfold OpM.val
  go_enter Tryz.func27, Tryz.ntmps27
  go_upto_region 1 with fail
  have hk0 : Keeps (fun _ => False) w ((w.alloc (.cells o.cells.toArray 35)).alloc (.cells #[.int .i64 0, .slice none 0 0, .string ⟨#[]⟩] 41)) := ((Keeps.refl (fun _ => False) w).alloc _).alloc _
  have HO0 := hide (show Blk ((w.alloc (.cells o.cells.toArray 35)).alloc (.cells #[.int .i64 0, .slice none 0 0, .string ⟨#[]⟩] 41)) w.heap.size o.cells 35 from (Blk.new w o.cells 35).alloc _)
  have HR0 := hide (show Blk ((w.alloc (.cells o.cells.toArray 35)).alloc (.cells #[.int .i64 0, .slice none 0 0, .string ⟨#[]⟩] 41)) (w.heap.size + 1) [.int .i64 0, .slice none 0 0, .string noBytes] 41 from Blk.newAt (by simp) [_, _, _] 41)
  have HE0 := hide ((unhide HE).still hk0)
  have HK0 := hide hk0
  clear hk0
  generalize (w.alloc (.cells o.cells.toArray 35)).alloc (.cells #[.int .i64 0, .slice none 0 0, .string ⟨#[]⟩] 41) = w0 at *
  have HLT := hide (show ∀ i, RFoot e v ps i → i < w.heap.size from (unhide HE).lt)
  generalize hob : w.heap.size = ob at *
  have HOB := hide hob
  clear hob
  have hsz0 : ob + 1 < w0.heap.size := (unhide HR0).lt
  obtain ⟨hv0, hh0⟩ := bigVal_Blk (unhide HO0) 26 rfl
  have o0 : w0.cell? ⟨ob, 0, none⟩ = some (.int .i64 o.kind) := (unhide HO0).cell rfl
  have o2 : w0.cell? ⟨ob, 2, none⟩ = some (.int .i64 o.a) := (unhide HO0).cell rfl
  have o3 : w0.cell? ⟨ob, 3, none⟩ = some (.int .i64 o.b) := (unhide HO0).cell rfl
  have b1 : (o.kind == 1) = false := by simpa using h1k
  have b2 : (o.kind == 2) = false := by simpa using h2k
  have b3 : (o.kind == 3) = false := by simpa using h3k
  go_wp2_with fail
  refine (rno_any 1 w0).mono ?_
  rintro r w1 ⟨rfl, hk1⟩
  unfold ansV
  have HR := hide ((unhide HR0).keeps hk1 (fun h => h))
  have HKN := hide hk1
  clear hk1
  have r0 : w1.cell? ⟨ob + 1, 0, none⟩ = some (.int .i64 0) := (unhide HR).cell rfl
  have r1 : w1.cell? ⟨ob + 1, 1, none⟩ = some (.slice none 0 0) := (unhide HR).cell rfl
  have r2 : w1.cell? ⟨ob + 1, 2, none⟩ = some (.string noBytes) := (unhide HR).cell rfl
  have rf := (unhide HR).frozen
  have hrl := (unhide HR).lt
  go_wp2
  have hbf := ((((unhide HR).setCell 0 (.int .i64 1)).setCell 1 (.slice none 0 0)).setCell 2 (.string noBytes))
  have HKF := hide (show Keeps (fun i => i = ob + 1) w1 (((w1.setCell ⟨ob + 1, 0, none⟩ (.int .i64 1)).setCell ⟨ob + 1, 1, none⟩ (.slice none 0 0)).setCell ⟨ob + 1, 2, none⟩ (.string noBytes)) from ((((Keeps.refl (fun i => i = ob + 1) w1).setCell (p := ⟨ob + 1, 0, none⟩) (Or.inl rfl) _).setCell (p := ⟨ob + 1, 1, none⟩) (Or.inl rfl) _).setCell (p := ⟨ob + 1, 2, none⟩) (Or.inl rfl) _))
  have e9 : (((w1.setCell ⟨ob + 1, 0, none⟩ (.int .i64 1)).setCell ⟨ob + 1, 1, none⟩ (.slice none 0 0)).setCell ⟨ob + 1, 2, none⟩ (.string ⟨#[]⟩)) = (((w1.setCell ⟨ob + 1, 0, none⟩ (.int .i64 1)).setCell ⟨ob + 1, 1, none⟩ (.slice none 0 0)).setCell ⟨ob + 1, 2, none⟩ (.string noBytes)) := rfl
  first | rw [e9] | skip
  clear e9
  generalize (((w1.setCell ⟨ob + 1, 0, none⟩ (.int .i64 1)).setCell ⟨ob + 1, 1, none⟩ (.slice none 0 0)).setCell ⟨ob + 1, 2, none⟩ (.string noBytes)) = w9 at *
  have q0 : w9.cell? ⟨ob + 1, 0, none⟩ = some (.int .i64 1) := hbf.cell rfl
  have q1 : w9.cell? ⟨ob + 1, 1, none⟩ = some (.slice none 0 0) := hbf.cell rfl
  have q2 : w9.cell? ⟨ob + 1, 2, none⟩ = some (.string noBytes) := hbf.cell rfl
  refine bodyPost_ret (v := ansV (1) (.slice none 0 0)) (by simp [results, Tryz.results27, go_sem, q0, q1, q2, ansV]) rfl ?_
  exact ⟨_, rfl, World.ownsRow_nil _ _ _ _, rpost_wrap (unhide HE) (unhide HK0) (rpost_still (unhide HE0) (unhide HKN)) (unhide HKF) (unhide HOB) hsz0⟩

set_option maxRecDepth 100000 in
set_option maxHeartbeats 4000000 in
theorem rstep_time (n : Int) (e : Nat) (v : Value) (clock ticks : Int) (ps : List (RB × RSer)) (o : OpM) (w : World) (h : RWRep w e v clock ticks ps) (hi : RWInv n clock ticks (ps.map (·.2))) (hkd : o.kind = 3) (ha : inB o.a 0 4611686018427387904 = false) :
    Calls Tryz.prog 27 #[.pointer (some ⟨e, 0, none⟩), o.val] w fun r w' => RStepPost w e v ps (⟨clock, ticks, ps.map (·.2)⟩, 5, []) r w' := by
  have h1 : o.cells[0]? = some (.int .i64 o.kind) := rfl
  have HE := hide h
  have HI := hide hi
  have hl : ps.length ≤ 1000 := by have := hi.six; rw [List.length_map] at this; omega
  clear h hi
  unfold OpM.val
  go_enter Tryz.func27, Tryz.ntmps27
  go_upto_region 1 with fail
  have hk0 : Keeps (fun _ => False) w ((w.alloc (.cells o.cells.toArray 35)).alloc (.cells #[.int .i64 0, .slice none 0 0, .string ⟨#[]⟩] 41)) := ((Keeps.refl (fun _ => False) w).alloc _).alloc _
  have HO0 := hide (show Blk ((w.alloc (.cells o.cells.toArray 35)).alloc (.cells #[.int .i64 0, .slice none 0 0, .string ⟨#[]⟩] 41)) w.heap.size o.cells 35 from (Blk.new w o.cells 35).alloc _)
  have HR0 := hide (show Blk ((w.alloc (.cells o.cells.toArray 35)).alloc (.cells #[.int .i64 0, .slice none 0 0, .string ⟨#[]⟩] 41)) (w.heap.size + 1) [.int .i64 0, .slice none 0 0, .string noBytes] 41 from Blk.newAt (by simp) [_, _, _] 41)
  have HE0 := hide ((unhide HE).still hk0)
  have HK0 := hide hk0
  clear hk0
  generalize (w.alloc (.cells o.cells.toArray 35)).alloc (.cells #[.int .i64 0, .slice none 0 0, .string ⟨#[]⟩] 41) = w0 at *
  have HLT := hide (show ∀ i, RFoot e v ps i → i < w.heap.size from (unhide HE).lt)
  generalize hob : w.heap.size = ob at *
  have HOB := hide hob
  clear hob
  have hsz0 : ob + 1 < w0.heap.size := (unhide HR0).lt
  obtain ⟨hv0, hh0⟩ := bigVal_Blk (unhide HO0) 26 rfl
  have o0 : w0.cell? ⟨ob, 0, none⟩ = some (.int .i64 3) := by rw [← hkd]; exact (unhide HO0).cell rfl
  have o2 : w0.cell? ⟨ob, 2, none⟩ = some (.int .i64 o.a) := (unhide HO0).cell rfl
  have o3 : w0.cell? ⟨ob, 3, none⟩ = some (.int .i64 o.b) := (unhide HO0).cell rfl
  have hout : o.a < 0 ∨ (0 ≤ o.a ∧ 4611686018427387904 < o.a) := by
    simp [inB] at ha; omega
  rcases hout with ha1 | ⟨ha1, ha2⟩
  all_goals
    go_wp2_with fail
    refine (rno_any 5 w0).mono ?_
    rintro r w1 ⟨rfl, hk1⟩
    unfold ansV
    have HR := hide ((unhide HR0).keeps hk1 (fun h => h))
    have HKN := hide hk1
    clear hk1
    have r0 : w1.cell? ⟨ob + 1, 0, none⟩ = some (.int .i64 0) := (unhide HR).cell rfl
    have r1 : w1.cell? ⟨ob + 1, 1, none⟩ = some (.slice none 0 0) := (unhide HR).cell rfl
    have r2 : w1.cell? ⟨ob + 1, 2, none⟩ = some (.string noBytes) := (unhide HR).cell rfl
    have rf := (unhide HR).frozen
    have hrl := (unhide HR).lt
    go_wp2
    have hbf := ((((unhide HR).setCell 0 (.int .i64 5)).setCell 1 (.slice none 0 0)).setCell 2 (.string noBytes))
    have HKF := hide (show Keeps (fun i => i = ob + 1) w1 (((w1.setCell ⟨ob + 1, 0, none⟩ (.int .i64 5)).setCell ⟨ob + 1, 1, none⟩ (.slice none 0 0)).setCell ⟨ob + 1, 2, none⟩ (.string noBytes)) from ((((Keeps.refl (fun i => i = ob + 1) w1).setCell (p := ⟨ob + 1, 0, none⟩) (Or.inl rfl) _).setCell (p := ⟨ob + 1, 1, none⟩) (Or.inl rfl) _).setCell (p := ⟨ob + 1, 2, none⟩) (Or.inl rfl) _))
    have e9 : (((w1.setCell ⟨ob + 1, 0, none⟩ (.int .i64 5)).setCell ⟨ob + 1, 1, none⟩ (.slice none 0 0)).setCell ⟨ob + 1, 2, none⟩ (.string ⟨#[]⟩)) = (((w1.setCell ⟨ob + 1, 0, none⟩ (.int .i64 5)).setCell ⟨ob + 1, 1, none⟩ (.slice none 0 0)).setCell ⟨ob + 1, 2, none⟩ (.string noBytes)) := rfl
    first | rw [e9] | skip
    clear e9
    generalize (((w1.setCell ⟨ob + 1, 0, none⟩ (.int .i64 5)).setCell ⟨ob + 1, 1, none⟩ (.slice none 0 0)).setCell ⟨ob + 1, 2, none⟩ (.string noBytes)) = w9 at *
    have q0 : w9.cell? ⟨ob + 1, 0, none⟩ = some (.int .i64 5) := hbf.cell rfl
    have q1 : w9.cell? ⟨ob + 1, 1, none⟩ = some (.slice none 0 0) := hbf.cell rfl
    have q2 : w9.cell? ⟨ob + 1, 2, none⟩ = some (.string noBytes) := hbf.cell rfl
    refine bodyPost_ret (v := ansV (5) (.slice none 0 0)) (by simp [results, Tryz.results27, go_sem, q0, q1, q2, ansV]) rfl ?_
    exact ⟨_, rfl, World.ownsRow_nil _ _ _ _, rpost_wrap (unhide HE) (unhide HK0) (rpost_still (unhide HE0) (unhide HKN)) (unhide HKF) (unhide HOB) hsz0⟩

set_option maxRecDepth 100000 in
set_option maxHeartbeats 4000000 in
theorem rstep_budget (n : Int) (e : Nat) (v : Value) (clock ticks : Int) (ps : List (RB × RSer)) (o : OpM) (w : World) (h : RWRep w e v clock ticks ps) (hi : RWInv n clock ticks (ps.map (·.2))) (hkd : o.kind = 3) (ha : inB o.a 0 4611686018427387904 = true) (hb : inB o.b 0 100 = false) :
    Calls Tryz.prog 27 #[.pointer (some ⟨e, 0, none⟩), o.val] w fun r w' => RStepPost w e v ps (⟨clock, ticks, ps.map (·.2)⟩, 12, []) r w' := by
  have h1 : o.cells[0]? = some (.int .i64 o.kind) := rfl
  have HE := hide h
  have HI := hide hi
  have hl : ps.length ≤ 1000 := by have := hi.six; rw [List.length_map] at this; omega
  clear h hi
  unfold OpM.val
  go_enter Tryz.func27, Tryz.ntmps27
  go_upto_region 1 with fail
  have hk0 : Keeps (fun _ => False) w ((w.alloc (.cells o.cells.toArray 35)).alloc (.cells #[.int .i64 0, .slice none 0 0, .string ⟨#[]⟩] 41)) := ((Keeps.refl (fun _ => False) w).alloc _).alloc _
  have HO0 := hide (show Blk ((w.alloc (.cells o.cells.toArray 35)).alloc (.cells #[.int .i64 0, .slice none 0 0, .string ⟨#[]⟩] 41)) w.heap.size o.cells 35 from (Blk.new w o.cells 35).alloc _)
  have HR0 := hide (show Blk ((w.alloc (.cells o.cells.toArray 35)).alloc (.cells #[.int .i64 0, .slice none 0 0, .string ⟨#[]⟩] 41)) (w.heap.size + 1) [.int .i64 0, .slice none 0 0, .string noBytes] 41 from Blk.newAt (by simp) [_, _, _] 41)
  have HE0 := hide ((unhide HE).still hk0)
  have HK0 := hide hk0
  clear hk0
  generalize (w.alloc (.cells o.cells.toArray 35)).alloc (.cells #[.int .i64 0, .slice none 0 0, .string ⟨#[]⟩] 41) = w0 at *
  have HLT := hide (show ∀ i, RFoot e v ps i → i < w.heap.size from (unhide HE).lt)
  generalize hob : w.heap.size = ob at *
  have HOB := hide hob
  clear hob
  have hsz0 : ob + 1 < w0.heap.size := (unhide HR0).lt
  obtain ⟨hv0, hh0⟩ := bigVal_Blk (unhide HO0) 26 rfl
  have o0 : w0.cell? ⟨ob, 0, none⟩ = some (.int .i64 3) := by rw [← hkd]; exact (unhide HO0).cell rfl
  have o2 : w0.cell? ⟨ob, 2, none⟩ = some (.int .i64 o.a) := (unhide HO0).cell rfl
  have o3 : w0.cell? ⟨ob, 3, none⟩ = some (.int .i64 o.b) := (unhide HO0).cell rfl
  obtain ⟨ha1, ha2⟩ := inB_iff ha
  have hout : o.b < 0 ∨ (0 ≤ o.b ∧ 100 < o.b) := by
    simp [inB] at hb; omega
  rcases hout with hb1 | ⟨hb1, hb2⟩
  all_goals
    go_wp2_with fail
    refine (rno_any 12 w0).mono ?_
    rintro r w1 ⟨rfl, hk1⟩
    unfold ansV
    have HR := hide ((unhide HR0).keeps hk1 (fun h => h))
    have HKN := hide hk1
    clear hk1
    have r0 : w1.cell? ⟨ob + 1, 0, none⟩ = some (.int .i64 0) := (unhide HR).cell rfl
    have r1 : w1.cell? ⟨ob + 1, 1, none⟩ = some (.slice none 0 0) := (unhide HR).cell rfl
    have r2 : w1.cell? ⟨ob + 1, 2, none⟩ = some (.string noBytes) := (unhide HR).cell rfl
    have rf := (unhide HR).frozen
    have hrl := (unhide HR).lt
    go_wp2
    have hbf := ((((unhide HR).setCell 0 (.int .i64 12)).setCell 1 (.slice none 0 0)).setCell 2 (.string noBytes))
    have HKF := hide (show Keeps (fun i => i = ob + 1) w1 (((w1.setCell ⟨ob + 1, 0, none⟩ (.int .i64 12)).setCell ⟨ob + 1, 1, none⟩ (.slice none 0 0)).setCell ⟨ob + 1, 2, none⟩ (.string noBytes)) from ((((Keeps.refl (fun i => i = ob + 1) w1).setCell (p := ⟨ob + 1, 0, none⟩) (Or.inl rfl) _).setCell (p := ⟨ob + 1, 1, none⟩) (Or.inl rfl) _).setCell (p := ⟨ob + 1, 2, none⟩) (Or.inl rfl) _))
    have e9 : (((w1.setCell ⟨ob + 1, 0, none⟩ (.int .i64 12)).setCell ⟨ob + 1, 1, none⟩ (.slice none 0 0)).setCell ⟨ob + 1, 2, none⟩ (.string ⟨#[]⟩)) = (((w1.setCell ⟨ob + 1, 0, none⟩ (.int .i64 12)).setCell ⟨ob + 1, 1, none⟩ (.slice none 0 0)).setCell ⟨ob + 1, 2, none⟩ (.string noBytes)) := rfl
    first | rw [e9] | skip
    clear e9
    generalize (((w1.setCell ⟨ob + 1, 0, none⟩ (.int .i64 12)).setCell ⟨ob + 1, 1, none⟩ (.slice none 0 0)).setCell ⟨ob + 1, 2, none⟩ (.string noBytes)) = w9 at *
    have q0 : w9.cell? ⟨ob + 1, 0, none⟩ = some (.int .i64 12) := hbf.cell rfl
    have q1 : w9.cell? ⟨ob + 1, 1, none⟩ = some (.slice none 0 0) := hbf.cell rfl
    have q2 : w9.cell? ⟨ob + 1, 2, none⟩ = some (.string noBytes) := hbf.cell rfl
    refine bodyPost_ret (v := ansV (12) (.slice none 0 0)) (by simp [results, Tryz.results27, go_sem, q0, q1, q2, ansV]) rfl ?_
    exact ⟨_, rfl, World.ownsRow_nil _ _ _ _, rpost_wrap (unhide HE) (unhide HK0) (rpost_still (unhide HE0) (unhide HKN)) (unhide HKF) (unhide HOB) hsz0⟩

set_option maxRecDepth 100000 in
set_option maxHeartbeats 4000000 in
theorem rstep_tick (n : Int) (e : Nat) (v : Value) (clock ticks : Int) (ps : List (RB × RSer)) (o : OpM) (w : World) (h : RWRep w e v clock ticks ps) (hi : RWInv n clock ticks (ps.map (·.2))) (hn : n < 1099511627776) (hkd : o.kind = 3) (ha : inB o.a 0 4611686018427387904 = true) (hb : inB o.b 0 100 = true) :
    Calls Tryz.prog 27 #[.pointer (some ⟨e, 0, none⟩), o.val] w fun r w' => RStepPost w e v ps (⟨maxC clock o.a, ticks + 1, (tickAllR (maxC clock o.a) (ticks + 1) o.b (ps.map (·.2))).1⟩, 0, [(tickAllR (maxC clock o.a) (ticks + 1) o.b (ps.map (·.2))).2]) r w' := by
  have h1 : o.cells[0]? = some (.int .i64 o.kind) := rfl
  have HE := hide h
  have HI := hide hi
  have hl : ps.length ≤ 1000 := by have := hi.six; rw [List.length_map] at this; omega
  clear h hi
  unfold OpM.val
  go_enter Tryz.func27, Tryz.ntmps27
  go_upto_region 1 with fail
  have hk0 : Keeps (fun _ => False) w ((w.alloc (.cells o.cells.toArray 35)).alloc (.cells #[.int .i64 0, .slice none 0 0, .string ⟨#[]⟩] 41)) := ((Keeps.refl (fun _ => False) w).alloc _).alloc _
  have HO0 := hide (show Blk ((w.alloc (.cells o.cells.toArray 35)).alloc (.cells #[.int .i64 0, .slice none 0 0, .string ⟨#[]⟩] 41)) w.heap.size o.cells 35 from (Blk.new w o.cells 35).alloc _)
  have HR0 := hide (show Blk ((w.alloc (.cells o.cells.toArray 35)).alloc (.cells #[.int .i64 0, .slice none 0 0, .string ⟨#[]⟩] 41)) (w.heap.size + 1) [.int .i64 0, .slice none 0 0, .string noBytes] 41 from Blk.newAt (by simp) [_, _, _] 41)
  have HE0 := hide ((unhide HE).still hk0)
  have HK0 := hide hk0
  clear hk0
  generalize (w.alloc (.cells o.cells.toArray 35)).alloc (.cells #[.int .i64 0, .slice none 0 0, .string ⟨#[]⟩] 41) = w0 at *
  have HLT := hide (show ∀ i, RFoot e v ps i → i < w.heap.size from (unhide HE).lt)
  generalize hob : w.heap.size = ob at *
  have HOB := hide hob
  clear hob
  have hsz0 : ob + 1 < w0.heap.size := (unhide HR0).lt
  obtain ⟨hv0, hh0⟩ := bigVal_Blk (unhide HO0) 26 rfl
  have o0 : w0.cell? ⟨ob, 0, none⟩ = some (.int .i64 3) := by rw [← hkd]; exact (unhide HO0).cell rfl
  have o2 : w0.cell? ⟨ob, 2, none⟩ = some (.int .i64 o.a) := (unhide HO0).cell rfl
  have o3 : w0.cell? ⟨ob, 3, none⟩ = some (.int .i64 o.b) := (unhide HO0).cell rfl
  obtain ⟨ha1, ha2⟩ := inB_iff ha
  obtain ⟨hb1, hb2⟩ := inB_iff hb
  go_wp2_with fail
  refine (rtick_any n e v clock ticks o.a o.b ps w0 (unhide HE0) (unhide HI) hn ha1 ha2 hb1 hb2).mono ?_
  rintro r w1 ⟨rfl, hpost⟩
  obtain ⟨lf, hlf⟩ : ∃ lf, lf = (tickAllR (maxC clock o.a) (ticks + 1) o.b (ps.map (·.2))).2 := ⟨_, rfl⟩
  rw [← hlf]
  have HLF := hide hlf
  clear hlf
  have hR1 := hpost
  obtain ⟨v1, ps1, hE1, hx1, hkk1, hf1⟩ := hR1
  have HR1 := hide ((unhide HR0).keeps hkk1 (fun h => by have := unhide HLT _ h; omega))
  have HP1 := hide hpost
  clear hE1 hx1 hkk1 hf1 hpost hv0 hh0 o0 o2 o3
  have HR := HR1
  have r0 : w1.cell? ⟨ob + 1, 0, none⟩ = some (.int .i64 0) := (unhide HR).cell rfl
  have r1 : w1.cell? ⟨ob + 1, 1, none⟩ = some (.slice none 0 0) := (unhide HR).cell rfl
  have r2 : w1.cell? ⟨ob + 1, 2, none⟩ = some (.string noBytes) := (unhide HR).cell rfl
  have rf := (unhide HR).frozen
  have hrl := (unhide HR).lt
  have hrn : ob + 1 ≠ w1.heap.size := by omega
  go_wp2
  have hbf := ((((unhide HR).setCell 0 (.int .i64 0)).setCell 1 (.slice (some ⟨w1.heap.size, 0, none⟩) 1 1)).setCell 2 (.string noBytes)).alloc (.cells #[.int .i64 lf] 3)
  have HKF := hide (show Keeps (fun i => i = ob + 1) w1 ((((w1.setCell ⟨ob + 1, 0, none⟩ (.int .i64 0)).setCell ⟨ob + 1, 1, none⟩ (.slice (some ⟨w1.heap.size, 0, none⟩) 1 1)).setCell ⟨ob + 1, 2, none⟩ (.string noBytes)).alloc (.cells #[.int .i64 lf] 3)) from ((((Keeps.refl (fun i => i = ob + 1) w1).setCell (p := ⟨ob + 1, 0, none⟩) (Or.inl rfl) _).setCell (p := ⟨ob + 1, 1, none⟩) (Or.inl rfl) _).setCell (p := ⟨ob + 1, 2, none⟩) (Or.inl rfl) _).alloc _)
  have hbn : Blk ((((w1.setCell ⟨ob + 1, 0, none⟩ (.int .i64 0)).setCell ⟨ob + 1, 1, none⟩ (.slice (some ⟨w1.heap.size, 0, none⟩) 1 1)).setCell ⟨ob + 1, 2, none⟩ (.string noBytes)).alloc (.cells #[.int .i64 lf] 3)) w1.heap.size [.int .i64 lf] 3 := Blk.newAt (by simp) [_] 3
  have e9 : ((((w1.setCell ⟨ob + 1, 0, none⟩ (.int .i64 0)).setCell ⟨ob + 1, 1, none⟩ (.slice (some ⟨w1.heap.size, 0, none⟩) 1 1)).setCell ⟨ob + 1, 2, none⟩ (.string ⟨#[]⟩)).alloc (.cells #[.int .i64 lf] 3)) = ((((w1.setCell ⟨ob + 1, 0, none⟩ (.int .i64 0)).setCell ⟨ob + 1, 1, none⟩ (.slice (some ⟨w1.heap.size, 0, none⟩) 1 1)).setCell ⟨ob + 1, 2, none⟩ (.string noBytes)).alloc (.cells #[.int .i64 lf] 3)) := rfl
  first | rw [e9] | skip
  clear e9
  generalize ((((w1.setCell ⟨ob + 1, 0, none⟩ (.int .i64 0)).setCell ⟨ob + 1, 1, none⟩ (.slice (some ⟨w1.heap.size, 0, none⟩) 1 1)).setCell ⟨ob + 1, 2, none⟩ (.string noBytes)).alloc (.cells #[.int .i64 lf] 3)) = w9 at *
  have q0 : w9.cell? ⟨ob + 1, 0, none⟩ = some (.int .i64 0) := hbf.cell rfl
  have q1 : w9.cell? ⟨ob + 1, 1, none⟩ = some (.slice (some ⟨w1.heap.size, 0, none⟩) 1 1) := hbf.cell rfl
  have q2 : w9.cell? ⟨ob + 1, 2, none⟩ = some (.string noBytes) := hbf.cell rfl
  refine bodyPost_ret (v := ansV (0) (.slice (some ⟨w1.heap.size, 0, none⟩) 1 1)) (by simp [results, Tryz.results27, go_sem, q0, q1, q2, ansV]) rfl ?_
  have hlf := unhide HLF
  subst hlf
  have hw1 : w.heap.size ≤ w1.heap.size := by have := unhide HOB; omega
  exact ⟨_, rfl, ⟨rfl, .inr ⟨w1.heap.size, 1, _, rfl, hw1, hbn, by simp, by unfold maxLen; simp, rfl, rfl⟩⟩, rpost_wrap (unhide HE) (unhide HK0) (unhide HP1) (unhide HKF) (unhide HOB) hsz0⟩

set_option maxRecDepth 100000 in
set_option maxHeartbeats 4000000 in
theorem rstep_create (n : Int) (e : Nat) (v : Value) (clock ticks : Int) (ps : List (RB × RSer)) (o : OpM) (w : World) (h : RWRep w e v clock ticks ps) (hi : RWInv n clock ticks (ps.map (·.2))) (hkd : o.kind = 1) :
    Calls Tryz.prog 27 #[.pointer (some ⟨e, 0, none⟩), o.val] w fun r w' => RStepPost w e v ps (createR ⟨clock, ticks, ps.map (·.2)⟩ o) r w' := by
  have h1 : o.cells[0]? = some (.int .i64 o.kind) := rfl
  have HE := hide h
  have HI := hide hi
  have hl : ps.length ≤ 1000 := by have := hi.six; rw [List.length_map] at this; omega
  clear h hi
  unfold OpM.val
  go_enter Tryz.func27, Tryz.ntmps27
  go_upto_region 1 with fail
  have hk0 : Keeps (fun _ => False) w ((w.alloc (.cells o.cells.toArray 35)).alloc (.cells #[.int .i64 0, .slice none 0 0, .string ⟨#[]⟩] 41)) := ((Keeps.refl (fun _ => False) w).alloc _).alloc _
  have HO0 := hide (show Blk ((w.alloc (.cells o.cells.toArray 35)).alloc (.cells #[.int .i64 0, .slice none 0 0, .string ⟨#[]⟩] 41)) w.heap.size o.cells 35 from (Blk.new w o.cells 35).alloc _)
  have HR0 := hide (show Blk ((w.alloc (.cells o.cells.toArray 35)).alloc (.cells #[.int .i64 0, .slice none 0 0, .string ⟨#[]⟩] 41)) (w.heap.size + 1) [.int .i64 0, .slice none 0 0, .string noBytes] 41 from Blk.newAt (by simp) [_, _, _] 41)
  have HE0 := hide ((unhide HE).still hk0)
  have HK0 := hide hk0
  clear hk0
  generalize (w.alloc (.cells o.cells.toArray 35)).alloc (.cells #[.int .i64 0, .slice none 0 0, .string ⟨#[]⟩] 41) = w0 at *
  have HLT := hide (show ∀ i, RFoot e v ps i → i < w.heap.size from (unhide HE).lt)
  generalize hob : w.heap.size = ob at *
  have HOB := hide hob
  clear hob
  have hsz0 : ob + 1 < w0.heap.size := (unhide HR0).lt
  obtain ⟨hv0, hh0⟩ := bigVal_Blk (unhide HO0) 26 rfl
  have o0 : w0.cell? ⟨ob, 0, none⟩ = some (.int .i64 1) := by rw [← hkd]; exact (unhide HO0).cell rfl
  have o2 : w0.cell? ⟨ob, 2, none⟩ = some (.int .i64 o.a) := (unhide HO0).cell rfl
  have o3 : w0.cell? ⟨ob, 3, none⟩ = some (.int .i64 o.b) := (unhide HO0).cell rfl
  go_wp2_with fail
  refine (rcreate_any e v clock ticks ps o w0 (unhide HE0) (by have := (unhide HI).six; simpa using this)).mono ?_
  rintro r w1 ⟨rfl, hnil, hpost⟩
  have hR1 := hpost
  obtain ⟨v1, ps1, hE1, hx1, hkk1, hf1⟩ := hR1
  have HR1 := hide ((unhide HR0).keeps hkk1 (fun h => by have := unhide HLT _ h; omega))
  have HP1 := hide hpost
  clear hE1 hx1 hkk1 hf1 hpost hv0 hh0 o0 o2 o3
  generalize hcr : createR ⟨clock, ticks, ps.map (·.2)⟩ o = cr at *
  obtain ⟨s', cd, nums⟩ := cr
  have hnil' : nums = [] := hnil
  subst hnil'
  have HCR := hide hcr
  clear hnil hcr
  go_wp2_with fail
  refine (rno_any cd w1).mono ?_
  rintro r w2 ⟨rfl, hk1⟩
  unfold ansV
  have HR := hide ((unhide HR1).keeps hk1 (fun h => h))
  have HKN := hide hk1
  clear hk1
  have r0 : w2.cell? ⟨ob + 1, 0, none⟩ = some (.int .i64 0) := (unhide HR).cell rfl
  have r1 : w2.cell? ⟨ob + 1, 1, none⟩ = some (.slice none 0 0) := (unhide HR).cell rfl
  have r2 : w2.cell? ⟨ob + 1, 2, none⟩ = some (.string noBytes) := (unhide HR).cell rfl
  have rf := (unhide HR).frozen
  have hrl := (unhide HR).lt
  go_wp2
  have hbf := ((((unhide HR).setCell 0 (.int .i64 cd)).setCell 1 (.slice none 0 0)).setCell 2 (.string noBytes))
  have HKF := hide (show Keeps (fun i => i = ob + 1) w2 (((w2.setCell ⟨ob + 1, 0, none⟩ (.int .i64 cd)).setCell ⟨ob + 1, 1, none⟩ (.slice none 0 0)).setCell ⟨ob + 1, 2, none⟩ (.string noBytes)) from ((((Keeps.refl (fun i => i = ob + 1) w2).setCell (p := ⟨ob + 1, 0, none⟩) (Or.inl rfl) _).setCell (p := ⟨ob + 1, 1, none⟩) (Or.inl rfl) _).setCell (p := ⟨ob + 1, 2, none⟩) (Or.inl rfl) _))
  have e9 : (((w2.setCell ⟨ob + 1, 0, none⟩ (.int .i64 cd)).setCell ⟨ob + 1, 1, none⟩ (.slice none 0 0)).setCell ⟨ob + 1, 2, none⟩ (.string ⟨#[]⟩)) = (((w2.setCell ⟨ob + 1, 0, none⟩ (.int .i64 cd)).setCell ⟨ob + 1, 1, none⟩ (.slice none 0 0)).setCell ⟨ob + 1, 2, none⟩ (.string noBytes)) := rfl
  first | rw [e9] | skip
  clear e9
  generalize (((w2.setCell ⟨ob + 1, 0, none⟩ (.int .i64 cd)).setCell ⟨ob + 1, 1, none⟩ (.slice none 0 0)).setCell ⟨ob + 1, 2, none⟩ (.string noBytes)) = w9 at *
  have q0 : w9.cell? ⟨ob + 1, 0, none⟩ = some (.int .i64 cd) := hbf.cell rfl
  have q1 : w9.cell? ⟨ob + 1, 1, none⟩ = some (.slice none 0 0) := hbf.cell rfl
  have q2 : w9.cell? ⟨ob + 1, 2, none⟩ = some (.string noBytes) := hbf.cell rfl
  refine bodyPost_ret (v := ansV (cd) (.slice none 0 0)) (by simp [results, Tryz.results27, go_sem, q0, q1, q2, ansV]) rfl ?_
  obtain ⟨v1, ps1, hE1, hx1, hkk1, hf1⟩ := unhide HP1
  have hP2 : RPost w0 e v ps s' w2 := ⟨v1, ps1, hE1.still (unhide HKN), hx1, hkk1.trans (unhide HKN) (fun _ h _ => h.elim), hf1⟩
  rw [unhide HCR]
  exact ⟨_, rfl, World.ownsRow_nil _ _ _ _, rpost_wrap (unhide HE) (unhide HK0) hP2 (unhide HKF) (unhide HOB) hsz0⟩

set_option maxRecDepth 100000 in
set_option maxHeartbeats 4000000 in
theorem rstep_add_ref (n : Int) (e : Nat) (v : Value) (clock ticks : Int) (ps : List (RB × RSer)) (o : OpM) (w : World) (h : RWRep w e v clock ticks ps) (hi : RWInv n clock ticks (ps.map (·.2))) (hkd : o.kind = 2) (x : RWS × Int × List Int) (hx : x.2.2 = []) (hx1 : x.2.1 ≠ 0) (hcall : Calls Tryz.prog 51 #[.pointer (some ⟨e, 0, none⟩), o.val] ((w.alloc (.cells o.cells.toArray 35)).alloc (.cells #[.int .i64 0, .slice none 0 0, .string ⟨#[]⟩] 41)) fun r w' => r = .returned (.tuple #[.int .i64 0, .int .i64 x.2.1]) ∧ RPost ((w.alloc (.cells o.cells.toArray 35)).alloc (.cells #[.int .i64 0, .slice none 0 0, .string ⟨#[]⟩] 41)) e v ps x.1 w') :
    Calls Tryz.prog 27 #[.pointer (some ⟨e, 0, none⟩), o.val] w fun r w' => RStepPost w e v ps (x) r w' := by
  have HCALL := hide hcall
  unfold OpM.val at HCALL
  clear hcall
  have h1 : o.cells[0]? = some (.int .i64 o.kind) := rfl
  have HE := hide h
  have HI := hide hi
  have hl : ps.length ≤ 1000 := by have := hi.six; rw [List.length_map] at this; omega
  clear h hi
  unfold OpM.val
  go_enter Tryz.func27, Tryz.ntmps27
  go_upto_region 1 with fail
  have hk0 : Keeps (fun _ => False) w ((w.alloc (.cells o.cells.toArray 35)).alloc (.cells #[.int .i64 0, .slice none 0 0, .string ⟨#[]⟩] 41)) := ((Keeps.refl (fun _ => False) w).alloc _).alloc _
  have HO0 := hide (show Blk ((w.alloc (.cells o.cells.toArray 35)).alloc (.cells #[.int .i64 0, .slice none 0 0, .string ⟨#[]⟩] 41)) w.heap.size o.cells 35 from (Blk.new w o.cells 35).alloc _)
  have HR0 := hide (show Blk ((w.alloc (.cells o.cells.toArray 35)).alloc (.cells #[.int .i64 0, .slice none 0 0, .string ⟨#[]⟩] 41)) (w.heap.size + 1) [.int .i64 0, .slice none 0 0, .string noBytes] 41 from Blk.newAt (by simp) [_, _, _] 41)
  have HE0 := hide ((unhide HE).still hk0)
  have HK0 := hide hk0
  clear hk0
  generalize (w.alloc (.cells o.cells.toArray 35)).alloc (.cells #[.int .i64 0, .slice none 0 0, .string ⟨#[]⟩] 41) = w0 at *
  have HLT := hide (show ∀ i, RFoot e v ps i → i < w.heap.size from (unhide HE).lt)
  generalize hob : w.heap.size = ob at *
  have HOB := hide hob
  clear hob
  have hsz0 : ob + 1 < w0.heap.size := (unhide HR0).lt
  obtain ⟨hv0, hh0⟩ := bigVal_Blk (unhide HO0) 26 rfl
  have o0 : w0.cell? ⟨ob, 0, none⟩ = some (.int .i64 2) := by rw [← hkd]; exact (unhide HO0).cell rfl
  have o2 : w0.cell? ⟨ob, 2, none⟩ = some (.int .i64 o.a) := (unhide HO0).cell rfl
  have o3 : w0.cell? ⟨ob, 3, none⟩ = some (.int .i64 o.b) := (unhide HO0).cell rfl
  obtain ⟨s', cd, nums⟩ := x
  have hx' : nums = [] := hx
  subst hx'
  have hcd : (cd != 0) = true := by simpa using hx1
  clear hx hx1
  go_wp2_with fail
  refine (unhide HCALL).mono ?_
  rintro r w1 ⟨rfl, hpost⟩
  have hR1 := hpost
  obtain ⟨v1, ps1, hE1, hx1, hkk1, hf1⟩ := hR1
  have HR1 := hide ((unhide HR0).keeps hkk1 (fun h => by have := unhide HLT _ h; omega))
  have HP1 := hide hpost
  clear hE1 hx1 hkk1 hf1 hpost hv0 hh0 o0 o2 o3
  go_wp2_with fail
  refine (rno_any cd w1).mono ?_
  rintro r w2 ⟨rfl, hk1⟩
  unfold ansV
  have HR := hide ((unhide HR1).keeps hk1 (fun h => h))
  have HKN := hide hk1
  clear hk1
  have r0 : w2.cell? ⟨ob + 1, 0, none⟩ = some (.int .i64 0) := (unhide HR).cell rfl
  have r1 : w2.cell? ⟨ob + 1, 1, none⟩ = some (.slice none 0 0) := (unhide HR).cell rfl
  have r2 : w2.cell? ⟨ob + 1, 2, none⟩ = some (.string noBytes) := (unhide HR).cell rfl
  have rf := (unhide HR).frozen
  have hrl := (unhide HR).lt
  go_wp2
  have hbf := ((((unhide HR).setCell 0 (.int .i64 cd)).setCell 1 (.slice none 0 0)).setCell 2 (.string noBytes))
  have HKF := hide (show Keeps (fun i => i = ob + 1) w2 (((w2.setCell ⟨ob + 1, 0, none⟩ (.int .i64 cd)).setCell ⟨ob + 1, 1, none⟩ (.slice none 0 0)).setCell ⟨ob + 1, 2, none⟩ (.string noBytes)) from ((((Keeps.refl (fun i => i = ob + 1) w2).setCell (p := ⟨ob + 1, 0, none⟩) (Or.inl rfl) _).setCell (p := ⟨ob + 1, 1, none⟩) (Or.inl rfl) _).setCell (p := ⟨ob + 1, 2, none⟩) (Or.inl rfl) _))
  have e9 : (((w2.setCell ⟨ob + 1, 0, none⟩ (.int .i64 cd)).setCell ⟨ob + 1, 1, none⟩ (.slice none 0 0)).setCell ⟨ob + 1, 2, none⟩ (.string ⟨#[]⟩)) = (((w2.setCell ⟨ob + 1, 0, none⟩ (.int .i64 cd)).setCell ⟨ob + 1, 1, none⟩ (.slice none 0 0)).setCell ⟨ob + 1, 2, none⟩ (.string noBytes)) := rfl
  first | rw [e9] | skip
  clear e9
  generalize (((w2.setCell ⟨ob + 1, 0, none⟩ (.int .i64 cd)).setCell ⟨ob + 1, 1, none⟩ (.slice none 0 0)).setCell ⟨ob + 1, 2, none⟩ (.string noBytes)) = w9 at *
  have q0 : w9.cell? ⟨ob + 1, 0, none⟩ = some (.int .i64 cd) := hbf.cell rfl
  have q1 : w9.cell? ⟨ob + 1, 1, none⟩ = some (.slice none 0 0) := hbf.cell rfl
  have q2 : w9.cell? ⟨ob + 1, 2, none⟩ = some (.string noBytes) := hbf.cell rfl
  refine bodyPost_ret (v := ansV (cd) (.slice none 0 0)) (by simp [results, Tryz.results27, go_sem, q0, q1, q2, ansV]) rfl ?_
  obtain ⟨v1, ps1, hE1, hx1, hkk1, hf1⟩ := unhide HP1
  have hP2 : RPost w0 e v ps s' w2 := ⟨v1, ps1, hE1.still (unhide HKN), hx1, hkk1.trans (unhide HKN) (fun _ h _ => h.elim), hf1⟩
  exact ⟨_, rfl, World.ownsRow_nil _ _ _ _, rpost_wrap (unhide HE) (unhide HK0) hP2 (unhide HKF) (unhide HOB) hsz0⟩

set_option maxRecDepth 100000 in
set_option maxHeartbeats 4000000 in
theorem rstep_add_yes (n : Int) (e : Nat) (v : Value) (clock ticks : Int) (ps : List (RB × RSer)) (o : OpM) (w : World) (h : RWRep w e v clock ticks ps) (hi : RWInv n clock ticks (ps.map (·.2))) (hn : n < 1099511627776) (hkd : o.kind = 2) (p : RB × RSer) (hf : findRP ps o.id = some p) (hr : refuR p.2 clock o = 0) :
    Calls Tryz.prog 27 #[.pointer (some ⟨e, 0, none⟩), o.val] w fun r w' => RStepPost w e v ps (⟨clock, ticks, updR (ps.map (·.2)) o.id (accR p.2 o)⟩, 0, [(p.2.items.length : Int) + 1]) r w' := by
  have h1 : o.cells[0]? = some (.int .i64 o.kind) := rfl
  have HE := hide h
  have HI := hide hi
  have hl : ps.length ≤ 1000 := by have := hi.six; rw [List.length_map] at this; omega
  clear h hi
  unfold OpM.val
  go_enter Tryz.func27, Tryz.ntmps27
  go_upto_region 1 with fail
  have hk0 : Keeps (fun _ => False) w ((w.alloc (.cells o.cells.toArray 35)).alloc (.cells #[.int .i64 0, .slice none 0 0, .string ⟨#[]⟩] 41)) := ((Keeps.refl (fun _ => False) w).alloc _).alloc _
  have HO0 := hide (show Blk ((w.alloc (.cells o.cells.toArray 35)).alloc (.cells #[.int .i64 0, .slice none 0 0, .string ⟨#[]⟩] 41)) w.heap.size o.cells 35 from (Blk.new w o.cells 35).alloc _)
  have HR0 := hide (show Blk ((w.alloc (.cells o.cells.toArray 35)).alloc (.cells #[.int .i64 0, .slice none 0 0, .string ⟨#[]⟩] 41)) (w.heap.size + 1) [.int .i64 0, .slice none 0 0, .string noBytes] 41 from Blk.newAt (by simp) [_, _, _] 41)
  have HE0 := hide ((unhide HE).still hk0)
  have HK0 := hide hk0
  clear hk0
  generalize (w.alloc (.cells o.cells.toArray 35)).alloc (.cells #[.int .i64 0, .slice none 0 0, .string ⟨#[]⟩] 41) = w0 at *
  have HLT := hide (show ∀ i, RFoot e v ps i → i < w.heap.size from (unhide HE).lt)
  generalize hob : w.heap.size = ob at *
  have HOB := hide hob
  clear hob
  have hsz0 : ob + 1 < w0.heap.size := (unhide HR0).lt
  obtain ⟨hv0, hh0⟩ := bigVal_Blk (unhide HO0) 26 rfl
  have o0 : w0.cell? ⟨ob, 0, none⟩ = some (.int .i64 2) := by rw [← hkd]; exact (unhide HO0).cell rfl
  have o2 : w0.cell? ⟨ob, 2, none⟩ = some (.int .i64 o.a) := (unhide HO0).cell rfl
  have o3 : w0.cell? ⟨ob, 3, none⟩ = some (.int .i64 o.b) := (unhide HO0).cell rfl
  go_wp2_with fail
  refine (radd_yes n e v clock ticks ps o w0 (unhide HE0) (unhide HI) hn p hf hr).mono ?_
  rintro r w1 ⟨rfl, hpost⟩
  have hR1 := hpost
  obtain ⟨v1, ps1, hE1, hx1, hkk1, hf1⟩ := hR1
  have HR1 := hide ((unhide HR0).keeps hkk1 (fun h => by have := unhide HLT _ h; omega))
  have HP1 := hide hpost
  clear hE1 hx1 hkk1 hf1 hpost hv0 hh0 o0 o2 o3
  have HR := HR1
  generalize hnum : (p.2.items.length : Int) + 1 = num at *
  have HNUM := hide hnum
  clear hnum
  have r0 : w1.cell? ⟨ob + 1, 0, none⟩ = some (.int .i64 0) := (unhide HR).cell rfl
  have r1 : w1.cell? ⟨ob + 1, 1, none⟩ = some (.slice none 0 0) := (unhide HR).cell rfl
  have r2 : w1.cell? ⟨ob + 1, 2, none⟩ = some (.string noBytes) := (unhide HR).cell rfl
  have rf := (unhide HR).frozen
  have hrl := (unhide HR).lt
  have hrn : ob + 1 ≠ w1.heap.size := by omega
  go_wp2
  have hbf := ((((unhide HR).setCell 0 (.int .i64 0)).setCell 1 (.slice (some ⟨w1.heap.size, 0, none⟩) 1 1)).setCell 2 (.string noBytes)).alloc (.cells #[.int .i64 num] 3)
  have HKF := hide (show Keeps (fun i => i = ob + 1) w1 ((((w1.setCell ⟨ob + 1, 0, none⟩ (.int .i64 0)).setCell ⟨ob + 1, 1, none⟩ (.slice (some ⟨w1.heap.size, 0, none⟩) 1 1)).setCell ⟨ob + 1, 2, none⟩ (.string noBytes)).alloc (.cells #[.int .i64 num] 3)) from ((((Keeps.refl (fun i => i = ob + 1) w1).setCell (p := ⟨ob + 1, 0, none⟩) (Or.inl rfl) _).setCell (p := ⟨ob + 1, 1, none⟩) (Or.inl rfl) _).setCell (p := ⟨ob + 1, 2, none⟩) (Or.inl rfl) _).alloc _)
  have hbn : Blk ((((w1.setCell ⟨ob + 1, 0, none⟩ (.int .i64 0)).setCell ⟨ob + 1, 1, none⟩ (.slice (some ⟨w1.heap.size, 0, none⟩) 1 1)).setCell ⟨ob + 1, 2, none⟩ (.string noBytes)).alloc (.cells #[.int .i64 num] 3)) w1.heap.size [.int .i64 num] 3 := Blk.newAt (by simp) [_] 3
  have e9 : ((((w1.setCell ⟨ob + 1, 0, none⟩ (.int .i64 0)).setCell ⟨ob + 1, 1, none⟩ (.slice (some ⟨w1.heap.size, 0, none⟩) 1 1)).setCell ⟨ob + 1, 2, none⟩ (.string ⟨#[]⟩)).alloc (.cells #[.int .i64 num] 3)) = ((((w1.setCell ⟨ob + 1, 0, none⟩ (.int .i64 0)).setCell ⟨ob + 1, 1, none⟩ (.slice (some ⟨w1.heap.size, 0, none⟩) 1 1)).setCell ⟨ob + 1, 2, none⟩ (.string noBytes)).alloc (.cells #[.int .i64 num] 3)) := rfl
  first | rw [e9] | skip
  clear e9
  generalize ((((w1.setCell ⟨ob + 1, 0, none⟩ (.int .i64 0)).setCell ⟨ob + 1, 1, none⟩ (.slice (some ⟨w1.heap.size, 0, none⟩) 1 1)).setCell ⟨ob + 1, 2, none⟩ (.string noBytes)).alloc (.cells #[.int .i64 num] 3)) = w9 at *
  have q0 : w9.cell? ⟨ob + 1, 0, none⟩ = some (.int .i64 0) := hbf.cell rfl
  have q1 : w9.cell? ⟨ob + 1, 1, none⟩ = some (.slice (some ⟨w1.heap.size, 0, none⟩) 1 1) := hbf.cell rfl
  have q2 : w9.cell? ⟨ob + 1, 2, none⟩ = some (.string noBytes) := hbf.cell rfl
  refine bodyPost_ret (v := ansV (0) (.slice (some ⟨w1.heap.size, 0, none⟩) 1 1)) (by simp [results, Tryz.results27, go_sem, q0, q1, q2, ansV]) rfl ?_
  have hw1 : w.heap.size ≤ w1.heap.size := by have := unhide HOB; omega
  rw [unhide HNUM]
  exact ⟨_, rfl, ⟨rfl, .inr ⟨w1.heap.size, 1, _, rfl, hw1, hbn, by simp, by unfold maxLen; simp, rfl, rfl⟩⟩, rpost_wrap (unhide HE) (unhide HK0) (unhide HP1) (unhide HKF) (unhide HOB) hsz0⟩

end Go.Proofs.YtjhaihbjhikhlaaGreat

namespace Go.Proofs.YtjhaihbjhikhlaaGreat
open Go.RowKit

theorem RInv.mono {n m : Int} {y : RSer} (h : RInv n y) (hm : n ≤ m) : RInv m y := by
  have h1 := h.items
  have h2 := h.events
  exact ⟨h.valid, by omega, by omega, h.refl, fun v hv => by have := h.refn v hv; omega, h.times⟩
theorem newR_inv {n : Int} (id : Int) (c : Cfg) (h : validB c = true) (hn : 0 ≤ n) : RInv n (newR id c) := by
  refine ⟨h, by simpa [newR] using hn, by simpa [newR, relT] using hn, rfl, ?_, by simp [newR]⟩
  intro v hv
  have : v = 0 := by simpa [newR] using hv
  omega
theorem releaseR_inv {n : Int} (mark ticks : Int) (ht : ticks ≠ 0) (f : Nat) : ∀ y : RSer, RInv n y → RInv n (releaseR f y mark ticks) := by
  induction f with
  | zero => intro y h; exact h
  | succ f ih =>
    intro y h
    unfold releaseR
    rcases nextR_spec y.items mark with ⟨h0, _⟩ | ⟨h1, h2, h3, _⟩
    · rw [if_pos (by omega)]; exact h
    · rw [if_neg (by omega)]
      have hw := wait_one ticks ht y.items _ h2 h3
      have hr1 := wait_rel y.items
      have hr2 := wait_rel (tickAt y.items (nextR y.items mark).toNat ticks)
      have hl : (tickAt y.items (nextR y.items mark).toNat ticks).length = y.items.length := by simp [tickAt]
      have he := h.events
      have hi := h.items
      refine ih _ ⟨h.valid, ?_, ?_, h.refl, h.refn, ?_⟩
      · show ((tickAt _ _ _).length : Int) ≤ n; omega
      · show ((y.events ++ [_]).length : Int) ≤ (relT (tickAt _ _ _)).length + n
        rw [List.length_append]; simp; omega
      · intro z hz
        rcases List.mem_or_eq_of_mem_set hz with hz | hz
        · exact h.times z hz
        · subst hz
          have := h.times (rAt y.items (nextR y.items mark).toNat) (by rw [rAt_get _ _ h2]; exact List.getElem_mem _)
          exact this
theorem awayR_inv {n : Int} {y : RSer} (clock b : Int) (h : RInv n y) : RInv (n + 1) (awayR clock b y) := by
  have hm := h.mono (m := n + 1) (by omega)
  have he := h.events
  refine ⟨hm.valid, hm.items, ?_, hm.refl, hm.refn, hm.times⟩
  show ((y.events ++ [_]).length : Int) ≤ (relT y.items).length + (n + 1)
  rw [List.length_append]; simp; omega
theorem tickAllR_length (nc tk : Int) (xs : List RSer) : ∀ b, (tickAllR nc tk b xs).1.length = xs.length := by
  induction xs with
  | nil => intro b; rfl
  | cons y ys ih =>
    intro b
    simp only [tickAllR]
    split <;> simp [ih]
theorem tickAllR_mem {nc tk : Int} {xs : List RSer} : ∀ {b : Int}, 0 ≤ b → ∀ {z : RSer}, z ∈ (tickAllR nc tk b xs).1 → ∃ y, y ∈ xs ∧ ((y.c.kind ≠ 1 ∧ z = tickOneR nc tk y) ∨ (y.c.kind = 1 ∧ ∃ b', 0 ≤ b' ∧ z = awayR nc b' (tickOneR nc tk y))) := by
  induction xs with
  | nil => intro b _ z hz; simp [tickAllR] at hz
  | cons y ys ih =>
    intro b hb z hz
    simp only [tickAllR] at hz
    split at hz
    · rename_i hk
      rcases List.mem_cons.1 hz with hz | hz
      · exact ⟨y, by simp, .inr ⟨hk, b, hb, hz⟩⟩
      · obtain ⟨y', hy', h⟩ := ih (by omega) hz
        exact ⟨y', by simp [hy'], h⟩
    · rename_i hk
      rcases List.mem_cons.1 hz with hz | hz
      · exact ⟨y, by simp, .inl ⟨hk, hz⟩⟩
      · obtain ⟨y', hy', h⟩ := ih hb hz
        exact ⟨y', by simp [hy'], h⟩
theorem refuR_late {y : RSer} {clock : Int} {o : OpM} (h : refuR y clock o = 0) : clock - y.c.lag < o.a := by
  unfold refuR at h
  split at h
  · split at h
    · omega
    · omega
  · omega
theorem refuR_zero {y : RSer} {clock : Int} {o : OpM} (h : refuR y clock o = 0) : 0 ≤ o.a ∧ o.a ≤ 4611686018427387904 := by
  unfold refuR at h
  split at h
  · rename_i ha; exact inB_iff ha
  · omega
theorem updR_mem {xs : List RSer} {id : Int} {y z : RSer} (h : z ∈ updR xs id y) : z ∈ xs ∨ z = y := by
  induction xs with
  | nil => simp [updR] at h
  | cons a l ih =>
    unfold updR at h
    split at h
    · rcases List.mem_cons.1 h with h | h
      · exact .inr h
      · exact .inl (by simp [h])
    · rcases List.mem_cons.1 h with h | h
      · exact .inl (by simp [h])
      · rcases ih h with h | h
        · exact .inl (by simp [h])
        · exact .inr h
theorem updR_length (xs : List RSer) (id : Int) (y : RSer) : (updR xs id y).length = xs.length := by
  induction xs with
  | nil => rfl
  | cons a l ih =>
    unfold updR
    split
    · rfl
    · simp [ih]
theorem stepR_inv {n : Int} {s : RWS} (o : OpM) (h : RWInv n s.clock s.ticks s.xs) (hn : 0 ≤ n) : RWInv (n + 1) (stepR s o).1.clock (stepR s o).1.ticks (stepR s o).1.xs := by
  have htn := h.tn
  have hs : RWInv (n + 1) s.clock s.ticks s.xs := ⟨h.c0, h.c1, h.t0, by omega, h.six, fun x hx => (h.sers x hx).mono (by omega), h.cnt⟩
  unfold stepR
  split
  · unfold createR
    split
    · split
      · split
        · exact hs
        · rename_i h2 h3
          have h6 := h.six
          refine ⟨h.c0, h.c1, h.t0, by show s.ticks ≤ n + 1; omega, by show (s.xs ++ [_]).length ≤ 6; rw [List.length_append]; simp; omega, fun x hx => ?_, fun x hx hk => ?_⟩
          · rcases List.mem_append.1 hx with hx | hx
            · exact hs.sers x hx
            · rw [List.mem_singleton] at hx; subst hx; exact newR_inv _ _ h2 (by omega)
          · rcases List.mem_append.1 hx with hx | hx
            · exact h.cnt x hx hk
            · rw [List.mem_singleton] at hx; subst hx; exact new_CInv _ _ _
      · exact hs
    · exact hs
  · split
    · unfold addR
      split
      · exact hs
      · rename_i y hf
        have hy : y ∈ s.xs := List.mem_of_find?_eq_some hf
        have hyi := h.sers y hy
        have hyl := hyi.items
        split
        · rename_i hr
          obtain ⟨t0, t1⟩ := refuR_zero hr
          refine ⟨h.c0, h.c1, h.t0, by show s.ticks ≤ n + 1; omega, by show (updR _ _ _).length ≤ 6; rw [updR_length]; exact h.six, fun z hz => ?_, fun z hz hk => ?_⟩
          · rcases updR_mem hz with hz | hz
            · exact hs.sers z hz
            · subst hz
              have hyn := hyi.mono (m := n + 1) (by omega)
              refine ⟨hyn.valid, ?_, ?_, hyn.refl, hyn.refn, ?_⟩
              · show ((y.items ++ [_]).length : Int) ≤ n + 1
                rw [List.length_append]; simp; omega
              · have : relT (accR y o).items = relT y.items := by
                  show relT (y.items ++ [_]) = _
                  unfold relT
                  rw [List.filter_append, List.map_append]; simp
                rw [this]; exact hyn.events
              · intro z hz
                rcases List.mem_append.1 hz with hz | hz
                · exact hyn.times z hz
                · rw [List.mem_singleton] at hz; subst hz; exact ⟨t0, t1⟩

          · rcases updR_mem hz with hz | hz
            · exact h.cnt z hz hk
            · subst hz
              exact later_CInv (h.cnt y hy hk) o (refuR_late hr)
        · refine ⟨h.c0, h.c1, h.t0, by show s.ticks ≤ n + 1; omega, by show (updR _ _ _).length ≤ 6; rw [updR_length]; exact h.six, fun z hz => ?_, fun z hz hk => ?_⟩
          · rcases updR_mem hz with hz | hz
            · exact hs.sers z hz
            · subst hz
              have hyn := hyi.mono (m := n + 1) (by omega)
              refine ⟨hyn.valid, hyn.items, hyn.events, by show (y.ref.set _ _).length = 15; rw [List.length_set]; exact hyn.refl, ?_, hyn.times⟩
              intro v hv
              rcases List.mem_or_eq_of_mem_set hv with hv | hv
              · exact hyn.refn v hv
              · subst hv
                have : 0 ≤ refAt y.ref (refuR y s.clock o).toNat ∧ refAt y.ref (refuR y s.clock o).toNat ≤ n := by
                  have hrr := refuR_range y s.clock o
                  refine hyi.refn _ ?_
                  unfold refAt
                  rw [List.getD_eq_getElem?_getD, List.getElem?_eq_getElem (by rw [hyi.refl]; omega)]
                  exact List.getElem_mem _
                omega

          · rcases updR_mem hz with hz | hz
            · exact h.cnt z hz hk
            · subst hz
              have hc := h.cnt y hy hk
              exact ⟨hc.ok, hc.ts, hc.le, hc.wt⟩
    · split
      · unfold tickR
        split
        · rename_i ha
          obtain ⟨a0, a1⟩ := inB_iff ha
          have hc0 := h.c0
          have hc1 := h.c1
          have ht0 := h.t0
          split
          · rename_i hb
            have b0 := (inB_iff hb).1
            have hcn : s.clock ≤ maxC s.clock o.a := by unfold maxC; split <;> omega
            have hm0 : 0 ≤ maxC s.clock o.a := by omega
            have hm1 : maxC s.clock o.a ≤ 4611686018427387904 := by unfold maxC; split <;> omega
            refine ⟨hm0, hm1, by show 0 ≤ s.ticks + 1; omega, by show s.ticks + 1 ≤ n + 1; omega, by show (tickAllR _ _ _ _).1.length ≤ 6; rw [tickAllR_length]; exact h.six, fun z hz => ?_, fun z hz hk => ?_⟩
            · obtain ⟨y, hy, ⟨_, rfl⟩ | ⟨_, b', _, rfl⟩⟩ := tickAllR_mem b0 hz
              · exact releaseR_inv _ _ (by omega) _ _ (hs.sers y hy)
              · exact awayR_inv _ _ (releaseR_inv _ _ (by omega) _ _ (h.sers y hy))
            · obtain ⟨y, hy, ⟨hky, rfl⟩ | ⟨hky, b', hb', rfl⟩⟩ := tickAllR_mem b0 hz
              · rw [tickOneR_c _ _ _ (by omega)] at hk; exact absurd hk hky
              · obtain ⟨la0, la1, _, _, _, _⟩ := (h.sers y hy).common
                have hvc := valid_count (k := 1) (h.sers y hy).valid hky rfl
                show CInv (maxC s.clock o.a) _
                exact away_CInv (tick_CInv (by omega) (h.cnt y hy hky) hcn (by omega) (by omega)) hb'
          · exact hs
        · exact hs
      · exact hs

theorem releaseR_c (f : Nat) : ∀ (y : RSer) (mark ticks : Int), (releaseR f y mark ticks).c = y.c := by
  induction f with
  | zero => intro y m t; rfl
  | succ f ih =>
    intro y m t
    unfold releaseR
    split
    · rfl
    · exact ih _ _ _
theorem stepR_kinds {s : RWS} (o : OpM) (P : Int → Prop) (h : ∀ y, y ∈ s.xs → P y.c.kind) (ho : o.kind = 1 → validB o.cfg = true → P o.cfg.kind) : ∀ y, y ∈ (stepR s o).1.xs → P y.c.kind := by
  unfold stepR
  split
  · rename_i h1
    unfold createR
    split
    · split
      · split
        · exact h
        · rename_i h2 _
          intro y hy
          rcases List.mem_append.1 hy with hy | hy
          · exact h y hy
          · rw [List.mem_singleton] at hy; subst hy; exact ho h1 h2
      · exact h
    · exact h
  · split
    · unfold addR
      split
      · exact h
      · rename_i y hf
        have hy : y ∈ s.xs := List.mem_of_find?_eq_some hf
        split
        · intro z hz
          rcases updR_mem hz with hz | hz
          · exact h z hz
          · subst hz; exact h y hy
        · intro z hz
          rcases updR_mem hz with hz | hz
          · exact h z hz
          · subst hz; exact h y hy
    · split
      · unfold tickR
        split
        · split
          · intro z hz
            rename_i hb
            obtain ⟨x, hx, ⟨_, rfl⟩ | ⟨_, b', _, rfl⟩⟩ := tickAllR_mem (inB_iff hb).1 hz
            · unfold tickOneR
              rw [releaseR_c]
              exact h x hx
            · show P (tickOneR _ _ x).c.kind
              unfold tickOneR
              rw [releaseR_c]
              exact h x hx
          · exact h
        · exact h
      · exact h

/-! ### the step, whatever it is -/
theorem rstep_any (n : Int) (e : Nat) (v : Value) (clock ticks : Int) (ps : List (RB × RSer)) (o : OpM) (w : World) (h : RWRep w e v clock ticks ps) (hi : RWInv n clock ticks (ps.map (·.2))) (hn : n < 1099511627776) :
    Calls Tryz.prog 27 #[.pointer (some ⟨e, 0, none⟩), o.val] w fun r w' => RStepPost w e v ps (stepR ⟨clock, ticks, ps.map (·.2)⟩ o) r w' := by
  unfold stepR
  by_cases h1 : o.kind = 1
  · rw [if_pos h1]; exact rstep_create n e v clock ticks ps o w h hi h1
  rw [if_neg h1]
  by_cases h2 : o.kind = 2
  · rw [if_pos h2]
    unfold addR
    rw [findRP_findR]
    have hk0 : Keeps (fun _ => False) w ((w.alloc (.cells o.cells.toArray 35)).alloc (.cells #[.int .i64 0, .slice none 0 0, .string ⟨#[]⟩] 41)) := ((Keeps.refl (fun _ => False) w).alloc _).alloc _
    cases hf : findRP ps o.id with
    | none =>
      exact rstep_add_ref n e v clock ticks ps o w h hi h2 (⟨clock, ticks, ps.map (·.2)⟩, 2, []) rfl (by simp) (radd_no e v clock ticks ps o _ (h.still hk0) (by have := hi.six; simp at this; omega) hf)
    | some p =>
      simp only [Option.map_some]
      by_cases hr : refuR p.2 clock o = 0
      · rw [if_pos hr]
        exact rstep_add_yes n e v clock ticks ps o w h hi hn h2 p hf hr
      · rw [if_neg hr]
        exact rstep_add_ref n e v clock ticks ps o w h hi h2 (⟨clock, ticks, updR (ps.map (·.2)) o.id (refR p.2 (refuR p.2 clock o).toNat)⟩, refuR p.2 clock o, []) rfl hr (radd_ref n e v clock ticks ps o _ (h.still hk0) hi (by omega) p hf hr)
  rw [if_neg h2]
  by_cases h3 : o.kind = 3
  · rw [if_pos h3]
    unfold tickR
    by_cases ha : inB o.a 0 4611686018427387904 = true
    · rw [if_pos ha]
      by_cases hb : inB o.b 0 100 = true
      · rw [if_pos hb]
        exact rstep_tick n e v clock ticks ps o w h hi hn h3 ha hb
      · rw [if_neg hb]
        exact rstep_budget n e v clock ticks ps o w h hi h3 ha (by simpa using hb)
    · rw [if_neg ha]
      exact rstep_time n e v clock ticks ps o w h hi h3 (by simpa using ha)
  · rw [if_neg h3]
    exact rstep_else n e v clock ticks ps o w h hi h1 h2 h3

end Go.Proofs.YtjhaihbjhikhlaaGreat

namespace Go.Proofs.YtjhaihbjhikhlaaGreat
open Go.RowKit
attribute [local go_sem ↓] execOp_load38 execOp_load40
attribute [local go_sem] run_load38 run_load40 bigVal_drew hasBig_drew bigVal_ne hasBig_ne bigVal_alloc hasBig_alloc bigVal_new hasBig_newB

def endR : RWS → List OpM → RWS
  | s, [] => s
  | s, o :: r => endR (stepR s o).1 r
theorem endR_snoc (s : RWS) (l : List OpM) (o : OpM) : endR s (l ++ [o]) = (stepR (endR s l) o).1 := by
  induction l generalizing s with
  | nil => rfl
  | cons a l ih => exact ih _
theorem endR_inv {n : Int} {s : RWS} (l : List OpM) (h : RWInv n s.clock s.ticks s.xs) (hn : 0 ≤ n) : RWInv (n + l.length) (endR s l).clock (endR s l).ticks (endR s l).xs := by
  induction l generalizing s n with
  | nil => simpa [endR] using h
  | cons a l ih =>
    have := ih (stepR_inv a h hn) (by omega)
    rw [List.length_cons, show n + ((l.length + 1 : Nat) : Int) = n + 1 + (l.length : Int) by omega]
    exact this
theorem rinv0 : RWInv 0 rs0.clock rs0.ticks rs0.xs := ⟨by simp [rs0], by simp [rs0], by simp [rs0], by simp [rs0], by simp [rs0], fun x hx => by simp [rs0] at hx, fun x hx => by simp [rs0] at hx⟩
theorem endR_kinds (P : Int → Prop) (l : List OpM) : ∀ (s : RWS), (∀ y, y ∈ s.xs → P y.c.kind) → (∀ o, o ∈ l → o.kind = 1 → validB o.cfg = true → P o.cfg.kind) → ∀ y, y ∈ (endR s l).xs → P y.c.kind := by
  induction l with
  | nil => intro s h _; exact h
  | cons a l ih => intro s h ho; exact ih _ (stepR_kinds a P h (ho a (by simp))) (fun o hm => ho o (by simp [hm]))

/-- A script, seen. -/
theorem script_view {w : World} {v : Value} {ops : List OpM} (h : ScriptW w v ops) : ∃ a cap, v = .slice a ops.length cap ∧ ∀ i o, ops[i]? = some o → ∃ sb so, a = some ⟨sb, so, none⟩ ∧ sb < w.heap.size ∧ w.rangeAt sb (so + i * 26) o.cells := by
  rcases h with ⟨⟨a, c, rfl⟩, rfl⟩ | ⟨sb, so, cap, rfl, _, h3, h4⟩
  · exact ⟨a, c, rfl, fun i o ho => by simp at ho⟩
  · exact ⟨_, cap, rfl, fun i o ho => ⟨sb, so, rfl, h4, h3 i o ho⟩⟩
theorem range_big {w wr : World} {sb so : Nat} {o : OpM} (h : w.rangeAt sb so o.cells) (hlt : sb < w.heap.size) (hk : Keeps (fun _ => False) w wr) : bigVal wr sb so 26 = .agg o.cells.toArray ∧ hasBig wr sb so 26 = true := by
  have hsb := bigCells_of_range h
  have hkp := bigVal_keeps (o := so) (n := 26) hk (fun h => h) hlt
  refine ⟨?_, by rw [hkp.2]; exact hsb.2⟩
  rw [hkp.1]; unfold bigVal
  have := hsb.1
  rw [show o.cells.length = 26 from rfl] at this
  rw [this]

set_option maxRecDepth 100000 in
set_option maxHeartbeats 4000000 in
theorem rworld_any (v : Value) (ops : List OpM) (w : World) (hs : ScriptW w v ops) (hlen : ops.length ≤ 651562446090) :
    Calls Tryz.prog 24 #[v] w fun r w' => ∃ e vv ps, r = .returned (.pointer (some ⟨e, 0, none⟩)) ∧ RWRep w' e vv (endR rs0 ops).clock (endR rs0 ops).ticks ps ∧ ps.map (·.2) = (endR rs0 ops).xs ∧ Keeps (fun _ => False) w w' ∧ (∀ i, RFoot e vv ps i → w.heap.size ≤ i) := by
  obtain ⟨a, cap, rfl, hsv⟩ := script_view hs
  have HSV := hide hsv
  clear hs hsv
  generalize hn : ops.length = n at *
  have HN := hide hn
  clear hn
  go_enter Tryz.func24, Tryz.ntmps24
  go_wp2_with fail
  have hbe : Blk (w.alloc (.cells #[.int .i64 0, .int .i64 0, .slice none 0 0] 85)) w.heap.size [.int .i64 0, .int .i64 0, .slice none 0 0] 85 := Blk.new w [.int .i64 0, .int .i64 0, .slice none 0 0] 85
  have HE1 := hide (show RWRep (w.alloc (.cells #[.int .i64 0, .int .i64 0, .slice none 0 0] 85)) w.heap.size (.slice none 0 0) 0 0 [] from ⟨hbe, World.ownsRow_nil _ _ _ _, fun p hp => by simp at hp, List.Pairwise.nil, by simp [Value.ownBlock], fun p hp => by simp at hp⟩)
  have HK1 := hide ((Keeps.refl (fun _ => False) w).alloc (.cells #[.int .i64 0, .int .i64 0, .slice none 0 0] 85))
  clear hbe
  generalize w.alloc (.cells #[.int .i64 0, .int .i64 0, .slice none 0 0] 85) = w1 at *
  generalize hen : w.heap.size = e at *
  have HEN := hide hen
  clear hen
  go_loopw [4] (fun i wr => ∃ (k : Nat) (vv : Value) (ps : List (RB × RSer)), k ≤ n ∧ i = .int .i64 k ∧ Hid (RWRep wr e vv (endR rs0 (ops.take k)).clock (endR rs0 (ops.take k)).ticks ps) ∧ Hid (ps.map (·.2) = (endR rs0 (ops.take k)).xs) ∧ Hid (Keeps (fun _ => False) w wr) ∧ Hid (∀ i, RFoot e vv ps i → e ≤ i)) (fun i _ => n - (intOf i).toNat)
  case atStart =>
    refine ⟨0, .slice none 0 0, [], by omega, rfl, HE1, rfl, HK1, fun i hi => ?_⟩
    rcases hi with hi | hi | ⟨p, hp, _⟩
    · omega
    · simp [Value.ownBlock] at hi
    · simp at hp
  case round =>
    obtain ⟨k, vv, ps, hk, rfl, HEr, HXr, HKr, HLr⟩ := hrel
    by_cases hkn : k < n
    · obtain ⟨o, ho⟩ : ∃ o, ops[k]? = some o := ⟨ops[k]'(by rw [unhide HN]; exact hkn), List.getElem?_eq_getElem _⟩
      have HO := hide ho
      obtain ⟨sb, so, ha, hlt, hra⟩ := unhide HSV k o ho
      rw [← unhide HEN] at hlt
      obtain ⟨hv0, hh0⟩ := range_big hra (by have := unhide HEN; omega) (unhide HKr)
      subst ha
      have hk0 : (0 : Int) ≤ (k : Int) := by omega
      have hkn' : (k : Int) < (n : Int) := by omega
      have hkl : (ops.take k).length = k := by rw [List.length_take, unhide HN]; omega
      have hinv : RWInv (k : Int) (endR rs0 (ops.take k)).clock (endR rs0 (ops.take k)).ticks (ps.map (·.2)) := by
        have := endR_inv (ops.take k) rinv0 (by omega)
        rw [hkl] at this
        rw [unhide HXr]
        simpa using this
      have HINV := hide hinv
      clear ho hra hkl hinv
      go_wp2_with fail
      refine (rstep_any k e vv _ _ ps o wr (unhide HEr) (unhide HINV) (by omega)).mono ?_
      rintro r w2 ⟨nv, rfl, _, v2, ps2, hE2, hx2, hk2, hf2⟩
      have HE2 := hide hE2
      have HX2 := hide hx2
      have HK2 := hide hk2
      have HF2 := hide hf2
      clear hE2 hx2 hk2 hf2 hv0 hh0
      unfold ansV
      go_wp2
      go_roundw
      case rel =>
        have htk : endR rs0 (ops.take (k + 1)) = (stepR (endR rs0 (ops.take k)) o).1 := by
          rw [List.take_add_one, unhide HO]
          exact endR_snoc rs0 (ops.take k) o
        have hss : (⟨(endR rs0 (ops.take k)).clock, (endR rs0 (ops.take k)).ticks, ps.map (·.2)⟩ : RWS) = endR rs0 (ops.take k) := by
          rw [unhide HXr]
        have hE2 := unhide HE2
        have hX2 := unhide HX2
        rw [hss] at hE2 hX2
        refine ⟨k + 1, v2, ps2, by omega, by go_num, by rw [htk]; exact hE2, by rw [htk]; exact hX2, ?_, fun i hi => ?_⟩
        · exact (unhide HKr).trans (unhide HK2) (fun i hi hlt => by have := unhide HLr i hi; have := unhide HEN; omega)
        · rcases unhide HF2 i hi with h | h
          · exact unhide HLr i h
          · have := (unhide HKr).size; have := unhide HEN; omega
      case measure => simp [intOf]; omega
    · have hkm : k = n := by omega
      subst hkm
      go_wp2
      go_ret
      have ht : ops.take k = ops := List.take_of_length_le (by rw [unhide HN]; exact Nat.le_refl _)
      have hE := unhide HEr
      have hX := unhide HXr
      rw [ht] at hE hX
      exact ⟨e, vv, ps, rfl, hE, hX, unhide HKr, by rw [unhide HEN]; exact unhide HLr⟩

end Go.Proofs.YtjhaihbjhikhlaaGreat
