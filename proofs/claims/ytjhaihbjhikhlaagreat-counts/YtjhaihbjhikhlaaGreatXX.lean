import Derived.Test.YtjhaihbjhikhlaaGreatXV
import Derived.Test.YtjhaihbjhikhlaaGreatXW
namespace Go.Proofs.YtjhaihbjhikhlaaGreat
open Go.RowKit
attribute [local go_sem ↓] execOp_load38 execOp_load40
attribute [local go_sem] run_load38 run_load40 bigVal_drew hasBig_drew bigVal_ne hasBig_ne bigVal_alloc hasBig_alloc bigVal_new hasBig_newB

theorem rvalid_any (c : Cfg) (w : World) : Calls Tryz.prog 68 #[.agg c.cells.toArray] w fun e w' => e = .returned (.bool (validB c)) ∧ Keeps (fun _ => False) w w' := by
  by_cases h1 : c.kind = 1
  · exact rvalid_1 c w h1
  by_cases h2 : c.kind = 2
  · exact rvalid_2 c w h2
  by_cases h3 : c.kind = 3
  · exact rvalid_3 c w h3
  by_cases h4 : c.kind = 4
  · exact rvalid_4 c w h4
  by_cases h5 : c.kind = 5
  · exact rvalid_5 c w h5
  exact rvalid_0 c w (by omega)

theorem info91 : (Tryz.prog.info? 86).map (fun i => (i.zero, i.size, i.bytes)) = some (some (.pointer none), 1, 8) := by kernel_rfl
theorem build98 (id : Int) (c : Cfg) (w : World) :
    (Instr.build 93 #[(0, .int .i64 id), (1, .agg c.cells.toArray)]).run Tryz.prog w = .ok (.agg (rCells ⟨0, .slice none 0 0, .slice none 0 0⟩ (newR id c)).toArray) w := by kernel_rfl
theorem execOp_build98 (ρ : Operand → Value) (dst : Option Tmp) (x : Array (Nat × Operand)) (ty : TypeId) (pos : String) (after : Array Edge) (guard : Option (Nat × Bool)) :
    execOp ρ { dst, op := .build 93 x, type := ty, pos, after, guard } = buildBig 93 (x.map fun (i, y) => (i, ρ y)) := rfl
theorem run_build98 (id : Int) (c : Cfg) (w : World) :
    (buildBig 93 #[(0, .int .i64 id), (1, .agg c.cells.toArray)]).run Tryz.prog w = .ok (.value (.agg (rCells ⟨0, .slice none 0 0, .slice none 0 0⟩ (newR id c)).toArray)) w := by
  unfold buildBig
  rw [Sem.run_bind, build98]
  rfl
attribute [local go_sem ↓] execOp_build98
attribute [local go_sem] run_build98

theorem rptrs_append (a b : List (RB × RSer)) : rptrs (a ++ b) = rptrs a ++ rptrs b := by simp [rptrs]
/-- A series has come. -/
theorem rcreate_rep {wa w3 : World} {O : Obj} {e : Nat} {v nv : Value} {clock ticks : Int} {ps : List (RB × RSer)} {b2 : RB} {x : RSer} {gg m cap' : Nat} (hE : RWRep wa e v clock ticks ps) (hm : ps.length = m) (hnv : nv = .slice (some ⟨gg, 0, none⟩) (m + 1) cap')
    (hb2 : b2 = ⟨wa.heap.size, .slice none 0 0, .slice none 0 0⟩) (hx1 : x.items = []) (hx2 : x.events = []) (hown : w3.ownsRow 0 86 1 nv (m + 1) (rptrs ps ++ [.pointer (some ⟨b2.s, 0, none⟩)])) (hgrow : ((wa.alloc (.cells (rCells b2 x).toArray 93)).alloc O).drew.grownBy w3 v.ownBlock)
    (hat : v.ownBlock = some gg ∨ gg = wa.heap.size + 2) :
    RWRep (w3.setCell ⟨e, 2, none⟩ nv) e nv clock ticks (ps ++ [(b2, x)]) ∧ Keeps (RFoot e v ps) wa (w3.setCell ⟨e, 2, none⟩ nv) ∧ (∀ i, RFoot e nv (ps ++ [(b2, x)]) i → RFoot e v ps i ∨ wa.heap.size ≤ i) := by
  have hs2 : RRep (wa.alloc (.cells (rCells b2 x).toArray 93)) b2 x := by
    subst hb2
    refine ⟨Blk.new wa _ 93, ?_, ?_, ?_, ?_, ?_⟩
    · rw [hx1]; exact World.ownsRow_nil _ _ _ _
    · rw [hx2]; exact World.ownsRow_nil _ _ _ _
    · intro h; cases h
    · intro h; cases h
    · intro i h; cases h
  have hft : ∀ i, b2.foot i → i = wa.heap.size := by
    intro i hi
    subst hb2
    rcases hi with hi | hi | hi
    · exact hi
    · cases hi
    · cases hi
  generalize hw2 : wa.alloc (.cells (rCells b2 x).toArray 93) = w2 at *
  have hk2 : Keeps (fun _ => False) wa w2 := by rw [← hw2]; exact (Keeps.refl (fun _ => False) wa).alloc _
  have hsz2 : w2.heap.size = wa.heap.size + 1 := by rw [← hw2]; simp
  have hnb : nv.ownBlock = some gg := by rw [hnv]; rfl
  have hk3 : Keeps (fun i => v.ownBlock = some i) wa w3 := (((hk2.mono (M' := fun i => v.ownBlock = some i) (fun _ _ h => h.elim)).alloc O).drew).grown hgrow (fun k hk => Or.inl hk)
  have hk4 : Keeps (fun i => i = e) w3 (w3.setCell ⟨e, 2, none⟩ nv) := (Keeps.refl (fun i => i = e) w3).setCell (p := ⟨e, 2, none⟩) (Or.inl rfl) _
  have hele := hE.blk.lt
  have hge : gg ≠ e := by
    rcases hat with h | h
    · intro he; exact hE.ev (by rw [h, he])
    · omega
  have hrowlt : ∀ i, v.ownBlock = some i → i < wa.heap.size := fun i hi => hE.lt i (.inr (.inl hi))
  have hsnew : RRep w3 b2 x := (hs2.still (((Keeps.refl (fun _ => False) w2).alloc O).drew)).keeps (M := fun i => v.ownBlock = some i) ⟨hgrow.os, hgrow.tape, hgrow.output, hgrow.size, fun k hk hn => hgrow.block k hk (fun h => hn h.symm)⟩ (fun i hi h => by have h1 := hft i hi; have h2 := hrowlt i h; omega)
  refine ⟨⟨?_, ?_, ?_, ?_, ?_, ?_⟩, ?_, ?_⟩
  · exact (hE.blk.keeps hk3 (fun h => hE.ev h)).setCell 2 nv
  · have := owns_keeps hown hk4 (fun i hi h => by rw [hnb] at hi; injection hi with hi; omega)
    rw [rptrs_append, List.length_append, hm]
    exact this
  · intro p hp
    rcases List.mem_append.1 hp with hp | hp
    · exact ((hE.reps p hp).keeps hk3 (fun i hi h => (hE.ef p hp i hi).2 h)).keeps hk4 (fun i hi h => (hE.ef p hp i hi).1 h)
    · rw [List.mem_singleton] at hp; subst hp
      exact hsnew.keeps hk4 (fun i hi h => by have := hft i hi; omega)
  · refine List.pairwise_append.2 ⟨hE.apart, List.pairwise_singleton _ _, ?_⟩
    intro p hp q hq i hi hqi
    rw [List.mem_singleton] at hq; subst hq
    have h1 := (hE.reps p hp).lt i hi
    have h2 := hft i hqi
    omega
  · rw [hnb]; intro h; injection h with h; exact hge h
  · intro p hp i hi
    rw [hnb]
    rcases List.mem_append.1 hp with hp | hp
    · refine ⟨(hE.ef p hp i hi).1, fun h => ?_⟩
      injection h with h
      have h1 := (hE.reps p hp).lt i hi
      rcases hat with h2 | h2
      · exact (hE.ef p hp i hi).2 (by rw [h2, h])
      · omega
    · rw [List.mem_singleton] at hp; subst hp
      have h1 := hft i hi
      refine ⟨by omega, fun h => ?_⟩
      injection h with h
      rcases hat with h3 | h3
      · have := hrowlt gg h3; omega
      · omega
  · exact (hk3.mono (M' := RFoot e v ps) (fun i _ h => .inr (.inl h))).trans hk4 (fun i hi _ => .inl hi)
  · intro i hi
    rcases hi with hi | hi | ⟨p, hp, hi⟩
    · exact .inl (.inl hi)
    · rw [hnb] at hi; injection hi with hi
      rcases hat with h | h
      · exact .inl (.inr (.inl (by rw [h, hi])))
      · exact .inr (by omega)
    · rcases List.mem_append.1 hp with hp | hp
      · exact .inl (.inr (.inr ⟨p, hp, hi⟩))
      · rw [List.mem_singleton] at hp; subst hp
        exact .inr (by have := hft i hi; omega)

/-- A CREATE that is refused. -/
theorem rcreate_cases (ps : List (RB × RSer)) (clock ticks : Int) (o : OpM) : createR ⟨clock, ticks, ps.map (·.2)⟩ o =
    if inB o.id 0 99 = true ∧ (findRP ps o.id) = none then (if validB o.cfg = true then (if ps.length = 6 then (⟨clock, ticks, ps.map (·.2)⟩, 4, []) else (⟨clock, ticks, ps.map (·.2) ++ [newR o.id o.cfg]⟩, 0, [])) else (⟨clock, ticks, ps.map (·.2)⟩, 3, [])) else (⟨clock, ticks, ps.map (·.2)⟩, 2, []) := by
  unfold createR
  simp only [findRP_findR, List.length_map]
  have : ((findRP ps o.id).map (·.2)).isNone = true ↔ findRP ps o.id = none := by cases findRP ps o.id <;> simp
  simp only [this]

set_option maxRecDepth 100000 in
set_option maxHeartbeats 4000000 in
theorem rcreate_no (e : Nat) (v : Value) (clock ticks : Int) (ps : List (RB × RSer)) (o : OpM) (w : World) (h : RWRep w e v clock ticks ps) (hl : ps.length ≤ 1000) (hno : ¬ (inB o.id 0 99 = true ∧ findRP ps o.id = none ∧ validB o.cfg = true ∧ ps.length ≠ 6)) :
    Calls Tryz.prog 50 #[.pointer (some ⟨e, 0, none⟩), o.val] w fun r w' => r = .returned (.int .i64 (createR ⟨clock, ticks, ps.map (·.2)⟩ o).2.1) ∧ (createR ⟨clock, ticks, ps.map (·.2)⟩ o).2.2 = [] ∧ RPost w e v ps (createR ⟨clock, ticks, ps.map (·.2)⟩ o).1 w' := by
  have HG := hide (rcreate_cases ps clock ticks o)
  have h1 : o.cells[1]? = some (.int .i64 o.id) := rfl
  have HE := hide h
  have hk0 : Keeps (fun _ => False) w (w.alloc (.cells o.cells.toArray 35)) := (Keeps.refl (fun _ => False) w).alloc _
  have HO0 := hide (show Blk (w.alloc (.cells o.cells.toArray 35)) w.heap.size o.cells 35 from Blk.new w o.cells 35)
  have HE0 := hide (h.still hk0)
  have HK0 := hide hk0
  have HNO := hide hno
  clear h hk0 hno
  unfold OpM.val
  go_enter Tryz.func50, Tryz.ntmps50
  go_wp2_with fail
  generalize w.alloc (.cells o.cells.toArray 35) = w0 at *
  generalize hob : w.heap.size = ob at *
  have HOB := hide hob
  clear hob
  refine (rfind_any e v clock ticks o.id ps w0 (unhide HE0) hl).mono ?_
  rintro r w1 ⟨rfl, hw1⟩
  rw [hw1]
  clear hw1 w1
  obtain ⟨hv0, hh0⟩ := bigVal_Blk_part (unhide HO0) 5 20 o.cfg.cells rfl rfl
  go_wp2_with fail
  refine (rvalid_any o.cfg w0).mono ?_
  rintro r w1 ⟨rfl, hk1⟩
  have o1 : w1.cell? ⟨ob, 1, none⟩ = some (.int .i64 o.id) := hk1.cell ((unhide HO0).cell rfl) (fun h => h)
  have e2 : w1.cell? ⟨e, 2, none⟩ = some v := hk1.cell ((unhide HE0).blk.cell rfl) (fun h => h)
  have hlv : ∃ a cap, v = .slice a ps.length cap := by
    rcases (unhide HE0).row.2 with ⟨h1, h2⟩ | ⟨g, cap, cur, h1, _⟩
    · exact ⟨none, 0, by rw [h1, h2]⟩
    · exact ⟨some ⟨g, 0, none⟩, cap, h1⟩
  have HK1 := hide ((unhide HK0).then hk1)
  clear hk1 hv0 hh0 h1
  have fin : ∀ (wz : World) (c : Int), Keeps (fun _ => False) w wz → createR ⟨clock, ticks, ps.map (·.2)⟩ o = (⟨clock, ticks, ps.map (·.2)⟩, c, []) → Ending.returned (.int .i64 c) = .returned (.int .i64 (createR ⟨clock, ticks, ps.map (·.2)⟩ o).2.1) ∧ (createR ⟨clock, ticks, ps.map (·.2)⟩ o).2.2 = [] ∧ RPost w e v ps (createR ⟨clock, ticks, ps.map (·.2)⟩ o).1 wz := by
    intro wz c hk he
    rw [he]
    exact ⟨rfl, rfl, rpost_still (unhide HE) hk⟩
  have FIN := hide fin
  clear fin
  by_cases i1 : o.id < 0
  · go_wp2
    go_ret
    exact unhide FIN _ 2 (unhide HK1) (by rw [unhide HG, if_neg (fun h => by obtain ⟨a, b⟩ := inB_iff h.1; omega)])
  by_cases i2 : 99 < o.id
  · go_wp2
    go_ret
    exact unhide FIN _ 2 (unhide HK1) (by rw [unhide HG, if_neg (fun h => by obtain ⟨a, b⟩ := inB_iff h.1; omega)])
  have hin : inB o.id 0 99 = true := by simp [inB]; omega
  have HIN := hide hin
  clear hin
  cases hf : findRP ps o.id with
  | some p =>
    unfold rptrOf
    go_wp2
    go_ret
    exact unhide FIN _ 2 (unhide HK1) (by rw [unhide HG, if_neg (fun h => by rw [hf] at h; cases h.2)])
  | none =>
    unfold rptrOf
    cases hv : validB o.cfg with
    | false =>
      go_wp2
      go_ret
      exact unhide FIN _ 3 (unhide HK1) (by rw [unhide HG, if_pos ⟨unhide HIN, hf⟩, hv]; rfl)
    | true =>
      have h6 : ps.length = 6 := by
        have := unhide HNO
        by_cases h6 : ps.length = 6
        · exact h6
        · exact absurd ⟨unhide HIN, hf, hv, h6⟩ this
      obtain ⟨va, vcap, hvv⟩ := hlv
      rw [hvv, h6] at e2
      clear hvv
      go_wp2
      go_ret
      exact unhide FIN _ 4 (unhide HK1) (by rw [unhide HG, if_pos ⟨unhide HIN, hf⟩, hv, if_pos rfl, if_pos h6])

end Go.Proofs.YtjhaihbjhikhlaaGreat

namespace Go.Proofs.YtjhaihbjhikhlaaGreat
open Go.RowKit
attribute [local go_sem ↓] execOp_load38 execOp_load40
attribute [local go_sem] run_load38 run_load40 bigVal_drew hasBig_drew bigVal_ne hasBig_ne bigVal_alloc hasBig_alloc bigVal_new hasBig_newB
attribute [local go_sem ↓] execOp_build98
attribute [local go_sem] run_build98

set_option maxRecDepth 100000 in
set_option maxHeartbeats 8000000 in
theorem rcreate_yes (e : Nat) (v : Value) (clock ticks : Int) (ps : List (RB × RSer)) (o : OpM) (w : World) (h : RWRep w e v clock ticks ps) (hl : ps.length < 6) (hid : inB o.id 0 99 = true) (hf : findRP ps o.id = none) (hv : validB o.cfg = true) :
    Calls Tryz.prog 50 #[.pointer (some ⟨e, 0, none⟩), o.val] w fun r w' => r = .returned (.int .i64 0) ∧ RPost w e v ps ⟨clock, ticks, ps.map (·.2) ++ [newR o.id o.cfg]⟩ w' := by
  have h1 : o.cells[1]? = some (.int .i64 o.id) := rfl
  have HE := hide h
  have hk0 : Keeps (fun _ => False) w (w.alloc (.cells o.cells.toArray 35)) := (Keeps.refl (fun _ => False) w).alloc _
  have HO0 := hide (show Blk (w.alloc (.cells o.cells.toArray 35)) w.heap.size o.cells 35 from Blk.new w o.cells 35)
  have HE0 := hide (h.still hk0)
  have HK0 := hide hk0
  obtain ⟨i1, i2⟩ := inB_iff hid
  clear h hk0 hid
  unfold OpM.val
  go_enter Tryz.func50, Tryz.ntmps50
  go_wp2_with fail
  generalize w.alloc (.cells o.cells.toArray 35) = w0 at *
  generalize hob : w.heap.size = ob at *
  have HOB := hide hob
  clear hob
  refine (rfind_any e v clock ticks o.id ps w0 (unhide HE0) (by omega)).mono ?_
  rintro r w1 ⟨rfl, hw1⟩
  rw [hw1, hf]
  clear hw1 w1
  unfold rptrOf
  obtain ⟨hv0, hh0⟩ := bigVal_Blk_part (unhide HO0) 5 20 o.cfg.cells rfl rfl
  go_wp2_with fail
  refine (rvalid_any o.cfg w0).mono ?_
  rintro r w1 ⟨rfl, hk1⟩
  rw [hv]
  have HO1 := hide ((unhide HO0).keeps hk1 (fun h => h))
  have HE1 := hide ((unhide HE0).still hk1)
  have HK1 := hide ((unhide HK0).then hk1)
  clear hk1 hv0 hh0 h1
  have o1 : w1.cell? ⟨ob, 1, none⟩ = some (.int .i64 o.id) := (unhide HO1).cell rfl
  have e2 : w1.cell? ⟨e, 2, none⟩ = some v := (unhide HE1).blk.cell rfl
  have hfz := (unhide HE1).blk.frozen
  have hel := (unhide HE1).blk.lt
  obtain ⟨hv1, hh1⟩ := bigVal_Blk_part (unhide HO1) 5 20 o.cfg.cells rfl rfl
  have hown := (unhide HE1).row
  have HEV := hide (unhide HE1).ev
  have hlv : ∃ a cap, v = .slice a ps.length cap := by
    rcases (unhide HE1).row.2 with ⟨h1, h2⟩ | ⟨g, cap, cur, h1, _⟩
    · exact ⟨none, 0, by rw [h1, h2]⟩
    · exact ⟨some ⟨g, 0, none⟩, cap, h1⟩
  obtain ⟨va, vcap, hvv⟩ := hlv
  obtain ⟨i0, hi0, hz0, hz1, hz2⟩ := info_parts info91
  have hobl : ob < w1.heap.size := (unhide HO1).lt
  generalize hnn : ps.length = m at *
  have HNN := hide hnn
  clear hnn
  have HF2 : Hid (∀ A B w2, ((w1.alloc A).alloc B).drew.grownBy w2 v.ownBlock → w2.cell? ⟨e, 2, none⟩ = some v ∧ w2.frozen? ⟨e, 2, none⟩ = false) := fun A B w2 hg => by
    have hb1 : w2.heap[e]? = w1.heap[e]? := by
      rw [hg.block e (by simp; omega) (fun h => (unhide HEV) h.symm)]
      show ((w1.alloc A).alloc B).heap[e]? = _
      rw [Below.heap_alloc _ _ _ (by simp; omega), Below.heap_alloc _ _ _ hel]
    exact ⟨(World.cell?_of_block (a := ⟨e, 2, none⟩) hb1).trans e2, (World.frozen?_of_block (a := ⟨e, 2, none⟩) hb1).trans (hfz 2)⟩
  have hnew : Hid (∀ A B, ((w1.alloc A).alloc B).drew.heap[w1.heap.size + 1]? = some B) := fun A B => by
    have := heap_alloc_new (w1.alloc A) B
    rwa [World.size_alloc] at this
  have HEND := hide (fun (w2 : World) (gg cap' : Nat) (B : Obj) (hown1 : w2.ownsRow 0 86 1 (.slice (some ⟨gg, 0, none⟩) (m + 1) cap') (m + 1) (rptrs ps ++ [.pointer (some ⟨w1.heap.size, 0, none⟩)])) (hgrow : ((w1.alloc (.cells (rCells ⟨0, .slice none 0 0, .slice none 0 0⟩ (newR o.id o.cfg)).toArray 93)).alloc B).drew.grownBy w2 v.ownBlock) (hat : v.ownBlock = some gg ∨ gg = w1.heap.size + 2) =>
    rcreate_rep (b2 := ⟨w1.heap.size, .slice none 0 0, .slice none 0 0⟩) (x := newR o.id o.cfg) (unhide HE1) (unhide HNN) rfl rfl rfl rfl hown1 hgrow hat)
  rw [hvv] at e2 hown HF2
  have HVV := hide hvv
  have h6 : ((m : Int) == 6) = false := by simp; omega
  clear hvv
  go_wp2_with fail
  go_region_law
    ((refine step_append_lies _ (by rfl) _ _ _ (by rfl) 0 86 i0 _ 1 8 Tryz.underlying83 hi0 hz0 hz1 hz2 rfl (by omega) (.slice va m vcap) m (rptrs ps) (by rfl) (((hown.alloc _).alloc _).drew)
        ⟨w1.heap.size + 1, 0, none⟩ 1 1 [.pointer (some ⟨w1.heap.size, 0, none⟩)] (by rfl) (by rfl) (World.news_of_block (cs := #[.pointer (some ⟨w1.heap.size, 0, none⟩)]) (t := 86) (fr := (0, 0)) (hnew.out _ _)) (by simp [Value.oneCell'])
        (by omega) (by unfold maxLen; omega) (by omega) (by omega) (w1.heap.size + 2) (by simp) ?_; intro gg cap' w2 hown1 hgrow hat hlt; have hcq := (HF2.out _ _ _ hgrow).1; have hfq := (HF2.out _ _ _ hgrow).2))
  all_goals
    rw [← unhide HVV] at hgrow hat
    have HE2 := unhide HEND _ _ _ _ hown1 hgrow hat
    obtain ⟨hR2, hk2, hnx⟩ := HE2
    go_wp2
    go_ret
    refine ⟨rfl, .slice (some ⟨gg, 0, none⟩) (m + 1) cap', _, hR2, by simp, ?_, ?_⟩
    · exact ((unhide HK1).mono (M' := RFoot e v ps) (fun _ _ h => h.elim)).then hk2
    · intro i hi
      rcases hnx i hi with h | h
      · exact .inl h
      · exact .inr (by have := (unhide HK1).size; omega)

end Go.Proofs.YtjhaihbjhikhlaaGreat
