import Derived.Test.YteecnidnlkjehaaS6
namespace Go.Proofs.Yteecnidnlkjehaa
open Go.RowKit
attribute [local go_sem ↓] execOp_load38 execOp_load40
attribute [local go_sem] run_load38 run_load40 bigVal_drew hasBig_drew bigVal_ne hasBig_ne bigVal_alloc hasBig_alloc bigVal_new hasBig_newB

theorem start_any (c : Cfg) (k : Nat) (w : World) (h1 : 1 ≤ k) (h5 : k ≤ 5) :
    Calls Try.prog (startF k) #[c.val] w fun e w' => ∃ d, e = .returned (.agg #[relV k d, qryV k d]) ∧ (k = 4 → w.heap.size ≤ d ∧ Blk w' d (decCells c 0 0) 139) ∧ Keeps (fun _ => False) w w' := by
  have hk : k = 1 ∨ k = 2 ∨ k = 3 ∨ k = 4 ∨ k = 5 := by omega
  rcases hk with hk | hk | hk | hk | hk
  all_goals subst hk
  · exact (startNothing_any c w).mono (fun e w' ⟨he, hk⟩ => ⟨0, he, fun h => by omega, hk⟩)
  · exact (startNothing_any c w).mono (fun e w' ⟨he, hk⟩ => ⟨0, he, fun h => by omega, hk⟩)
  · exact (startNothing_any c w).mono (fun e w' ⟨he, hk⟩ => ⟨0, he, fun h => by omega, hk⟩)
  · exact (startDecay_any c w).mono (fun e w' ⟨d, he, hd, hb, hk⟩ => ⟨d, he, fun _ => ⟨hd, hb⟩, hk⟩)
  · exact (startNothing_any c w).mono (fun e w' ⟨he, hk⟩ => ⟨0, he, fun h => by omega, hk⟩)

def newSer (id : Int) (c : Cfg) (k : Nat) : Ser := ⟨id, c, k, 0, 0, [0, 0, 0, 0, 0, 0, 0, 0, 0, 0, 0, 0], [], 0, 0⟩

/-- The series' literal. -/
theorem build81 (id : Int) (c : Cfg) (f r s a q : Value) (qb : Nat) (w : World) :
    (Instr.build 81 #[(0, .int .i64 id), (1, c.val), (2, .agg #[f, r, s]), (3, .agg #[a, q]), (4, .pointer (some ⟨qb, 0, none⟩))]).run Try.prog w =
    .ok (.agg (.int .i64 id :: c.vals [f, r, s, a, q, .pointer (some ⟨qb, 0, none⟩), .int .i64 0, .int .i64 0, .int .i64 0, .int .i64 0, .int .i64 0, .int .i64 0, .int .i64 0, .int .i64 0, .int .i64 0, .int .i64 0, .int .i64 0, .int .i64 0, .int .i64 0, .int .i64 0]).toArray) w := by kernel_rfl


def buildBig (ty : TypeId) (ps : Array (Nat × Value)) : Sem Next := do pure (.value (← Instr.build ty ps))
theorem execOp_build81 (ρ : Operand → Value) (dst : Option Tmp) (x : Array (Nat × Operand)) (ty : TypeId) (pos : String) (after : Array Edge) (guard : Option (Nat × Bool)) :
    execOp ρ { dst, op := .build 81 x, type := ty, pos, after, guard } = buildBig 81 (x.map fun (i, y) => (i, ρ y)) := rfl
theorem run_build81 (id : Int) (c : Cfg) (f r s a q : Value) (qb : Nat) (w : World) :
    (buildBig 81 #[(0, .int .i64 id), (1, .agg c.cells.toArray), (2, .agg #[f, r, s]), (3, .agg #[a, q]), (4, .pointer (some ⟨qb, 0, none⟩))]).run Try.prog w =
    .ok (.value (.agg (.int .i64 id :: c.vals [f, r, s, a, q, .pointer (some ⟨qb, 0, none⟩), .int .i64 0, .int .i64 0, .int .i64 0, .int .i64 0, .int .i64 0, .int .i64 0, .int .i64 0, .int .i64 0, .int .i64 0, .int .i64 0, .int .i64 0, .int .i64 0, .int .i64 0, .int .i64 0]).toArray)) w := by
  unfold buildBig
  rw [Sem.run_bind]
  have := build81 id c f r s a q qb w
  unfold Cfg.val at this
  unfold Cfg.cells
  rw [this]
  rfl
attribute [local go_sem ↓] execOp_build81
attribute [local go_sem] run_build81

set_option maxRecDepth 100000 in
set_option maxHeartbeats 4000000 in
theorem newSeries_any (id : Int) (c : Cfg) (k : Nat) (w : World) (h1 : 1 ≤ k) (h5 : k ≤ 5) :
    Calls Try.prog 41 #[.int .i64 id, c.val, .agg (kindCells k).toArray] w fun e w' => ∃ b, e = .returned (.pointer (some ⟨b.s, 0, none⟩)) ∧ SRep w' b (newSer id c k) ∧ (∀ i, b.foot k i → w.heap.size ≤ i) ∧ Keeps (fun _ => False) w w' := by
  have hown := own_start k h1 h5
  have HB := hide (show Blk ((w.alloc (.cells c.cells.toArray 38)).alloc (.cells (kindCells k).toArray 67)) w.heap.size c.cells 38 from (Blk.new w c.cells 38).alloc _)
  have HT := hide (show Blk ((w.alloc (.cells c.cells.toArray 38)).alloc (.cells (kindCells k).toArray 67)) (w.heap.size + 1) (kindCells k) 67 from Blk.newAt (by simp) _ _)
  have HK := hide (((Keeps.refl (fun _ => False) w).alloc (.cells c.cells.toArray 38)).alloc (.cells (kindCells k).toArray 67))
  have hex : ∃ W, W = ((w.alloc (.cells c.cells.toArray 38)).alloc (.cells (kindCells k).toArray 67)) := ⟨_, rfl⟩
  unfold Cfg.val kindCells fn
  go_enter Try.func41, Try.ntmps41
  go_wp2_with fail
  obtain ⟨W, hW⟩ := hex
  have e0 : (w.alloc (.cells #[.int .i64 c.kind, .int .i64 c.lag, .int .i64 c.skew, .int .i64 c.cap, .int .i64 c.k, .int .i64 c.window, .int .i64 c.bits, .int .i64 c.rows, .int .i64 c.width, .int .i64 c.panes, .int .i64 c.size, .int .i64 c.degree, .int .i64 c.half, .int .i64 c.mark, .int .i64 c.s00, .int .i64 c.s01, .int .i64 c.s10, .int .i64 c.s11, .int .i64 c.s20, .int .i64 c.s21] 38)).alloc (.cells #[.func (.func (fitsF k)) #[] #[], .func (.func (refuseF k)) #[] #[], .func (.func (startF k)) #[] #[]] 67) = W := hW.symm
  rw [e0]
  rw [← hW] at HB HT HK
  clear e0 hW
  generalize hcb : w.heap.size = cb at *
  have HCB := hide hcb
  clear hcb
  have hsz : cb + 1 < W.heap.size := (unhide HT).lt
  have hsz0 : cb < W.heap.size := (unhide HB).lt
  obtain ⟨hv, hh⟩ := bigVal_Blk (unhide HB) 20 rfl
  have t0 : W.cell? ⟨cb + 1, 0, none⟩ = some (.func (.func (fitsF k)) #[] #[]) := (unhide HT).cell rfl
  have t1 : W.cell? ⟨cb + 1, 1, none⟩ = some (.func (.func (refuseF k)) #[] #[]) := (unhide HT).cell rfl
  have t2 : W.cell? ⟨cb + 1, 2, none⟩ = some (.func (.func (startF k)) #[] #[]) := (unhide HT).cell rfl
  go_region_held3 (fun w' => bigVal w' cb 0 20 = .agg c.cells.toArray ∧ hasBig w' cb 0 20 = true ∧ w'.cell? ⟨cb + 1, 0, none⟩ = some (.func (.func (fitsF k)) #[] #[]) ∧ w'.cell? ⟨cb + 1, 1, none⟩ = some (.func (.func (refuseF k)) #[] #[]) ∧ w'.cell? ⟨cb + 1, 2, none⟩ = some (.func (.func (startF k)) #[] #[]))
    (first | (simp [*, bigVal_drew, hasBig_drew, bigVal_alloc, hasBig_alloc, World.cell?_alloc_some]; done) | (go_split_ands; exact ⟨(bigVal_keeps hk2 (fun h => h) (by have := hk1.size; simp at this; omega)).1.trans (by assumption), (bigVal_keeps hk2 (fun h => h) (by have := hk1.size; simp at this; omega)).2.trans (by assumption), hk2.cell (by assumption) (fun h => h), hk2.cell (by assumption) (fun h => h), hk2.cell (by assumption) (fun h => h)⟩) | (go_split_ands; exact ⟨(bigVal_keeps hk1 (fun h => h) (by simpa using hsz0)).1.trans (by assumption), (bigVal_keeps hk1 (fun h => h) (by simpa using hsz0)).2.trans (by assumption), hk1.cell (by assumption) (fun h => h), hk1.cell (by assumption) (fun h => h), hk1.cell (by assumption) (fun h => h)⟩))
    (first | (go_at_call 62; refine (new_any _).mono ?_; rintro e w2 ⟨rfl, hq2, hk2, hz2⟩) | (refine (start_any c k _ h1 h5).mono ?_; rintro e w1 ⟨d, rfl, hd1, hk1⟩))
  go_wp2
  go_ret
  have hkw : Keeps (fun _ => False) w w1 := ((unhide HK).drew).then hk1
  have hs1 := hkw.size
  have hka : ∀ O, Keeps (fun _ => False) w2 (w2.alloc O) := fun O => (Keeps.refl (fun _ => False) w2).alloc O
  have hcb := unhide HCB
  refine ⟨⟨w1.heap.size + 1, w1.heap.size, none, d⟩, rfl, ⟨Blk.newAt hz2 (serCells ⟨w1.heap.size + 1, w1.heap.size, none, d⟩ (newSer id c k)) 81, hq2.keeps (hka _) (fun h => h) (fun _ _ h => h), fun h4 => ((hd1 h4).2.keeps hk2 (fun h => h)).keeps (hka _) (fun h => h), ?_, ?_, fun h4 => ⟨?_, ?_, ?_⟩⟩, ?_, (hkw.then hk2).alloc _⟩
  · show w1.heap.size + 1 ≠ w1.heap.size; omega
  · intro g hg; cases hg
  · have := (hd1 h4).2.lt; show w1.heap.size + 1 ≠ d; omega
  · have := (hd1 h4).2.lt; show w1.heap.size ≠ d; omega
  · intro g hg; cases hg
  · intro i hi
    rcases hi with hi | hi | hi | ⟨h4, hi⟩
    · have : i = w1.heap.size + 1 := hi
      omega
    · have : i = w1.heap.size := hi
      omega
    · cases hi
    · have h1 := (hd1 h4).1
      have h2 := (unhide HK).size
      have : i = d := hi
      rw [World.size_drew] at h1
      omega

end Go.Proofs.Yteecnidnlkjehaa
