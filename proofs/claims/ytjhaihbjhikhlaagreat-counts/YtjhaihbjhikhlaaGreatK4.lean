import Derived.Test.YtjhaihbjhikhlaaGreatXK
namespace Go.Proofs.YtjhaihbjhikhlaaGreat
open Go.RowKit
attribute [local go_sem ↓] execOp_load38 execOp_load40
attribute [local go_sem] run_load38 run_load40 bigVal_drew hasBig_drew bigVal_ne hasBig_ne bigVal_new hasBig_newB

theorem wrap_in {n : Int} (h0 : -9223372036854775808 ≤ n) (h1 : n ≤ 9223372036854775807) : IntKind.i64.wrap n = n := by rw [IntKind.wrap_i64]; omega

set_option maxHeartbeats 400000 in
theorem nothing1_any (x : It) (m : Int) (w : World) :
    Calls Tryz.prog 96 #[x.val, .int .i64 m] w fun e w' => e = .returned (.tuple #[]) ∧ Keeps (fun _ => False) w w' := by
  unfold It.val
  go_enter Tryz.func96, Tryz.ntmps96
  go_wp2
  go_end0
  exact ⟨rfl, (Keeps.refl _ _).alloc _⟩

set_option maxHeartbeats 400000 in
theorem nothing2_any (a b : Int) (w : World) :
    Calls Tryz.prog 97 #[.int .i64 a, .int .i64 b] w fun e w' => e = .returned (.tuple #[.slice none 0 0, .int .i64 1]) ∧ w' = w := by
  go_enter Tryz.func97, Tryz.ntmps97
  go_wp2
  go_ret2
  exact ⟨rfl, rfl⟩

set_option maxHeartbeats 400000 in
theorem sweepNothing_any (a b : Int) (w : World) :
    Calls Tryz.prog 98 #[.int .i64 a, .int .i64 b] w fun e w' => e = .returned (.tuple #[.int .i64 0, .int .i64 0]) ∧ w' = w := by
  go_enter Tryz.func98, Tryz.ntmps98
  go_wp2
  go_ret2
  exact ⟨rfl, rfl⟩

set_option maxHeartbeats 400000 in
theorem startNothing_any (c : Cfg) (w : World) :
    Calls Tryz.prog 77 #[c.val] w fun e w' => e = .returned (.agg #[.func (.func 96) #[] #[], .func (.func 97) #[] #[], .func (.func 98) #[] #[]]) ∧ Keeps (fun _ => False) w w' := by
  unfold Cfg.val
  go_enter Tryz.func77, Tryz.ntmps77
  go_wp2
  refine bodyPost_ret (v := .agg #[.func (.func 96) #[] #[], .func (.func 97) #[] #[], .func (.func 98) #[] #[]]) (by simp [results, Tryz.results77, go_sem]) rfl ⟨rfl, ?_⟩
  repeat (first | exact Keeps.refl _ _ | apply Keeps.alloc)

/-- The block of a decay's notes. -/
def decCells (c : Cfg) (q r : Int) : List Value := c.cells ++ [.int .i64 q, .int .i64 r]

set_option maxRecDepth 100000 in
set_option maxHeartbeats 1000000 in
theorem startDecay_any (c : Cfg) (w : World) :
    Calls Tryz.prog 81 #[c.val] w fun e w' => ∃ d, e = .returned (.agg #[.func (.func 100) #[.pointer (some ⟨d, 0, none⟩)] #[], .func (.func 101) #[.pointer (some ⟨d, 0, none⟩)] #[], .func (.func 98) #[] #[]]) ∧ w.heap.size ≤ d ∧ Blk w' d (decCells c 0 0) 138 ∧ Keeps (fun _ => False) w w' := by
  unfold Cfg.val
  go_enter Tryz.func81, Tryz.ntmps81
  go_wp2
  refine bodyPost_ret (v := .agg #[.func (.func 100) #[.pointer (some ⟨w.heap.size + 1 + 1, 0, none⟩)] #[], .func (.func 101) #[.pointer (some ⟨w.heap.size + 1 + 1, 0, none⟩)] #[], .func (.func 98) #[] #[]]) (by simp [results, Tryz.results81, go_sem]) rfl ⟨w.heap.size + 1 + 1, rfl, by omega, ?_, ?_⟩
  · exact Blk.newAt (by simp) (decCells c 0 0) 138
  · repeat (first | exact Keeps.refl _ _ | apply Keeps.alloc)

set_option maxRecDepth 100000 in
set_option maxHeartbeats 1000000 in
theorem wz_any (d : Nat) (c : Cfg) (q r t : Int) (w : World) (hb : Blk w d (decCells c q r) 138) (hc : c.weighs) (t0 : -100 ≤ t) (t1 : t ≤ 4611686018427387904) :
    Calls Tryz.prog 114 #[.pointer (some ⟨d, 0, none⟩), .int .i64 t] w fun e w' => e = .returned (.int .i64 (optInt (weightO c t))) ∧ w' = w.alloc (.cells c.cells.toArray 33) := by
  obtain ⟨hv, hh⟩ := bigVal_Blk_part hb 0 20 c.cells rfl rfl
  have hlt := hb.lt
  clear hb
  cases h : weightO c t with
  | none =>
    go_enter Tryz.func114, Tryz.ntmps114
    go_wp2_with fail
    refine (of_any c t _ hc t0 t1).mono ?_
    rintro e w' ⟨rfl, rfl⟩
    rw [h]
    unfold optVal
    go_wp2
    go_ret
    exact ⟨rfl, rfl⟩
  | some x =>
    go_enter Tryz.func114, Tryz.ntmps114
    go_wp2_with fail
    refine (of_any c t _ hc t0 t1).mono ?_
    rintro e w' ⟨rfl, rfl⟩
    rw [h]
    unfold optVal
    go_wp2
    go_ret
    exact ⟨rfl, rfl⟩


set_option maxRecDepth 100000 in
set_option maxHeartbeats 1000000 in
theorem decRelease_any (d : Nat) (c : Cfg) (q r : Int) (x : It) (m : Int) (w : World) (hb : Blk w d (decCells c q r) 138) (hc : c.weighs) (t0 : 0 ≤ x.t) (t1 : x.t ≤ 4611686018427387904)
    (r0 : 0 ≤ r) (r1 : r < 2305843009213693952) (q0 : 0 ≤ q) (q1 : q ≤ 2305843009213693952) (hw0 : 0 ≤ optInt (weightO c x.t)) (hw1 : optInt (weightO c x.t) ≤ 2305843009213693952) :
    Calls Tryz.prog 100 #[.pointer (some ⟨d, 0, none⟩), x.val, .int .i64 m] w fun e w' => e = .returned (.tuple #[]) ∧
      Blk w' d (decCells c (q + (r + optInt (weightO c x.t)) / 2305843009213693952) ((r + optInt (weightO c x.t)) % 2305843009213693952)) 138 ∧ Keeps (fun k => k = d) w w' := by
  have hd20 : w.cell? ⟨d, 20, none⟩ = some (.int .i64 q) := hb.cell rfl
  have hd21 : w.cell? ⟨d, 21, none⟩ = some (.int .i64 r) := hb.cell rfl
  have hf := hb.frozen
  have hlt := hb.lt
  have HB := hide hb
  have HC := hide hc
  clear hb hc
  generalize hwt : optInt (weightO c x.t) = wt at *
  have HW := hide hwt
  clear hwt
  have hs0 : 0 ≤ r + wt := by omega
  have hs1 : r + wt < 4611686018427387904 := by omega
  have hq0 : 0 ≤ (r + wt) / 2305843009213693952 := by omega
  have hq1 : (r + wt) / 2305843009213693952 ≤ 1 := by omega
  have hwr : IntKind.i64.wrap (r + wt) = r + wt := wrap_in (by omega) (by omega)
  unfold It.val
  go_enter Tryz.func100, Tryz.ntmps100
  go_wp2_with fail
  go_region_held3 (fun w' => w'.cell? ⟨d, 21, none⟩ = some (.int .i64 r) ∧ w'.cell? ⟨w.heap.size, 0, none⟩ = some (.int .i64 x.t)) (go_keep)
    (first | (go_at_call 114; refine (wz_any d c q r x.t _ (by exact ((unhide HB).alloc _).drew) (unhide HC) (by omega) t1).mono ?_; rintro e w' ⟨rfl, rfl⟩; rw [unhide HW]))
  go_wp2
  go_end0
  exact ⟨rfl, (((((unhide HB).setCell 20 _).setCell 21 _).alloc _).alloc _).drew, (((((Keeps.refl (fun k => k = d) w).setCell (p := ⟨d, 20, none⟩) (Or.inl rfl) _).setCell (p := ⟨d, 21, none⟩) (Or.inl rfl) _).alloc _).alloc _).drew⟩


set_option maxRecDepth 100000 in
set_option maxHeartbeats 1000000 in
theorem decQuery_any (d : Nat) (c : Cfg) (q r a t : Int) (w : World) (hb : Blk w d (decCells c q r) 138) (hc : c.weighs) (t0 : -100 ≤ t) (t1 : t ≤ 4611686018427387904) :
    Calls Tryz.prog 101 #[.pointer (some ⟨d, 0, none⟩), .int .i64 a, .int .i64 t] w fun e w' => ∃ g, e = .returned (.tuple #[.slice (some ⟨g, 0, none⟩) 3 3, .int .i64 0]) ∧
      w.heap.size ≤ g ∧ Blk w' g [.int .i64 q, .int .i64 r, .int .i64 (optInt (weightO c t))] 3 ∧ Keeps (fun _ => False) w w' := by
  have hd20 : w.cell? ⟨d, 20, none⟩ = some (.int .i64 q) := hb.cell rfl
  have hd21 : w.cell? ⟨d, 21, none⟩ = some (.int .i64 r) := hb.cell rfl
  have hlt := hb.lt
  have HB := hide hb
  have HC := hide hc
  clear hb hc
  generalize hwt : optInt (weightO c t) = wt at *
  have HW := hide hwt
  clear hwt
  go_enter Tryz.func101, Tryz.ntmps101
  go_wp2_with fail
  go_region_held3 (fun w' => w'.cell? ⟨d, 20, none⟩ = some (.int .i64 q) ∧ w'.cell? ⟨d, 21, none⟩ = some (.int .i64 r)) (go_keep)
    (first | (go_at_call 114; refine (wz_any d c q r t _ (by exact (unhide HB).drew) (unhide HC) t0 t1).mono ?_; rintro e w' ⟨rfl, rfl⟩; rw [unhide HW]))
  go_wp2
  go_ret2
  refine ⟨w.heap.size + 1, rfl, by omega, ?_, ?_⟩
  · exact (Blk.newAt (by simp) [.int .i64 q, .int .i64 r, .int .i64 wt] 3).drew
  · exact (((Keeps.refl _ w).alloc _).alloc _).drew

end Go.Proofs.YtjhaihbjhikhlaaGreat
