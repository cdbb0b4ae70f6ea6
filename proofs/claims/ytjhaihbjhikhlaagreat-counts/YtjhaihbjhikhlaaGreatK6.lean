import Derived.Test.YtjhaihbjhikhlaaGreatK5
namespace Go.Proofs.YtjhaihbjhikhlaaGreat
open Go.RowKit
attribute [local go_sem ↓] execOp_load38 execOp_load40
attribute [local go_sem] run_load38 run_load40 bigVal_drew hasBig_drew bigVal_ne hasBig_ne bigVal_alloc hasBig_alloc bigVal_new hasBig_newB

theorem run_own {f : FuncId} {g : Func} (hf : Tryz.prog.funcs[f]? = some g) (hname : (g.name == "runtime.NumGoroutine") = false) (hb : g.body.isNone = false) (args : Array Value) (w : World) :
    (callFunc f args).run Tryz.prog w = .ok (.enter f args) w := by
  have h1 : ¬ (g.name = "runtime.NumGoroutine") := by simpa using hname
  have h2 : ¬ g.body = none := by intro h; simp [h] at hb
  simp [callFunc, hf, h1, h2]
theorem own79 (args : Array Value) (w : World) : (callFunc 72 args).run Tryz.prog w = .ok (.enter 72 args) w := run_own Tryz.func72 (by kernel_rfl) (by kernel_rfl) args w
theorem ownSC (args : Array Value) (w : World) : (callFunc 74 args).run Tryz.prog w = .ok (.enter 74 args) w := run_own Tryz.func74 (by kernel_rfl) (by kernel_rfl) args w
theorem own80 (args : Array Value) (w : World) : (callFunc 73 args).run Tryz.prog w = .ok (.enter 73 args) w := run_own Tryz.func73 (by kernel_rfl) (by kernel_rfl) args w
theorem own81 (args : Array Value) (w : World) : (callFunc 77 args).run Tryz.prog w = .ok (.enter 77 args) w := run_own Tryz.func77 (by kernel_rfl) (by kernel_rfl) args w
theorem own82 (args : Array Value) (w : World) : (callFunc 75 args).run Tryz.prog w = .ok (.enter 75 args) w := run_own Tryz.func75 (by kernel_rfl) (by kernel_rfl) args w
theorem own83 (args : Array Value) (w : World) : (callFunc 76 args).run Tryz.prog w = .ok (.enter 76 args) w := run_own Tryz.func76 (by kernel_rfl) (by kernel_rfl) args w
theorem own84 (args : Array Value) (w : World) : (callFunc 78 args).run Tryz.prog w = .ok (.enter 78 args) w := run_own Tryz.func78 (by kernel_rfl) (by kernel_rfl) args w
theorem own85 (args : Array Value) (w : World) : (callFunc 79 args).run Tryz.prog w = .ok (.enter 79 args) w := run_own Tryz.func79 (by kernel_rfl) (by kernel_rfl) args w
theorem own86 (args : Array Value) (w : World) : (callFunc 80 args).run Tryz.prog w = .ok (.enter 80 args) w := run_own Tryz.func80 (by kernel_rfl) (by kernel_rfl) args w
theorem own87 (args : Array Value) (w : World) : (callFunc 81 args).run Tryz.prog w = .ok (.enter 81 args) w := run_own Tryz.func81 (by kernel_rfl) (by kernel_rfl) args w
theorem own88 (args : Array Value) (w : World) : (callFunc 82 args).run Tryz.prog w = .ok (.enter 82 args) w := run_own Tryz.func82 (by kernel_rfl) (by kernel_rfl) args w
theorem own89 (args : Array Value) (w : World) : (callFunc 83 args).run Tryz.prog w = .ok (.enter 83 args) w := run_own Tryz.func83 (by kernel_rfl) (by kernel_rfl) args w
theorem own_fits (k : Nat) (h1 : 1 ≤ k) (h5 : k ≤ 5) (args : Array Value) (w : World) : (callFunc (fitsF k) args).run Tryz.prog w = .ok (.enter (fitsF k) args) w := by
  have hk : k = 1 ∨ k = 2 ∨ k = 3 ∨ k = 4 ∨ k = 5 := by omega
  rcases hk with hk | hk | hk | hk | hk <;> subst hk
  · exact own79 args w
  · exact own82 args w
  · exact own84 args w
  · exact own85 args w
  · exact own88 args w
theorem own_refuse (k : Nat) (h1 : 1 ≤ k) (h5 : k ≤ 5) (args : Array Value) (w : World) : (callFunc (refuseF k) args).run Tryz.prog w = .ok (.enter (refuseF k) args) w := by
  have hk : k = 1 ∨ k = 2 ∨ k = 3 ∨ k = 4 ∨ k = 5 := by omega
  rcases hk with hk | hk | hk | hk | hk <;> subst hk
  · exact own80 args w
  · exact own83 args w
  · exact own83 args w
  · exact own86 args w
  · exact own89 args w
theorem own_start (k : Nat) (h1 : 1 ≤ k) (h5 : k ≤ 5) (args : Array Value) (w : World) : (callFunc (startF k) args).run Tryz.prog w = .ok (.enter (startF k) args) w := by
  have hk : k = 1 ∨ k = 2 ∨ k = 3 ∨ k = 4 ∨ k = 5 := by omega
  rcases hk with hk | hk | hk | hk | hk <;> subst hk
  · exact ownSC args w
  · exact own81 args w
  · exact own81 args w
  · exact own87 args w
  · exact own81 args w

/-- What the kind of a configuration asks of it. -/
def kindFits (c : Cfg) (k : Nat) : Bool := match k with | 1 => countB c | 2 => distinctB c | 3 => oftenB c | 4 => decayB c | _ => drawnB c
def validB (c : Cfg) : Bool := inB c.kind 1 5 && (commonB c && kindFits c c.kind.toNat)

theorem fits_any (c : Cfg) (k : Nat) (w : World) (h1 : 1 ≤ k) (h5 : k ≤ 5) :
    Calls Tryz.prog (fitsF k) #[c.val] w fun e w' => e = .returned (.bool (kindFits c k)) ∧ Keeps (fun _ => False) w w' := by
  have hk : k = 1 ∨ k = 2 ∨ k = 3 ∨ k = 4 ∨ k = 5 := by omega
  rcases hk with hk | hk | hk | hk | hk
  all_goals subst hk
  · exact countFits_any c w
  · exact distinctFits_any c w
  · exact oftenFits_any c w
  · exact decayFits_any c w
  · exact drawnFits_any c w

/-- What an item is refused with by its kind. -/
def kindE (c : Cfg) (k : Nat) (x : It) : Int := match k with | 1 => 0 | 2 => keyE x | 3 => keyE x | 4 => weightE c x | _ => drawnE c x

theorem refuse_any (c : Cfg) (k : Nat) (x : It) (w : World) (h1 : 1 ≤ k) (h5 : k ≤ 5) (hc : 4 ≤ k → c.weighs) (t0 : 0 ≤ x.t) (t1 : x.t ≤ 4611686018427387904) :
    Calls Tryz.prog (refuseF k) #[c.val, x.val] w fun e w' => e = .returned (.int .i64 (kindE c k x)) ∧ Keeps (fun _ => False) w w' := by
  have hk : k = 1 ∨ k = 2 ∨ k = 3 ∨ k = 4 ∨ k = 5 := by omega
  rcases hk with hk | hk | hk | hk | hk
  all_goals subst hk
  · exact refuseNothing_any c x w
  · exact refuseKey_any c x w
  · exact refuseKey_any c x w
  · exact refuseWeightless_any c x w (hc (by omega)) t0 t1
  · exact refuseDrawn_any c x w (hc (by omega)) t0 t1

set_option maxRecDepth 100000 in
set_option maxHeartbeats 2000000 in
theorem kindsOf_no1 (c : Cfg) (w : World) (h1 : inB c.kind 1 5 = false) :
    Calls Tryz.prog 32 #[c.val] w fun e w' => e = .returned (.tuple #[.agg #[.nilFunc, .nilFunc, .nilFunc], .bool false]) ∧ Keeps (fun _ => False) w w' := by
  have HB := hide (show Blk ((w.alloc (.cells c.cells.toArray 33)).alloc (.cells #[.nilFunc, .nilFunc, .nilFunc] 61)) w.heap.size c.cells 33 from (Blk.new w c.cells 33).alloc _)
  have HR := hide (show Blk ((w.alloc (.cells c.cells.toArray 33)).alloc (.cells #[.nilFunc, .nilFunc, .nilFunc] 61)) (w.heap.size + 1) [.nilFunc, .nilFunc, .nilFunc] 61 from Blk.newAt (by simp) [_, _, _] _)
  have HK := hide (((Keeps.refl (fun _ => False) w).alloc (.cells c.cells.toArray 33)).alloc (.cells #[.nilFunc, .nilFunc, .nilFunc] 61))
  unfold Cfg.val
  go_enter Tryz.func32, Tryz.ntmps32
  go_wp2_with fail
  refine (find_no c.kind _ h1).mono ?_
  rintro e w1 ⟨rfl, hk1⟩
  have hr1 := (unhide HR).keeps hk1 (fun h => h)
  have hb1 := (unhide HB).keeps hk1 (fun h => h)
  have r0 : w1.cell? ⟨w.heap.size + 1, 0, none⟩ = some .nilFunc := hr1.cell rfl
  have r1 : w1.cell? ⟨w.heap.size + 1, 1, none⟩ = some .nilFunc := hr1.cell rfl
  have r2 : w1.cell? ⟨w.heap.size + 1, 2, none⟩ = some .nilFunc := hr1.cell rfl
  have rf := hr1.frozen
  have hz := hr1.lt
  have hz0 := hb1.lt
  obtain ⟨hv1, hh1⟩ := bigVal_Blk hb1 20 rfl
  have HB1 := hide hb1
  have HR1 := hide hr1
  have HK1 := hide ((unhide HK).then hk1)
  clear hk1 hb1 hr1
  go_wp2
  have hbf := ((((unhide HR1).setCell 0 .nilFunc).setCell 1 .nilFunc).setCell 2 .nilFunc).alloc (.cells #[.nilFunc, .nilFunc, .nilFunc] 61)
  have HKF := hide ((unhide HK1).trans (((((Keeps.refl (fun k => k = w.heap.size + 1) w1).setCell (p := ⟨w.heap.size + 1, 0, none⟩) (Or.inl rfl) .nilFunc).setCell (p := ⟨w.heap.size + 1, 1, none⟩) (Or.inl rfl) .nilFunc).setCell (p := ⟨w.heap.size + 1, 2, none⟩) (Or.inl rfl) .nilFunc).alloc (.cells #[.nilFunc, .nilFunc, .nilFunc] 61)) (fun i hi hlt => by omega))
  generalize ((((w1.setCell ⟨w.heap.size + 1, 0, none⟩ .nilFunc).setCell ⟨w.heap.size + 1, 1, none⟩ .nilFunc).setCell ⟨w.heap.size + 1, 2, none⟩ .nilFunc).alloc (.cells #[.nilFunc, .nilFunc, .nilFunc] 61)) = w2 at *
  have q0 : w2.cell? ⟨w.heap.size + 1, 0, none⟩ = some .nilFunc := hbf.cell rfl
  have q1 : w2.cell? ⟨w.heap.size + 1, 1, none⟩ = some .nilFunc := hbf.cell rfl
  have q2 : w2.cell? ⟨w.heap.size + 1, 2, none⟩ = some .nilFunc := hbf.cell rfl
  exact bodyPost_ret (v := .tuple #[.agg #[.nilFunc, .nilFunc, .nilFunc], .bool false]) (by simp [results, Tryz.results32, go_sem, q0, q1, q2]) rfl ⟨rfl, unhide HKF⟩

theorem find_yesI (n : Int) (k : Nat) (w : World) (hn : n = k) (h1 : 1 ≤ k) (h5 : k ≤ 5) :
    Calls Tryz.prog 53 #[.int .i64 n] w fun e w' => e = .returned (.tuple #[.agg (kindCells k).toArray, .bool true]) ∧ Keeps (fun _ => False) w w' := by
  subst hn; exact find_yes k w h1 h5

set_option maxRecDepth 100000 in
set_option maxHeartbeats 2000000 in
theorem kindsOf_no2 (c : Cfg) (k : Nat) (w : World) (hk : c.kind = k) (hk1 : 1 ≤ k) (hk5 : k ≤ 5) (h2 : commonB c = false) :
    Calls Tryz.prog 32 #[c.val] w fun e w' => e = .returned (.tuple #[.agg #[.nilFunc, .nilFunc, .nilFunc], .bool false]) ∧ Keeps (fun _ => False) w w' := by
  have HB := hide (show Blk ((w.alloc (.cells c.cells.toArray 33)).alloc (.cells #[.nilFunc, .nilFunc, .nilFunc] 61)) w.heap.size c.cells 33 from (Blk.new w c.cells 33).alloc _)
  have HR := hide (show Blk ((w.alloc (.cells c.cells.toArray 33)).alloc (.cells #[.nilFunc, .nilFunc, .nilFunc] 61)) (w.heap.size + 1) [.nilFunc, .nilFunc, .nilFunc] 61 from Blk.newAt (by simp) [_, _, _] _)
  have HK := hide (((Keeps.refl (fun _ => False) w).alloc (.cells c.cells.toArray 33)).alloc (.cells #[.nilFunc, .nilFunc, .nilFunc] 61))
  have HKK := hide hk
  clear hk
  unfold Cfg.val
  go_enter Tryz.func32, Tryz.ntmps32
  go_wp2_with fail
  refine (find_yesI c.kind k _ (unhide HKK) hk1 hk5).mono ?_
  rintro e w1 ⟨rfl, hw1⟩
  unfold kindCells fn
  have hr1 := (unhide HR).keeps hw1 (fun h => h)
  have hb1 := (unhide HB).keeps hw1 (fun h => h)
  have hz := hr1.lt
  have hz0 := hb1.lt
  have HB1 := hide (hb1.alloc (.cells #[.func (.func (fitsF k)) #[] #[], .func (.func (refuseF k)) #[] #[], .func (.func (startF k)) #[] #[]] 61))
  have HR1 := hide (hr1.alloc (.cells #[.func (.func (fitsF k)) #[] #[], .func (.func (refuseF k)) #[] #[], .func (.func (startF k)) #[] #[]] 61))
  have HT1 := hide (Blk.new w1 [.func (.func (fitsF k)) #[] #[], .func (.func (refuseF k)) #[] #[], .func (.func (startF k)) #[] #[]] 61)
  have HK1 := hide (((unhide HK).then hw1).alloc (.cells #[.func (.func (fitsF k)) #[] #[], .func (.func (refuseF k)) #[] #[], .func (.func (startF k)) #[] #[]] 61))
  obtain ⟨hv1, hh1⟩ := bigVal_Blk hb1 20 rfl
  clear hw1 hb1 hr1 HB HR HK
  go_wp2_with fail
  generalize w1.alloc (.cells #[.func (.func (fitsF k)) #[] #[], .func (.func (refuseF k)) #[] #[], .func (.func (startF k)) #[] #[]] 61) = w2 at *
  generalize hkb : w1.heap.size = kb at *
  refine (common_any c w2).mono ?_
  rintro e w3 ⟨rfl, hw3⟩
  rw [h2]
  have HB3 := hide ((unhide HB1).keeps hw3 (fun h => h))
  have HR3 := hide ((unhide HR1).keeps hw3 (fun h => h))
  have HT3 := hide ((unhide HT1).keeps hw3 (fun h => h))
  have HK3 := hide ((unhide HK1).then hw3)
  clear hw3 HB1 HR1 HT1 HK1 hv1 hh1 hkb
  have r0 : w3.cell? ⟨w.heap.size + 1, 0, none⟩ = some .nilFunc := (unhide HR3).cell rfl
  have r1 : w3.cell? ⟨w.heap.size + 1, 1, none⟩ = some .nilFunc := (unhide HR3).cell rfl
  have r2 : w3.cell? ⟨w.heap.size + 1, 2, none⟩ = some .nilFunc := (unhide HR3).cell rfl
  have rf := (unhide HR3).frozen
  go_wp2
  have hbf := ((((unhide HR3).setCell 0 (.nilFunc)).setCell 1 (.nilFunc)).setCell 2 (.nilFunc))
  have HKF := hide ((unhide HK3).trans ((((Keeps.refl (fun k => k = w.heap.size + 1) w3).setCell (p := ⟨w.heap.size + 1, 0, none⟩) (Or.inl rfl) (.nilFunc)).setCell (p := ⟨w.heap.size + 1, 1, none⟩) (Or.inl rfl) (.nilFunc)).setCell (p := ⟨w.heap.size + 1, 2, none⟩) (Or.inl rfl) (.nilFunc)) (fun i hi hlt => by omega))
  generalize (((w3.setCell ⟨w.heap.size + 1, 0, none⟩ (.nilFunc)).setCell ⟨w.heap.size + 1, 1, none⟩ (.nilFunc)).setCell ⟨w.heap.size + 1, 2, none⟩ (.nilFunc)) = w9 at *
  have q0 : w9.cell? ⟨w.heap.size + 1, 0, none⟩ = some (.nilFunc) := hbf.cell rfl
  have q1 : w9.cell? ⟨w.heap.size + 1, 1, none⟩ = some (.nilFunc) := hbf.cell rfl
  have q2 : w9.cell? ⟨w.heap.size + 1, 2, none⟩ = some (.nilFunc) := hbf.cell rfl
  exact bodyPost_ret (v := .tuple #[.agg #[.nilFunc, .nilFunc, .nilFunc], .bool false]) (by simp [results, Tryz.results32, go_sem, q0, q1, q2]) rfl ⟨rfl, unhide HKF⟩

set_option maxRecDepth 100000 in
set_option maxHeartbeats 2000000 in
theorem kindsOf_no3 (c : Cfg) (k : Nat) (w : World) (hk : c.kind = k) (hk1 : 1 ≤ k) (hk5 : k ≤ 5) (h2 : commonB c = true) (h3 : kindFits c k = false) :
    Calls Tryz.prog 32 #[c.val] w fun e w' => e = .returned (.tuple #[.agg #[.nilFunc, .nilFunc, .nilFunc], .bool false]) ∧ Keeps (fun _ => False) w w' := by
  have HB := hide (show Blk ((w.alloc (.cells c.cells.toArray 33)).alloc (.cells #[.nilFunc, .nilFunc, .nilFunc] 61)) w.heap.size c.cells 33 from (Blk.new w c.cells 33).alloc _)
  have HR := hide (show Blk ((w.alloc (.cells c.cells.toArray 33)).alloc (.cells #[.nilFunc, .nilFunc, .nilFunc] 61)) (w.heap.size + 1) [.nilFunc, .nilFunc, .nilFunc] 61 from Blk.newAt (by simp) [_, _, _] _)
  have HK := hide (((Keeps.refl (fun _ => False) w).alloc (.cells c.cells.toArray 33)).alloc (.cells #[.nilFunc, .nilFunc, .nilFunc] 61))
  have HKK := hide hk
  clear hk
  unfold Cfg.val
  go_enter Tryz.func32, Tryz.ntmps32
  go_wp2_with fail
  refine (find_yesI c.kind k _ (unhide HKK) hk1 hk5).mono ?_
  rintro e w1 ⟨rfl, hw1⟩
  unfold kindCells fn
  have hr1 := (unhide HR).keeps hw1 (fun h => h)
  have hb1 := (unhide HB).keeps hw1 (fun h => h)
  have hz := hr1.lt
  have hz0 := hb1.lt
  have HB1 := hide (hb1.alloc (.cells #[.func (.func (fitsF k)) #[] #[], .func (.func (refuseF k)) #[] #[], .func (.func (startF k)) #[] #[]] 61))
  have HR1 := hide (hr1.alloc (.cells #[.func (.func (fitsF k)) #[] #[], .func (.func (refuseF k)) #[] #[], .func (.func (startF k)) #[] #[]] 61))
  have HT1 := hide (Blk.new w1 [.func (.func (fitsF k)) #[] #[], .func (.func (refuseF k)) #[] #[], .func (.func (startF k)) #[] #[]] 61)
  have HK1 := hide (((unhide HK).then hw1).alloc (.cells #[.func (.func (fitsF k)) #[] #[], .func (.func (refuseF k)) #[] #[], .func (.func (startF k)) #[] #[]] 61))
  obtain ⟨hv1, hh1⟩ := bigVal_Blk hb1 20 rfl
  clear hw1 hb1 hr1 HB HR HK
  go_wp2_with fail
  generalize w1.alloc (.cells #[.func (.func (fitsF k)) #[] #[], .func (.func (refuseF k)) #[] #[], .func (.func (startF k)) #[] #[]] 61) = w2 at *
  generalize hkb : w1.heap.size = kb at *
  refine (common_any c w2).mono ?_
  rintro e w3 ⟨rfl, hw3⟩
  rw [h2]
  have HB3 := hide ((unhide HB1).keeps hw3 (fun h => h))
  have HR3 := hide ((unhide HR1).keeps hw3 (fun h => h))
  have HT3 := hide ((unhide HT1).keeps hw3 (fun h => h))
  have HK3 := hide ((unhide HK1).then hw3)
  clear hw3 HB1 HR1 HT1 HK1 hv1 hh1 hkb
  have t0 : w3.cell? ⟨kb, 0, none⟩ = some (.func (.func (fitsF k)) #[] #[]) := (unhide HT3).cell rfl
  obtain ⟨hv3, hh3⟩ := bigVal_Blk (unhide HB3) 20 rfl
  have hown := own_fits k hk1 hk5
  go_wp2_with fail
  refine (fits_any c k w3 hk1 hk5).mono ?_
  rintro e w4 ⟨rfl, hw4⟩
  rw [h3]
  have HT4 := hide ((unhide HT3).keeps hw4 (fun h => h))
  have HR4 := hide ((unhide HR3).keeps hw4 (fun h => h))
  have HK4 := hide ((unhide HK3).then hw4)
  clear hw4 HB3 HT3 HR3 HK3 t0 hv3 hh3 hown
  have HR3 := HR4
  have HK3 := HK4
  have r0 : w4.cell? ⟨w.heap.size + 1, 0, none⟩ = some .nilFunc := (unhide HR3).cell rfl
  have r1 : w4.cell? ⟨w.heap.size + 1, 1, none⟩ = some .nilFunc := (unhide HR3).cell rfl
  have r2 : w4.cell? ⟨w.heap.size + 1, 2, none⟩ = some .nilFunc := (unhide HR3).cell rfl
  have rf := (unhide HR3).frozen
  go_wp2
  have hbf := ((((unhide HR3).setCell 0 (.nilFunc)).setCell 1 (.nilFunc)).setCell 2 (.nilFunc))
  have HKF := hide ((unhide HK3).trans ((((Keeps.refl (fun k => k = w.heap.size + 1) w4).setCell (p := ⟨w.heap.size + 1, 0, none⟩) (Or.inl rfl) (.nilFunc)).setCell (p := ⟨w.heap.size + 1, 1, none⟩) (Or.inl rfl) (.nilFunc)).setCell (p := ⟨w.heap.size + 1, 2, none⟩) (Or.inl rfl) (.nilFunc)) (fun i hi hlt => by omega))
  generalize (((w4.setCell ⟨w.heap.size + 1, 0, none⟩ (.nilFunc)).setCell ⟨w.heap.size + 1, 1, none⟩ (.nilFunc)).setCell ⟨w.heap.size + 1, 2, none⟩ (.nilFunc)) = w9 at *
  have q0 : w9.cell? ⟨w.heap.size + 1, 0, none⟩ = some (.nilFunc) := hbf.cell rfl
  have q1 : w9.cell? ⟨w.heap.size + 1, 1, none⟩ = some (.nilFunc) := hbf.cell rfl
  have q2 : w9.cell? ⟨w.heap.size + 1, 2, none⟩ = some (.nilFunc) := hbf.cell rfl
  exact bodyPost_ret (v := .tuple #[.agg #[.nilFunc, .nilFunc, .nilFunc], .bool false]) (by simp [results, Tryz.results32, go_sem, q0, q1, q2]) rfl ⟨rfl, unhide HKF⟩

set_option maxRecDepth 100000 in
set_option maxHeartbeats 2000000 in
theorem kindsOf_yes (c : Cfg) (k : Nat) (w : World) (hk : c.kind = k) (hk1 : 1 ≤ k) (hk5 : k ≤ 5) (h2 : commonB c = true) (h3 : kindFits c k = true) :
    Calls Tryz.prog 32 #[c.val] w fun e w' => e = .returned (.tuple #[.agg (kindCells k).toArray, .bool true]) ∧ Keeps (fun _ => False) w w' := by
  have HB := hide (show Blk ((w.alloc (.cells c.cells.toArray 33)).alloc (.cells #[.nilFunc, .nilFunc, .nilFunc] 61)) w.heap.size c.cells 33 from (Blk.new w c.cells 33).alloc _)
  have HR := hide (show Blk ((w.alloc (.cells c.cells.toArray 33)).alloc (.cells #[.nilFunc, .nilFunc, .nilFunc] 61)) (w.heap.size + 1) [.nilFunc, .nilFunc, .nilFunc] 61 from Blk.newAt (by simp) [_, _, _] _)
  have HK := hide (((Keeps.refl (fun _ => False) w).alloc (.cells c.cells.toArray 33)).alloc (.cells #[.nilFunc, .nilFunc, .nilFunc] 61))
  have HKK := hide hk
  clear hk
  unfold Cfg.val
  go_enter Tryz.func32, Tryz.ntmps32
  go_wp2_with fail
  refine (find_yesI c.kind k _ (unhide HKK) hk1 hk5).mono ?_
  rintro e w1 ⟨rfl, hw1⟩
  unfold kindCells fn
  have hr1 := (unhide HR).keeps hw1 (fun h => h)
  have hb1 := (unhide HB).keeps hw1 (fun h => h)
  have hz := hr1.lt
  have hz0 := hb1.lt
  have HB1 := hide (hb1.alloc (.cells #[.func (.func (fitsF k)) #[] #[], .func (.func (refuseF k)) #[] #[], .func (.func (startF k)) #[] #[]] 61))
  have HR1 := hide (hr1.alloc (.cells #[.func (.func (fitsF k)) #[] #[], .func (.func (refuseF k)) #[] #[], .func (.func (startF k)) #[] #[]] 61))
  have HT1 := hide (Blk.new w1 [.func (.func (fitsF k)) #[] #[], .func (.func (refuseF k)) #[] #[], .func (.func (startF k)) #[] #[]] 61)
  have HK1 := hide (((unhide HK).then hw1).alloc (.cells #[.func (.func (fitsF k)) #[] #[], .func (.func (refuseF k)) #[] #[], .func (.func (startF k)) #[] #[]] 61))
  obtain ⟨hv1, hh1⟩ := bigVal_Blk hb1 20 rfl
  clear hw1 hb1 hr1 HB HR HK
  go_wp2_with fail
  generalize w1.alloc (.cells #[.func (.func (fitsF k)) #[] #[], .func (.func (refuseF k)) #[] #[], .func (.func (startF k)) #[] #[]] 61) = w2 at *
  generalize hkb : w1.heap.size = kb at *
  refine (common_any c w2).mono ?_
  rintro e w3 ⟨rfl, hw3⟩
  rw [h2]
  have HB3 := hide ((unhide HB1).keeps hw3 (fun h => h))
  have HR3 := hide ((unhide HR1).keeps hw3 (fun h => h))
  have HT3 := hide ((unhide HT1).keeps hw3 (fun h => h))
  have HK3 := hide ((unhide HK1).then hw3)
  clear hw3 HB1 HR1 HT1 HK1 hv1 hh1 hkb
  have t0 : w3.cell? ⟨kb, 0, none⟩ = some (.func (.func (fitsF k)) #[] #[]) := (unhide HT3).cell rfl
  obtain ⟨hv3, hh3⟩ := bigVal_Blk (unhide HB3) 20 rfl
  have hown := own_fits k hk1 hk5
  go_wp2_with fail
  refine (fits_any c k w3 hk1 hk5).mono ?_
  rintro e w4 ⟨rfl, hw4⟩
  rw [h3]
  have HT4 := hide ((unhide HT3).keeps hw4 (fun h => h))
  have HR4 := hide ((unhide HR3).keeps hw4 (fun h => h))
  have HK4 := hide ((unhide HK3).then hw4)
  clear hw4 HB3 HT3 HR3 HK3 t0 hv3 hh3 hown
  have HR3 := HR4
  have HK3 := HK4
  have r0 : w4.cell? ⟨w.heap.size + 1, 0, none⟩ = some .nilFunc := (unhide HR3).cell rfl
  have r1 : w4.cell? ⟨w.heap.size + 1, 1, none⟩ = some .nilFunc := (unhide HR3).cell rfl
  have r2 : w4.cell? ⟨w.heap.size + 1, 2, none⟩ = some .nilFunc := (unhide HR3).cell rfl
  have rf := (unhide HR3).frozen
  have t0 : w4.cell? ⟨kb, 0, none⟩ = some (.func (.func (fitsF k)) #[] #[]) := (unhide HT4).cell rfl
  have t1 : w4.cell? ⟨kb, 1, none⟩ = some (.func (.func (refuseF k)) #[] #[]) := (unhide HT4).cell rfl
  have t2 : w4.cell? ⟨kb, 2, none⟩ = some (.func (.func (startF k)) #[] #[]) := (unhide HT4).cell rfl
  go_wp2
  have hbf := ((((unhide HR3).setCell 0 (.func (.func (fitsF k)) #[] #[])).setCell 1 (.func (.func (refuseF k)) #[] #[])).setCell 2 (.func (.func (startF k)) #[] #[]))
  have HKF := hide ((unhide HK3).trans ((((Keeps.refl (fun k => k = w.heap.size + 1) w4).setCell (p := ⟨w.heap.size + 1, 0, none⟩) (Or.inl rfl) (.func (.func (fitsF k)) #[] #[])).setCell (p := ⟨w.heap.size + 1, 1, none⟩) (Or.inl rfl) (.func (.func (refuseF k)) #[] #[])).setCell (p := ⟨w.heap.size + 1, 2, none⟩) (Or.inl rfl) (.func (.func (startF k)) #[] #[])) (fun i hi hlt => by omega))
  generalize (((w4.setCell ⟨w.heap.size + 1, 0, none⟩ (.func (.func (fitsF k)) #[] #[])).setCell ⟨w.heap.size + 1, 1, none⟩ (.func (.func (refuseF k)) #[] #[])).setCell ⟨w.heap.size + 1, 2, none⟩ (.func (.func (startF k)) #[] #[])) = w9 at *
  have q0 : w9.cell? ⟨w.heap.size + 1, 0, none⟩ = some (.func (.func (fitsF k)) #[] #[]) := hbf.cell rfl
  have q1 : w9.cell? ⟨w.heap.size + 1, 1, none⟩ = some (.func (.func (refuseF k)) #[] #[]) := hbf.cell rfl
  have q2 : w9.cell? ⟨w.heap.size + 1, 2, none⟩ = some (.func (.func (startF k)) #[] #[]) := hbf.cell rfl
  exact bodyPost_ret (v := .tuple #[.agg #[.func (.func (fitsF k)) #[] #[], .func (.func (refuseF k)) #[] #[], .func (.func (startF k)) #[] #[]], .bool true]) (by simp [results, Tryz.results32, go_sem, q0, q1, q2]) rfl ⟨rfl, unhide HKF⟩

end Go.Proofs.YtjhaihbjhikhlaaGreat
