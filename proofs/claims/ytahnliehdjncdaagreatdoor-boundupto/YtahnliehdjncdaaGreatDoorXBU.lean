import Derived.Test.YtahnliehdjncdaaGreatDoorXBO
import Derived.Test.YtahnliehdjncdaaGreatDoorXBP
import Derived.Test.YtahnliehdjncdaaGreatDoorXBT
set_option maxRecDepth 100000
set_option maxHeartbeats 16000000
namespace Go.Proofs.YtahnliehdjncdaaGreatDoor
open Go.RowKit
attribute [local go_sem ↓] execOp_load38 execOp_load40 execOp_build38 execOp_build40 execOp_bs22 execOp_store38
def cc : Cfg := ⟨1, 0, 9, 8, 1, 5, 0, 0, 0, 0, 0, 0, 0, 0, 0, 0, 0, 0, 0, 0⟩
def p1 : OpM := ⟨1, 7, 0, 0, 0, cc, noBytes⟩
def p4 : OpM := ⟨4, 7, 5, 0, 0, cz, noBytes⟩
def fourO : List OpM := [p1, o2, o3, p4]
def fourCells : List Value := p1.cells ++ (o2.cells ++ (o3.cells ++ p4.cells))
theorem four_run : runM ws0 fourO = [(0, []), (0, [1]), (0, [0]), (0, [1])] := by kernel_rfl
theorem run_c38 (w : World) : (buildBig 38 #[(0, .int .i64 1), (2, .int .i64 9), (3, .int .i64 8), (4, .int .i64 1), (5, .int .i64 5)]).run Tryz.prog w = .ok (.value (.agg cc.cells.toArray)) w := by kernel_rfl
theorem run_c1 (w : World) : (buildBig 40 #[(0, .int .i64 1), (1, .int .i64 7), (5, .agg cc.cells.toArray)]).run Tryz.prog w = .ok (.value (.agg p1.cells.toArray)) w := by kernel_rfl
theorem run_c4 (w : World) : (buildBig 40 #[(0, .int .i64 4), (1, .int .i64 7), (2, .int .i64 5)]).run Tryz.prog w = .ok (.value (.agg p4.cells.toArray)) w := by kernel_rfl
theorem run_cs (w : World) : (bsBig 22 4 #[(0, .agg p1.cells.toArray), (1, .agg o2.cells.toArray), (2, .agg o3.cells.toArray), (3, .agg p4.cells.toArray)]).run Tryz.prog w =
  .ok (.value (.slice (some ⟨w.heap.size, 0, none⟩) 4 4)) (w.alloc (.cells fourCells.toArray 40)) := by kernel_rfl
attribute [local go_sem] run_load38 run_load40 bigVal_drew hasBig_drew bigVal_ne hasBig_ne bigVal_alloc hasBig_alloc run_c38 run_c1 run_b2 run_b3 run_c4 run_cs
theorem four_at (w : World) (b : Nat) (h : Blk w b fourCells 40) : ScriptAt w b 0 fourO := by
 intro i o ho
 have hi : i < 4 := (List.getElem?_eq_some_iff.1 ho).1
 have hi' : i = 0 ∨ i = 1 ∨ i = 2 ∨ i = 3 := by omega
 have hr : ∀ (off : Nat) (cs : List Value), (fourCells.drop off).take 26 = cs → w.rangeAt b off cs := by
  intro off cs hcs j v hv
  rw [← hcs, List.getElem?_take] at hv
  split at hv
  ·exact h.cell (by simpa using hv)
  ·cases hv
 rcases hi' with h' | h' | h' | h'
 all_goals
  subst h'
  injection ho with ho
  subst ho
 ·exact hr 0 _ rfl
 ·exact hr 26 _ rfl
 ·exact hr 52 _ rfl
 ·exact hr 78 _ rfl
theorem list_four {α : Type _} (l : List α) (h : l.length = 4) : ∃ a b c d, l = [a, b, c, d] := by
 match l, h with
 | [a, b, c, d], _ => exact ⟨a, b, c, d, rfl⟩
theorem four_ok : OkRun fourO := by
 intro o ho
 simp [fourO, p1, o2, o3, p4] at ho
 rcases ho with h | h | h | h <;> subst h <;> simp
theorem counting_any (w : World) (hT : Tab w) : Calls Tryz.prog 24 #[] w fun e w' => e = .returned (.bool true) ∧ Keeps (fun _ => False) w w' := by
 have hst : ∀ zs : List Value, zs.length = 20 → (storeBig 38 (.pointer (some ⟨w.heap.size, 0, none⟩)) (.agg cc.cells.toArray)).run Tryz.prog (w.alloc (.cells zs.toArray 38)) = .ok .skip (w.alloc (.cells cc.cells.toArray 38)) := fun zs hz => run_store38 w zs cc.cells hz rfl (by simp [Cfg.cells, Value.oneCell'])
 have hv1 : bigVal (w.alloc (.cells cc.cells.toArray 38)) w.heap.size 0 20 = .agg cc.cells.toArray := bigVal_new w cc.cells 38 20 rfl
 have hh1 : hasBig (w.alloc (.cells cc.cells.toArray 38)) w.heap.size 0 20 = true := hasBig_new w cc.cells 38 20 rfl
 have HK0 := hide (((Keeps.refl (fun _ => False) w).alloc (.cells cc.cells.toArray 38)).alloc (.cells fourCells.toArray 40))
 have HB0 := hide (show Blk ((w.alloc (.cells cc.cells.toArray 38)).alloc (.cells fourCells.toArray 40)) (w.heap.size + 1) fourCells 40 from Blk.newAt (by simp) _ _)
 have HTT := hide hT
 clear hT
 go_enter Tryz.func24, Tryz.ntmps24
 go_wp2_with fail
 refine (run_all (w.heap.size + 1) 0 4 fourO _ (four_at _ _ (uh HB0)) (uh HB0).lt (by decide) ((uh HTT).keeps (uh HK0) (fun h => h)) four_ok).mono ?_
 rintro r w1 ⟨v, l, rfl, hA, hM, _, hk1⟩
 rw [four_run] at hM
 obtain ⟨x0, x1, x2, x3, hl5⟩ := list_four l (by have := congrArg List.length hM; simpa using this)
 subst hl5
 simp only [List.map_cons, List.map_nil, List.cons.injEq, Prod.mk.injEq, and_true] at hM
 obtain ⟨⟨k0, m0⟩, ⟨k1, m1⟩, ⟨k2, m2⟩, k3, m3⟩ := hM
 obtain ⟨g, cap, hv, hc⟩ := ans_row hA (by simp)
 have n3 := hA.nums x3 (by simp)
 rw [m3] at n3
 rcases num_cells n3 with ⟨h, _⟩ | ⟨g1, cp1, hv1', hn1⟩
 ·cases h
 have y3 : w1.cell? ⟨g, 9, none⟩ = some (.int .i64 0) := (hc 9 _ rfl).trans (by rw [k3])
 have z3 : w1.cell? ⟨g, 10, none⟩ = some (.slice (some ⟨g1, 0, none⟩) 1 cp1) := (hc 10 _ rfl).trans (by rw [hv1']; rfl)
 have q1 : w1.cell? ⟨g1, 0, none⟩ = some (.int .i64 1) := hn1 0 (by simp)
 have HK1 := hide ((uh HK0).then hk1)
 rw [hv]
 clear hA hk1 hc n3 hn1 hv hv1' k0 k1 k2 k3 m0 m1 m2 m3 hst hv1 hh1 HK0 HB0
 show _
 go_wp2
 go_ret
 exact ⟨rfl, uh HK1⟩
end Go.Proofs.YtahnliehdjncdaaGreatDoor
namespace Go.Proofs.YtahnliehdjncdaaGreatDoor
open Go.RowKit
def distD (a b : Int) : Int := if a < b then b - a else a - b
theorem distance_any (a b : Int) (w : World) (a0 : 0 ≤ a) (a1 : a ≤ 4611686018427387904) (b0 : 0 ≤ b) (b1 : b ≤ 4611686018427387904) :
  Calls Tryz.prog 28 #[.int .i64 a, .int .i64 b] w fun r w' => r = .returned (.int .i64 (distD a b)) ∧ w' = w := by
 have h1 : IntKind.i64.wrap (b - a) = b - a := by rw [IntKind.wrap_i64]; omega
 have h2 : IntKind.i64.wrap (a - b) = a - b := by rw [IntKind.wrap_i64]; omega
 by_cases h : a < b
 ·have HD := hide (show distD a b = b - a by unfold distD; rw [if_pos h])
  go_enter Tryz.func28, Tryz.ntmps28
  go_wp2
  go_ret
  exact ⟨ret_int (uh HD).symm, rfl⟩
 ·have HD := hide (show distD a b = a - b by unfold distD; rw [if_neg h])
  have hd : decide (a < b) = false := by simpa using h
  clear h
  go_enter Tryz.func28, Tryz.ntmps28
  go_wp2
  go_ret
  exact ⟨ret_int (uh HD).symm, rfl⟩
theorem emod_le' (c n : Int) (hc : 0 ≤ c) (hn : 1 ≤ n) : c % n ≤ c := by
 have h1 := Int.mul_nonneg (show 0 ≤ n by omega) (Int.ediv_nonneg hc (show 0 ≤ n by omega))
 have h2 := Int.emod_add_mul_ediv c n
 omega
theorem pick_big (c n : Int) (w : World) (hn : 1 ≤ n) (c0 : -9223372036854775808 ≤ c) (c1 : c ≤ 9223372036854775807) :
  Calls Tryz.prog 18 #[.int .i64 c, .int .i64 n] w fun e w' => ∃ k : Nat, (k : Int) < n ∧ e = .returned (.int .i64 k) ∧ w' = w := by
 by_cases h : c < 0
 ·obtain ⟨k, hk⟩ : ∃ k : Nat, (k : Int) = (-(c + 1)) % n := ⟨((-(c + 1)) % n).toNat, Int.toNat_of_nonneg (Int.emod_nonneg _ (by omega))⟩
  have hlt := Int.emod_lt_of_pos (-(c + 1)) (show 0 < n by omega)
  have hke := emod_le' (-(c + 1)) n (by omega) hn
  have HK := hide hk
  clear hk
  go_enter Tryz.func18, Tryz.ntmps18
  go_wp2
  go_ret
  exact ⟨k, by rw [uh HK]; exact hlt, ret_int ((Int.neg_tmod (c + 1) n).symm.trans ((Int.tmod_eq_emod_of_nonneg (by omega)).trans (uh HK).symm)), rfl⟩
 ·obtain ⟨k, hk⟩ : ∃ k : Nat, (k : Int) = c % n := ⟨(c % n).toNat, Int.toNat_of_nonneg (Int.emod_nonneg _ (by omega))⟩
  have hlt := Int.emod_lt_of_pos c (show 0 < n by omega)
  have hke := emod_le' c n (by omega) hn
  have HK := hide hk
  clear hk
  go_enter Tryz.func18, Tryz.ntmps18
  go_wp2
  go_ret
  exact ⟨k, by rw [uh HK]; exact hlt, ret_int (uh HK).symm, rfl⟩
def appS (t : TypeId) (x y : Value) : Sem Next := do pure (.value (← Builtin.append_ #[22, 22] t #[x, y]))
theorem execOp_appS (ρ : Operand → Value) (dst : Option Tmp) (x y : Operand) (ty : TypeId) (pos : String) (after : Array Edge) (guard : Option (Nat × Bool)) :
  execOp ρ { dst, op := .call { callee := .builtin .append, args := #[x, y], argTypes := #[22, 22] }, type := ty, pos, after, guard } = appS ty (ρ x) (ρ y) := by
 rw [BigFrame.execOp_builtin, BigFrame.builtin_append]
 simp [appS]
theorem run_appS (w : World) (base : Nat) (v : Value) (A : List OpM) (g0 : Nat) (q : OpM) (hown : OwnS w base v A) (hu : w.heap[g0]? = some (.cells q.cells.toArray 40)) (hm : A.length + 1 ≤ 651562446089) (hb : base ≤ w.heap.size) :
  ∃ gg cap' w3, (∀ t, (appS t v (.slice (some ⟨g0, 0, none⟩) 1 1)).run Tryz.prog w = .ok (.value (.slice (some ⟨gg, 0, none⟩) (A.length + 1) cap')) w3) ∧
   OwnS w3 base (.slice (some ⟨gg, 0, none⟩) (A.length + 1) cap') (A ++ [q]) ∧ w.grownBy w3 v.ownBlock := by
 obtain ⟨i0, hi0, hz0, hz1, hz2⟩ := info_parts info40
 obtain ⟨gg, cap', w3, e1, e2, e3, _, _⟩ := run_append_lies (P := Tryz.prog) w 22 22 base 40 i0 _ 26 216 Tryz.underlying22 hi0 hz0 hz1 hz2 rfl (by omega) v A.length (opFlat A) hown ⟨g0, 0, none⟩ 1 1 q.cells rfl (World.news_of_block hu) (fun u hu' => by have := op_oneCell q; simp only [List.all_toArray] at this; exact List.all_eq_true.1 this u hu') (by omega) (by unfold maxLen; omega) (by omega) hb w.heap.size rfl
 refine ⟨gg, cap', w3, fun t => ?_, ?_, e3⟩
 ·unfold appS
  rw [Sem.run_bind]
  have ht : Builtin.append_ #[22, 22] t #[v, .slice (some ⟨g0, 0, none⟩) 1 1] = Builtin.append_ #[22, 22] 22 #[v, .slice (some ⟨g0, 0, none⟩) 1 1] := rfl
  rw [ht, e1]
  rfl
 ·show w3.ownsRow base 40 26 _ (A ++ [q]).length (opFlat (A ++ [q]))
  rw [opFlat_append, List.length_append]
  have : opFlat [q] = q.cells := by simp [opFlat]
  rw [this]
  exact e2
end Go.Proofs.YtahnliehdjncdaaGreatDoor
