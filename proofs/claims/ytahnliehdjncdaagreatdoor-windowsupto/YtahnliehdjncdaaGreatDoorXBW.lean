import Derived.Test.YtahnliehdjncdaaGreatDoorXBU
import Derived.Test.YtahnliehdjncdaaGreatDoorXBV
import Derived.Laws.OwnMore
import Derived.Test.YtahnliehdjncdaaGreatDoorXBS
set_option maxRecDepth 100000
set_option maxHeartbeats 16000000
namespace Go.Proofs.YtahnliehdjncdaaGreatDoor
open Go.RowKit
def noMoreB (G H : List Int) : Bool := decide (∀ k, k < G.length → G.getD k 0 ≤ H.getD k 0)
theorem noMore_any (a b m ca cb : Nat) (G H : List Int) (w : World) (hG : G.length = m) (hm : m ≤ 1000) (h1 : ∀ i, i < m → w.cell? ⟨a, i, none⟩ = some (.int .i64 (G.getD i 0))) (h2 : ∀ i, i < m → w.cell? ⟨b, i, none⟩ = some (.int .i64 (H.getD i 0))) :
  Calls Tryz.prog 32 #[.slice (some ⟨a, 0, none⟩) m ca, .slice (some ⟨b, 0, none⟩) m cb] w fun e w' => e = .returned (.bool (noMoreB G H)) ∧ ∃ n, w' = w.drewN n := by
 have H1 := hide h1
 have H2 := hide h2
 have HG := hide hG
 clear h1 h2 hG
 go_enter Tryz.func32, Tryz.ntmps32
 go_wp2_with fail
 go_loopw [5] (fun i wr => ∃ k n : Nat, k ≤ m ∧ i = .int .i64 k ∧ Hid (∀ x, x < k → G.getD x 0 ≤ H.getD x 0) ∧ wr = w.drewN n) (fun i _ => m - (intOf i).toNat)
 case atStart => exact ⟨0, 0, by omega, rfl, fun x hx => by omega, rfl⟩
 case round =>
  obtain ⟨k, n, hk, rfl, HL, rfl⟩ := hrel
  by_cases hkm : k < m
  ·have c1 : (w.drewN n).cell? ⟨a, k, none⟩ = some (.int .i64 (G.getD k 0)) := (Keeps.drewN (fun _ => False) w n).cell (uh H1 k hkm) (fun h => h)
   have c2 : (w.drewN n).cell? ⟨b, k, none⟩ = some (.int .i64 (H.getD k 0)) := (Keeps.drewN (fun _ => False) w n).cell (uh H2 k hkm) (fun h => h)
   have HX := hide (show ∀ x y : Int, G.getD k 0 = x → H.getD k 0 = y → (x ≤ y → ∀ z, z < k + 1 → G.getD z 0 ≤ H.getD z 0) ∧ (y < x → noMoreB G H = false) from fun x y hx hy => ⟨fun hle z hz => by
        by_cases hzk : z = k
        ·rw [hzk, hx, hy]; exact hle
        ·exact uh HL z (by omega), fun hlt => by
        unfold noMoreB
        refine decide_eq_false (fun hall => ?_)
        have := hall k (by rw [uh HG]; exact hkm)
        rw [hx, hy] at this
        omega⟩)
   have HX2 := hide (uh HX _ _ rfl rfl)
   clear HX
   generalize G.getD k 0 = x at *
   generalize H.getD k 0 = y at *
   generalize hW : w.drewN n = W at *
   have hk0 : (0 : Int) ≤ (k : Int) := by omega
   have hk1 : (k : Int) < (m : Int) := by omega
   cases hd : decide (y < x)
   ·have hle : x ≤ y := by simpa using hd
    go_wp2_with fail
    go_quiet (fail)
    go_wp2
    go_roundw
    case rel => exact ⟨k + 1, n + nq, by omega, by go_num, hide ((uh HX2).1 hle), by rw [← hW, World.drewN_drewN]⟩
    case measure => simp [intOf]; omega
   ·have hlt : y < x := by simpa using hd
    have hno := (uh HX2).2 hlt
    have HNO := hide hno
    clear hno
    go_wp2_with fail
    go_quiet (fail)
    go_wp2
    go_ret
    exact ⟨by rw [uh HNO]; rfl, n + nq, by rw [← hW, World.drewN_drewN]⟩
  ·have hkE : k = m := by omega
   subst hkE
   have hf : decide ((k : Int) < (k : Int)) = false := by simp
   have HY := hide (show noMoreB G H = true from decide_eq_true (fun z hz => uh HL z (by rw [uh HG] at hz; exact hz)))
   go_wp2
   go_ret
   exact ⟨by rw [uh HY]; rfl, n, rfl⟩
theorem pick_exact (c n : Int) (w : World) (c0 : 0 ≤ c) (cn : c < n) :
  Calls Tryz.prog 18 #[.int .i64 c, .int .i64 n] w fun e w' => e = .returned (.int .i64 c) ∧ w' = w := by
 have hm : c % n = c := Int.emod_eq_of_lt c0 cn
 have ht : c.tmod n = c := by rw [Int.tmod_eq_emod_of_nonneg c0]; exact hm
 have hc : decide (c < 0) = false := by simp; omega
 go_enter Tryz.func18, Tryz.ntmps18
 go_wp2
 go_ret
 exact ⟨by first | rfl | (rw [hm]) | (rw [ht]) | exact ret_int hm | exact ret_int ht, rfl⟩
end Go.Proofs.YtahnliehdjncdaaGreatDoor
namespace Go.Proofs.YtahnliehdjncdaaGreatDoor
open Go.RowKit
attribute [local go_sem ↓] execOp_load38 execOp_load40 execOp_build38 execOp_build40 execOp_bs22 execOp_store38
def nd : Cfg := ⟨2, 0, 9, 8, 0, 5, 1, 0, 0, 0, 0, 0, 0, 0, 1, 0, 0, 0, 0, 0⟩
def no : Cfg := ⟨3, 0, 9, 8, 0, 5, 0, 1, 4, 1, 0, 0, 0, 0, 1, 0, 0, 0, 0, 0⟩
def nw : Cfg := ⟨5, 0, 9, 8, 0, 0, 0, 0, 0, 0, 1, 0, 0, 0, 0, 0, 0, 0, 0, 0⟩
def n1 : OpM := ⟨1, 1, 0, 0, 0, nd, noBytes⟩
def n2 : OpM := ⟨1, 2, 0, 0, 0, no, noBytes⟩
def n3 : OpM := ⟨1, 3, 0, 0, 0, nw, noBytes⟩
def nA (i : Int) : OpM := ⟨2, i, 3, 1, 1, cz, noBytes⟩
def nT : OpM := ⟨3, 0, 5, 0, 0, cz, noBytes⟩
def nQ1 : OpM := ⟨4, 1, 5, 0, 0, cz, noBytes⟩
def nQ2 : OpM := ⟨4, 2, 1, 0, 0, cz, noBytes⟩
def nQ3 : OpM := ⟨4, 3, 0, 0, 0, cz, noBytes⟩
def nAs (k : Nat) : List OpM := (List.range k).map (fun i : Nat => nA ((i : Int) + 1))
theorem nAs_succ (k : Nat) : nAs (k + 1) = nAs k ++ [nA ((k : Int) + 1)] := by simp [nAs, List.range_succ]
def threeC : List Value := n1.cells ++ (n2.cells ++ n3.cells)
def lastC : List Value := nT.cells ++ (nQ1.cells ++ (nQ2.cells ++ nQ3.cells))
def tenO : List OpM := ([n1, n2, n3] ++ nAs 3) ++ [nT, nQ1, nQ2, nQ3]
theorem ten_run : runM ws0 tenO = [(0, []), (0, []), (0, []), (0, [1]), (0, [1]), (0, [1]), (0, [0]), (0, [0, 40, 2]), (0, [1]), (0, [3, 1, 1, 0, 0])] := by kernel_rfl
theorem ten_ok : OkRun tenO := by
 intro o ho
 have : o.kind = 1 ∨ o.kind = 2 ∨ o.kind = 3 ∨ o.kind = 4 := by
  simp [tenO, nAs, List.range_succ] at ho
  rcases ho with h | h | h | h | h | h | h | h | h | h <;> subst h <;> simp [n1, n2, n3, nA, nT, nQ1, nQ2, nQ3]
 omega
theorem execOp_build35 (ρ : Operand → Value) (dst : Option Tmp) (x : Array (Nat × Operand)) (ty : TypeId) (pos : String) (after : Array Edge) (guard : Option (Nat × Bool)) :
  execOp ρ { dst, op := .build 35 x, type := ty, pos, after, guard } = buildBig 35 (x.map fun (i, y) => (i, ρ y)) := rfl
theorem execOp_build36 (ρ : Operand → Value) (dst : Option Tmp) (x : Array (Nat × Operand)) (ty : TypeId) (pos : String) (after : Array Edge) (guard : Option (Nat × Bool)) :
  execOp ρ { dst, op := .build 36 x, type := ty, pos, after, guard } = buildBig 36 (x.map fun (i, y) => (i, ρ y)) := rfl
def pairV : Value := .agg #[.int .i64 1, .int .i64 0]
def pairsV : Value := .agg #[.int .i64 1, .int .i64 0, .int .i64 0, .int .i64 0, .int .i64 0, .int .i64 0]
theorem run_n35 (w : World) : (buildBig 35 #[(0, .int .i64 1), (1, .int .i64 0)]).run Tryz.prog w = .ok (.value pairV) w := by kernel_rfl
theorem run_n36 (w : World) : (buildBig 36 #[(0, pairV)]).run Tryz.prog w = .ok (.value pairsV) w := by kernel_rfl
theorem run_nd (w : World) : (buildBig 38 #[(0, .int .i64 2), (2, .int .i64 9), (3, .int .i64 8), (6, .int .i64 1), (5, .int .i64 5), (14, pairsV)]).run Tryz.prog w = .ok (.value (.agg nd.cells.toArray)) w := by kernel_rfl
theorem run_no (w : World) : (buildBig 38 #[(0, .int .i64 3), (2, .int .i64 9), (3, .int .i64 8), (7, .int .i64 1), (8, .int .i64 4), (9, .int .i64 1), (5, .int .i64 5), (14, pairsV)]).run Tryz.prog w = .ok (.value (.agg no.cells.toArray)) w := by kernel_rfl
theorem run_nw (w : World) : (buildBig 38 #[(0, .int .i64 5), (2, .int .i64 9), (3, .int .i64 8), (10, .int .i64 1)]).run Tryz.prog w = .ok (.value (.agg nw.cells.toArray)) w := by kernel_rfl
theorem run_n1 (w : World) : (buildBig 40 #[(0, .int .i64 1), (1, .int .i64 1), (5, .agg nd.cells.toArray)]).run Tryz.prog w = .ok (.value (.agg n1.cells.toArray)) w := by kernel_rfl
theorem run_n2 (w : World) : (buildBig 40 #[(0, .int .i64 1), (1, .int .i64 2), (5, .agg no.cells.toArray)]).run Tryz.prog w = .ok (.value (.agg n2.cells.toArray)) w := by kernel_rfl
theorem run_n3 (w : World) : (buildBig 40 #[(0, .int .i64 1), (1, .int .i64 3), (5, .agg nw.cells.toArray)]).run Tryz.prog w = .ok (.value (.agg n3.cells.toArray)) w := by kernel_rfl
theorem run_nA (i : Int) (w : World) : (buildBig 40 #[(0, .int .i64 2), (1, .int .i64 i), (2, .int .i64 3), (3, .int .i64 1), (4, .int .i64 1)]).run Tryz.prog w = .ok (.value (.agg (nA i).cells.toArray)) w := by kernel_rfl
theorem run_nT (w : World) : (buildBig 40 #[(0, .int .i64 3), (2, .int .i64 5)]).run Tryz.prog w = .ok (.value (.agg nT.cells.toArray)) w := by kernel_rfl
theorem run_nQ1 (w : World) : (buildBig 40 #[(0, .int .i64 4), (1, .int .i64 1), (2, .int .i64 5)]).run Tryz.prog w = .ok (.value (.agg nQ1.cells.toArray)) w := by kernel_rfl
theorem run_nQ2 (w : World) : (buildBig 40 #[(0, .int .i64 4), (1, .int .i64 2), (2, .int .i64 1)]).run Tryz.prog w = .ok (.value (.agg nQ2.cells.toArray)) w := by kernel_rfl
theorem run_nQ3 (w : World) : (buildBig 40 #[(0, .int .i64 4), (1, .int .i64 3)]).run Tryz.prog w = .ok (.value (.agg nQ3.cells.toArray)) w := by kernel_rfl
theorem run_nb3 (w : World) : (bsBig 22 3 #[(0, .agg n1.cells.toArray), (1, .agg n2.cells.toArray), (2, .agg n3.cells.toArray)]).run Tryz.prog w =
  .ok (.value (.slice (some ⟨w.heap.size, 0, none⟩) 3 3)) (w.alloc (.cells threeC.toArray 40)) := by kernel_rfl
theorem run_nb4 (w : World) : (bsBig 22 4 #[(0, .agg nT.cells.toArray), (1, .agg nQ1.cells.toArray), (2, .agg nQ2.cells.toArray), (3, .agg nQ3.cells.toArray)]).run Tryz.prog w =
  .ok (.value (.slice (some ⟨w.heap.size, 0, none⟩) 4 4)) (w.alloc (.cells lastC.toArray 40)) := by kernel_rfl
theorem last_at (w : World) (b : Nat) (h : Blk w b lastC 40) : ScriptW w (.slice (some ⟨b, 0, none⟩) 4 4) [nT, nQ1, nQ2, nQ3] := by
 refine .inr ⟨b, 0, 4, rfl, by simp, ?_, h.lt⟩
 intro i o ho
 have hi : i < 4 := (List.getElem?_eq_some_iff.1 ho).1
 have hi' : i = 0 ∨ i = 1 ∨ i = 2 ∨ i = 3 := by omega
 have hr : ∀ (off : Nat) (cs : List Value), (lastC.drop off).take 26 = cs → w.rangeAt b off cs := by
  intro off cs hcs j v hv
  rw [← hcs, List.getElem?_take] at hv
  split at hv
  ·exact h.cell (by simpa using hv)
  ·cases hv
 rcases hi' with h' | h' | h' | h'
 all_goals
  subst h'
  injection ho with ho
  subst ho
 ·exact hr 0 _ rfl
 ·exact hr 26 _ rfl
 ·exact hr 52 _ rfl
 ·exact hr 78 _ rfl
theorem three_own (w : World) (base : Nat) (hb : base ≤ w.heap.size) : OwnS (w.alloc (.cells threeC.toArray 40)) base (.slice (some ⟨w.heap.size, 0, none⟩) 3 3) [n1, n2, n3] :=
 World.ownsRow_lit w threeC.toArray 3 hb (by unfold maxLen; omega) rfl
theorem list_ten {α : Type _} (l : List α) (h : l.length = 10) : ∃ a b c d e f g i j k, l = [a, b, c, d, e, f, g, i, j, k] := by
 match l, h with
 | [a, b, c, d, e, f, g, i, j, k], _ => exact ⟨a, b, c, d, e, f, g, i, j, k, rfl⟩
attribute [local go_sem ↓] execOp_build35 execOp_build36
attribute [local go_sem] run_load38 run_load40 bigVal_drew hasBig_drew bigVal_ne hasBig_ne bigVal_alloc hasBig_alloc run_n35 run_n36 run_nd run_no run_nw run_n1 run_n2 run_n3 run_nA run_nT run_nQ1 run_nQ2 run_nQ3 run_nb3 run_nb4 run_bs1
theorem big_keep {w w' : World} {b n : Nat} {v : Value} (hk : Keeps (fun _ => False) w w') (hlt : b < w.heap.size) (h1 : bigVal w b 0 n = v) (h2 : hasBig w b 0 n = true) : bigVal w' b 0 n = v ∧ hasBig w' b 0 n = true := by
 obtain ⟨a, b⟩ := bigVal_M (o := 0) (n := n) hk hlt (fun h => h)
 exact ⟨a.trans h1, b.trans h2⟩
theorem noting_any (w : World) (hT : Tab w) : Calls Tryz.prog 29 #[] w fun e w' => e = .returned (.bool true) ∧ Keeps (fun _ => False) w w' := by
 have one : ∀ c : Cfg, (c.cells.toArray.all fun x => x.oneCell') = true := fun c => by simp [Cfg.cells, Value.oneCell']
 obtain ⟨A1, hA1⟩ : ∃ A1, A1 = Obj.cells nd.cells.toArray 38 := ⟨_, rfl⟩
 obtain ⟨A2, hA2⟩ : ∃ A2, A2 = Obj.cells no.cells.toArray 38 := ⟨_, rfl⟩
 obtain ⟨A3, hA3⟩ : ∃ A3, A3 = Obj.cells nw.cells.toArray 38 := ⟨_, rfl⟩
 have z1 : (w.alloc A1).heap.size = w.heap.size + 1 := by simp
 have z2 : ((w.alloc A1).alloc A2).heap.size = w.heap.size + 2 := by simp
 have hst1 : ∀ zs : List Value, zs.length = 20 → (storeBig 38 (.pointer (some ⟨w.heap.size, 0, none⟩)) (.agg nd.cells.toArray)).run Tryz.prog (w.alloc (.cells zs.toArray 38)) = .ok .skip (w.alloc A1) := fun zs hz => by rw [hA1]; exact run_store38 w zs nd.cells hz rfl (one nd)
 have hst2 : ∀ zs : List Value, zs.length = 20 → (storeBig 38 (.pointer (some ⟨w.heap.size + 1, 0, none⟩)) (.agg no.cells.toArray)).run Tryz.prog ((w.alloc A1).alloc (.cells zs.toArray 38)) = .ok .skip ((w.alloc A1).alloc A2) := fun zs hz => by
  have := run_store38 (w.alloc A1) zs no.cells hz rfl (one no)
  rw [z1] at this
  rw [hA2]; exact this
 have hst3 : ∀ zs : List Value, zs.length = 20 → (storeBig 38 (.pointer (some ⟨w.heap.size + 2, 0, none⟩)) (.agg nw.cells.toArray)).run Tryz.prog (((w.alloc A1).alloc A2).alloc (.cells zs.toArray 38)) = .ok .skip (((w.alloc A1).alloc A2).alloc A3) := fun zs hz => by
  have := run_store38 ((w.alloc A1).alloc A2) zs nw.cells hz rfl (one nw)
  rw [z2] at this
  rw [hA3]; exact this
 have hb1 : bigVal (((w.alloc A1).alloc A2).alloc A3) w.heap.size 0 20 = .agg nd.cells.toArray ∧ hasBig (((w.alloc A1).alloc A2).alloc A3) w.heap.size 0 20 = true :=
  big_keep (((Keeps.refl _ (w.alloc A1)).alloc A2).alloc A3) (by simp) (by rw [hA1]; exact bigVal_new w nd.cells _ 20 rfl) (by rw [hA1]; exact hasBig_new w nd.cells _ 20 rfl)
 have hb2 : bigVal (((w.alloc A1).alloc A2).alloc A3) (w.heap.size + 1) 0 20 = .agg no.cells.toArray ∧ hasBig (((w.alloc A1).alloc A2).alloc A3) (w.heap.size + 1) 0 20 = true :=
  big_keep ((Keeps.refl _ ((w.alloc A1).alloc A2)).alloc A3) (by simp) (by rw [← z1, hA2]; exact bigVal_new (w.alloc A1) no.cells _ 20 rfl) (by rw [← z1, hA2]; exact hasBig_new (w.alloc A1) no.cells _ 20 rfl)
 have hb3 : bigVal (((w.alloc A1).alloc A2).alloc A3) (w.heap.size + 2) 0 20 = .agg nw.cells.toArray ∧ hasBig (((w.alloc A1).alloc A2).alloc A3) (w.heap.size + 2) 0 20 = true :=
  ⟨by rw [← z2, hA3]; exact bigVal_new ((w.alloc A1).alloc A2) nw.cells _ 20 rfl, by rw [← z2, hA3]; exact hasBig_new ((w.alloc A1).alloc A2) nw.cells _ 20 rfl⟩
 obtain ⟨v1, h1⟩ := hb1
 obtain ⟨v2, h2⟩ := hb2
 obtain ⟨v3, h3⟩ := hb3
 have HTT := hide hT
 clear hT hA1 hA2 hA3
 go_enter Tryz.func29, Tryz.ntmps29
 go_wp2_with fail
 go_loopw [4, 5] (fun l i wr => ∃ (k m c : Nat) (ad : Option Addr), k ≤ 3 ∧ i = .int .i64 ((k : Int) + 1) ∧ l = .slice ad m c ∧ Hid (OwnS wr w.heap.size l ([n1, n2, n3] ++ nAs k)) ∧ Hid (Keeps (fun _ => False) w wr)) (fun _ i _ => 4 - (intOf i).toNat)
 case atStart => exact ⟨0, 3, 3, _, by omega, rfl, rfl, (by have := three_own (((w.alloc A1).alloc A2).alloc A3) w.heap.size (by simp; omega); rw [show (((w.alloc A1).alloc A2).alloc A3).heap.size = w.heap.size + 2 + 1 by simp] at this; exact this), ((((Keeps.refl _ w).alloc _).alloc _).alloc _).alloc _⟩
 case round =>
  obtain ⟨k, m, c, ad, hk, rfl, rfl, HO, HK⟩ := hrel
  have hm : m = ([n1, n2, n3] ++ nAs k).length := by
   obtain ⟨_, _, e⟩ := row_form0 (uh HO)
   injection e
  have hml : ([n1, n2, n3] ++ nAs k).length = 3 + k := by simp [nAs]; omega
  have HNX := hide (nAs_succ k)
  by_cases hkn : k < 3
  ·have hlt : ((k : Int) + 1 < 4) := by omega
   generalize hAA : [n1, n2, n3] ++ nAs k = AA at *
   go_wp2_with (at_builtin; refine wpList_append_ops rfl _ _ rfl w.heap.size (.slice ad m c) AA rfl (by exact owns_keeps (uh HO) ((Keeps.refl (fun _ => False) wr).alloc _) (fun _ _ h => h)) _ [nA ((k : Int) + 1)] rfl (by exact blk_script (Blk.new wr (nA ((k : Int) + 1)).cells 40)) (by simp; omega) (by have := (uh HK).size; simp; omega) ?_; intro ad2 c2 w2 hown2 hk2 hat2)
   go_roundw
   case rel =>
    rw [hml] at hown2
    refine ⟨k + 1, _, c2, ad2, by omega, by go_num, rfl, ?_, ?_⟩
    ·show OwnS _ _ _ _; rw [uh HNX, ← List.append_assoc, hAA]; exact hown2
    ·refine (((uh HK).alloc _).trans hk2 (fun i hi hlt => ?_))
     have := ((uh HO).lt i hi).1
     omega
   case measure => simp [intOf]; omega
  ·have hk3 : k = 3 := by omega
   subst hk3
   generalize hAA : [n1, n2, n3] ++ nAs 3 = AA at *
   have HTEN := hide (show AA ++ [nT, nQ1, nQ2, nQ3] = tenO by rw [← hAA]; rfl)
   clear hAA HNX
   go_wp2_with (at_builtin; refine wpList_append_ops rfl _ _ rfl w.heap.size (.slice ad m c) AA rfl (by exact owns_keeps (uh HO) ((Keeps.refl (fun _ => False) wr).alloc _) (fun _ _ h => h)) _ [nT, nQ1, nQ2, nQ3] rfl (by exact last_at _ _ (Blk.new wr lastC 40)) (by simp; omega) (by have := (uh HK).size; simp; omega) ?_; intro ad2 c2 w2 hown2 hk2 hat2; rw [uh HTEN, hml] at hown2)
   have HK2 := hide (((uh HK).alloc (.cells lastC.toArray 40)).trans hk2 (fun i hi hlt => by
        have := ((uh HO).lt i hi).1
        omega))
   refine (run_script' _ tenO w2 (by have h := own_scriptW hown2; exact h) (by rw [show tenO.length = 10 from rfl]; omega) ((uh HTT).keeps (uh HK2) (fun h => h)) ten_ok).mono ?_
   rintro r w1 ⟨v, l, rfl, hA, hM, _, hk1⟩
   rw [ten_run] at hM
   obtain ⟨x0, x1, x2, x3, x4, x5, x6, x7, x8, x9, hl5⟩ := list_ten l (by have := congrArg List.length hM; simpa using this)
   subst hl5
   simp only [List.map_cons, List.map_nil, List.cons.injEq, Prod.mk.injEq, and_true] at hM
   obtain ⟨_, _, _, _, _, _, _, ⟨_, m7⟩, ⟨_, m8⟩, _, m9⟩ := hM
   obtain ⟨g, cap, hv, hc⟩ := ans_row hA (by simp)
   have n7 := hA.nums x7 (by simp)
   have n8 := hA.nums x8 (by simp)
   have n9 := hA.nums x9 (by simp)
   rw [m7] at n7
   rw [m8] at n8
   rw [m9] at n9
   rcases num_cells n7 with ⟨h, _⟩ | ⟨g7, cp7, hv7, hn7⟩
   ·cases h
   rcases num_cells n8 with ⟨h, _⟩ | ⟨g8, cp8, hv8, hn8⟩
   ·cases h
   rcases num_cells n9 with ⟨h, _⟩ | ⟨g9, cp9, hv9, hn9⟩
   ·cases h
   have e7 : w1.cell? ⟨g, 22, none⟩ = some (.slice (some ⟨g7, 0, none⟩) 3 cp7) := (hc 22 _ rfl).trans (by rw [hv7]; rfl)
   have e8 : w1.cell? ⟨g, 25, none⟩ = some (.slice (some ⟨g8, 0, none⟩) 1 cp8) := (hc 25 _ rfl).trans (by rw [hv8]; rfl)
   have e9 : w1.cell? ⟨g, 28, none⟩ = some (.slice (some ⟨g9, 0, none⟩) 5 cp9) := (hc 28 _ rfl).trans (by rw [hv9]; rfl)
   have q7 : w1.cell? ⟨g7, 1, none⟩ = some (.int .i64 40) := hn7 1 (by simp)
   have q8 : w1.cell? ⟨g8, 0, none⟩ = some (.int .i64 1) := hn8 0 (by simp)
   have q9 : w1.cell? ⟨g9, 0, none⟩ = some (.int .i64 3) := hn9 0 (by simp)
   have r9 : w1.cell? ⟨g9, 1, none⟩ = some (.int .i64 1) := hn9 1 (by simp)
   have HK1 := hide ((uh HK2).then hk1)
   rw [hv]
   clear hA hk1 hc n7 n8 n9 hn7 hn8 hn9 hv hv7 hv8 hv9 m7 m8 m9 hst1 hst2 hst3 v1 v2 v3 h1 h2 h3 HK HO HK2
   show _
   go_wp2
   go_ret
   exact ⟨rfl, uh HK1⟩
end Go.Proofs.YtahnliehdjncdaaGreatDoor
