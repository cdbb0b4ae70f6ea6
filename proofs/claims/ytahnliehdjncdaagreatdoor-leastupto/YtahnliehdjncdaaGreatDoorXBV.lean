import Derived.Test.YtahnliehdjncdaaGreatDoorXBT
import Derived.Laws.OwnMore
import Derived.Test.YtahnliehdjncdaaGreatDoorXBS
set_option maxRecDepth 100000
set_option maxHeartbeats 16000000
namespace Go.Proofs.YtahnliehdjncdaaGreatDoor
open Go.RowKit
attribute [local go_sem ↓] execOp_load38 execOp_load40 execOp_store40 execOp_bs22 execOp_build40 execOp_store38
attribute [local go_sem] run_load38 run_load40 bigVal_drew hasBig_drew bigVal_ne hasBig_ne bigVal_alloc hasBig_alloc run_bs1 run_q40 run_bsq
def askL (s : List OpM) (n : Int) : List OpM := (s.filter (fun o => o.kind == 1)).map (fun o => qOp o.id n)
def askedD (ops : List OpM) (n : Int) : List OpM := ops.filter OpM.noLoad ++ askL (ops.filter OpM.noLoad) n
theorem askL_snoc (s : List OpM) (o : OpM) (n : Int) : askL (s ++ [o]) n = askL s n ++ if (o.kind == 1) = true then [qOp o.id n] else [] := by
 unfold askL
 rw [List.filter_append, List.map_append, List.filter_cons]
 congr 1
 by_cases h : (o.kind == 1) = true
 ·rw [if_pos h, if_pos h]; rfl
 ·rw [if_neg h, if_neg h]; rfl
theorem askL_length (s : List OpM) (n : Int) : (askL s n).length ≤ s.length := by
 unfold askL; rw [List.length_map]; exact List.length_filter_le _ _
theorem askedD_length (ops : List OpM) (n : Int) : (askedD ops n).length ≤ 2 * ops.length := by
 unfold askedD
 rw [List.length_append]
 have h1 := askL_length (ops.filter OpM.noLoad) n
 have h2 := List.length_filter_le OpM.noLoad ops
 omega
theorem askL_kind (s : List OpM) (n : Int) : ∀ o, o ∈ askL s n → o.kind = 4 := by
 intro o ho
 obtain ⟨p, _, rfl⟩ := List.mem_map.1 ho
 rfl
theorem askedD_ok (ops : List OpM) (n : Int) : OkRun (askedD ops n) := by
 intro o ho
 rcases List.mem_append.1 ho with h | h
 ·have := (List.mem_filter.1 h).2
  simpa [OpM.noLoad] using this
 ·have := askL_kind _ _ o h; omega
theorem askedS_any (v : Value) (ops : List OpM) (q : Int) (w : World) (hv : ScriptW w v ops) (hlen : ops.length ≤ 325781223000) :
  Calls Tryz.prog 30 #[v, .int .i64 q] w fun r w' => ∃ v' base, r = .returned v' ∧ OwnS w' base v' (askedD ops q) ∧ w.heap.size ≤ base ∧ Keeps (fun _ => False) w w' := by
 have HV := hide hv
 clear hv
 go_enter Tryz.func30, Tryz.ntmps30
 go_wp2_with fail
 refine (without_any v ops w (uh HV) (by omega)).mono ?_
 rintro r w3 ⟨sv, rfl, hO, hk3, -⟩
 have HO3 := hide hO
 have HK3 := hide hk3
 have hle : (ops.filter OpM.noLoad).length ≤ 325781223000 := by have := List.length_filter_le OpM.noLoad ops; omega
 have HAD := hide (show askedD ops q = ops.filter OpM.noLoad ++ askL (ops.filter OpM.noLoad) q from rfl)
 clear hk3 hO
 generalize hs : ops.filter OpM.noLoad = s at *
 clear hs
 obtain ⟨sa, sc, es⟩ := row_form0 (uh HO3)
 generalize hn : s.length = n at *
 have HN := hide hn
 clear hn
 subst es
 go_wp2_with fail
 refine (with_any _ _ s [] w3 (by have h := own_scriptW (uh HO3); exact h) (.inl ⟨⟨none, 0, rfl⟩, rfl⟩) (by rw [uh HN]; simp; omega)).mono ?_
 rintro r w4 ⟨tv, rfl, hT4, hk4⟩
 rw [List.append_nil] at hT4
 have HT4 := hide hT4
 have HK4 := hide ((uh HK3).then hk4)
 have HS4 := hide (show ∃ base, w.heap.size ≤ base ∧ OwnS w4 base tv (s ++ askL (s.take 0) q) from ⟨_, (uh HK3).size, by rw [show askL (s.take 0) q = [] from rfl, List.append_nil]; exact hT4⟩)
 have HO4 := hide (owns_keeps (uh HO3) hk4 (fun _ _ h => h))
 obtain ⟨ta, tc, et⟩ := row_form0 (uh HT4)
 subst et
 clear hT4 hk4 HT4 HK3 HO3
 go_wp2_with fail
 go_loopw [6, 7] (fun l i wr => ∃ (k m c : Nat) (ad : Option Addr), k ≤ n ∧ i = .int .i64 k ∧ l = .slice ad m c ∧ Hid (∃ base, w.heap.size ≤ base ∧ OwnS wr base l (s ++ askL (s.take k) q)) ∧ Hid (Keeps (fun _ => False) w4 wr)) (fun _ i _ => n - (intOf i).toNat)
 case atStart => exact ⟨0, _, _, _, by omega, rfl, rfl, HS4, Keeps.refl _ _⟩
 case round =>
  obtain ⟨k, m, c, ad, hk, rfl, rfl, HB, HK⟩ := hrel
  by_cases hkn : k < n
  ·have hO4r : OwnS wr w.heap.size (.slice sa s.length sc) s := by rw [uh HN]; exact owns_keeps (uh HO4) (uh HK) (fun _ _ h => h)
   rcases own_script hO4r with ⟨_, h2⟩ | ⟨g, cap, e1, hcap, hsc, hltg, hbg, hmax⟩
   ·have := uh HN; rw [h2] at this; simp at this; omega
   rw [uh HN] at e1 hcap
   injection e1 with e2 _ e3
   subst e2 e3
   have hi : k < s.length := by rw [uh HN]; exact hkn
   obtain ⟨c0, c1, _⟩ := opAt_cells hsc hi
   rw [Nat.zero_add] at c0 c1
   have HTK := hide (show askL (s.take (k + 1)) q = askL (s.take k) q ++ if ((opAt s k).kind == 1) = true then [qOp (opAt s k).id q] else [] by rw [take_opAt hi, askL_snoc])
   generalize opAt s k = o at *
   have hk0 : (0 : Int) ≤ (k : Int) := by omega
   have hkn' : (k : Int) < (n : Int) := by omega
   have hal : (s ++ askL (s.take k) q).length ≤ n + k := by
    rw [List.length_append]
    have h1 := askL_length (s.take k) q
    rw [List.length_take] at h1
    have := uh HN
    omega
   clear hsc hbg hmax hcap hi hltg hO4r
   cases h1 : (o.kind == 1)
   ·rw [h1] at HTK
    go_wp2_with fail
    go_roundw
    case rel => exact ⟨k + 1, m, c, ad, by omega, by go_num, rfl, hide (by obtain ⟨base, b1, b2⟩ := uh HB; exact ⟨base, b1, by rw [uh HTK]; simpa using b2⟩), HK⟩
    case measure => simp [intOf]; omega
   ·rw [h1, if_pos rfl] at HTK
    go_wp2_with fail
    have HW := hide (show ScriptW (wr.alloc (.cells (qOp o.id q).cells.toArray 40)) (.slice ad m c) (s ++ askL (s.take k) q) by
       obtain ⟨base, b1, b2⟩ := uh HB
       exact own_scriptW (owns_keeps b2 ((Keeps.refl (fun _ => False) wr).alloc _) (fun _ _ h => h)))
    refine (with_any (.slice ad m c) (.slice (some ⟨wr.heap.size, 0, none⟩) 1 1) (s ++ askL (s.take k) q) [qOp o.id q] _ (uh HW) (blk_script (Blk.new wr (qOp o.id q).cells 40)) (by simp only [List.length_singleton]; omega)).mono ?_
    rintro r w9 ⟨uv, rfl, hU, hk9⟩
    have HU := hide hU
    have HK9 := hide (((uh HK).alloc (.cells (qOp o.id q).cells.toArray 40)).then hk9)
    obtain ⟨ua, uc, eu⟩ := row_form0 hU
    obtain ⟨ul, hul⟩ : ∃ ul, (s ++ askL (s.take k) q ++ [qOp o.id q]).length = ul := ⟨_, rfl⟩
    rw [hul] at eu
    subst eu
    clear hU hk9 hul
    go_wp2_with fail
    go_roundw
    case rel => exact ⟨k + 1, _, _, _, by omega, by go_num, rfl, hide ⟨(wr.alloc (.cells (qOp o.id q).cells.toArray 40)).heap.size, (by have h1 := (uh HK4).size; have h2 := (uh HK).size; simp; omega), (by rw [uh HTK, ← List.append_assoc]; exact uh HU)⟩, HK9⟩
    case measure => simp [intOf]; omega
  ·go_wp2_with fail
   go_ret
   obtain ⟨base, b1, b2⟩ := uh HB
   rw [List.take_of_length_le (by rw [uh HN]; omega), ← uh HAD] at b2
   exact ⟨_, base, rfl, b2, b1, (uh HK4).then (uh HK)⟩
end Go.Proofs.YtahnliehdjncdaaGreatDoor
namespace Go.Proofs.YtahnliehdjncdaaGreatDoor
open Go.RowKit
attribute [local go_sem ↓] execOp_load38 execOp_load40 execOp_build38 execOp_build40 execOp_bs22 execOp_store38
def nd : Cfg := ⟨2, 0, 9, 8, 0, 5, 1, 0, 0, 0, 0, 0, 0, 0, 1, 0, 0, 0, 0, 0⟩
def no : Cfg := ⟨3, 0, 9, 8, 0, 5, 0, 1, 4, 1, 0, 0, 0, 0, 1, 0, 0, 0, 0, 0⟩
def nw : Cfg := ⟨5, 0, 9, 8, 0, 0, 0, 0, 0, 0, 1, 0, 0, 0, 0, 0, 0, 0, 0, 0⟩
def n1 : OpM := ⟨1, 1, 0, 0, 0, nd, noBytes⟩
def n2 : OpM := ⟨1, 2, 0, 0, 0, no, noBytes⟩
def n3 : OpM := ⟨1, 3, 0, 0, 0, nw, noBytes⟩
def nA (i : Int) : OpM := ⟨2, i, 3, 1, 1, cz, noBytes⟩
def nT : OpM := ⟨3, 0, 5, 0, 0, cz, noBytes⟩
def nQ1 : OpM := ⟨4, 1, 5, 0, 0, cz, noBytes⟩
def nQ2 : OpM := ⟨4, 2, 1, 0, 0, cz, noBytes⟩
def nQ3 : OpM := ⟨4, 3, 0, 0, 0, cz, noBytes⟩
def nAs (k : Nat) : List OpM := (List.range k).map (fun i : Nat => nA ((i : Int) + 1))
theorem nAs_succ (k : Nat) : nAs (k + 1) = nAs k ++ [nA ((k : Int) + 1)] := by simp [nAs, List.range_succ]
def threeC : List Value := n1.cells ++ (n2.cells ++ n3.cells)
def lastC : List Value := nT.cells ++ (nQ1.cells ++ (nQ2.cells ++ nQ3.cells))
def tenO : List OpM := ([n1, n2, n3] ++ nAs 3) ++ [nT, nQ1, nQ2, nQ3]
theorem ten_run : runM ws0 tenO = [(0, []), (0, []), (0, []), (0, [1]), (0, [1]), (0, [1]), (0, [0]), (0, [0, 40, 2]), (0, [1]), (0, [3, 1, 1, 0, 0])] := by kernel_rfl
theorem ten_ok : OkRun tenO := by
 intro o ho
 have : o.kind = 1 ∨ o.kind = 2 ∨ o.kind = 3 ∨ o.kind = 4 := by
  simp [tenO, nAs, List.range_succ] at ho
  rcases ho with h | h | h | h | h | h | h | h | h | h <;> subst h <;> simp [n1, n2, n3, nA, nT, nQ1, nQ2, nQ3]
 omega
theorem execOp_build35 (ρ : Operand → Value) (dst : Option Tmp) (x : Array (Nat × Operand)) (ty : TypeId) (pos : String) (after : Array Edge) (guard : Option (Nat × Bool)) :
  execOp ρ { dst, op := .build 35 x, type := ty, pos, after, guard } = buildBig 35 (x.map fun (i, y) => (i, ρ y)) := rfl
theorem execOp_build36 (ρ : Operand → Value) (dst : Option Tmp) (x : Array (Nat × Operand)) (ty : TypeId) (pos : String) (after : Array Edge) (guard : Option (Nat × Bool)) :
  execOp ρ { dst, op := .build 36 x, type := ty, pos, after, guard } = buildBig 36 (x.map fun (i, y) => (i, ρ y)) := rfl
def pairV : Value := .agg #[.int .i64 1, .int .i64 0]
def pairsV : Value := .agg #[.int .i64 1, .int .i64 0, .int .i64 0, .int .i64 0, .int .i64 0, .int .i64 0]
theorem run_n35 (w : World) : (buildBig 35 #[(0, .int .i64 1), (1, .int .i64 0)]).run Tryz.prog w = .ok (.value pairV) w := by kernel_rfl
theorem run_n36 (w : World) : (buildBig 36 #[(0, pairV)]).run Tryz.prog w = .ok (.value pairsV) w := by kernel_rfl
theorem run_nd (w : World) : (buildBig 38 #[(0, .int .i64 2), (2, .int .i64 9), (3, .int .i64 8), (6, .int .i64 1), (5, .int .i64 5), (14, pairsV)]).run Tryz.prog w = .ok (.value (.agg nd.cells.toArray)) w := by kernel_rfl
theorem run_no (w : World) : (buildBig 38 #[(0, .int .i64 3), (2, .int .i64 9), (3, .int .i64 8), (7, .int .i64 1), (8, .int .i64 4), (9, .int .i64 1), (5, .int .i64 5), (14, pairsV)]).run Tryz.prog w = .ok (.value (.agg no.cells.toArray)) w := by kernel_rfl
theorem run_nw (w : World) : (buildBig 38 #[(0, .int .i64 5), (2, .int .i64 9), (3, .int .i64 8), (10, .int .i64 1)]).run Tryz.prog w = .ok (.value (.agg nw.cells.toArray)) w := by kernel_rfl
theorem run_n1 (w : World) : (buildBig 40 #[(0, .int .i64 1), (1, .int .i64 1), (5, .agg nd.cells.toArray)]).run Tryz.prog w = .ok (.value (.agg n1.cells.toArray)) w := by kernel_rfl
theorem run_n2 (w : World) : (buildBig 40 #[(0, .int .i64 1), (1, .int .i64 2), (5, .agg no.cells.toArray)]).run Tryz.prog w = .ok (.value (.agg n2.cells.toArray)) w := by kernel_rfl
theorem run_n3 (w : World) : (buildBig 40 #[(0, .int .i64 1), (1, .int .i64 3), (5, .agg nw.cells.toArray)]).run Tryz.prog w = .ok (.value (.agg n3.cells.toArray)) w := by kernel_rfl
theorem run_nA (i : Int) (w : World) : (buildBig 40 #[(0, .int .i64 2), (1, .int .i64 i), (2, .int .i64 3), (3, .int .i64 1), (4, .int .i64 1)]).run Tryz.prog w = .ok (.value (.agg (nA i).cells.toArray)) w := by kernel_rfl
theorem run_nT (w : World) : (buildBig 40 #[(0, .int .i64 3), (2, .int .i64 5)]).run Tryz.prog w = .ok (.value (.agg nT.cells.toArray)) w := by kernel_rfl
theorem run_nQ1 (w : World) : (buildBig 40 #[(0, .int .i64 4), (1, .int .i64 1), (2, .int .i64 5)]).run Tryz.prog w = .ok (.value (.agg nQ1.cells.toArray)) w := by kernel_rfl
theorem run_nQ2 (w : World) : (buildBig 40 #[(0, .int .i64 4), (1, .int .i64 2), (2, .int .i64 1)]).run Tryz.prog w = .ok (.value (.agg nQ2.cells.toArray)) w := by kernel_rfl
theorem run_nQ3 (w : World) : (buildBig 40 #[(0, .int .i64 4), (1, .int .i64 3)]).run Tryz.prog w = .ok (.value (.agg nQ3.cells.toArray)) w := by kernel_rfl
theorem run_nb3 (w : World) : (bsBig 22 3 #[(0, .agg n1.cells.toArray), (1, .agg n2.cells.toArray), (2, .agg n3.cells.toArray)]).run Tryz.prog w =
  .ok (.value (.slice (some ⟨w.heap.size, 0, none⟩) 3 3)) (w.alloc (.cells threeC.toArray 40)) := by kernel_rfl
theorem run_nb4 (w : World) : (bsBig 22 4 #[(0, .agg nT.cells.toArray), (1, .agg nQ1.cells.toArray), (2, .agg nQ2.cells.toArray), (3, .agg nQ3.cells.toArray)]).run Tryz.prog w =
  .ok (.value (.slice (some ⟨w.heap.size, 0, none⟩) 4 4)) (w.alloc (.cells lastC.toArray 40)) := by kernel_rfl
theorem last_at (w : World) (b : Nat) (h : Blk w b lastC 40) : ScriptW w (.slice (some ⟨b, 0, none⟩) 4 4) [nT, nQ1, nQ2, nQ3] := by
 refine .inr ⟨b, 0, 4, rfl, by simp, ?_, h.lt⟩
 intro i o ho
 have hi : i < 4 := (List.getElem?_eq_some_iff.1 ho).1
 have hi' : i = 0 ∨ i = 1 ∨ i = 2 ∨ i = 3 := by omega
 have hr : ∀ (off : Nat) (cs : List Value), (lastC.drop off).take 26 = cs → w.rangeAt b off cs := by
  intro off cs hcs j v hv
  rw [← hcs, List.getElem?_take] at hv
  split at hv
  ·exact h.cell (by simpa using hv)
  ·cases hv
 rcases hi' with h' | h' | h' | h'
 all_goals
  subst h'
  injection ho with ho
  subst ho
 ·exact hr 0 _ rfl
 ·exact hr 26 _ rfl
 ·exact hr 52 _ rfl
 ·exact hr 78 _ rfl
theorem three_own (w : World) (base : Nat) (hb : base ≤ w.heap.size) : OwnS (w.alloc (.cells threeC.toArray 40)) base (.slice (some ⟨w.heap.size, 0, none⟩) 3 3) [n1, n2, n3] :=
 World.ownsRow_lit w threeC.toArray 3 hb (by unfold maxLen; omega) rfl
theorem list_ten {α : Type _} (l : List α) (h : l.length = 10) : ∃ a b c d e f g i j k, l = [a, b, c, d, e, f, g, i, j, k] := by
 match l, h with
 | [a, b, c, d, e, f, g, i, j, k], _ => exact ⟨a, b, c, d, e, f, g, i, j, k, rfl⟩
attribute [local go_sem ↓] execOp_build35 execOp_build36
attribute [local go_sem] run_load38 run_load40 bigVal_drew hasBig_drew bigVal_ne hasBig_ne bigVal_alloc hasBig_alloc run_n35 run_n36 run_nd run_no run_nw run_n1 run_n2 run_n3 run_nA run_nT run_nQ1 run_nQ2 run_nQ3 run_nb3 run_nb4 run_bs1
theorem big_keep {w w' : World} {b n : Nat} {v : Value} (hk : Keeps (fun _ => False) w w') (hlt : b < w.heap.size) (h1 : bigVal w b 0 n = v) (h2 : hasBig w b 0 n = true) : bigVal w' b 0 n = v ∧ hasBig w' b 0 n = true := by
 obtain ⟨a, b⟩ := bigVal_M (o := 0) (n := n) hk hlt (fun h => h)
 exact ⟨a.trans h1, b.trans h2⟩
theorem noting_any (w : World) (hT : Tab w) : Calls Tryz.prog 29 #[] w fun e w' => e = .returned (.bool true) ∧ Keeps (fun _ => False) w w' := by
 have one : ∀ c : Cfg, (c.cells.toArray.all fun x => x.oneCell') = true := fun c => by simp [Cfg.cells, Value.oneCell']
 obtain ⟨A1, hA1⟩ : ∃ A1, A1 = Obj.cells nd.cells.toArray 38 := ⟨_, rfl⟩
 obtain ⟨A2, hA2⟩ : ∃ A2, A2 = Obj.cells no.cells.toArray 38 := ⟨_, rfl⟩
 obtain ⟨A3, hA3⟩ : ∃ A3, A3 = Obj.cells nw.cells.toArray 38 := ⟨_, rfl⟩
 have z1 : (w.alloc A1).heap.size = w.heap.size + 1 := by simp
 have z2 : ((w.alloc A1).alloc A2).heap.size = w.heap.size + 2 := by simp
 have hst1 : ∀ zs : List Value, zs.length = 20 → (storeBig 38 (.pointer (some ⟨w.heap.size, 0, none⟩)) (.agg nd.cells.toArray)).run Tryz.prog (w.alloc (.cells zs.toArray 38)) = .ok .skip (w.alloc A1) := fun zs hz => by rw [hA1]; exact run_store38 w zs nd.cells hz rfl (one nd)
 have hst2 : ∀ zs : List Value, zs.length = 20 → (storeBig 38 (.pointer (some ⟨w.heap.size + 1, 0, none⟩)) (.agg no.cells.toArray)).run Tryz.prog ((w.alloc A1).alloc (.cells zs.toArray 38)) = .ok .skip ((w.alloc A1).alloc A2) := fun zs hz => by
  have := run_store38 (w.alloc A1) zs no.cells hz rfl (one no)
  rw [z1] at this
  rw [hA2]; exact this
 have hst3 : ∀ zs : List Value, zs.length = 20 → (storeBig 38 (.pointer (some ⟨w.heap.size + 2, 0, none⟩)) (.agg nw.cells.toArray)).run Tryz.prog (((w.alloc A1).alloc A2).alloc (.cells zs.toArray 38)) = .ok .skip (((w.alloc A1).alloc A2).alloc A3) := fun zs hz => by
  have := run_store38 ((w.alloc A1).alloc A2) zs nw.cells hz rfl (one nw)
  rw [z2] at this
  rw [hA3]; exact this
 have hb1 : bigVal (((w.alloc A1).alloc A2).alloc A3) w.heap.size 0 20 = .agg nd.cells.toArray ∧ hasBig (((w.alloc A1).alloc A2).alloc A3) w.heap.size 0 20 = true :=
  big_keep (((Keeps.refl _ (w.alloc A1)).alloc A2).alloc A3) (by simp) (by rw [hA1]; exact bigVal_new w nd.cells _ 20 rfl) (by rw [hA1]; exact hasBig_new w nd.cells _ 20 rfl)
 have hb2 : bigVal (((w.alloc A1).alloc A2).alloc A3) (w.heap.size + 1) 0 20 = .agg no.cells.toArray ∧ hasBig (((w.alloc A1).alloc A2).alloc A3) (w.heap.size + 1) 0 20 = true :=
  big_keep ((Keeps.refl _ ((w.alloc A1).alloc A2)).alloc A3) (by simp) (by rw [← z1, hA2]; exact bigVal_new (w.alloc A1) no.cells _ 20 rfl) (by rw [← z1, hA2]; exact hasBig_new (w.alloc A1) no.cells _ 20 rfl)
 have hb3 : bigVal (((w.alloc A1).alloc A2).alloc A3) (w.heap.size + 2) 0 20 = .agg nw.cells.toArray ∧ hasBig (((w.alloc A1).alloc A2).alloc A3) (w.heap.size + 2) 0 20 = true :=
  ⟨by rw [← z2, hA3]; exact bigVal_new ((w.alloc A1).alloc A2) nw.cells _ 20 rfl, by rw [← z2, hA3]; exact hasBig_new ((w.alloc A1).alloc A2) nw.cells _ 20 rfl⟩
 obtain ⟨v1, h1⟩ := hb1
 obtain ⟨v2, h2⟩ := hb2
 obtain ⟨v3, h3⟩ := hb3
 have HTT := hide hT
 clear hT hA1 hA2 hA3
 go_enter Tryz.func29, Tryz.ntmps29
 go_wp2_with fail
 go_loopw [4, 5] (fun l i wr => ∃ (k m c : Nat) (ad : Option Addr), k ≤ 3 ∧ i = .int .i64 ((k : Int) + 1) ∧ l = .slice ad m c ∧ Hid (OwnS wr w.heap.size l ([n1, n2, n3] ++ nAs k)) ∧ Hid (Keeps (fun _ => False) w wr)) (fun _ i _ => 4 - (intOf i).toNat)
 case atStart => exact ⟨0, 3, 3, _, by omega, rfl, rfl, (by have := three_own (((w.alloc A1).alloc A2).alloc A3) w.heap.size (by simp; omega); rw [show (((w.alloc A1).alloc A2).alloc A3).heap.size = w.heap.size + 2 + 1 by simp] at this; exact this), ((((Keeps.refl _ w).alloc _).alloc _).alloc _).alloc _⟩
 case round =>
  obtain ⟨k, m, c, ad, hk, rfl, rfl, HO, HK⟩ := hrel
  have hm : m = ([n1, n2, n3] ++ nAs k).length := by
   obtain ⟨_, _, e⟩ := row_form0 (uh HO)
   injection e
  have hml : ([n1, n2, n3] ++ nAs k).length = 3 + k := by simp [nAs]; omega
  have HNX := hide (nAs_succ k)
  by_cases hkn : k < 3
  ·have hlt : ((k : Int) + 1 < 4) := by omega
   generalize hAA : [n1, n2, n3] ++ nAs k = AA at *
   go_wp2_with (at_builtin; refine wpList_append_ops rfl _ _ rfl w.heap.size (.slice ad m c) AA rfl (by exact owns_keeps (uh HO) ((Keeps.refl (fun _ => False) wr).alloc _) (fun _ _ h => h)) _ [nA ((k : Int) + 1)] rfl (by exact blk_script (Blk.new wr (nA ((k : Int) + 1)).cells 40)) (by simp; omega) (by have := (uh HK).size; simp; omega) ?_; intro ad2 c2 w2 hown2 hk2 hat2)
   go_roundw
   case rel =>
    rw [hml] at hown2
    refine ⟨k + 1, _, c2, ad2, by omega, by go_num, rfl, ?_, ?_⟩
    ·show OwnS _ _ _ _; rw [uh HNX, ← List.append_assoc, hAA]; exact hown2
    ·refine (((uh HK).alloc _).trans hk2 (fun i hi hlt => ?_))
     have := ((uh HO).lt i hi).1
     omega
   case measure => simp [intOf]; omega
  ·have hk3 : k = 3 := by omega
   subst hk3
   generalize hAA : [n1, n2, n3] ++ nAs 3 = AA at *
   have HTEN := hide (show AA ++ [nT, nQ1, nQ2, nQ3] = tenO by rw [← hAA]; rfl)
   clear hAA HNX
   go_wp2_with (at_builtin; refine wpList_append_ops rfl _ _ rfl w.heap.size (.slice ad m c) AA rfl (by exact owns_keeps (uh HO) ((Keeps.refl (fun _ => False) wr).alloc _) (fun _ _ h => h)) _ [nT, nQ1, nQ2, nQ3] rfl (by exact last_at _ _ (Blk.new wr lastC 40)) (by simp; omega) (by have := (uh HK).size; simp; omega) ?_; intro ad2 c2 w2 hown2 hk2 hat2; rw [uh HTEN, hml] at hown2)
   have HK2 := hide (((uh HK).alloc (.cells lastC.toArray 40)).trans hk2 (fun i hi hlt => by
        have := ((uh HO).lt i hi).1
        omega))
   refine (run_script' _ tenO w2 (by have h := own_scriptW hown2; exact h) (by rw [show tenO.length = 10 from rfl]; omega) ((uh HTT).keeps (uh HK2) (fun h => h)) ten_ok).mono ?_
   rintro r w1 ⟨v, l, rfl, hA, hM, _, hk1⟩
   rw [ten_run] at hM
   obtain ⟨x0, x1, x2, x3, x4, x5, x6, x7, x8, x9, hl5⟩ := list_ten l (by have := congrArg List.length hM; simpa using this)
   subst hl5
   simp only [List.map_cons, List.map_nil, List.cons.injEq, Prod.mk.injEq, and_true] at hM
   obtain ⟨_, _, _, _, _, _, _, ⟨_, m7⟩, ⟨_, m8⟩, _, m9⟩ := hM
   obtain ⟨g, cap, hv, hc⟩ := ans_row hA (by simp)
   have n7 := hA.nums x7 (by simp)
   have n8 := hA.nums x8 (by simp)
   have n9 := hA.nums x9 (by simp)
   rw [m7] at n7
   rw [m8] at n8
   rw [m9] at n9
   rcases num_cells n7 with ⟨h, _⟩ | ⟨g7, cp7, hv7, hn7⟩
   ·cases h
   rcases num_cells n8 with ⟨h, _⟩ | ⟨g8, cp8, hv8, hn8⟩
   ·cases h
   rcases num_cells n9 with ⟨h, _⟩ | ⟨g9, cp9, hv9, hn9⟩
   ·cases h
   have e7 : w1.cell? ⟨g, 22, none⟩ = some (.slice (some ⟨g7, 0, none⟩) 3 cp7) := (hc 22 _ rfl).trans (by rw [hv7]; rfl)
   have e8 : w1.cell? ⟨g, 25, none⟩ = some (.slice (some ⟨g8, 0, none⟩) 1 cp8) := (hc 25 _ rfl).trans (by rw [hv8]; rfl)
   have e9 : w1.cell? ⟨g, 28, none⟩ = some (.slice (some ⟨g9, 0, none⟩) 5 cp9) := (hc 28 _ rfl).trans (by rw [hv9]; rfl)
   have q7 : w1.cell? ⟨g7, 1, none⟩ = some (.int .i64 40) := hn7 1 (by simp)
   have q8 : w1.cell? ⟨g8, 0, none⟩ = some (.int .i64 1) := hn8 0 (by simp)
   have q9 : w1.cell? ⟨g9, 0, none⟩ = some (.int .i64 3) := hn9 0 (by simp)
   have r9 : w1.cell? ⟨g9, 1, none⟩ = some (.int .i64 1) := hn9 1 (by simp)
   have HK1 := hide ((uh HK2).then hk1)
   rw [hv]
   clear hA hk1 hc n7 n8 n9 hn7 hn8 hn9 hv hv7 hv8 hv9 m7 m8 m9 hst1 hst2 hst3 v1 v2 v3 h1 h2 h3 HK HO HK2
   show _
   go_wp2
   go_ret
   exact ⟨rfl, uh HK1⟩
end Go.Proofs.YtahnliehdjncdaaGreatDoor
namespace Go.Proofs.YtahnliehdjncdaaGreatDoor
structure OkI (c : Cfg) (k : Nat) (y : It) : Prop where
 t0 : 0 ≤ y.t
 t1 : y.t ≤ 4611686018427387904
 fit : kindE c k ⟨y.t, y.k, y.d, 0⟩ = 0
structure NLaw (k : Nat) (P : Cfg → Int → Note → List It → Prop) : Prop where
 zero : ∀ c m, validB c = true → c.kind = k → P c m note0 []
 later : ∀ c m m' nt R, validB c = true → c.kind = k → m ≤ m' → P c m nt R → P c m' nt R
 rel : ∀ c m nt R y, validB c = true → c.kind = k → P c m nt R → (∀ r ∈ R, OkI c k r ∧ leP r y ∧ r.n ≠ y.n) → OkI c k y → y.t ≤ m → P c m (relN k c nt y m) (R ++ [y])
 swp : ∀ c m nt R b, validB c = true → c.kind = k → P c m nt R → P c m (swpN k c nt m b).1 R
structure GS (P : Cfg → Int → Note → List It → Prop) (clock : Int) (x : Ser) (A : List It) : Prop where
 heap : HeapL x.l
 wait : ∀ y ∈ x.l, clock - x.c.lag < y.t
 okA : ∀ y ∈ A, OkI x.c x.k y
 num : ∀ (i : Nat) (y : It), A[i]? = some y → y.n = (i : Int) + 1
 acc : x.acc = (A.length : Int)
 whole : ∃ R, P x.c (clock - x.c.lag) x.nt R ∧ R.Pairwise leP ∧ (∀ r ∈ R, r.t ≤ clock - x.c.lag) ∧ (R ++ x.l).Perm A
theorem nums_nodup {A : List It} (h : ∀ (i : Nat) (y : It), A[i]? = some y → y.n = (i : Int) + 1) : (A.map (·.n)).Nodup := by
 refine List.pairwise_iff_getElem.2 (fun i j hi hj hij => ?_)
 rw [List.length_map] at hi hj
 rw [List.getElem_map, List.getElem_map]
 have h1 := h i _ (List.getElem?_eq_getElem hi)
 have h2 := h j _ (List.getElem?_eq_getElem hj)
 omega
theorem HeapL.first_leP {l : List It} (h : HeapL l) {y : It} (hy : y ∈ l) : leP (itAt l 0) y := by
 obtain ⟨j, hj, rfl⟩ := List.mem_iff_getElem.1 hy
 have := h.first j hj
 rw [show itAt l j = l[j] by simp [itAt, List.getD_eq_getElem?_getD, List.getElem?_eq_getElem hj]] at this
 exact this
theorem relS_acc (f : Nat) : ∀ (x : Ser) (m : Int), (relS f x m).acc = x.acc := by
 induction f with
 | zero => intro x m; rfl
 | succ f ih =>
  intro x m
  unfold relS
  split
  ·rfl
  ·split
   ·rfl
   ·exact ih _ _
theorem relS_GS {k : Nat} {P : Cfg → Int → Note → List It → Prop} (hP : NLaw k P) (m : Int) (f : Nat) : ∀ (x : Ser) (R : List It), x.l.length < f → HeapL x.l → validB x.c = true → x.c.kind = k → x.k = k →
  (∀ y ∈ R ++ x.l, OkI x.c k y) → ((R ++ x.l).map (·.n)).Nodup → P x.c m x.nt R → R.Pairwise leP → (∀ r ∈ R, r.t ≤ m) → (∀ r ∈ R, ∀ y ∈ x.l, leP r y) →
  ∃ R', P x.c m (relS f x m).nt R' ∧ R'.Pairwise leP ∧ (∀ r ∈ R', r.t ≤ m) ∧ (R' ++ (relS f x m).l).Perm (R ++ x.l) ∧ (∀ y ∈ (relS f x m).l, m < y.t) := by
 induction f with
 | zero => intro x R h; omega
 | succ f ih =>
  intro x R hf hh hv hck hk hok hnd hp hs hr hx
  unfold relS
  split
  ·rename_i he
   have hnil : x.l = [] := List.isEmpty_iff.1 he
   exact ⟨R, hp, hs, hr, List.Perm.refl _, by rw [hnil]; simp⟩
  ·rename_i he
   have hne : x.l ≠ [] := fun h => he (by rw [h]; rfl)
   split
   ·rename_i hm
    refine ⟨R, hp, hs, hr, List.Perm.refl _, fun y hy => ?_⟩
    have := hh.first_mem hy
    omega
   ·rename_i hm
    obtain ⟨th, tp⟩ := take_heap x.l hh hne
    have hlen : (relOne x m).l.length = x.l.length - 1 := takeL_length _
    have hpos : 0 < x.l.length := List.length_pos_iff.2 hne
    have hperm : ((R ++ [itAt x.l 0]) ++ takeL x.l).Perm (R ++ x.l) := by
     rw [List.append_assoc]; exact List.Perm.append_left R tp
    have hy0 : itAt x.l 0 ∈ x.l := tp.mem_iff.1 (by simp)
    have hnd2 : (((R ++ [itAt x.l 0]) ++ takeL x.l).map (·.n)).Nodup := (hperm.map (·.n)).nodup_iff.2 hnd
    have hfirst : ∀ y ∈ takeL x.l, leP (itAt x.l 0) y := fun y hy => hh.first_leP (tp.mem_iff.1 (by simp [hy]))
    have hnew := hP.rel x.c m x.nt R (itAt x.l 0) hv hck hp (fun r hrm => ⟨hok r (by simp [hrm]), hx r hrm _ hy0, fun e => by
         have h1 : (((R ++ [itAt x.l 0])).map (·.n)).Nodup := by
          rw [List.map_append] at hnd2
          exact (List.nodup_append.1 hnd2).1
         rw [List.map_append] at h1
         exact (List.nodup_append.1 h1).2.2 r.n (List.mem_map_of_mem hrm) (itAt x.l 0).n (by simp) e⟩) (hok _ (by simp [hy0])) (by omega)
    obtain ⟨R', p1, p2, p3, p4, p5⟩ := ih (relOne x m) (R ++ [itAt x.l 0]) (by omega) th hv hck hk
     (fun y hy => hok y (hperm.mem_iff.1 hy)) hnd2 (by
        show P x.c m (relN x.k x.c x.nt (itAt x.l 0) m) _
        rw [hk]; exact hnew)
     (List.pairwise_append.2 ⟨hs, by simp, fun a ha b hb => by rw [List.mem_singleton] at hb; rw [hb]; exact hx a ha _ hy0⟩)
     (fun r hrm => by
        rcases List.mem_append.1 hrm with h | h
        ·exact hr r h
        ·rw [List.mem_singleton] at h; rw [h]; omega)
     (fun r hrm y hy => by
        rcases List.mem_append.1 hrm with h | h
        ·exact hx r h y (tp.mem_iff.1 (by simp [show y ∈ takeL x.l from hy]))
        ·rw [List.mem_singleton] at h; rw [h]; exact hfirst y hy)
    exact ⟨R', p1, p2, p3, p4.trans hperm, p5⟩
theorem tick_GS {k : Nat} {P : Cfg → Int → Note → List It → Prop} (hP : NLaw k P) {clock nc : Int} {x : Ser} {A : List It} (h : GS P clock x A) (hk : x.k = k) (hck : x.c.kind = k) (hv : validB x.c = true) (hcn : clock ≤ nc) : GS P nc (tickOne nc x) A := by
 obtain ⟨R, hw, hs, hr, hp⟩ := h.whole
 have hkk := relS_keep (nc - x.c.lag) (x.l.length + 1) x (by omega) h.heap
 have hacc : (relS (x.l.length + 1) x (nc - x.c.lag)).acc = x.acc := relS_acc _ _ _
 obtain ⟨R', p1, p2, p3, p4, p5⟩ := relS_GS hP (nc - x.c.lag) (x.l.length + 1) x R (by omega) h.heap hv hck hk
  (fun y hy => by rw [← hk]; exact h.okA y (hp.mem_iff.1 hy)) ((hp.map (·.n)).nodup_iff.2 (nums_nodup h.num)) (hP.later _ _ _ _ _ hv hck (by omega) hw) hs (fun r hrm => by have := hr r hrm; omega)
  (fun r hrm y hy => .inl (by have h1 := hr r hrm; have h2 := h.wait y hy; omega))
 unfold tickOne
 refine ⟨hkk.1, fun y hy => ?_, fun y hy => ?_, h.num, ?_, R', ?_, p2, fun r hrm => ?_, p4.trans hp⟩
 ·rw [hkk.2.1]; exact p5 y hy
 ·rw [hkk.2.1, hkk.2.2.1]; exact h.okA y hy
 ·rw [hacc]; exact h.acc
 ·rw [hkk.2.1]; exact p1
 ·rw [hkk.2.1]; exact p3 r hrm
theorem sweep_GS {k : Nat} {P : Cfg → Int → Note → List It → Prop} (hP : NLaw k P) {nc b : Int} {x : Ser} {A : List It} (h : GS P nc x A) (hk : x.k = k) (hck : x.c.kind = k) (hv : validB x.c = true) : GS P nc (swpS nc b x) A := by
 obtain ⟨R, hw, hs, hr, hp⟩ := h.whole
 refine ⟨h.heap, h.wait, h.okA, h.num, h.acc, R, ?_, hs, hr, hp⟩
 show P x.c (nc - x.c.lag) (swpN x.k x.c x.nt (nc - x.c.lag) b).1 R
 rw [hk]; exact hP.swp _ _ _ _ _ hv hck hw
theorem add_GS {P : Cfg → Int → Note → List It → Prop} {clock : Int} {x : Ser} {A : List It} (h : GS P clock x A) (y : It) (hy : clock - x.c.lag < y.t) (hok : OkI x.c x.k (numbered y (x.acc + 1))) : GS P clock (accS x y) (A ++ [numbered y (x.acc + 1)]) := by
 obtain ⟨R, hw, hs, hr, hp⟩ := h.whole
 obtain ⟨h1, h2⟩ := put_heap x.l (numbered y (x.acc + 1)) h.heap
 refine ⟨h1, fun z hz => ?_, fun z hz => ?_, fun i z hz => ?_, ?_, R, hw, hs, hr, ?_⟩
 ·rcases List.mem_cons.1 (h2.mem_iff.1 hz) with e | e
  ·rw [e]; exact hy
  ·exact h.wait z e
 ·rcases List.mem_append.1 hz with e | e
  ·exact h.okA z e
  ·rw [List.mem_singleton] at e; rw [e]; exact hok
 ·by_cases hi : i < A.length
  ·rw [List.getElem?_append_left hi] at hz; exact h.num i z hz
  ·rw [List.getElem?_append_right (by omega)] at hz
   have hi2 : i - A.length = 0 := by
    have := (List.getElem?_eq_some_iff.1 hz).1
    simp at this; omega
   rw [hi2] at hz
   simp at hz
   rw [← hz]
   show x.acc + 1 = _
   rw [h.acc]; omega
 ·show x.acc + 1 = _
  rw [h.acc, List.length_append]; simp
 ·refine (List.Perm.append_left R h2).trans (List.perm_middle.trans ?_)
  exact (List.Perm.cons _ hp).trans (List.perm_append_singleton _ _).symm
theorem new_GS {k : Nat} {P : Cfg → Int → Note → List It → Prop} (hP : NLaw k P) (clock id : Int) (c : Cfg) (hv : validB c = true) (hck : c.kind = k) (j : Nat) : GS P clock (newSer id c j) [] :=
 ⟨fun i _ hi => by simp [newSer] at hi, fun t ht => by simp [newSer] at ht, fun y hy => by simp at hy, fun i y hy => by simp at hy, rfl, [], hP.zero _ _ hv hck, List.Pairwise.nil, fun r hr => by simp at hr, List.Perm.refl _⟩
def acci (s : WS) (o : OpM) (id : Int) : List It := if o.kind = 2 ∧ o.id = id ∧ (stepM s o).2.1 = 0 then [numbered o.item ((stepM s o).2.2.headD 0)] else []
structure GW (k : Nat) (P : Cfg → Int → Note → List It → Prop) (s : WS) (A : Int → List It) : Prop where
 ids : (s.xs.map (·.id)).Nodup
 none : ∀ id, id ∉ s.xs.map (·.id) → A id = []
 cnt : ∀ x, x ∈ s.xs → x.k = k → GS P s.clock x (A x.id)
theorem GW.same {k : Nat} {P : Cfg → Int → Note → List It → Prop} {s : WS} {A B : Int → List It} (h : GW k P s A) (he : ∀ id, B id = A id) : GW k P s B :=
 ⟨h.ids, fun id hid => (he id).trans (h.none id hid), fun x hx hk => by rw [he]; exact h.cnt x hx hk⟩
theorem acci_none {s : WS} {o : OpM} (h : o.kind ≠ 2 ∨ (stepM s o).2.1 ≠ 0) (id : Int) : acci s o id = [] := by
 unfold acci
 rw [if_neg]
 rintro ⟨h1, _, h3⟩
 rcases h with h | h
 ·exact h h1
 ·exact h h3
theorem upd_GW {k : Nat} {P : Cfg → Int → Note → List It → Prop} {s : WS} {A B : Int → List It} (h : GW k P s A) {id : Int} {x y : Ser} (hf : findS s.xs id = some x) (hid : y.id = x.id) (hb : ∀ i, i ≠ id → B i = A i) (hk : y.k = x.k) (hy : x.k = k → GS P s.clock x (A x.id) → GS P s.clock y (B id)) : GW k P ⟨s.clock, updS s.xs id y⟩ B := by
 obtain ⟨l1, l2, he, hx, hu⟩ := find_split hf
 have hm : (updS s.xs id y).map (·.id) = s.xs.map (·.id) := by
  rw [hu, he]; simp [hid]
 have hxm : x ∈ s.xs := by rw [he]; simp
 refine ⟨by show ((updS s.xs id y).map _).Nodup; rw [hm]; exact h.ids, fun i hi => ?_, fun z hz hzk => ?_⟩
 ·have hi' : i ∉ s.xs.map (·.id) := by rw [← hm]; exact hi
  have hne : i ≠ id := fun h0 => hi' (by rw [h0, ← hx]; exact List.mem_map_of_mem hxm)
  rw [hb i hne]; exact h.none i hi'
 ·have hz' : z ∈ l1 ++ y :: l2 := by rw [← hu]; exact hz
  have hnd := h.ids
  rw [he, List.map_append, List.map_cons] at hnd
  obtain ⟨_, n2, n3⟩ := List.nodup_append.1 hnd
  have n4 := (List.nodup_cons.1 n2).1
  rcases List.mem_append.1 hz' with hz1 | hz1
  ·have hne : z.id ≠ id := fun h0 => n3 z.id (List.mem_map_of_mem hz1) x.id (by simp) (by rw [h0, hx])
   show GS P s.clock z (B z.id)
   rw [hb _ hne]; exact h.cnt z (by rw [he]; simp [hz1]) hzk
  ·rcases List.mem_cons.1 hz1 with hz1 | hz1
   ·subst hz1
    show GS P s.clock z (B z.id)
    rw [hid, hx]
    exact hy (by rw [← hk]; exact hzk) (h.cnt x hxm (by rw [← hk]; exact hzk))
   ·have hne : z.id ≠ id := fun h0 => n4 (by rw [hx, ← h0]; exact List.mem_map_of_mem hz1)
    show GS P s.clock z (B z.id)
    rw [hb _ hne]; exact h.cnt z (by rw [he]; simp [hz1]) hzk
theorem step_GW {k : Nat} {P : Cfg → Int → Note → List It → Prop} (hP : NLaw k P) {n : Int} {s : WS} {A : Int → List It} (hi : EInv n s.clock s.xs) (h : GW k P s A) (o : OpM) (h7 : o.kind ≠ 7) : GW k P (stepM s o).1 (fun id => A id ++ acci s o id) := by
 by_cases h1 : o.kind = 1
 ·have ha := acci_none (s := s) (o := o) (.inl (by omega))
  simp only [ha, List.append_nil]
  unfold stepM
  rw [if_pos h1]
  unfold createM
  split
  ·rename_i hc
   split
   ·rename_i hv
    split
    ·have hnew : o.id ∉ s.xs.map (·.id) := fun hm => by
      obtain ⟨x, hx, hxi⟩ := List.mem_map.1 hm
      have := hc.2
      unfold findS at this
      rw [Option.isNone_iff_eq_none, List.find?_eq_none] at this
      exact this x hx (by simpa using hxi)
     refine ⟨?_, fun id hid => ?_, fun x hx hk => ?_⟩
     ·show ((s.xs ++ [newSer o.id o.cfg o.cfg.kind.toNat]).map (·.id)).Nodup
      rw [List.map_append]
      refine List.nodup_append.2 ⟨h.ids, by simp, fun a ha b hb => ?_⟩
      simp [newSer] at hb
      subst hb
      exact fun h0 => hnew (by rw [← h0]; exact ha)
     ·exact h.none id (fun h0 => hid (by show id ∈ (s.xs ++ [newSer o.id o.cfg o.cfg.kind.toNat]).map (·.id); rw [List.map_append]; exact List.mem_append.2 (.inl h0)))
     ·rcases List.mem_append.1 hx with hx | hx
      ·exact h.cnt x hx hk
      ·rw [List.mem_singleton] at hx; subst hx
       show GS P s.clock _ (A o.id)
       have hkd := (newSer_inv (n := 0) o.id o.cfg hv (by omega)).kind
       have hkk : (newSer o.id o.cfg o.cfg.kind.toNat).k = k := hk
       rw [hkk] at hkd
       rw [h.none o.id hnew]; exact new_GS hP _ _ _ hv hkd _
    ·exact h
   ·exact h
  ·exact h
 by_cases h2 : o.kind = 2
 ·have hs : stepM s o = addM s o := by unfold stepM; rw [if_neg h1, if_pos h2]
  cases hf : findS s.xs o.id with
  | none =>
   have e : addM s o = (s, 2, []) := by unfold addM; rw [hf]
   have ha := acci_none (s := s) (o := o) (.inr (by rw [hs, e]; simp))
   simp only [ha, List.append_nil]
   rw [hs, e]; exact h
  | some x =>
   by_cases hr : refE x s.clock o.item = 0
   ·have e : addM s o = (⟨s.clock, updS s.xs o.id (accS x o.item)⟩, 0, [x.acc + 1]) := by unfold addM; rw [hf]; simp only; rw [if_pos hr]
    have he2 := e
    rw [hs, e]
    refine upd_GW h hf rfl (fun i hne => ?_) rfl (fun _ hb => ?_)
    ·show A i ++ acci s o i = A i
     have : acci s o i = [] := by unfold acci; rw [if_neg (fun hh => hne hh.2.1.symm)]
     rw [this, List.append_nil]
    ·show GS P s.clock (accS x o.item) (A o.id ++ acci s o o.id)
     have : acci s o o.id = [numbered o.item (x.acc + 1)] := by unfold acci; rw [if_pos ⟨h2, rfl, by rw [hs, e]⟩, hs, e]; rfl
     rw [this]
     obtain ⟨_, _, _, hx, _⟩ := find_split hf
     rw [hx] at hb
     obtain ⟨z1, z2, _, _, _, z6, _⟩ := refE_zero hr
     exact add_GS hb o.item (refE_late hr) ⟨z1, z2, z6⟩
   ·have e : addM s o = (⟨s.clock, updS s.xs o.id (refS x (refE x s.clock o.item).toNat)⟩, refE x s.clock o.item, []) := by unfold addM; rw [hf]; simp only; rw [if_neg hr]
    have ha := acci_none (s := s) (o := o) (.inr (by rw [hs, e]; exact hr))
    simp only [ha, List.append_nil]
    rw [hs, e]
    refine upd_GW h hf rfl (fun i _ => rfl) rfl (fun _ hb => ?_)
    obtain ⟨_, _, _, hx, _⟩ := find_split hf
    rw [hx] at hb
    exact ⟨hb.heap, hb.wait, hb.okA, hb.num, hb.acc, hb.whole⟩
 have ha := acci_none (s := s) (o := o) (.inl h2)
 simp only [ha, List.append_nil]
 unfold stepM
 rw [if_neg h1, if_neg h2]
 split
 ·unfold tickM
  split
  ·split
   ·have hcn : s.clock ≤ maxC s.clock o.a := by unfold maxC; split <;> omega
    have hids : ((sweepL (maxC s.clock o.a) o.b (s.xs.map (tickOne (maxC s.clock o.a)))).1.map (·.id)) = s.xs.map (·.id) := by
     rw [sweepL_ids, List.map_map]
     refine List.map_congr_left fun x _ => ?_
     exact (relS_k _ _ _).2.2
    refine ⟨by show List.Nodup _; rw [hids]; exact h.ids, fun id hid => h.none id (by rw [← hids]; exact hid), fun z hz hk => ?_⟩
    obtain ⟨y, hy, b', rfl⟩ := sweepL_from _ _ _ hz
    obtain ⟨x, hx, rfl⟩ := List.mem_map.1 hy
    have htk : (tickOne (maxC s.clock o.a) x).k = x.k := (relS_k _ _ _).1
    have htc : (tickOne (maxC s.clock o.a) x).c = x.c := (relS_k _ _ _).2.1
    have hkx : x.k = k := by rw [← htk]; exact hk
    have hv := hi.sers x hx
    have hck : x.c.kind = k := by rw [hv.kind, hkx]
    have hid : (swpS (maxC s.clock o.a) b' (tickOne (maxC s.clock o.a) x)).id = x.id := (relS_k _ _ _).2.2
    rw [hid]
    exact sweep_GS hP (tick_GS hP (h.cnt x hx hkx) hkx hck hv.valid hcn) (htk.trans hkx) (by rw [htc]; exact hck) (by rw [htc]; exact hv.valid)
   ·exact h
  ·exact h
 ·split
  ·unfold queryM; split <;> exact h
  ·split
   ·unfold statsM; split <;> exact h
   ·split <;> exact h
def accI : WS → List OpM → Int → List It
 | _, [], _ => []
 | s, o :: r, id => acci s o id ++ accI (stepM s o).1 r id
theorem end_GW {k : Nat} {P : Cfg → Int → Note → List It → Prop} (hP : NLaw k P) (l : List OpM) : ∀ {n : Int} {s : WS} {A : Int → List It}, 0 ≤ n → EInv n s.clock s.xs → OkRun l → GW k P s A → GW k P (endM s l) (fun id => A id ++ accI s l id) := by
 induction l with
 | nil => intro n s A _ _ _ h; exact h.same (fun id => by simp [accI])
 | cons o l ih =>
  intro n s A hn hi hok h
  have ho := hok o (by simp)
  have := ih (n := n + 1) (by omega) (stepM_inv o hi hn (loadOk_none ho)) (fun p hp => hok p (by simp [hp])) (step_GW hP hi h o ho)
  exact this.same (fun id => by simp [accI, List.append_assoc])
theorem accI_snoc (l : List OpM) (o : OpM) (id : Int) : ∀ s, accI s (l ++ [o]) id = accI s l id ++ acci (endM s l) o id := by
 induction l with
 | nil => intro s; simp [accI, endM]
 | cons a l ih => intro s; simp only [List.cons_append, accI, ih, List.append_assoc]; rfl
def tri (y : It) : Int × Int × Int := (y.t, y.k, y.d)
def triO (o : OpM) : Int × Int × Int := (o.a, o.b, o.c)
theorem itemsI_is (ops : List OpM) (id fr to : Int) (n : Nat) (hn : n ≤ ops.length) : (itemsD ops (codesOf ops) id fr to n).map triO = ((accI ws0 (ops.take n) id).filter (fun y => decide (fr < y.t ∧ y.t ≤ to))).map tri := by
 induction n with
 | zero => rfl
 | succ n ih =>
  have hi : n < ops.length := by omega
  rw [itemsD_succ, take_opAt hi, accI_snoc, List.filter_append, List.map_append, List.map_append, ih (by omega), codeAt_is ops n hi]
  congr 1
  unfold acci
  by_cases h1 : (opAt ops n).kind = 2 ∧ (opAt ops n).id = id ∧ (stepM (endM ws0 (ops.take n)) (opAt ops n)).2.1 = 0
  ·rw [if_pos h1]
   by_cases h2 : fr < (opAt ops n).a ∧ (opAt ops n).a ≤ to
   ·rw [if_pos ⟨h1.1, h1.2.1, h1.2.2, h2⟩]
    rw [List.filter_cons_of_pos (by simpa [numbered, OpM.item] using h2)]
    rfl
   ·rw [if_neg (fun h => h2 h.2.2.2)]
    rw [List.filter_cons_of_neg (by simpa [numbered, OpM.item] using h2)]
    rfl
  ·rw [if_neg h1, if_neg (fun h => h1 ⟨h.1, h.2.1, h.2.2.1⟩)]
   rfl
theorem ask_data {k : Nat} {P : Cfg → Int → Note → List It → Prop} (hP : NLaw k P) (t : List OpM) (hok : OkRun t) (j : Nat) (hj : j < t.length) (h4 : (opAt t j).kind = 4) (c : Cfg) (hc : configD t (codesOf t) (opAt t j).id j = some c) (hk : c.kind = k) :
  (0 ≤ clockD t (codesOf t) j ∧ clockD t (codesOf t) j ≤ 4611686018427387904) ∧ (0 ≤ c.lag ∧ c.lag ≤ 100) ∧ validB c = true ∧
  ∃ (x : Ser) (R L A : List It), findS (endM ws0 (t.take j)).xs (opAt t j).id = some x ∧ x.c = c ∧ x.k = k ∧ (runM ws0 t)[j]? = some (qryN k c x.nt (opAt t j).a (clockD t (codesOf t) j - c.lag)) ∧ P c (clockD t (codesOf t) j - c.lag) x.nt R ∧ R.Pairwise leP ∧ (∀ r ∈ R, r.t ≤ clockD t (codesOf t) j - c.lag ∧ OkI c k r) ∧ (∀ y ∈ L, clockD t (codesOf t) j - c.lag < y.t) ∧ (R ++ L).Perm A ∧
   (A.length : Int) ≤ j ∧ (∃ n last, n ≤ (j : Int) ∧ NInv k c n last x.nt) ∧ A = accI ws0 (t.take j) (opAt t j).id := by
 have hjl : j ≤ t.length := by omega
 have hokj : OkRun (t.take j) := fun o ho => hok o (List.mem_of_mem_take ho)
 have hinv : EInv j (endM ws0 (t.take j)).clock (endM ws0 (t.take j)).xs := by
  have := endM_inv (t.take j) inv0 (by omega) (fun i o ho => loadOk_none (hokj o (List.mem_of_getElem? ho)))
  rw [List.length_take, Nat.min_eq_left hjl] at this
  simpa using this
 have hwb : GW k P (endM ws0 (t.take j)) (accI ws0 (t.take j)) := by
  have := end_GW hP (t.take j) (n := 0) (s := ws0) (A := fun _ => []) (by omega) inv0 hokj ⟨by simp [ws0], fun _ _ => rfl, fun x hx => by simp [ws0] at hx⟩
  exact this.same (fun id => by simp)
 rw [configD_is t hok _ j hjl] at hc
 cases hf : findS (endM ws0 (t.take j)).xs (opAt t j).id with
 | none => rw [hf] at hc; cases hc
 | some x =>
  rw [hf] at hc
  have hxc : x.c = c := by simpa using hc
  have hx : x ∈ (endM ws0 (t.take j)).xs := List.mem_of_find?_eq_some hf
  have hsi := hinv.sers x hx
  have hid : x.id = (opAt t j).id := by have := List.find?_some hf; simpa using this
  have hk1 : x.k = k := by have := hsi.kind; rw [hxc, hk] at this; omega
  obtain ⟨l0, l1, _⟩ := hsi.common
  have hclk := clockD_is t hok j hjl
  have hans := runM_at ws0 t j _ (opAt_get hj)
  have hstep : stepM (endM ws0 (t.take j)) (opAt t j) = (endM ws0 (t.take j), qryN x.k x.c x.nt (opAt t j).a ((endM ws0 (t.take j)).clock - x.c.lag)) := by
   unfold stepM
   rw [if_neg (by omega), if_neg (by omega), if_neg (by omega), if_pos h4]
   unfold queryM
   rw [hf]
  rw [hstep, hk1] at hans
  have hg := hwb.cnt x hx hk1
  obtain ⟨R, r1, r2, r3, r4⟩ := hg.whole
  rw [hclk, ← hxc]
  refine ⟨⟨hinv.c0, hinv.c1⟩, ⟨l0, l1⟩, hsi.valid, x, R, x.l, _, rfl, rfl, hk1, hans, r1, r2, fun r hr => ⟨r3 r hr, ?_⟩, hg.wait, r4, ?_, ⟨x.rel, x.last, ?_, ?_⟩, by rw [hid]⟩
  ·rw [← hk1]; exact hg.okA r (r4.mem_iff.1 (by simp [hr]))
  ·rw [← hg.acc]; exact hsi.accn
  ·have h1 := hsi.rela; have h2 := hsi.accn; omega
  ·rw [← hk1]; exact hsi.note
end Go.Proofs.YtahnliehdjncdaaGreatDoor
namespace Go.Proofs.YtahnliehdjncdaaGreatDoor
def celA (cs : List Int) (j pl : Nat) : Int := cs.getD (j * 16 + pl) 0
def cntI (f : It → Bool) (R : List It) : Int := ((R.filter f).length : Int)
theorem cntI_snoc (f : It → Bool) (R : List It) (y : It) : cntI f (R ++ [y]) = cntI f R + if f y = true then 1 else 0 := by
 unfold cntI
 rw [List.filter_append, List.length_append]
 by_cases h : f y = true
 ·rw [if_pos h, List.filter_cons_of_pos h]; simp
 ·rw [if_neg h, List.filter_cons_of_neg h]; simp
theorem cntI_none {f : It → Bool} {R : List It} (h : ∀ r ∈ R, f r = false) : cntI f R = 0 := by
 unfold cntI
 rw [List.filter_eq_nil_iff.2 (fun r hr => by rw [h r hr]; simp)]; rfl
theorem cntI_zero {f : It → Bool} {R : List It} (h : cntI f R = 0) : ∀ r ∈ R, f r = false := by
 intro r hr
 unfold cntI at h
 have : R.filter f = [] := List.eq_nil_of_length_eq_zero (by omega)
 have := List.filter_eq_nil_iff.1 this r hr
 simpa using this
theorem cntI_le (f : It → Bool) (R : List It) : cntI f R ≤ R.length := by
 have := List.length_filter_le f R
 unfold cntI; omega
theorem cntI_mono {f g : It → Bool} {R : List It} (h : ∀ r ∈ R, f r = true → g r = true) : cntI f R ≤ cntI g R := by
 induction R with
 | nil => exact Int.le_refl _
 | cons r R ih =>
  have ih := ih (fun a ha => h a (by simp [ha]))
  have h1 := h r (by simp)
  unfold cntI at *
  rw [List.filter_cons, List.filter_cons]
  by_cases hf : f r = true
  ·rw [if_pos hf, if_pos (h1 hf)]; simp only [List.length_cons]; omega
  ·rw [if_neg hf]
   split
   ·simp only [List.length_cons]; omega
   ·exact ih
theorem cntI_congr {f g : It → Bool} {R : List It} (h : ∀ r ∈ R, f r = g r) : cntI f R = cntI g R := by
 unfold cntI; rw [List.filter_congr h]
theorem cntI_or {f g e : It → Bool} {R : List It} (h : ∀ r ∈ R, e r = (f r || g r)) (hd : ∀ r ∈ R, ¬ (f r = true ∧ g r = true)) : cntI e R = cntI f R + cntI g R := by
 induction R with
 | nil => rfl
 | cons r R ih =>
  have ih := ih (fun a ha => h a (by simp [ha])) (fun a ha => hd a (by simp [ha]))
  have h1 := h r (by simp)
  have h2 := hd r (by simp)
  unfold cntI at *
  rw [List.filter_cons, List.filter_cons, List.filter_cons]
  cases hf : f r <;> cases hg : g r <;> simp_all <;> omega
def pnoO (c : Cfg) (r : It) : Int := r.t / longO c
def fallB (c : Cfg) (j pl : Nat) (r : It) : Bool := decide (placeO c r.k j = (pl : Int))
def cnt1 (c : Cfg) (R : List It) (no : Int) (j pl : Nat) : Int := cntI (fun r => decide (pnoO c r = no) && fallB c j pl r) R
structure OG (c : Cfg) (m : Int) (o : Pa.Pn) (cl : List Pa.Pn) (R : List It) : Prop where
 asc : cl.Pairwise (fun a b => a.no < b.no)
 lt : ∀ p ∈ cl, p.no < o.no
 ex : ∀ p, p ∈ cl ∨ p = o → ∀ (j pl : Nat), (j : Int) < c.rows → pl < 16 → celA p.cs j pl = cnt1 c R p.no j pl
 inn : ∀ r ∈ R, (∃ p, (p ∈ cl ∨ p = o) ∧ p.no = pnoO c r) ∨ (pnoO c r + 1) * longO c - 1 ≤ m - c.window
 top : ∀ r ∈ R, pnoO c r ≤ o.no
 cur : o.no = 0 ∨ ∃ r ∈ R, pnoO c r = o.no
theorem celA_zeros (j pl : Nat) : celA zeros48 j pl = 0 := by
 unfold celA zeros48
 rw [List.getD_eq_getElem?_getD, List.getElem?_replicate]
 split <;> rfl
theorem OG.zero (c : Cfg) (m : Int) : OG c m Pa.pn0 [] [] := by
 refine ⟨List.Pairwise.nil, fun p hp => by simp at hp, fun p hp j pl _ _ => ?_, fun r hr => by simp at hr, fun r hr => by simp at hr, .inl rfl⟩
 rcases hp with hp | hp
 ·simp at hp
 ·rw [hp]; exact celA_zeros j pl
theorem OG.later {c : Cfg} {m m' : Int} {o : Pa.Pn} {cl : List Pa.Pn} {R : List It} (h : OG c m o cl R) (hm : m ≤ m') : OG c m' o cl R :=
 ⟨h.asc, h.lt, h.ex, fun r hr => (h.inn r hr).imp id (fun h => by omega), h.top, h.cur⟩
theorem celA_up (cs : List Int) (hl : cs.length = 48) (j pl a b : Nat) (hpl : pl < 16) (ha : a < 3) (hb : b < 16) : celA (upAt cs (a * 16 + b)) j pl = celA cs j pl + if j = a ∧ pl = b then 1 else 0 := by
 unfold celA upAt
 rw [List.getD_eq_getElem?_getD, List.getElem?_set]
 by_cases h : j = a ∧ pl = b
 ·rw [if_pos h, h.1, h.2, if_pos rfl, if_pos (by omega)]; rfl
 ·rw [if_neg h, if_neg (by omega), Int.add_zero, List.getD_eq_getElem?_getD]
theorem celA_bump (c : Cfg) (hc : c.rowed) (key : Int) (cs : List Int) (hl : cs.length = 48) (j pl : Nat) (hpl : pl < 16) : ∀ n : Nat, n ≤ 3 → celA (bumpN c key n cs) j pl = celA cs j pl + if j < n ∧ placeO c key j = (pl : Int) then 1 else 0 := by
 intro n
 induction n with
 | zero => intro _; simp [bumpN]
 | succ n ih =>
  intro hn
  have hb := placeO_bd c hc key n
  rw [show bumpN c key (n + 1) cs = upAt (bumpN c key n cs) (n * 16 + (placeO c key n).toNat) from rfl, celA_up _ (by rw [bumpN_length, hl]) j pl n _ hpl (by omega) (by omega), ih (by omega)]
  by_cases h1 : j = n
  ·subst h1
   rw [if_neg (by omega)]
   by_cases h2 : placeO c key j = (pl : Int)
   ·rw [if_pos ⟨rfl, by omega⟩, if_pos ⟨by omega, h2⟩]; omega
   ·rw [if_neg (fun h => h2 (by omega)), if_neg (fun h => h2 h.2)]; omega
  ·have e1 : (if j = n ∧ pl = (placeO c key n).toNat then (1 : Int) else 0) = 0 := if_neg (fun h => h1 h.1)
   rw [e1]
   by_cases h2 : j < n ∧ placeO c key j = (pl : Int)
   ·rw [if_pos h2, if_pos ⟨by omega, h2.2⟩]; omega
   ·rw [if_neg h2, if_neg (fun h => h2 ⟨by omega, h.2⟩)]; omega
theorem pastP_take (c : Cfg) (t : Int) : ∀ l : List Pa.Pn, ∀ p ∈ l, p ∈ l.drop (pastP c l t) ∨ lastO c p ≤ t
 | [], p, hp => by simp at hp
 | q :: l, p, hp => by
  unfold pastP
  rw [List.takeWhile_cons]
  split
  ·rename_i hq
   rw [List.length_cons, List.drop_succ_cons]
   rcases List.mem_cons.1 hp with e | e
   ·right; rw [e]; simpa using hq
   ·exact pastP_take c t l p e
  ·left; rw [List.length_nil, List.drop_zero]; exact hp
theorem OG.rel {c : Cfg} {m : Int} {o : Pa.Pn} {cl : List Pa.Pn} {R : List It} (h : OG c m o cl R) (hL : 1 ≤ longO c) (hrw : c.rowed) (hr1 : 1 ≤ c.rows) (hr3 : c.rows ≤ 3) (y : It) (y0 : 0 ≤ y.t) (hy : ∀ r ∈ R, r.t ≤ y.t) :
  OG c m (relO c o cl y m).1 (relO c o cl y m).2 (R ++ [y]) := by
 obtain ⟨n, hn⟩ : ∃ n, n = pnoO c y := ⟨_, rfl⟩
 have hn0 : 0 ≤ n := by rw [hn]; exact Int.ediv_nonneg y0 (by omega)
 have hle : ∀ r ∈ R, pnoO c r ≤ n := fun r hr => by rw [hn]; exact Int.ediv_le_ediv (by omega) (hy r hr)
 have hon : o.no ≤ n := by
  rcases h.cur with h0 | ⟨r, hr, h0⟩
  ·omega
  ·rw [← h0]; exact hle r hr
 -- behind the turn
 have ht : ∃ o2 l2, turnO o cl n = (o2, l2) ∧ o2.no = n ∧ l2.Pairwise (fun a b => a.no < b.no) ∧ (∀ p ∈ l2, p.no < n) ∧
   (∀ p, p ∈ l2 ∨ p = o2 → ∀ (j pl : Nat), (j : Int) < c.rows → pl < 16 → celA p.cs j pl = cnt1 c R p.no j pl) ∧ (∀ r ∈ R, (∃ p, (p ∈ l2 ∨ p = o2) ∧ p.no = pnoO c r) ∨ (pnoO c r + 1) * longO c - 1 ≤ m - c.window) := by
  unfold turnO
  by_cases h1 : o.no = n
  ·rw [if_pos h1]
   exact ⟨o, cl, rfl, h1, h.asc, fun p hp => by rw [← h1]; exact h.lt p hp, h.ex, h.inn⟩
  ·rw [if_neg h1]
   have hnew : ∀ j pl, cnt1 c R n j pl = 0 := fun j pl => cntI_none (fun r hr => by
      have h2 := h.top r hr
      rw [decide_eq_false (by omega)]; rfl)
   by_cases h2 : o.cs = zeros48
   ·rw [if_pos h2]
    refine ⟨newP n, cl, rfl, rfl, h.asc, fun p hp => by have := h.lt p hp; omega, fun p hp j pl hj hpl => ?_, fun r hr => ?_⟩
    ·rcases hp with hp | hp
     ·exact h.ex p (.inl hp) j pl hj hpl
     ·rw [hp]; exact (celA_zeros j pl).trans (hnew j pl).symm
    ·rcases h.inn r hr with ⟨p, hp, hpn⟩ | h3
     ·rcases hp with hp | hp
      ·exact .inl ⟨p, .inl hp, hpn⟩
      ·exfalso
       have hb := placeO_bd c hrw r.k 0
       have h3 := h.ex o (.inr rfl) 0 (placeO c r.k 0).toNat (by omega) (by omega)
       rw [h2, celA_zeros] at h3
       have h4 := cntI_zero h3.symm r hr
       rw [hp] at hpn
       rw [decide_eq_true hpn.symm] at h4
       unfold fallB at h4
       rw [decide_eq_true (by omega)] at h4
       simp at h4
     ·exact .inr h3
   ·rw [if_neg h2]
    refine ⟨newP n, cl ++ [o], rfl, rfl, ?_, fun p hp => ?_, fun p hp j pl hj hpl => ?_, fun r hr => ?_⟩
    ·exact List.pairwise_append.2 ⟨h.asc, by simp, fun a ha b hb => by rw [List.mem_singleton] at hb; rw [hb]; exact h.lt a ha⟩
    ·rcases List.mem_append.1 hp with hp | hp
     ·have := h.lt p hp; omega
     ·rw [List.mem_singleton] at hp; rw [hp]; omega
    ·rcases hp with hp | hp
     ·rcases List.mem_append.1 hp with hp | hp
      ·exact h.ex p (.inl hp) j pl hj hpl
      ·rw [List.mem_singleton] at hp; exact h.ex p (.inr hp) j pl hj hpl
     ·rw [hp]; exact (celA_zeros j pl).trans (hnew j pl).symm
    ·rcases h.inn r hr with ⟨p, hp, hpn⟩ | h3
     ·refine .inl ⟨p, .inl ?_, hpn⟩
      rcases hp with hp | hp
      ·simp [hp]
      ·simp [hp]
     ·exact .inr h3
 obtain ⟨o2, l2, e, e1, e2, e3, e4, e5⟩ := ht
 have er : relO c o cl y m = (bumpP c y.k c.rows.toNat o2, l2.drop (pastP c l2 (m - c.window))) := by
  unfold relO
  show (bumpP c y.k c.rows.toNat (turnO o cl (y.t / longO c)).1, _) = _
  rw [show y.t / longO c = n from hn.symm, e]
 rw [er]
 have hsub : ∀ p, p ∈ l2.drop (pastP c l2 (m - c.window)) → p ∈ l2 := fun p hp => List.mem_of_mem_drop hp
 have hbn : (bumpP c y.k c.rows.toNat o2).no = n := e1
 refine ⟨e2.sublist (List.drop_sublist _ _), fun p hp => ?_, fun p hp j pl hj hpl => ?_, fun r hr => ?_, fun r hr => ?_, .inr ⟨y, by simp, by rw [hbn, hn]⟩⟩
 ·show p.no < (bumpP c y.k c.rows.toNat o2).no
  rw [hbn]; exact e3 p (hsub p hp)
 ·unfold cnt1
  rw [cntI_snoc]
  rcases hp with hp | hp
  ·have hne : pnoO c y ≠ p.no := by have := e3 p (hsub p hp); omega
   rw [decide_eq_false hne, if_neg (by simp)]
   rw [e4 p (.inl (hsub p hp)) j pl hj hpl]; unfold cnt1; omega
  ·subst hp
   show celA (bumpN c y.k c.rows.toNat o2.cs) j pl = _
   rw [celA_bump c hrw y.k o2.cs o2.len j pl hpl _ (by omega), e4 o2 (.inr rfl) j pl hj hpl]
   unfold cnt1
   rw [show (bumpP c y.k c.rows.toNat o2).no = o2.no from rfl, decide_eq_true (show pnoO c y = o2.no by omega)]
   unfold fallB
   by_cases h1 : placeO c y.k j = (pl : Int)
   ·rw [if_pos ⟨by omega, h1⟩, if_pos (by simp [h1])]
   ·rw [if_neg (fun h => h1 h.2), if_neg (by simp [h1])]
 ·rcases List.mem_append.1 hr with hr | hr
  ·rcases e5 r hr with ⟨p, hp, hpn⟩ | h3
   ·rcases hp with hp | hp
    ·rcases pastP_take c (m - c.window) l2 p hp with h3 | h3
     ·exact .inl ⟨p, .inl h3, hpn⟩
     ·right; rw [← hpn]; exact h3
    ·exact .inl ⟨_, .inr rfl, by rw [hbn, ← e1, ← hpn, hp]⟩
   ·exact .inr h3
  ·rw [List.mem_singleton] at hr
   exact .inl ⟨_, .inr rfl, by rw [hbn, hn, hr]⟩
 ·rw [hbn]
  rcases List.mem_append.1 hr with hr | hr
  ·exact hle r hr
  ·rw [List.mem_singleton] at hr; rw [hr, hn]; exact Int.le_refl _
def PO (c : Cfg) (m : Int) (nt : Note) (R : List It) : Prop := OG c m nt.op nt.cl R
theorem PO_law : NLaw 3 PO where
 zero := fun c m _ _ => OG.zero c m
 later := fun c m m' nt R _ _ hm h => OG.later h hm
 rel := fun c m nt R y hv hk h hr hy _ => by
  obtain ⟨_, hrw, hL, _, _⟩ := valid_often (k := 3) hv hk rfl
  exact OG.rel h hL hrw hrw.r0 hrw.r1 y hy.t0 (fun r hrm => by have := (hr r hrm).2.1; unfold leP at this; omega)
 swp := fun c m nt R b _ _ h => h
theorem celA_plus (a b : List Int) (ha : a.length = 48) (hb : b.length = 48) (j pl : Nat) (hj : j < 3) (hpl : pl < 16) : celA (List.zipWith (· + ·) a b) j pl = celA a j pl + celA b j pl := by
 unfold celA
 have h1 : j * 16 + pl < a.length := by omega
 have h2 : j * 16 + pl < b.length := by omega
 have h3 : j * 16 + pl < (List.zipWith (· + ·) a b).length := by rw [List.length_zipWith]; omega
 simp [List.getD_eq_getElem?_getD, List.getElem?_eq_getElem h1, List.getElem?_eq_getElem h2, List.getElem?_eq_getElem h3]
theorem cel_sum {c : Cfg} {R : List It} {j pl : Nat} (hj : (j : Int) < c.rows) (hr3 : c.rows ≤ 3) (hpl : pl < 16) : ∀ (l : List Pa.Pn), l.Pairwise (fun a b => a.no < b.no) → (∀ p ∈ l, celA p.cs j pl = cnt1 c R p.no j pl) → ∀ a : List Int, a.length = 48 →
  celA (l.foldl plusC a) j pl = celA a j pl + cntI (fun r => decide (pnoO c r ∈ l.map (·.no)) && fallB c j pl r) R := by
 intro l
 induction l with
 | nil => intro _ _ a _; simp [cntI_none]
 | cons p l ih =>
  intro hp he a ha
  have hp2 := List.pairwise_cons.1 hp
  rw [List.foldl_cons, ih hp2.2 (fun q hq => he q (by simp [hq])) _ (plusC_length ha)]
  unfold plusC
  rw [celA_plus _ _ ha p.len j pl (by omega) hpl, he p (by simp), Int.add_assoc]
  congr 1
  refine (cntI_or (fun r _ => ?_) (fun r _ hh => ?_)).symm
  ·cases fallB c j pl r <;> simp
   try by_cases h1 : pnoO c r = p.no <;> simp [h1]
  ·have h1 : pnoO c r = p.no := by have := hh.1; simp at this; exact this.1
   have h2 := hh.2
   simp only [Bool.and_eq_true, decide_eq_true_eq, List.mem_map] at h2
   obtain ⟨⟨q, hq, hqn⟩, _⟩ := h2
   have := hp2.1 q hq
   omega
theorem OG.counted {c : Cfg} {m : Int} {o : Pa.Pn} {cl : List Pa.Pn} {R : List It} (h : OG c m o cl R) (hL : 1 ≤ longO c) (hr3 : c.rows ≤ 3) (T : Int) (hT : m - c.window ≤ T) (j pl : Nat) (hj : (j : Int) < c.rows) (hpl : pl < 16) :
  celA (countedO c o cl T) j pl = cntI (fun r => decide (T < (pnoO c r + 1) * longO c - 1) && fallB c j pl r) R := by
 obtain ⟨l, hl⟩ : ∃ l, l = cl.drop (pastP c cl T) ++ (if T < lastO c o then [o] else []) := ⟨_, rfl⟩
 have e : countedO c o cl T = l.foldl plusC zeros48 := by
  unfold countedO sumP
  rw [hl]
  by_cases h1 : T < lastO c o
  ·rw [if_pos h1, if_pos h1, List.foldl_append]; rfl
  ·rw [if_neg h1, if_neg h1, List.append_nil]
 have hmem : ∀ p, p ∈ l → p ∈ cl ∨ p = o := fun p hp => by
  rw [hl] at hp
  rcases List.mem_append.1 hp with hp | hp
  ·exact .inl (List.mem_of_mem_drop hp)
  ·split at hp
   ·rw [List.mem_singleton] at hp; exact .inr hp
   ·simp at hp
 have hpw : l.Pairwise (fun a b => a.no < b.no) := by
  rw [hl]
  refine List.pairwise_append.2 ⟨h.asc.sublist (List.drop_sublist _ _), by split <;> simp, fun a ha b hb => ?_⟩
  split at hb
  ·rw [List.mem_singleton] at hb; rw [hb]; exact h.lt a (List.mem_of_mem_drop ha)
  ·simp at hb
 have hlast : ∀ p, p ∈ l → T < lastO c p := fun p hp => by
  rw [hl] at hp
  rcases List.mem_append.1 hp with hp | hp
  ·exact pastP_drop c (by omega) T cl h.asc p hp
  ·split at hp
   ·rename_i h1; rw [List.mem_singleton] at hp; rw [hp]; exact h1
   ·simp at hp
 have hin : ∀ p, p ∈ cl ∨ p = o → T < lastO c p → p ∈ l := fun p hp h1 => by
  rw [hl]
  rcases hp with hp | hp
  ·rcases pastP_take c T cl p hp with h2 | h2
   ·exact List.mem_append.2 (.inl h2)
   ·omega
  ·rw [hp] at h1; rw [if_pos h1, hp]; simp
 rw [e, cel_sum hj hr3 hpl l hpw (fun p hp => h.ex p (hmem p hp) j pl hj hpl) _ zeros48_length, celA_zeros, Int.zero_add]
 refine cntI_congr (fun r hr => ?_)
 congr 1
 refine decide_eq_decide.2 ⟨fun h1 => ?_, fun h1 => ?_⟩
 ·obtain ⟨p, hp, hpn⟩ := List.mem_map.1 h1
  rw [← hpn]; exact hlast p hp
 ·rcases h.inn r hr with ⟨p, hp, hpn⟩ | h2
  ·exact List.mem_map.2 ⟨p, hin p hp (by unfold lastO; rw [hpn]; exact h1), hpn⟩
  ·omega
theorem leastN_ge {c : Cfg} {cnt : List Int} {key n : Int} : ∀ k : Nat, (∀ j, j < k ∨ j = 0 → n ≤ cntAt c cnt key j) → n ≤ leastN c cnt key k
 | 0, h => h 0 (.inr rfl)
 | k + 1, h => by
  have h1 := leastN_ge k (fun j hj => h j (by omega))
  have h2 := h k (.inl (by omega))
  show n ≤ min _ _
  omega
theorem leastN_le {c : Cfg} {cnt : List Int} {key : Int} : ∀ k : Nat, leastN c cnt key k ≤ cntAt c cnt key 0
 | 0 => Int.le_refl _
 | k + 1 => by
  have := leastN_le (c := c) (cnt := cnt) (key := key) k
  show min _ _ ≤ _
  omega
theorem OG.least {c : Cfg} {m : Int} {o : Pa.Pn} {cl : List Pa.Pn} {R : List It} (h : OG c m o cl R) (hL : 1 ≤ longO c) (hrw : c.rowed) (hr1 : 1 ≤ c.rows) (hr3 : c.rows ≤ 3) (key : Int) :
  cntI (fun r => decide (m - c.window < r.t) && decide (r.k = key)) R ≤ qryO c o cl key m ∧ qryO c o cl key m ≤ R.length := by
 have hat : ∀ j : Nat, (j : Int) < c.rows → cntAt c (countedO c o cl (m - c.window)) key j = cntI (fun r => decide (m - c.window < (pnoO c r + 1) * longO c - 1) && fallB c j (placeO c key j).toNat r) R := fun j hj => by
  have hb := placeO_bd c hrw key j
  exact h.counted hL hr3 _ (Int.le_refl _) j _ hj (by omega)
 refine ⟨leastN_ge _ (fun j hj => ?_), Int.le_trans (leastN_le _) ?_⟩
 ·have hb := placeO_bd c hrw key j
  rw [hat j (by omega)]
  refine cntI_mono (fun r _ hr => ?_)
  simp only [Bool.and_eq_true, decide_eq_true_eq] at hr ⊢
  have hlt : r.t < (pnoO c r + 1) * longO c := Int.lt_ediv_add_one_mul_self _ (by omega)
  refine ⟨by omega, ?_⟩
  unfold fallB
  rw [hr.2]
  exact decide_eq_true (by omega)
 ·rw [hat 0 (by omega)]; exact cntI_le _ _
end Go.Proofs.YtahnliehdjncdaaGreatDoor
namespace Go.Proofs.YtahnliehdjncdaaGreatDoor
def keyN (key : Int) (l : List OpM) : Int := ((l.filter (fun o => o.b == key)).length : Int)
theorem keyN_snoc (key : Int) (l : List OpM) (o : OpM) : keyN key (l ++ [o]) = keyN key l + if (o.b == key) = true then 1 else 0 := by
 unfold keyN
 rw [List.filter_append, List.length_append, List.filter_cons]
 by_cases h : (o.b == key) = true
 ·rw [if_pos h, if_pos h]; simp
 ·rw [if_neg h, if_neg h]; simp
theorem keyN_le (key : Int) (l : List OpM) : 0 ≤ keyN key l ∧ keyN key l ≤ l.length := by
 have := List.length_filter_le (fun o : OpM => o.b == key) l
 unfold keyN; omega
theorem keyN_tri (key : Int) (l : List OpM) (A : List It) (h : l.map triO = A.map tri) : keyN key l = cntI (fun y => decide (y.k = key)) A := by
 unfold keyN cntI
 have h1 : (l.filter (fun o => o.b == key)).length = ((l.map triO).filter (fun p => p.2.1 == key)).length := by
  rw [List.filter_map, List.length_map]; rfl
 have h2 : (A.filter (fun y => decide (y.k = key))).length = ((A.map tri).filter (fun p => p.2.1 == key)).length := by
  rw [List.filter_map, List.length_map]
  congr 1
 rw [h1, h2, h]
theorem items_rel {R L A : List It} {fr mk : Int} (hp : (R ++ L).Perm A) (hR : ∀ r ∈ R, r.t ≤ mk) (hL : ∀ y ∈ L, mk < y.t) : (A.filter (fun y => decide (fr < y.t ∧ y.t ≤ mk))).Perm (R.filter (fun y => decide (fr < y.t))) := by
 refine (hp.filter _).symm.trans ?_
 rw [List.filter_append]
 have h1 : L.filter (fun y => decide (fr < y.t ∧ y.t ≤ mk)) = [] := List.filter_eq_nil_iff.2 (fun y hy => by have := hL y hy; simp; omega)
 have h2 : R.filter (fun y => decide (fr < y.t ∧ y.t ≤ mk)) = R.filter (fun y => decide (fr < y.t)) := List.filter_congr (fun y hy => by have := hR y hy; simp; omega)
 rw [h1, h2, List.append_nil]
theorem least_data (t : List OpM) (hok : OkRun t) (j : Nat) (hj : j < t.length) (h4 : (opAt t j).kind = 4) (c : Cfg) (hc : configD t (codesOf t) (opAt t j).id j = some c) (hk : c.kind = 3) (ha : inB (opAt t j).a 0 2147483648 = true) :
  (0 ≤ clockD t (codesOf t) j ∧ clockD t (codesOf t) j ≤ 4611686018427387904) ∧ (0 ≤ c.lag ∧ c.lag ≤ 100) ∧ (1 ≤ c.window ∧ c.window ≤ 1000) ∧
  ∃ v : Int, (runM ws0 t)[j]? = some (0, [v]) ∧ keyN (opAt t j).a (itemsD t (codesOf t) (opAt t j).id (clockD t (codesOf t) j - c.lag - c.window) (clockD t (codesOf t) j - c.lag) j) ≤ v ∧
   v ≤ ((itemsD t (codesOf t) (opAt t j).id (-1) (clockD t (codesOf t) j - c.lag) j).length : Int) := by
 obtain ⟨b1, b2, hv, x, R, L, A, _, _, _, hans, hP, hs, hR, hL, hperm, hAl, _, hA⟩ := ask_data PO_law t hok j hj h4 c hc hk
 obtain ⟨hpd, hrw, hL1, hL2, hpl⟩ := valid_often (k := 3) hv hk rfl
 refine ⟨b1, b2, ⟨hpd.w0, hpd.w1⟩, qryO c x.nt.op x.nt.cl (opAt t j).a (clockD t (codesOf t) j - c.lag), ?_, ?_, ?_⟩
 ·rw [hans]; unfold qryN; rw [if_neg (by omega), if_neg (by omega), if_neg (by omega), if_pos rfl, if_pos ha]
 ·have h1 := itemsI_is t (opAt t j).id (clockD t (codesOf t) j - c.lag - c.window) (clockD t (codesOf t) j - c.lag) j (by omega)
  rw [← hA] at h1
  rw [keyN_tri _ _ _ h1]
  have h2 := items_rel (fr := clockD t (codesOf t) j - c.lag - c.window) hperm (fun r hr => (hR r hr).1) hL
  have h3 : cntI (fun y => decide (y.k = (opAt t j).a)) (A.filter (fun y => decide (clockD t (codesOf t) j - c.lag - c.window < y.t ∧ y.t ≤ clockD t (codesOf t) j - c.lag))) = cntI (fun r => decide (clockD t (codesOf t) j - c.lag - c.window < r.t) && decide (r.k = (opAt t j).a)) R := by
   unfold cntI
   rw [(h2.filter _).length_eq, List.filter_filter, List.filter_congr (fun a _ => Bool.and_comm _ _)]
  rw [h3]
  exact (OG.least hP hL1 hrw hrw.r0 hrw.r1 _).1
 ·have h1 := itemsI_is t (opAt t j).id (-1) (clockD t (codesOf t) j - c.lag) j (by omega)
  rw [← hA] at h1
  have h2 := items_rel (fr := -1) hperm (fun r hr => (hR r hr).1) hL
  have h3 := congrArg List.length h1
  rw [List.length_map, List.length_map, h2.length_eq, List.filter_eq_self.2 (fun r hr => by have := (hR r hr).2.t0; simp; omega)] at h3
  rw [h3]
  exact (OG.least hP hL1 hrw hrw.r0 hrw.r1 _).2
end Go.Proofs.YtahnliehdjncdaaGreatDoor
