import Derived.Test.YtjhaihbjhikhlaaP
import Derived.Test.YtjhaihbjhikhlaaE12
namespace Go.Proofs.Ytjhaihbjhikhlaa
open Go.RowKit

def c0 : Cfg := ⟨4, 0, 9, 8, 0, 0, 0, 0, 0, 0, 0, 0, 0, 0, 0, 0, 0, 0, 0, 0⟩
def cz : Cfg := ⟨0, 0, 0, 0, 0, 0, 0, 0, 0, 0, 0, 0, 0, 0, 0, 0, 0, 0, 0, 0⟩
def o1 : OpM := ⟨1, 7, 0, 0, 0, c0, noBytes⟩
def o2 : OpM := ⟨2, 7, 3, 0, 0, cz, noBytes⟩
def o3 : OpM := ⟨3, 0, 5, 0, 0, cz, noBytes⟩
def o4 : OpM := ⟨2, 7, 5, 0, 0, cz, noBytes⟩
def o5 : OpM := ⟨4, 7, 0, 0, 0, cz, noBytes⟩
def fiveO : List OpM := [o1, o2, o3, o4, o5]
def fiveCells : List Value := o1.cells ++ (o2.cells ++ (o3.cells ++ (o4.cells ++ o5.cells)))
theorem five_run : runM ws0 fiveO = [(0, []), (0, [1]), (0, [0]), (6, []), (0, [0, 1, 1])] := by kernel_rfl

theorem run_b38 (w : World) : (buildBig 36 #[(0, .int .i64 4), (2, .int .i64 9), (3, .int .i64 8)]).run Try.prog w = .ok (.value (.agg c0.cells.toArray)) w := by kernel_rfl
theorem run_b1 (w : World) : (buildBig 38 #[(0, .int .i64 1), (1, .int .i64 7), (5, .agg c0.cells.toArray)]).run Try.prog w = .ok (.value (.agg o1.cells.toArray)) w := by kernel_rfl
theorem run_b2 (w : World) : (buildBig 38 #[(0, .int .i64 2), (1, .int .i64 7), (2, .int .i64 3)]).run Try.prog w = .ok (.value (.agg o2.cells.toArray)) w := by kernel_rfl
theorem run_b3 (w : World) : (buildBig 38 #[(0, .int .i64 3), (2, .int .i64 5)]).run Try.prog w = .ok (.value (.agg o3.cells.toArray)) w := by kernel_rfl
theorem run_b4 (w : World) : (buildBig 38 #[(0, .int .i64 2), (1, .int .i64 7), (2, .int .i64 5)]).run Try.prog w = .ok (.value (.agg o4.cells.toArray)) w := by kernel_rfl
theorem run_b5 (w : World) : (buildBig 38 #[(0, .int .i64 4), (1, .int .i64 7)]).run Try.prog w = .ok (.value (.agg o5.cells.toArray)) w := by kernel_rfl
theorem execOp_build38 (ρ : Operand → Value) (dst : Option Tmp) (x : Array (Nat × Operand)) (ty : TypeId) (pos : String) (after : Array Edge) (guard : Option (Nat × Bool)) :
    execOp ρ { dst, op := .build 36 x, type := ty, pos, after, guard } = buildBig 36 (x.map fun (i, y) => (i, ρ y)) := rfl
theorem execOp_build40 (ρ : Operand → Value) (dst : Option Tmp) (x : Array (Nat × Operand)) (ty : TypeId) (pos : String) (after : Array Edge) (guard : Option (Nat × Bool)) :
    execOp ρ { dst, op := .build 38 x, type := ty, pos, after, guard } = buildBig 38 (x.map fun (i, y) => (i, ρ y)) := rfl
def bsBig (ty : TypeId) (n : Nat) (ps : Array (Nat × Value)) : Sem Next := do pure (.value (← Instr.buildSlice ty n ps))
theorem execOp_bs22 (ρ : Operand → Value) (dst : Option Tmp) (n : Nat) (x : Array (Nat × Operand)) (ty : TypeId) (pos : String) (after : Array Edge) (guard : Option (Nat × Bool)) :
    execOp ρ { dst, op := .buildSlice 22 n x, type := ty, pos, after, guard } = bsBig 22 n (x.map fun (i, y) => (i, ρ y)) := rfl
theorem run_bs (w : World) : (bsBig 22 5 #[(0, .agg o1.cells.toArray), (1, .agg o2.cells.toArray), (2, .agg o3.cells.toArray), (3, .agg o4.cells.toArray), (4, .agg o5.cells.toArray)]).run Try.prog w =
    .ok (.value (.slice (some ⟨w.heap.size, 0, none⟩) 5 5)) (w.alloc (.cells fiveCells.toArray 38)) := by kernel_rfl
theorem execOp_store38 (ρ : Operand → Value) (dst : Option Tmp) (x y : Operand) (ty : TypeId) (pos : String) (after : Array Edge) (guard : Option (Nat × Bool)) :
    execOp ρ { dst, op := .store 36 x y, type := ty, pos, after, guard } = storeBig 36 (ρ x) (ρ y) := rfl
theorem run_store38 (w : World) (zs : List Value) (cs : List Value) (hz : zs.length = 20) (hc : cs.length = 20) (h1 : cs.toArray.all (·.oneCell') = true) :
    (storeBig 36 (.pointer (some ⟨w.heap.size, 0, none⟩)) (.agg cs.toArray)).run Try.prog (w.alloc (.cells zs.toArray 36)) = .ok .skip (w.alloc (.cells cs.toArray 36)) := by
  unfold storeBig
  have ht : (w.alloc (.cells zs.toArray 36)).there w.heap.size 0 cs.toArray.size := by
    intro j hj
    have hj' : j < 20 := by simpa [hc] using hj
    rw [Nat.zero_add, World.cell?_alloc_new, World.frozen?_alloc_new]
    simp [hz, hj']
  rw [Sem.run_bind, run_storeAt_mid _ w.heap.size 0 36 cs.toArray ht (by rw [size38]; simp [hc]) h1]
  have h2 := setFrom_all cs [] zs (by omega)
  simp only [List.nil_append, List.length_nil] at h2
  rw [setCells_new, List.toList_toArray, h2]
  rfl
theorem five_at (w : World) (b : Nat) (h : Blk w b fiveCells 38) : ScriptAt w b 0 fiveO := by
  intro i o ho
  have hi : i < 5 := (List.getElem?_eq_some_iff.1 ho).1
  have hi' : i = 0 ∨ i = 1 ∨ i = 2 ∨ i = 3 ∨ i = 4 := by omega
  have hr : ∀ (off : Nat) (cs : List Value), (fiveCells.drop off).take 26 = cs → w.rangeAt b off cs := by
    intro off cs hcs j v hv
    rw [← hcs, List.getElem?_take] at hv
    split at hv
    · exact h.cell (by simpa using hv)
    · cases hv
  rcases hi' with h' | h' | h' | h' | h'
  all_goals
    subst h'
    injection ho with ho
    subst ho
  · exact hr 0 _ rfl
  · exact hr 26 _ rfl
  · exact hr 52 _ rfl
  · exact hr 78 _ rfl
  · exact hr 104 _ rfl

end Go.Proofs.Ytjhaihbjhikhlaa

namespace Go.Proofs.Ytjhaihbjhikhlaa
open Go.RowKit
attribute [local go_sem ↓] execOp_load38 execOp_load40 execOp_store38 execOp_build38 execOp_build40 execOp_bs22
attribute [local go_sem] run_load38 run_load40 bigVal_drew hasBig_drew bigVal_ne hasBig_ne bigVal_alloc hasBig_alloc run_b38 run_b1 run_b2 run_b3 run_b4 run_b5 run_bs

theorem run_all (sb so cap : Nat) (ops : List OpM) (w : World) (hsc : ScriptAt w sb so ops) (hlt : sb < w.heap.size) (hlen : ops.length ≤ 651562446090) :
    Calls Try.prog 9 #[.slice (some ⟨sb, so, none⟩) ops.length cap] w fun r w' => ∃ v l, r = .returned v ∧ ARep w' w.heap.size v l ∧ l.map (fun x => (x.code, x.nums)) = runM ws0 ops ∧ Keeps (fun _ => False) w w' :=
  run_any sb so cap ops w hsc hlt hlen step_any

theorem ans_row {w : World} {base : Nat} {v : Value} {l : List Ans} (h : ARep w base v l) (hl : l ≠ []) : ∃ g cap, v = .slice (some ⟨g, 0, none⟩) l.length cap ∧ ∀ i u, (ansFlat l)[i]? = some u → w.cell? ⟨g, i, none⟩ = some u := by
  rcases h.row.2 with ⟨_, h2⟩ | ⟨g, cap, cur, h1, _, h3, h4, h5, h6, h7⟩
  · exact absurd (List.length_eq_zero_iff.1 h2) hl
  · refine ⟨g, cap, h1, fun i u hu => ?_⟩
    have hi : i < l.length * 3 := by have := (List.getElem?_eq_some_iff.1 hu).1; have := h.row.1; omega
    have : cur[i]? = some u := by
      rw [← h7, List.getElem?_take, if_pos hi] at hu
      simpa using hu
    simp [World.cell?, h3, this]

theorem list_five {α : Type _} (l : List α) (h : l.length = 5) : ∃ a b c d e, l = [a, b, c, d, e] := by
  cases l with
  | nil => cases h
  | cons a l =>
    cases l with
    | nil => cases h
    | cons b l =>
      cases l with
      | nil => cases h
      | cons c l =>
        cases l with
        | nil => cases h
        | cons d l =>
          cases l with
          | nil => cases h
          | cons e l =>
            cases l with
            | nil => exact ⟨a, b, c, d, e, rfl⟩
            | cons f l => simp at h

set_option maxRecDepth 100000 in
set_option maxHeartbeats 4000000 in
theorem awake_any (w : World) : Calls Try.prog 7 #[] w fun e w' => e = .returned (.bool true) ∧ Keeps (fun _ => False) w w' := by
  have hst : ∀ zs : List Value, zs.length = 20 → (storeBig 36 (.pointer (some ⟨w.heap.size, 0, none⟩)) (.agg c0.cells.toArray)).run Try.prog (w.alloc (.cells zs.toArray 36)) = .ok .skip (w.alloc (.cells c0.cells.toArray 36)) := fun zs hz => run_store38 w zs c0.cells hz rfl (by simp [Cfg.cells, Value.oneCell'])
  have hv1 : bigVal (w.alloc (.cells c0.cells.toArray 36)) w.heap.size 0 20 = .agg c0.cells.toArray := bigVal_new w c0.cells 36 20 rfl
  have hh1 : hasBig (w.alloc (.cells c0.cells.toArray 36)) w.heap.size 0 20 = true := hasBig_new w c0.cells 36 20 rfl
  have HK0 := hide (((Keeps.refl (fun _ => False) w).alloc (.cells c0.cells.toArray 36)).alloc (.cells fiveCells.toArray 38))
  have HB0 := hide (show Blk ((w.alloc (.cells c0.cells.toArray 36)).alloc (.cells fiveCells.toArray 38)) (w.heap.size + 1) fiveCells 38 from Blk.newAt (by simp) _ _)
  go_enter Try.func7, Try.ntmps7
  go_wp2_with fail
  refine (run_all (w.heap.size + 1) 0 5 fiveO _ (five_at _ _ (unhide HB0)) (unhide HB0).lt (by decide)).mono ?_
  rintro r w1 ⟨v, l, rfl, hA, hM, hk1⟩
  rw [five_run] at hM
  obtain ⟨x0, x1, x2, x3, x4, hl5⟩ := list_five l (by have := congrArg List.length hM; simpa using this)
  subst hl5
  simp only [List.map_cons, List.map_nil, List.cons.injEq, Prod.mk.injEq, and_true] at hM
  obtain ⟨⟨k0, m0⟩, ⟨k1, m1⟩, ⟨k2, m2⟩, ⟨k3, m3⟩, k4, m4⟩ := hM
  obtain ⟨g, cap, hv, hc⟩ := ans_row hA (by simp)
  have n1 := hA.nums x1 (by simp)
  have n4 := hA.nums x4 (by simp)
  rw [m1] at n1
  rw [m4] at n4
  rcases num_cells n1 with ⟨h, _⟩ | ⟨g1, cp1, hv1', hn1⟩
  · cases h
  rcases num_cells n4 with ⟨h, _⟩ | ⟨g4, cp4, hv4', hn4⟩
  · cases h
  have y0 : w1.cell? ⟨g, 0, none⟩ = some (.int .i64 0) := (hc 0 _ rfl).trans (by rw [k0])
  have y1 : w1.cell? ⟨g, 3, none⟩ = some (.int .i64 0) := (hc 3 _ rfl).trans (by rw [k1])
  have y2 : w1.cell? ⟨g, 6, none⟩ = some (.int .i64 0) := (hc 6 _ rfl).trans (by rw [k2])
  have y3 : w1.cell? ⟨g, 9, none⟩ = some (.int .i64 6) := (hc 9 _ rfl).trans (by rw [k3])
  have y4 : w1.cell? ⟨g, 12, none⟩ = some (.int .i64 0) := (hc 12 _ rfl).trans (by rw [k4])
  have z1 : w1.cell? ⟨g, 4, none⟩ = some (.slice (some ⟨g1, 0, none⟩) 1 cp1) := (hc 4 _ rfl).trans (by rw [hv1']; rfl)
  have z4 : w1.cell? ⟨g, 13, none⟩ = some (.slice (some ⟨g4, 0, none⟩) 3 cp4) := (hc 13 _ rfl).trans (by rw [hv4']; rfl)
  have p1 : w1.cell? ⟨g1, 0, none⟩ = some (.int .i64 1) := hn1 0 (by simp)
  have q0 : w1.cell? ⟨g4, 0, none⟩ = some (.int .i64 0) := hn4 0 (by simp)
  have q1 : w1.cell? ⟨g4, 1, none⟩ = some (.int .i64 1) := hn4 1 (by simp)
  have q2 : w1.cell? ⟨g4, 2, none⟩ = some (.int .i64 1) := hn4 2 (by simp)
  have HK1 := hide ((unhide HK0).then hk1)
  rw [hv]
  clear hA hk1 hc n1 n4 hn1 hn4 hv hv1' hv4' k0 k1 k2 k3 k4 m0 m1 m2 m3 m4 hst hv1 hh1 HK0 HB0
  show _
  go_wp2
  go_ret
  exact ⟨rfl, unhide HK1⟩

end Go.Proofs.Ytjhaihbjhikhlaa

namespace Go.Proofs.Ytjhaihbjhikhlaa
open Go.RowKit
attribute [local go_sem ↓] execOp_load38 execOp_load40 execOp_store40
attribute [local go_sem] run_load38 run_load40 bigVal_drew hasBig_drew bigVal_ne hasBig_ne bigVal_alloc hasBig_alloc

theorem step_nums (s : WS) (o : OpM) : (stepM s o).2.2.length ≤ 9 := by
  unfold stepM
  split
  · unfold createM; (repeat' split) <;> simp
  split
  · unfold addM; (repeat' split) <;> simp
  split
  · unfold tickM; (repeat' split) <;> simp
  split
  · unfold queryM; split
    · simp
    · unfold qryN; (repeat' split) <;> simp
  split
  · unfold statsM; (repeat' split) <;> simp [statsL, toldL]
  · simp
theorem runM_nums (s : WS) (ops : List OpM) (x : Int × List Int) (h : x ∈ runM s ops) : x.2.length ≤ 9 := by
  induction ops generalizing s with
  | nil => simp [runM] at h
  | cons o r ih =>
    rcases List.mem_cons.1 h with h | h
    · subst h; exact step_nums s o
    · exact ih _ h

set_option maxRecDepth 100000 in
set_option maxHeartbeats 4000000 in
theorem run_nil (a : Option Addr) (cap : Nat) (w : World) :
    Calls Try.prog 9 #[.slice a 0 cap] w fun r w' => ∃ v l, r = .returned v ∧ ARep w' w.heap.size v l ∧ l.map (fun x => (x.code, x.nums)) = runM ws0 [] ∧ Keeps (fun _ => False) w w' := by
  obtain ⟨i0, hi0, hz0, hz1, hz2⟩ := info_parts info33
  go_enter Try.func9, Try.ntmps9
  go_wp2_with (at_make; refine wpList_make_own _ rfl _ _ _ rfl w.heap.size 31 i0 _ 3 Try.underlying25 hi0 hz0 hz1 _ _ _ 0 rfl rfl rfl (by rw [hz2]; omega) (by unfold maxLen; omega) (by simp) ?_; intro w1 ho1 hg1)
  rw [World.size_alloc] at ho1
  have hkw1 : Keeps (fun _ => False) w w1 := ((Keeps.refl (fun _ => False) w).alloc _).grown hg1 (fun k hk => by cases hk)
  have HA1 := hide (show ARep w1 w.heap.size (.slice (some ⟨w.heap.size + 1, 0, none⟩) 0 0) [] from ⟨ho1, fun x hx => by simp at hx, fun x hx => by simp at hx⟩)
  have HK1 := hide hkw1
  clear hg1 ho1 hkw1
  go_loopw [4, 12] (fun av i wr => i = .int .i64 0 ∧ av = .slice (some ⟨w.heap.size + 1, 0, none⟩) 0 0 ∧ wr = w1) (fun _ _ _ => 0)
  case atStart => exact ⟨rfl, rfl, rfl⟩
  case round =>
    obtain ⟨rfl, rfl, rfl⟩ := hrel
    go_wp2
    go_ret
    exact ⟨_, [], rfl, unhide HA1, rfl, unhide HK1⟩

/-- A script as a value. -/
def ScriptV (w : World) (v : Value) (ops : List OpM) : Prop := (v = .slice none 0 0 ∧ ops = []) ∨ ∃ sb so cap, v = .slice (some ⟨sb, so, none⟩) ops.length cap ∧ ops.length ≤ cap ∧ ScriptAt w sb so ops ∧ sb < w.heap.size
theorem ScriptV.keeps {w w' : World} {v : Value} {ops : List OpM} (h : ScriptV w v ops) (hk : Keeps (fun _ => False) w w') : ScriptV w' v ops := by
  rcases h with h | ⟨sb, so, cap, h1, h2, h3, h4⟩
  · exact .inl h
  · refine .inr ⟨sb, so, cap, h1, h2, ?_, by have := hk.size; omega⟩
    intro i o ho j u hu
    exact hk.cell (h3 i o ho j u hu) (fun h => h)
theorem run_script (v : Value) (ops : List OpM) (w : World) (h : ScriptV w v ops) (hlen : ops.length ≤ 651562446090) :
    Calls Try.prog 9 #[v] w fun r w' => ∃ v l, r = .returned v ∧ ARep w' w.heap.size v l ∧ l.map (fun x => (x.code, x.nums)) = runM ws0 ops ∧ Keeps (fun _ => False) w w' := by
  rcases h with ⟨rfl, rfl⟩ | ⟨sb, so, cap, rfl, h2, h3, h4⟩
  · exact run_nil none 0 w
  · exact run_all sb so cap ops w h3 h4 hlen

end Go.Proofs.Ytjhaihbjhikhlaa

namespace Go.Proofs.Ytjhaihbjhikhlaa
open Go.RowKit
attribute [local go_sem ↓] execOp_load38 execOp_load40 execOp_store40
attribute [local go_sem] run_load38 run_load40 bigVal_drew hasBig_drew bigVal_ne hasBig_ne bigVal_alloc hasBig_alloc

theorem ansFlat_get (l : List Ans) (i j : Nat) (x : Ans) (h : l[i]? = some x) (hj : j < 3) : (ansFlat l)[i * 3 + j]? = x.cells[j]? := by
  induction l generalizing i with
  | nil => simp at h
  | cons a l ih =>
    have hc : ansFlat (a :: l) = a.cells ++ ansFlat l := by simp [ansFlat]
    rw [hc]
    cases i with
    | zero =>
      have : a = x := by simpa using h
      subst this
      rw [List.getElem?_append_left (by simp [Ans.cells]; omega)]
      simp
    | succ i =>
      rw [List.getElem?_append_right (by simp [Ans.cells]; omega)]
      have := ih i (by simpa using h)
      rw [← this]
      congr 1
      simp [Ans.cells]; omega
theorem row_form {w : World} {base T c : Nat} {v : Value} {n : Nat} {l : List Value} (h : w.ownsRow base T c v n l) : ∃ a cap, v = .slice a n cap := by
  rcases h.2 with ⟨h1, h2⟩ | ⟨g, cap, cur, h1, _⟩
  · exact ⟨none, 0, by rw [h1, h2]⟩
  · exact ⟨_, _, h1⟩
theorem ans_cells {w : World} {base : Nat} {a : Option Addr} {n cap : Nat} {l : List Ans} (h : ARep w base (.slice a n cap) l) (i : Nat) (x : Ans) (hx : l[i]? = some x) :
    ∃ g, a = some ⟨g, 0, none⟩ ∧ w.cell? ⟨g, i * 3, none⟩ = some (.int .i64 x.code) ∧ w.cell? ⟨g, i * 3 + 1, none⟩ = some x.nv ∧ w.cell? ⟨g, i * 3 + 2, none⟩ = some (.string noBytes) := by
  obtain ⟨g, cap', hv, hc⟩ := ans_row h (by intro h; rw [h] at hx; simp at hx)
  injection hv with h1 h2 h3
  exact ⟨g, h1, hc _ _ (ansFlat_get l i 0 x hx (by omega)), hc _ _ (ansFlat_get l i 1 x hx (by omega)), hc _ _ (ansFlat_get l i 2 x hx (by omega))⟩
theorem two_ans {la lb : List Ans} {r : List (Int × List Int)} {k i : Nat} (hA : la.map (fun x => (x.code, x.nums)) = r) (hB : lb.map (fun x => (x.code, x.nums)) = r.take k) (hi : i < k) (ha : i < la.length) (hb : i < lb.length) :
    ∃ xa xb, la[i]? = some xa ∧ lb[i]? = some xb ∧ xa.code = xb.code ∧ xa.nums = xb.nums := by
  refine ⟨la[i], lb[i], List.getElem?_eq_getElem ha, List.getElem?_eq_getElem hb, ?_⟩
  have h1 : (la.map (fun x => (x.code, x.nums)))[i]? = some (la[i].code, la[i].nums) := by rw [List.getElem?_map, List.getElem?_eq_getElem ha]; rfl
  have h2 : (lb.map (fun x => (x.code, x.nums)))[i]? = some (lb[i].code, lb[i].nums) := by rw [List.getElem?_map, List.getElem?_eq_getElem hb]; rfl
  rw [hA] at h1
  rw [hB, List.getElem?_take, if_pos hi, h1] at h2
  injection h2 with h2
  injection h2 with h3 h4
  exact ⟨h3, h4⟩
theorem runM_take (s : WS) (ops : List OpM) (k : Nat) : runM s (ops.take k) = (runM s ops).take k := by
  by_cases h : k ≤ ops.length
  · have h1 := runM_append s (ops.take k) (ops.drop k)
    rw [List.take_append_drop] at h1
    rw [h1, List.take_append_of_le_length (by rw [runM_length, List.length_take]; omega)]
    exact (List.take_of_length_le (by rw [runM_length, List.length_take]; omega)).symm
  · rw [List.take_of_length_le (by omega), List.take_of_length_le (by rw [runM_length]; omega)]

set_option maxRecDepth 100000 in
set_option maxHeartbeats 4000000 in
theorem pre_some (sb so cap : Nat) (ops : List OpM) (n : Int) (w : World) (hcap : ops.length ≤ cap) (hcap2 : cap ≤ 651562446090) (hsc : ScriptAt w sb so ops) (hlt : sb < w.heap.size) (n0 : -9223372036854775808 ≤ n) (n1 : n ≤ 9223372036854775807) :
    Calls Try.prog 3 #[.slice (some ⟨sb, so, none⟩) ops.length cap, .int .i64 n] w fun r w' => r = .returned (.bool true) ∧ Keeps (fun _ => False) w w' := by
  have HSC := hide hsc
  clear hsc
  generalize hL : ops.length = L at *
  have HL := hide hL
  clear hL
  go_enter Try.func3, Try.ntmps3
  go_wp2_with fail
  refine (awake_any w).mono ?_
  rintro r w1 ⟨rfl, hk1⟩
  have HK1 := hide hk1
  clear hk1
  go_wp2_with fail
  refine (pick_any n ((L : Int) + 1) w1 (by omega) (by omega) n0 n1).mono ?_
  rintro r w1' ⟨k, hk, rfl, hw⟩
  rw [hw]
  clear hw w1'
  go_wp2_with fail
  have hs1 : ScriptAt w1 sb so ops := by
    intro i o ho j u hu
    exact (unhide HK1).cell (unhide HSC i o ho j u hu) (fun h => h)
  have hlt1 : sb < w1.heap.size := by have := (unhide HK1).size; omega
  have ha := run_all sb so cap ops w1 hs1 hlt1 (by have := unhide HL; omega)
  rw [unhide HL] at ha
  refine ha.mono ?_
  clear ha hs1
  rintro r w2 ⟨va, la, rfl, hA, hMA, hk2⟩
  have HK2 := hide ((unhide HK1).then hk2)
  have HA := hide hA
  have HMA := hide hMA
  clear hA hMA
  have hkc : (k : Int) ≤ (cap : Int) := by omega
  go_wp2_with fail
  have hs2 : ScriptAt w2 sb so (ops.take k) := by
    intro i o ho j u hu
    have ho' : ops[i]? = some o := by
      rw [List.getElem?_take] at ho
      split at ho
      · exact ho
      · cases ho
    exact (unhide HK2).cell (unhide HSC i o ho' j u hu) (fun h => h)
  have hlt2 : sb < w2.heap.size := by have := hk2.size; omega
  have hkl : (ops.take k).length = k := by rw [List.length_take, unhide HL]; omega
  have hb := run_all sb so cap (ops.take k) w2 hs2 hlt2 (by omega)
  rw [hkl] at hb
  refine hb.mono ?_
  clear hb hs2 hk2
  rintro r w3 ⟨vb, lb, rfl, hB, hMB, hk3⟩
  have hA := (unhide HA).keeps hk3 (fun _ _ h => h)
  have HK3 := hide ((unhide HK2).then hk3)
  have hla : la.length = L := by
    have := congrArg List.length (unhide HMA)
    rw [List.length_map, runM_length, unhide HL] at this
    exact this
  have hlb : lb.length = k := by
    have := congrArg List.length hMB
    rw [List.length_map, runM_length, hkl] at this
    exact this
  have HLA := hide hla
  have HLB := hide hlb
  rw [runM_take] at hMB
  have HMB := hide hMB
  obtain ⟨aa, ca, ea⟩ := row_form hA.row
  obtain ⟨ab, cb, eb⟩ := row_form hB.row
  have HEA := hide ea
  have HEB := hide eb
  rw [hla] at ea
  rw [hlb] at eb
  have HA3 := hide hA
  have HB3 := hide hB
  clear hA hB hk3 hMB hla hlb HA HK2 HK1
  subst ea eb
  go_wp2
  clear HEA HEB
  go_loopw [5, 9] (fun okv i wr => ∃ j : Nat, j ≤ k ∧ i = .int .i64 j ∧ okv = .bool true ∧ Hid (Keeps (fun _ => False) w3 wr)) (fun _ i _ => k - (intOf i).toNat)
  case atStart => exact ⟨0, by omega, rfl, rfl, Keeps.refl _ _⟩
  case round =>
    obtain ⟨j, hj, rfl, rfl, HK⟩ := hrel
    by_cases hjk : j < k
    · obtain ⟨xa, xb, hxa, hxb, hcode, hnums⟩ := two_ans (unhide HMA) (unhide HMB) hjk (by rw [unhide HLA]; omega) (by rw [unhide HLB]; omega)
      have hAr := (unhide HA3).keeps (unhide HK) (fun _ _ h => h)
      have hBr := (unhide HB3).keeps (unhide HK) (fun _ _ h => h)
      obtain ⟨ga, rfl, a0, a1, a2⟩ := ans_cells hAr j xa hxa
      obtain ⟨gb, rfl, b0, b1, b2⟩ := ans_cells hBr j xb hxb
      have HNA := hide (hAr.nums xa (List.mem_of_getElem? hxa))
      have hnb := hBr.nums xb (List.mem_of_getElem? hxb)
      rw [← hnums] at hnb
      have HNB := hide hnb
      rw [← hcode] at b0
      have HN9 := hide (show xa.nums.length ≤ 1000 by
        have : (xa.code, xa.nums) ∈ runM ws0 ops := by rw [← unhide HMA]; exact List.mem_map_of_mem (f := fun x : Ans => (x.code, x.nums)) (List.mem_of_getElem? hxa)
        have := runM_nums _ _ _ this
        simp only at this; omega)
      clear hAr hBr hnb hxa hxb hcode hnums
      generalize xa.code = code at *
      obtain ⟨na, nca, ena⟩ := row_form (unhide HNA)
      obtain ⟨nb, ncb, enb⟩ := row_form (unhide HNB)
      rw [ena] at HNA a1
      rw [enb] at HNB b1
      clear ena enb
      generalize xa.nums = nums at *
      have hj0 : (0 : Int) ≤ (j : Int) := by omega
      have hjL : (j : Int) < (L : Int) := by omega
      have hjk' : (j : Int) < (k : Int) := by omega
      go_wp2_with fail
      go_region_held3 (fun w' => w'.cell? ⟨ga, j * 3, none⟩ = some (.int .i64 code) ∧ w'.cell? ⟨ga, j * 3 + 1, none⟩ = some (.slice na nums.length nca) ∧ w'.cell? ⟨ga, j * 3 + 2, none⟩ = some (.string noBytes) ∧
          w'.cell? ⟨gb, j * 3, none⟩ = some (.int .i64 code) ∧ w'.cell? ⟨gb, j * 3 + 1, none⟩ = some (.slice nb nums.length ncb) ∧ w'.cell? ⟨gb, j * 3 + 2, none⟩ = some (.string noBytes))
        (first | (simp [*]; done) | (go_split_ands; exact ⟨hk4.cell (by assumption) (fun h => h), hk4.cell (by assumption) (fun h => h), hk4.cell (by assumption) (fun h => h), hk4.cell (by assumption) (fun h => h), hk4.cell (by assumption) (fun h => h), hk4.cell (by assumption) (fun h => h)⟩))
        (first | (go_at_call 10; refine (same_any _ _ code _ _ nums _ (by exact owns_keeps (unhide HNA) ((Keeps.refl (fun _ => False) wr).drew) (fun _ _ h => h)) (by exact owns_keeps (unhide HNB) ((Keeps.refl (fun _ => False) wr).drew) (fun _ _ h => h)) (unhide HN9)).mono ?_; rintro r w4 ⟨rfl, hk4⟩))
      have HK4 := hide ((unhide HK).then (((Keeps.refl (fun _ => False) wr).drew).then hk4))
      clear hk4
      go_wp2
      go_roundw
      case rel => exact ⟨j + 1, by omega, by go_num, rfl, HK4⟩
      case measure => simp [intOf]; omega
    · go_wp2
      go_ret
      exact ⟨rfl, (unhide HK3).then (unhide HK)⟩

end Go.Proofs.Ytjhaihbjhikhlaa

namespace Go.Proofs.Ytjhaihbjhikhlaa
open Go.RowKit

set_option maxRecDepth 100000 in
set_option maxHeartbeats 4000000 in
theorem pre_nil (a : Option Addr) (cap : Nat) (n : Int) (w : World) (n0 : -9223372036854775808 ≤ n) (n1 : n ≤ 9223372036854775807) :
    Calls Try.prog 3 #[.slice a 0 cap, .int .i64 n] w fun r w' => r = .returned (.bool true) ∧ Keeps (fun _ => False) w w' := by
  go_enter Try.func3, Try.ntmps3
  go_wp2_with fail
  refine (awake_any w).mono ?_
  rintro r w1 ⟨rfl, hk1⟩
  have HK1 := hide hk1
  clear hk1
  go_wp2_with fail
  refine (pick_any n 1 w1 (by omega) (by omega) n0 n1).mono ?_
  rintro r w1' ⟨k, hk, rfl, hw⟩
  rw [hw]
  clear hw w1'
  have hk0 : k = 0 := by omega
  subst hk0
  go_wp2_with fail
  refine (run_nil a cap w1).mono ?_
  rintro r w2 ⟨va, la, rfl, hA, hMA, hk2⟩
  have hla : la = [] := by simpa [runM] using hMA
  subst hla
  have HK2 := hide ((unhide HK1).then hk2)
  obtain ⟨aa, ca, rfl⟩ := row_form hA.row
  clear hA hMA hk2 HK1
  go_wp2_with fail
  refine (run_nil _ _ w2).mono ?_
  rintro r w3 ⟨vb, lb, rfl, hB, hMB, hk3⟩
  have hlb : lb = [] := by simpa [runM] using hMB
  subst hlb
  have HK3 := hide ((unhide HK2).then hk3)
  obtain ⟨ab, cb, rfl⟩ := row_form hB.row
  clear hB hMB hk3 HK2
  go_wp2
  go_loopw [5, 9] (fun okv i wr => i = .int .i64 0 ∧ okv = .bool true ∧ wr = w3) (fun _ _ _ => 0)
  case atStart => exact ⟨rfl, rfl, rfl⟩
  case round =>
    obtain ⟨rfl, rfl, rfl⟩ := hrel
    go_wp2
    go_ret
    exact ⟨rfl, unhide HK3⟩

end Go.Proofs.Ytjhaihbjhikhlaa
