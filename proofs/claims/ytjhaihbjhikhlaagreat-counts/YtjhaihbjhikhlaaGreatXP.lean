import Derived.Test.YtjhaihbjhikhlaaGreatP
import Derived.Test.YtjhaihbjhikhlaaGreatE12
namespace Go.Proofs.YtjhaihbjhikhlaaGreat
open Go.RowKit

def c0 : Cfg := ⟨4, 0, 9, 8, 0, 0, 0, 0, 0, 0, 0, 0, 0, 0, 0, 0, 0, 0, 0, 0⟩
def cz : Cfg := ⟨0, 0, 0, 0, 0, 0, 0, 0, 0, 0, 0, 0, 0, 0, 0, 0, 0, 0, 0, 0⟩
def o1 : OpM := ⟨1, 7, 0, 0, 0, c0, noBytes⟩
def o2 : OpM := ⟨2, 7, 3, 0, 0, cz, noBytes⟩
def o3 : OpM := ⟨3, 0, 5, 0, 0, cz, noBytes⟩
def o4 : OpM := ⟨2, 7, 5, 0, 0, cz, noBytes⟩
def o5 : OpM := ⟨4, 7, 0, 0, 0, cz, noBytes⟩
def fiveO : List OpM := [o1, o2, o3, o4, o5]
def fiveCells : List Value := o1.cells ++ (o2.cells ++ (o3.cells ++ (o4.cells ++ o5.cells)))
theorem five_run : runM ws0 fiveO = [(0, []), (0, [1]), (0, [0]), (6, []), (0, [0, 1, 1])] := by kernel_rfl

theorem run_b38 (w : World) : (buildBig 33 #[(0, .int .i64 4), (2, .int .i64 9), (3, .int .i64 8)]).run Tryz.prog w = .ok (.value (.agg c0.cells.toArray)) w := by kernel_rfl
theorem run_b1 (w : World) : (buildBig 35 #[(0, .int .i64 1), (1, .int .i64 7), (5, .agg c0.cells.toArray)]).run Tryz.prog w = .ok (.value (.agg o1.cells.toArray)) w := by kernel_rfl
theorem run_b2 (w : World) : (buildBig 35 #[(0, .int .i64 2), (1, .int .i64 7), (2, .int .i64 3)]).run Tryz.prog w = .ok (.value (.agg o2.cells.toArray)) w := by kernel_rfl
theorem run_b3 (w : World) : (buildBig 35 #[(0, .int .i64 3), (2, .int .i64 5)]).run Tryz.prog w = .ok (.value (.agg o3.cells.toArray)) w := by kernel_rfl
theorem run_b4 (w : World) : (buildBig 35 #[(0, .int .i64 2), (1, .int .i64 7), (2, .int .i64 5)]).run Tryz.prog w = .ok (.value (.agg o4.cells.toArray)) w := by kernel_rfl
theorem run_b5 (w : World) : (buildBig 35 #[(0, .int .i64 4), (1, .int .i64 7)]).run Tryz.prog w = .ok (.value (.agg o5.cells.toArray)) w := by kernel_rfl
theorem execOp_build38 (ρ : Operand → Value) (dst : Option Tmp) (x : Array (Nat × Operand)) (ty : TypeId) (pos : String) (after : Array Edge) (guard : Option (Nat × Bool)) :
    execOp ρ { dst, op := .build 33 x, type := ty, pos, after, guard } = buildBig 33 (x.map fun (i, y) => (i, ρ y)) := rfl
theorem execOp_build40 (ρ : Operand → Value) (dst : Option Tmp) (x : Array (Nat × Operand)) (ty : TypeId) (pos : String) (after : Array Edge) (guard : Option (Nat × Bool)) :
    execOp ρ { dst, op := .build 35 x, type := ty, pos, after, guard } = buildBig 35 (x.map fun (i, y) => (i, ρ y)) := rfl
def bsBig (ty : TypeId) (n : Nat) (ps : Array (Nat × Value)) : Sem Next := do pure (.value (← Instr.buildSlice ty n ps))
theorem execOp_bs22 (ρ : Operand → Value) (dst : Option Tmp) (n : Nat) (x : Array (Nat × Operand)) (ty : TypeId) (pos : String) (after : Array Edge) (guard : Option (Nat × Bool)) :
    execOp ρ { dst, op := .buildSlice 22 n x, type := ty, pos, after, guard } = bsBig 22 n (x.map fun (i, y) => (i, ρ y)) := rfl
theorem run_bs (w : World) : (bsBig 22 5 #[(0, .agg o1.cells.toArray), (1, .agg o2.cells.toArray), (2, .agg o3.cells.toArray), (3, .agg o4.cells.toArray), (4, .agg o5.cells.toArray)]).run Tryz.prog w =
    .ok (.value (.slice (some ⟨w.heap.size, 0, none⟩) 5 5)) (w.alloc (.cells fiveCells.toArray 35)) := by kernel_rfl
theorem execOp_store38 (ρ : Operand → Value) (dst : Option Tmp) (x y : Operand) (ty : TypeId) (pos : String) (after : Array Edge) (guard : Option (Nat × Bool)) :
    execOp ρ { dst, op := .store 33 x y, type := ty, pos, after, guard } = storeBig 33 (ρ x) (ρ y) := rfl
theorem run_store38 (w : World) (zs : List Value) (cs : List Value) (hz : zs.length = 20) (hc : cs.length = 20) (h1 : cs.toArray.all (·.oneCell') = true) :
    (storeBig 33 (.pointer (some ⟨w.heap.size, 0, none⟩)) (.agg cs.toArray)).run Tryz.prog (w.alloc (.cells zs.toArray 33)) = .ok .skip (w.alloc (.cells cs.toArray 33)) := by
  unfold storeBig
  have ht : (w.alloc (.cells zs.toArray 33)).there w.heap.size 0 cs.toArray.size := by
    intro j hj
    have hj' : j < 20 := by simpa [hc] using hj
    rw [Nat.zero_add, World.cell?_alloc_new, World.frozen?_alloc_new]
    simp [hz, hj']
  rw [Sem.run_bind, run_storeAt_mid _ w.heap.size 0 33 cs.toArray ht (by rw [size38]; simp [hc]) h1]
  have h2 := setFrom_all cs [] zs (by omega)
  simp only [List.nil_append, List.length_nil] at h2
  rw [setCells_new, List.toList_toArray, h2]
  rfl
theorem five_at (w : World) (b : Nat) (h : Blk w b fiveCells 35) : ScriptAt w b 0 fiveO := by
  intro i o ho
  have hi : i < 5 := (List.getElem?_eq_some_iff.1 ho).1
  have hi' : i = 0 ∨ i = 1 ∨ i = 2 ∨ i = 3 ∨ i = 4 := by omega
  have hr : ∀ (off : Nat) (cs : List Value), (fiveCells.drop off).take 26 = cs → w.rangeAt b off cs := by
    intro off cs hcs j v hv
    rw [← hcs, List.getElem?_take] at hv
    split at hv
    · exact h.cell (by simpa using hv)
    · cases hv
  rcases hi' with h' | h' | h' | h' | h'
  all_goals
    subst h'
    injection ho with ho
    subst ho
  · exact hr 0 _ rfl
  · exact hr 26 _ rfl
  · exact hr 52 _ rfl
  · exact hr 78 _ rfl
  · exact hr 104 _ rfl

end Go.Proofs.YtjhaihbjhikhlaaGreat

namespace Go.Proofs.YtjhaihbjhikhlaaGreat
open Go.RowKit
attribute [local go_sem ↓] execOp_load38 execOp_load40 execOp_store38 execOp_build38 execOp_build40 execOp_bs22
attribute [local go_sem] run_load38 run_load40 bigVal_drew hasBig_drew bigVal_ne hasBig_ne bigVal_alloc hasBig_alloc run_b38 run_b1 run_b2 run_b3 run_b4 run_b5 run_bs

theorem run_all (sb so cap : Nat) (ops : List OpM) (w : World) (hsc : ScriptAt w sb so ops) (hlt : sb < w.heap.size) (hlen : ops.length ≤ 651562446090) :
    Calls Tryz.prog 10 #[.slice (some ⟨sb, so, none⟩) ops.length cap] w fun r w' => ∃ v l, r = .returned v ∧ ARep w' w.heap.size v l ∧ l.map (fun x => (x.code, x.nums)) = runM ws0 ops ∧ Keeps (fun _ => False) w w' :=
  run_any sb so cap ops w hsc hlt hlen step_any

theorem ans_row {w : World} {base : Nat} {v : Value} {l : List Ans} (h : ARep w base v l) (hl : l ≠ []) : ∃ g cap, v = .slice (some ⟨g, 0, none⟩) l.length cap ∧ ∀ i u, (ansFlat l)[i]? = some u → w.cell? ⟨g, i, none⟩ = some u := by
  rcases h.row.2 with ⟨_, h2⟩ | ⟨g, cap, cur, h1, _, h3, h4, h5, h6, h7⟩
  · exact absurd (List.length_eq_zero_iff.1 h2) hl
  · refine ⟨g, cap, h1, fun i u hu => ?_⟩
    have hi : i < l.length * 3 := by have := (List.getElem?_eq_some_iff.1 hu).1; have := h.row.1; omega
    have : cur[i]? = some u := by
      rw [← h7, List.getElem?_take, if_pos hi] at hu
      simpa using hu
    simp [World.cell?, h3, this]

theorem list_five {α : Type _} (l : List α) (h : l.length = 5) : ∃ a b c d e, l = [a, b, c, d, e] := by
  cases l with
  | nil => cases h
  | cons a l =>
    cases l with
    | nil => cases h
    | cons b l =>
      cases l with
      | nil => cases h
      | cons c l =>
        cases l with
        | nil => cases h
        | cons d l =>
          cases l with
          | nil => cases h
          | cons e l =>
            cases l with
            | nil => exact ⟨a, b, c, d, e, rfl⟩
            | cons f l => simp at h

end Go.Proofs.YtjhaihbjhikhlaaGreat

namespace Go.Proofs.YtjhaihbjhikhlaaGreat
open Go.RowKit
attribute [local go_sem ↓] execOp_load38 execOp_load40 execOp_store40
attribute [local go_sem] run_load38 run_load40 bigVal_drew hasBig_drew bigVal_ne hasBig_ne bigVal_alloc hasBig_alloc

theorem step_nums (s : WS) (o : OpM) : (stepM s o).2.2.length ≤ 9 := by
  unfold stepM
  split
  · unfold createM; (repeat' split) <;> simp
  split
  · unfold addM; (repeat' split) <;> simp
  split
  · unfold tickM; (repeat' split) <;> simp
  split
  · unfold queryM; split
    · simp
    · unfold qryN; (repeat' split) <;> simp
  split
  · unfold statsM; (repeat' split) <;> simp [statsL, toldL]
  · simp
theorem runM_nums (s : WS) (ops : List OpM) (x : Int × List Int) (h : x ∈ runM s ops) : x.2.length ≤ 9 := by
  induction ops generalizing s with
  | nil => simp [runM] at h
  | cons o r ih =>
    rcases List.mem_cons.1 h with h | h
    · subst h; exact step_nums s o
    · exact ih _ h

set_option maxRecDepth 100000 in
set_option maxHeartbeats 4000000 in
theorem run_nil (a : Option Addr) (cap : Nat) (w : World) :
    Calls Tryz.prog 10 #[.slice a 0 cap] w fun r w' => ∃ v l, r = .returned v ∧ ARep w' w.heap.size v l ∧ l.map (fun x => (x.code, x.nums)) = runM ws0 [] ∧ Keeps (fun _ => False) w w' := by
  obtain ⟨i0, hi0, hz0, hz1, hz2⟩ := info_parts info33
  go_enter Tryz.func10, Tryz.ntmps10
  go_wp2_with (at_make; refine wpList_make_own _ rfl _ _ _ rfl w.heap.size 41 i0 _ 3 Tryz.underlying27 hi0 hz0 hz1 _ _ _ 0 rfl rfl rfl (by rw [hz2]; omega) (by unfold maxLen; omega) (by simp) ?_; intro w1 ho1 hg1)
  rw [World.size_alloc] at ho1
  have hkw1 : Keeps (fun _ => False) w w1 := ((Keeps.refl (fun _ => False) w).alloc _).grown hg1 (fun k hk => by cases hk)
  have HA1 := hide (show ARep w1 w.heap.size (.slice (some ⟨w.heap.size + 1, 0, none⟩) 0 0) [] from ⟨ho1, fun x hx => by simp at hx, fun x hx => by simp at hx⟩)
  have HK1 := hide hkw1
  clear hg1 ho1 hkw1
  go_loopw [4, 12] (fun av i wr => i = .int .i64 0 ∧ av = .slice (some ⟨w.heap.size + 1, 0, none⟩) 0 0 ∧ wr = w1) (fun _ _ _ => 0)
  case atStart => exact ⟨rfl, rfl, rfl⟩
  case round =>
    obtain ⟨rfl, rfl, rfl⟩ := hrel
    go_wp2
    go_ret
    exact ⟨_, [], rfl, unhide HA1, rfl, unhide HK1⟩

/-- A script as a value. -/
def ScriptV (w : World) (v : Value) (ops : List OpM) : Prop := (v = .slice none 0 0 ∧ ops = []) ∨ ∃ sb so cap, v = .slice (some ⟨sb, so, none⟩) ops.length cap ∧ ops.length ≤ cap ∧ ScriptAt w sb so ops ∧ sb < w.heap.size
theorem ScriptV.keeps {w w' : World} {v : Value} {ops : List OpM} (h : ScriptV w v ops) (hk : Keeps (fun _ => False) w w') : ScriptV w' v ops := by
  rcases h with h | ⟨sb, so, cap, h1, h2, h3, h4⟩
  · exact .inl h
  · refine .inr ⟨sb, so, cap, h1, h2, ?_, by have := hk.size; omega⟩
    intro i o ho j u hu
    exact hk.cell (h3 i o ho j u hu) (fun h => h)
theorem run_script (v : Value) (ops : List OpM) (w : World) (h : ScriptV w v ops) (hlen : ops.length ≤ 651562446090) :
    Calls Tryz.prog 10 #[v] w fun r w' => ∃ v l, r = .returned v ∧ ARep w' w.heap.size v l ∧ l.map (fun x => (x.code, x.nums)) = runM ws0 ops ∧ Keeps (fun _ => False) w w' := by
  rcases h with ⟨rfl, rfl⟩ | ⟨sb, so, cap, rfl, h2, h3, h4⟩
  · exact run_nil none 0 w
  · exact run_all sb so cap ops w h3 h4 hlen

end Go.Proofs.YtjhaihbjhikhlaaGreat

namespace Go.Proofs.YtjhaihbjhikhlaaGreat
open Go.RowKit
attribute [local go_sem ↓] execOp_load38 execOp_load40 execOp_store40
attribute [local go_sem] run_load38 run_load40 bigVal_drew hasBig_drew bigVal_ne hasBig_ne bigVal_alloc hasBig_alloc

theorem ansFlat_get (l : List Ans) (i j : Nat) (x : Ans) (h : l[i]? = some x) (hj : j < 3) : (ansFlat l)[i * 3 + j]? = x.cells[j]? := by
  induction l generalizing i with
  | nil => simp at h
  | cons a l ih =>
    have hc : ansFlat (a :: l) = a.cells ++ ansFlat l := by simp [ansFlat]
    rw [hc]
    cases i with
    | zero =>
      have : a = x := by simpa using h
      subst this
      rw [List.getElem?_append_left (by simp [Ans.cells]; omega)]
      simp
    | succ i =>
      rw [List.getElem?_append_right (by simp [Ans.cells]; omega)]
      have := ih i (by simpa using h)
      rw [← this]
      congr 1
      simp [Ans.cells]; omega
theorem row_form {w : World} {base T c : Nat} {v : Value} {n : Nat} {l : List Value} (h : w.ownsRow base T c v n l) : ∃ a cap, v = .slice a n cap := by
  rcases h.2 with ⟨h1, h2⟩ | ⟨g, cap, cur, h1, _⟩
  · exact ⟨none, 0, by rw [h1, h2]⟩
  · exact ⟨_, _, h1⟩
theorem ans_cells {w : World} {base : Nat} {a : Option Addr} {n cap : Nat} {l : List Ans} (h : ARep w base (.slice a n cap) l) (i : Nat) (x : Ans) (hx : l[i]? = some x) :
    ∃ g, a = some ⟨g, 0, none⟩ ∧ w.cell? ⟨g, i * 3, none⟩ = some (.int .i64 x.code) ∧ w.cell? ⟨g, i * 3 + 1, none⟩ = some x.nv ∧ w.cell? ⟨g, i * 3 + 2, none⟩ = some (.string noBytes) := by
  obtain ⟨g, cap', hv, hc⟩ := ans_row h (by intro h; rw [h] at hx; simp at hx)
  injection hv with h1 h2 h3
  exact ⟨g, h1, hc _ _ (ansFlat_get l i 0 x hx (by omega)), hc _ _ (ansFlat_get l i 1 x hx (by omega)), hc _ _ (ansFlat_get l i 2 x hx (by omega))⟩
theorem two_ans {la lb : List Ans} {r : List (Int × List Int)} {k i : Nat} (hA : la.map (fun x => (x.code, x.nums)) = r) (hB : lb.map (fun x => (x.code, x.nums)) = r.take k) (hi : i < k) (ha : i < la.length) (hb : i < lb.length) :
    ∃ xa xb, la[i]? = some xa ∧ lb[i]? = some xb ∧ xa.code = xb.code ∧ xa.nums = xb.nums := by
  refine ⟨la[i], lb[i], List.getElem?_eq_getElem ha, List.getElem?_eq_getElem hb, ?_⟩
  have h1 : (la.map (fun x => (x.code, x.nums)))[i]? = some (la[i].code, la[i].nums) := by rw [List.getElem?_map, List.getElem?_eq_getElem ha]; rfl
  have h2 : (lb.map (fun x => (x.code, x.nums)))[i]? = some (lb[i].code, lb[i].nums) := by rw [List.getElem?_map, List.getElem?_eq_getElem hb]; rfl
  rw [hA] at h1
  rw [hB, List.getElem?_take, if_pos hi, h1] at h2
  injection h2 with h2
  injection h2 with h3 h4
  exact ⟨h3, h4⟩
theorem runM_take (s : WS) (ops : List OpM) (k : Nat) : runM s (ops.take k) = (runM s ops).take k := by
  by_cases h : k ≤ ops.length
  · have h1 := runM_append s (ops.take k) (ops.drop k)
    rw [List.take_append_drop] at h1
    rw [h1, List.take_append_of_le_length (by rw [runM_length, List.length_take]; omega)]
    exact (List.take_of_length_le (by rw [runM_length, List.length_take]; omega)).symm
  · rw [List.take_of_length_le (by omega), List.take_of_length_le (by rw [runM_length]; omega)]

end Go.Proofs.YtjhaihbjhikhlaaGreat

namespace Go.Proofs.YtjhaihbjhikhlaaGreat
open Go.RowKit

end Go.Proofs.YtjhaihbjhikhlaaGreat
