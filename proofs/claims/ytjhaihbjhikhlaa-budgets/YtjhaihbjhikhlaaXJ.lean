import Derived.Test.YtjhaihbjhikhlaaXP
import Derived.Test.YtjhaihbjhikhlaaXF
import Derived.Test.YtjhaihbjhikhlaaXG
namespace Go.Proofs.Ytjhaihbjhikhlaa
open Go.RowKit
attribute [local go_sem ↓] execOp_load38 execOp_load40 execOp_build38 execOp_build40 execOp_bs22 execOp_store38

def cc : Cfg := ⟨1, 0, 9, 8, 1, 5, 0, 0, 0, 0, 0, 0, 0, 0, 0, 0, 0, 0, 0, 0⟩
def p1 : OpM := ⟨1, 7, 0, 0, 0, cc, noBytes⟩
def p4 : OpM := ⟨4, 7, 5, 0, 0, cz, noBytes⟩
def fourO : List OpM := [p1, o2, o3, p4]
def fourCells : List Value := p1.cells ++ (o2.cells ++ (o3.cells ++ p4.cells))
theorem four_run : runM ws0 fourO = [(0, []), (0, [1]), (0, [0]), (0, [1])] := by kernel_rfl
theorem run_c38 (w : World) : (buildBig 36 #[(0, .int .i64 1), (2, .int .i64 9), (3, .int .i64 8), (4, .int .i64 1), (5, .int .i64 5)]).run Try.prog w = .ok (.value (.agg cc.cells.toArray)) w := by kernel_rfl
theorem run_c1 (w : World) : (buildBig 38 #[(0, .int .i64 1), (1, .int .i64 7), (5, .agg cc.cells.toArray)]).run Try.prog w = .ok (.value (.agg p1.cells.toArray)) w := by kernel_rfl
theorem run_c4 (w : World) : (buildBig 38 #[(0, .int .i64 4), (1, .int .i64 7), (2, .int .i64 5)]).run Try.prog w = .ok (.value (.agg p4.cells.toArray)) w := by kernel_rfl
theorem run_cs (w : World) : (bsBig 22 4 #[(0, .agg p1.cells.toArray), (1, .agg o2.cells.toArray), (2, .agg o3.cells.toArray), (3, .agg p4.cells.toArray)]).run Try.prog w =
    .ok (.value (.slice (some ⟨w.heap.size, 0, none⟩) 4 4)) (w.alloc (.cells fourCells.toArray 38)) := by kernel_rfl
attribute [local go_sem] run_load38 run_load40 bigVal_drew hasBig_drew bigVal_ne hasBig_ne bigVal_alloc hasBig_alloc run_c38 run_c1 run_b2 run_b3 run_c4 run_cs
theorem four_at (w : World) (b : Nat) (h : Blk w b fourCells 38) : ScriptAt w b 0 fourO := by
  intro i o ho
  have hi : i < 4 := (List.getElem?_eq_some_iff.1 ho).1
  have hi' : i = 0 ∨ i = 1 ∨ i = 2 ∨ i = 3 := by omega
  have hr : ∀ (off : Nat) (cs : List Value), (fourCells.drop off).take 26 = cs → w.rangeAt b off cs := by
    intro off cs hcs j v hv
    rw [← hcs, List.getElem?_take] at hv
    split at hv
    · exact h.cell (by simpa using hv)
    · cases hv
  rcases hi' with h' | h' | h' | h'
  all_goals
    subst h'
    injection ho with ho
    subst ho
  · exact hr 0 _ rfl
  · exact hr 26 _ rfl
  · exact hr 52 _ rfl
  · exact hr 78 _ rfl
theorem list_four {α : Type _} (l : List α) (h : l.length = 4) : ∃ a b c d, l = [a, b, c, d] := by
  match l, h with
  | [a, b, c, d], _ => exact ⟨a, b, c, d, rfl⟩

set_option maxRecDepth 100000 in
set_option maxHeartbeats 4000000 in
theorem counting_any (w : World) : Calls Try.prog 14 #[] w fun e w' => e = .returned (.bool true) ∧ Keeps (fun _ => False) w w' := by
  have hst : ∀ zs : List Value, zs.length = 20 → (storeBig 36 (.pointer (some ⟨w.heap.size, 0, none⟩)) (.agg cc.cells.toArray)).run Try.prog (w.alloc (.cells zs.toArray 36)) = .ok .skip (w.alloc (.cells cc.cells.toArray 36)) := fun zs hz => run_store38 w zs cc.cells hz rfl (by simp [Cfg.cells, Value.oneCell'])
  have hv1 : bigVal (w.alloc (.cells cc.cells.toArray 36)) w.heap.size 0 20 = .agg cc.cells.toArray := bigVal_new w cc.cells 36 20 rfl
  have hh1 : hasBig (w.alloc (.cells cc.cells.toArray 36)) w.heap.size 0 20 = true := hasBig_new w cc.cells 36 20 rfl
  have HK0 := hide (((Keeps.refl (fun _ => False) w).alloc (.cells cc.cells.toArray 36)).alloc (.cells fourCells.toArray 38))
  have HB0 := hide (show Blk ((w.alloc (.cells cc.cells.toArray 36)).alloc (.cells fourCells.toArray 38)) (w.heap.size + 1) fourCells 38 from Blk.newAt (by simp) _ _)
  go_enter Try.func14, Try.ntmps14
  go_wp2_with fail
  refine (run_all (w.heap.size + 1) 0 4 fourO _ (four_at _ _ (unhide HB0)) (unhide HB0).lt (by decide)).mono ?_
  rintro r w1 ⟨v, l, rfl, hA, hM, hk1⟩
  rw [four_run] at hM
  obtain ⟨x0, x1, x2, x3, hl5⟩ := list_four l (by have := congrArg List.length hM; simpa using this)
  subst hl5
  simp only [List.map_cons, List.map_nil, List.cons.injEq, Prod.mk.injEq, and_true] at hM
  obtain ⟨⟨k0, m0⟩, ⟨k1, m1⟩, ⟨k2, m2⟩, k3, m3⟩ := hM
  obtain ⟨g, cap, hv, hc⟩ := ans_row hA (by simp)
  have n3 := hA.nums x3 (by simp)
  rw [m3] at n3
  rcases num_cells n3 with ⟨h, _⟩ | ⟨g1, cp1, hv1', hn1⟩
  · cases h
  have y3 : w1.cell? ⟨g, 9, none⟩ = some (.int .i64 0) := (hc 9 _ rfl).trans (by rw [k3])
  have z3 : w1.cell? ⟨g, 10, none⟩ = some (.slice (some ⟨g1, 0, none⟩) 1 cp1) := (hc 10 _ rfl).trans (by rw [hv1']; rfl)
  have q1 : w1.cell? ⟨g1, 0, none⟩ = some (.int .i64 1) := hn1 0 (by simp)
  have HK1 := hide ((unhide HK0).then hk1)
  rw [hv]
  clear hA hk1 hc n3 hn1 hv hv1' k0 k1 k2 k3 m0 m1 m2 m3 hst hv1 hh1 HK0 HB0
  show _
  go_wp2
  go_ret
  exact ⟨rfl, unhide HK1⟩

end Go.Proofs.Ytjhaihbjhikhlaa

namespace Go.Proofs.Ytjhaihbjhikhlaa

/-! ### What is dead changes nothing -/
theorem past_past (l : List Bk) {t0 t : Int} (h : t0 ≤ t) : pastN l t = pastN l t0 + pastN (l.drop (pastN l t0)) t := by
  induction l with
  | nil => rfl
  | cons b l ih =>
    by_cases hb : b.t ≤ t0
    · have e0 : pastN (b :: l) t0 = pastN l t0 + 1 := by unfold pastN; rw [List.takeWhile_cons, if_pos (by simpa using hb)]; rfl
      have e1 : pastN (b :: l) t = pastN l t + 1 := by unfold pastN; rw [List.takeWhile_cons, if_pos (by simp; omega)]; rfl
      rw [e0, e1, List.drop_succ_cons, ih]
      omega
    · have e0 : pastN (b :: l) t0 = 0 := by unfold pastN; rw [List.takeWhile_cons, if_neg (by simpa using hb)]; rfl
      rw [e0]
      simp
theorem live_live (c : Cfg) (l : List Bk) {m0 m : Int} (h : m0 ≤ m) : liveB c (liveB c l m0) m = liveB c l m := by
  unfold liveB
  rw [past_past l (show m0 - c.window ≤ m - c.window by omega), List.drop_drop]
theorem live_drop (c : Cfg) (l : List Bk) (m : Int) (j : Nat) (h : j ≤ pastN l (m - c.window)) : liveB c (l.drop j) m = liveB c l m := by
  unfold liveB
  generalize m - c.window = t at *
  have : pastN l t = j + pastN (l.drop j) t := by
    induction j generalizing l with
    | zero => simp
    | succ j ih =>
      cases l with
      | nil => simp [pastN] at h
      | cons b l =>
        by_cases hb : b.t ≤ t
        · have e1 : pastN (b :: l) t = pastN l t + 1 := by unfold pastN; rw [List.takeWhile_cons, if_pos (by simpa using hb)]; rfl
          rw [e1] at h ⊢
          rw [List.drop_succ_cons, ih l (by omega)]
          omega
        · have e1 : pastN (b :: l) t = 0 := by unfold pastN; rw [List.takeWhile_cons, if_neg (by simpa using hb)]; rfl
          omega
  rw [this, List.drop_drop]
theorem est_live (c : Cfg) (l : List Bk) {m0 t : Int} (h : m0 - c.window ≤ t) : estN (liveB c l m0) t = estN l t := by
  have hp := past_past l h
  have hle := pastN_le l (m0 - c.window)
  unfold estN
  unfold liveB
  generalize pastN l (m0 - c.window) = p at *
  have hle2 := pastN_le (l.drop p) t
  rw [hp, List.drop_drop]
  have hb : bkAt (l.drop p) (pastN (l.drop p) t) = bkAt l (p + pastN (l.drop p) t) := by
    unfold bkAt
    rw [List.getD_eq_getElem?_getD, List.getD_eq_getElem?_getD, List.getElem?_drop]
  rw [hb]
  have hl : (l.drop p).length = l.length - p := by simp
  by_cases he : pastN (l.drop p) t = (l.drop p).length
  · rw [if_pos he, if_pos (by omega)]
  · rw [if_neg he, if_neg (by omega)]

def Ser.shape (clock : Int) (x : Ser) : Ser := { x with nt := { x.nt with bs := liveB x.c x.nt.bs (clock - x.c.lag) } }
def WS.shape (s : WS) : WS := ⟨s.clock, s.xs.map (Ser.shape s.clock)⟩
theorem shape_shape {a b : Int} (h : a ≤ b) (x : Ser) : (x.shape a).shape b = x.shape b := by
  unfold Ser.shape
  simp only
  rw [live_live x.c x.nt.bs (show a - x.c.lag ≤ b - x.c.lag by omega)]
theorem WS.shape_shape (s : WS) : s.shape.shape = s.shape := by
  unfold WS.shape
  simp only [List.map_map]
  congr 1
  exact List.map_congr_left fun x _ => Go.Proofs.Ytjhaihbjhikhlaa.shape_shape (Int.le_refl _) x

theorem find_shape (c : Int) (xs : List Ser) (id : Int) : findS (xs.map (Ser.shape c)) id = (findS xs id).map (Ser.shape c) := by
  induction xs with
  | nil => rfl
  | cons a l ih =>
    unfold findS at *
    rw [List.map_cons, List.find?_cons, List.find?_cons]
    have : ((a.shape c).id == id) = (a.id == id) := rfl
    rw [this]
    split
    · rfl
    · exact ih
theorem upd_shape (c : Int) (xs : List Ser) (id : Int) (y : Ser) : (updS xs id y).map (Ser.shape c) = updS (xs.map (Ser.shape c)) id (y.shape c) := by
  induction xs with
  | nil => rfl
  | cons a l ih =>
    rw [List.map_cons, updS_cons, updS_cons]
    have : ((a.shape c).id == id) = (a.id == id) := rfl
    rw [this]
    split
    · rfl
    · rw [List.map_cons, ih]
theorem relN_shape (k : Nat) (c : Cfg) (nt : Note) (t : Int) {m0 m : Int} (h : m0 ≤ m) : relN k c { nt with bs := liveB c nt.bs m0 } t m = relN k c nt t m ∨ (k ≠ 1 ∧ relN k c { nt with bs := liveB c nt.bs m0 } t m = { relN k c nt t m with bs := liveB c nt.bs m0 } ∧ (relN k c nt t m).bs = nt.bs) := by
  by_cases h1 : k = 1
  · refine .inl ?_
    subst h1
    have e : ∀ n : Note, relN 1 c n t m = { n with bs := relB c n.bs t m } := fun n => by unfold relN; rw [if_neg (show ¬ (1 : Nat) = 4 by omega), if_pos rfl]
    rw [e, e]
    unfold relB putB
    simp only
    rw [live_live c nt.bs h]
  · by_cases h4 : k = 4
    · subst h4
      exact .inr ⟨h1, rfl, rfl⟩
    · have e : ∀ n : Note, relN k c n t m = n := fun n => by unfold relN; rw [if_neg h4, if_neg h1]
      rw [e, e]
      exact .inr ⟨h1, rfl, rfl⟩
theorem relOne_shape (x : Ser) {a b : Int} (h : a ≤ b) : ∀ y, y = x.shape a ∨ y = x → (relOne y (b - x.c.lag)).shape b = (relOne x (b - x.c.lag)).shape b ∧ ((relOne y (b - x.c.lag)) = (relOne x (b - x.c.lag)) ∨ (relOne y (b - x.c.lag)) = (relOne x (b - x.c.lag)).shape a) := by
  rintro y (hy | hy)
  · subst hy
    rcases relN_shape x.k x.c x.nt (itAt x.l 0).t (show a - x.c.lag ≤ b - x.c.lag by omega) with hr | ⟨h1, hr, hb⟩
    · have e : relOne (x.shape a) (b - x.c.lag) = relOne x (b - x.c.lag) := by
        unfold relOne Ser.shape
        simp only
        rw [hr]
      rw [e]
      exact ⟨rfl, .inl rfl⟩
    · have e : relOne (x.shape a) (b - x.c.lag) = (relOne x (b - x.c.lag)).shape a := by
        unfold relOne Ser.shape
        simp only
        rw [hr, hb]
      rw [e]
      exact ⟨shape_shape h _, .inr rfl⟩
  · subst hy
    exact ⟨rfl, .inl rfl⟩
theorem relS_shape (f : Nat) {a b : Int} (h : a ≤ b) : ∀ (x y : Ser), (y = x.shape a ∨ y = x) → (relS f y (b - x.c.lag)).shape b = (relS f x (b - x.c.lag)).shape b := by
  induction f with
  | zero =>
    rintro x y (hy | hy)
    · subst hy; exact shape_shape h x
    · subst hy; rfl
  | succ f ih =>
    intro x y hy
    have hl : y.l = x.l := by rcases hy with hy | hy <;> rw [hy]; rfl
    rw [relS_succ, relS_succ, hl]
    split
    · rcases hy with hy | hy
      · subst hy; exact shape_shape h x
      · subst hy; rfl
    · split
      · rcases hy with hy | hy
        · subst hy; exact shape_shape h x
        · subst hy; rfl
      · obtain ⟨h1, h2⟩ := relOne_shape x h y hy
        have hc : (relOne x (b - x.c.lag)).c = x.c := rfl
        have := ih (relOne x (b - x.c.lag)) (relOne y (b - x.c.lag)) (h2.symm)
        rw [hc] at this
        exact this
theorem tick_shape {a b : Int} (h : a ≤ b) (x : Ser) : (tickOne b (x.shape a)).shape b = (tickOne b x).shape b := by
  unfold tickOne
  exact relS_shape (x.l.length + 1) h x (x.shape a) (.inl rfl)
theorem swpS_shape (clock b : Int) (x : Ser) : (swpS clock b x).shape clock = x.shape clock := by
  unfold swpS Ser.shape swpN
  split
  · simp only
    rw [live_drop x.c x.nt.bs (clock - x.c.lag) _ (by unfold thrownB; omega)]
  · rfl
theorem sweep_shape (clock b : Int) (xs : List Ser) : (sweepL clock b xs).1.map (Ser.shape clock) = xs.map (Ser.shape clock) := by
  induction xs generalizing b with
  | nil => rfl
  | cons a l ih => simp only [sweepL, List.map_cons, swpS_shape, ih]

theorem maxC_le (c a : Int) : c ≤ maxC c a := by unfold maxC; split <;> omega

/-- A step, by what is not dead. -/
theorem step_shape (s : WS) (o : OpM) : (stepM s.shape o).2.1 = (stepM s o).2.1 ∧ (o.kind ≠ 3 → (stepM s.shape o).2.2 = (stepM s o).2.2) ∧ (stepM s.shape o).1.shape = (stepM s o).1.shape := by
  unfold stepM
  by_cases h1 : o.kind = 1
  · simp only [if_pos h1]
    unfold createM
    have hf : (findS s.shape.xs o.id).isNone = (findS s.xs o.id).isNone := by
      show (findS (s.xs.map (Ser.shape s.clock)) o.id).isNone = _
      rw [find_shape]; cases findS s.xs o.id <;> rfl
    have hl : s.shape.xs.length = s.xs.length := by show (s.xs.map (Ser.shape s.clock)).length = _; simp
    rw [hf, hl]
    split
    · split
      · split
        · refine ⟨rfl, fun _ => rfl, ?_⟩
          show (⟨s.clock, (s.shape.xs ++ [_]).map (Ser.shape s.clock)⟩ : WS) = ⟨s.clock, (s.xs ++ [_]).map (Ser.shape s.clock)⟩
          rw [List.map_append, List.map_append]
          have := congrArg WS.xs s.shape_shape
          have h2 : s.shape.xs.map (Ser.shape s.clock) = s.xs.map (Ser.shape s.clock) := this
          rw [h2]
        · exact ⟨rfl, fun _ => rfl, s.shape_shape⟩
      · exact ⟨rfl, fun _ => rfl, s.shape_shape⟩
    · exact ⟨rfl, fun _ => rfl, s.shape_shape⟩
  simp only [if_neg h1]
  by_cases h2 : o.kind = 2
  · simp only [if_pos h2]
    unfold addM
    show _ ∧ _
    have hf : findS s.shape.xs o.id = (findS s.xs o.id).map (Ser.shape s.clock) := find_shape _ _ _
    have hss : s.shape.xs.map (Ser.shape s.clock) = s.xs.map (Ser.shape s.clock) := congrArg WS.xs s.shape_shape
    rw [hf]
    cases hx : findS s.xs o.id with
    | none => exact ⟨rfl, fun _ => rfl, s.shape_shape⟩
    | some x =>
      have hr : refE (x.shape s.clock) s.shape.clock o.item = refE x s.clock o.item := rfl
      simp only [Option.map_some]
      rw [hr]
      split
      · refine ⟨rfl, fun _ => rfl, ?_⟩
        show (⟨s.clock, (updS s.shape.xs o.id (accS (x.shape s.clock) o.item)).map (Ser.shape s.clock)⟩ : WS) = ⟨s.clock, (updS s.xs o.id (accS x o.item)).map (Ser.shape s.clock)⟩
        rw [upd_shape, upd_shape, hss]
        have : (accS (x.shape s.clock) o.item).shape s.clock = (accS x o.item).shape s.clock := shape_shape (Int.le_refl _) (accS x o.item)
        rw [this]
      · refine ⟨rfl, fun _ => rfl, ?_⟩
        show (⟨s.clock, (updS s.shape.xs o.id (refS (x.shape s.clock) _)).map (Ser.shape s.clock)⟩ : WS) = ⟨s.clock, (updS s.xs o.id (refS x _)).map (Ser.shape s.clock)⟩
        rw [upd_shape, upd_shape, hss]
        have : ∀ j, (refS (x.shape s.clock) j).shape s.clock = (refS x j).shape s.clock := fun j => shape_shape (Int.le_refl _) (refS x j)
        rw [this]
  simp only [if_neg h2]
  by_cases h3 : o.kind = 3
  · simp only [if_pos h3]
    unfold tickM
    split
    · split
      · refine ⟨rfl, fun h => absurd h3 h, ?_⟩
        show (⟨maxC s.clock o.a, (sweepL (maxC s.clock o.a) o.b ((s.xs.map (Ser.shape s.clock)).map (tickOne (maxC s.clock o.a)))).1.map (Ser.shape (maxC s.clock o.a))⟩ : WS) = ⟨maxC s.clock o.a, (sweepL (maxC s.clock o.a) o.b (s.xs.map (tickOne (maxC s.clock o.a)))).1.map (Ser.shape (maxC s.clock o.a))⟩
        rw [sweep_shape, sweep_shape, List.map_map, List.map_map, List.map_map]
        congr 1
        exact List.map_congr_left fun x _ => tick_shape (maxC_le _ _) x
      · exact ⟨rfl, fun _ => rfl, s.shape_shape⟩
    · exact ⟨rfl, fun _ => rfl, s.shape_shape⟩
  simp only [if_neg h3]
  by_cases h4 : o.kind = 4
  · simp only [if_pos h4]
    unfold queryM
    show _ ∧ _
    have hf : findS s.shape.xs o.id = (findS s.xs o.id).map (Ser.shape s.clock) := find_shape _ _ _
    rw [hf]
    cases hx : findS s.xs o.id with
    | none => exact ⟨rfl, fun _ => rfl, s.shape_shape⟩
    | some x =>
      have hq : qryN x.k x.c (x.shape s.clock).nt o.a (s.clock - x.c.lag) = qryN x.k x.c x.nt o.a (s.clock - x.c.lag) := by
        unfold qryN
        split
        · rfl
        · split
          · split
            · rename_i hin
              have : 1 ≤ o.a ∧ o.a ≤ x.c.window := by simpa [inB] using hin
              show (0, [estN (liveB x.c x.nt.bs (s.clock - x.c.lag)) _]) = _
              rw [est_live x.c x.nt.bs (by omega)]
            · rfl
          · rfl
      refine ⟨?_, fun _ => ?_, s.shape_shape⟩
      · show (qryN x.k x.c (x.shape s.clock).nt o.a (s.clock - x.c.lag)).1 = _
        rw [hq]
      · show (qryN x.k x.c (x.shape s.clock).nt o.a (s.clock - x.c.lag)).2 = _
        rw [hq]
  simp only [if_neg h4]
  by_cases h5 : o.kind = 5
  · simp only [if_pos h5]
    unfold statsM
    show _ ∧ _
    have hf : findS s.shape.xs o.id = (findS s.xs o.id).map (Ser.shape s.clock) := find_shape _ _ _
    rw [hf]
    cases hx : findS s.xs o.id with
    | none => exact ⟨rfl, fun _ => rfl, s.shape_shape⟩
    | some x => exact ⟨rfl, fun _ => rfl, s.shape_shape⟩
  simp only [if_neg h5]
  exact ⟨trivial, fun _ => trivial, s.shape_shape⟩

/-- Two steps that are one but for the budget of a TICK. -/
def likeO (o o' : OpM) : Prop := o' = o ∨ (o.kind = 3 ∧ inB o.b 0 100 = true ∧ ∃ b, inB b 0 100 = true ∧ o' = { o with b := b })

theorem step_like (s : WS) (o o' : OpM) (h : likeO o o') : (stepM s o').2.1 = (stepM s o).2.1 ∧ (o.kind ≠ 3 → (stepM s o').2.2 = (stepM s o).2.2) ∧ (stepM s o').1.shape = (stepM s o).1.shape := by
  rcases h with rfl | ⟨h3, hb, b, hb', rfl⟩
  · exact ⟨rfl, fun _ => rfl, rfl⟩
  · have e : ∀ o : OpM, o.kind = 3 → stepM s o = tickM s o := fun o h => by unfold stepM; rw [if_neg (by omega), if_neg (by omega), if_pos h]
    rw [e o h3, e { o with b := b } h3]
    unfold tickM
    simp only
    split
    · refine ⟨rfl, fun h => absurd h3 h, ?_⟩
      show (⟨maxC s.clock o.a, (sweepL (maxC s.clock o.a) b _).1.map (Ser.shape (maxC s.clock o.a))⟩ : WS) = ⟨maxC s.clock o.a, (sweepL (maxC s.clock o.a) o.b _).1.map (Ser.shape (maxC s.clock o.a))⟩
      rw [sweep_shape, sweep_shape]
    · exact ⟨rfl, fun _ => rfl, rfl⟩

theorem run_like : ∀ (l l' : List OpM) (s s' : WS), l.length = l'.length → (∀ (i : Nat) o o', l[i]? = some o → l'[i]? = some o' → likeO o o') → s.shape = s'.shape → ∀ i, i < l.length → (runM s l)[i]?.map (·.1) = (runM s' l')[i]?.map (·.1) ∧ ((l.getD i o1).kind ≠ 3 → (runM s l)[i]? = (runM s' l')[i]?) := by
  intro l
  induction l with
  | nil => intro l' s s' _ _ _ i hi; simp at hi
  | cons o l ih =>
    intro l' s s' hlen hl h i hi
    cases l' with
    | nil => simp at hlen
    | cons o' l' =>
      have hlo := hl 0 o o' rfl rfl
      obtain ⟨a1, a2, a3⟩ := step_shape s o
      obtain ⟨b1, b2, b3⟩ := step_shape s' o
      obtain ⟨c1, c2, c3⟩ := step_like s' o o' hlo
      rw [h] at a1 a2 a3
      cases i with
      | zero =>
        refine ⟨?_, fun hk => ?_⟩
        · show some (stepM s o).2.1 = some (stepM s' o').2.1
          rw [← a1, b1, c1]
        · show some (stepM s o).2 = some (stepM s' o').2
          have hk' : o.kind ≠ 3 := hk
          rw [show (stepM s o).2 = ((stepM s o).2.1, (stepM s o).2.2) from rfl, show (stepM s' o').2 = ((stepM s' o').2.1, (stepM s' o').2.2) from rfl, ← a1, b1, c1, ← a2 hk', b2 hk', c2 hk']
      | succ i =>
        have := ih l' (stepM s o).1 (stepM s' o').1 (by simpa using hlen) (fun j p p' hp hp' => hl (j + 1) p p' hp hp') (by rw [← a3, b3, c3]) i (by simpa using hi)
        exact this

end Go.Proofs.Ytjhaihbjhikhlaa

namespace Go.Proofs.Ytjhaihbjhikhlaa
open Go.RowKit
attribute [local go_sem ↓] execOp_load38 execOp_load40 execOp_store40 execOp_bs22
attribute [local go_sem] run_load38 run_load40 bigVal_drew hasBig_drew bigVal_ne hasBig_ne bigVal_alloc hasBig_alloc

/-- A list of numbers that was handed in. -/
def IntsW (w : World) (base : Nat) (v : Value) (l : List Int) : Prop := ((∃ a c, v = .slice a 0 c) ∧ l = []) ∨ ∃ b off cap, v = .slice (some ⟨b, off, none⟩) l.length cap ∧ 0 < l.length ∧ l.length ≤ 140737488355328 ∧ b < base ∧ ∀ (i : Nat) u, l[i]? = some u → w.cell? ⟨b, off + i, none⟩ = some (.int .i64 u) ∧ -9223372036854775808 ≤ u ∧ u ≤ 9223372036854775807
theorem IntsW.keeps {w w' : World} {base : Nat} {v : Value} {l : List Int} (h : IntsW w base v l) {M : Nat → Prop} (hk : Keeps M w w') (hM : ∀ i, M i → base ≤ i) : IntsW w' base v l := by
  rcases h with h | ⟨b, off, cap, h1, h2, h3, hb, h4⟩
  · exact .inl h
  · refine .inr ⟨b, off, cap, h1, h2, h3, hb, fun i u hu => ⟨hk.cell (h4 i u hu).1 (fun hm => ?_), (h4 i u hu).2⟩⟩
    have h6 := hM b hm
    omega

theorem opFlat_set (l : List OpM) (i : Nat) (o : OpM) (u : Int) (h : l[i]? = some o) : opFlat (l.set i { o with b := u }) = (opFlat l).set (i * 26 + 3) (.int .i64 u) := by
  induction l generalizing i with
  | nil => simp at h
  | cons a l ih =>
    have hc : ∀ a : OpM, ∀ l, opFlat (a :: l) = a.cells ++ opFlat l := fun a l => by simp [opFlat]
    have hl : a.cells.length = 26 := rfl
    cases i with
    | zero =>
      have : a = o := by simpa using h
      subst this
      rw [List.set_cons_zero, hc, hc, List.set_append, if_pos (by omega)]
      rfl
    | succ i =>
      rw [List.set_cons_succ, hc, hc, ih i (by simpa using h), List.set_append, if_neg (by omega)]
      congr 2
      omega
theorem own_set {w : World} {base g n cap i : Nat} {T : List OpM} {o : OpM} {u : Int} (hn : T.length = n) (h : OwnS w base (.slice (some ⟨g, 0, none⟩) n cap) T) (ho : T[i]? = some o) : OwnS (w.setCell ⟨g, i * 26 + 3, none⟩ (.int .i64 u)) base (.slice (some ⟨g, 0, none⟩) n cap) (T.set i { o with b := u }) := by
  rcases h.2 with ⟨h1, _⟩ | ⟨g', cap', cur, h1, h2, h3, h4, h5, h6, h7⟩
  · cases h1
  · rw [hn] at h1 h4 h7
    injection h1 with h8 h9 h10
    injection h8 with h8
    injection h8 with h8
    subst h8 h10
    refine ⟨by rw [opFlat_length], .inr ⟨g, cap, (cur.toList.set (i * 26 + 3) (.int .i64 u)).toArray, by rw [List.length_set, hn], h2, ?_, by rw [List.length_set, hn]; exact h4, h5, by simpa using h6, ?_⟩⟩
    · have hb : Blk w g cur.toList 38 := by unfold Blk; simpa using h3
      exact hb.setCell (i * 26 + 3) (.int .i64 u)
    · rw [List.length_set, hn, opFlat_set T i o u ho, ← h7]
      simp only [List.take_set]

theorem op_at {w : World} {sb so : Nat} {ops : List OpM} (h : ScriptAt w sb so ops) {i : Nat} {o : OpM} (ho : ops[i]? = some o) : w.cell? ⟨sb, so + i * 26, none⟩ = some (.int .i64 o.kind) ∧ w.cell? ⟨sb, so + i * 26 + 3, none⟩ = some (.int .i64 o.b) := by
  have h0 := h i o ho 0 _ rfl
  have h3 := h i o ho 3 _ rfl
  exact ⟨by simpa using h0, by simpa using h3⟩

set_option maxRecDepth 100000 in
set_option maxHeartbeats 4000000 in
theorem bud_any (v bv : Value) (ops : List OpM) (bs : List Int) (w : World) (hv : ScriptW w v ops) (hb : IntsW w w.heap.size bv bs) (hlen : ops.length ≤ 651562446088) :
    Calls Try.prog 6 #[v, bv] w fun r w' => r = .returned (.bool true) ∧ Keeps (fun _ => False) w w' := by
  have HV := hide hv
  have HBU := hide hb
  clear hv hb
  go_enter Try.func6, Try.ntmps6
  go_wp2_with fail
  refine (awake_any _).mono ?_
  rintro r w1 ⟨rfl, hk1⟩
  have HK1 := hide hk1
  clear hk1
  go_wp2_with fail
  refine (counting_any _).mono ?_
  rintro r w2 ⟨rfl, hk2⟩
  have HK2 := hide ((unhide HK1).then hk2)
  clear hk2 HK1
  go_wp2_with fail
  refine (without_any v ops w2 ((unhide HV).keeps (unhide HK2)) (by omega)).mono ?_
  rintro r w3 ⟨sv, rfl, hO, hk3, -⟩
  have HO3 := hide hO
  have HK3 := hide ((unhide HK2).then hk3)
  have HSW3 := hide (own_scriptW hO)
  have hle : (ops.filter OpM.noLoad).length ≤ 651562446088 := by have := List.length_filter_le OpM.noLoad ops; omega
  clear hk3 hO HK2
  generalize hs : ops.filter OpM.noLoad = s at *
  clear hs
  go_wp2_with fail
  refine (with_any sv (.slice none 0 0) s [] w3 (unhide HSW3) (.inl ⟨⟨_, _, rfl⟩, rfl⟩) (by simp; omega)).mono ?_
  rintro r w4 ⟨tv, rfl, hT, hk4⟩
  rw [List.append_nil] at hT
  have HS4 := hide (owns_keeps (unhide HO3) hk4 (fun _ _ h => h))
  have HT4 := hide hT
  have HK4 := hide ((unhide HK3).then hk4)
  have HB4 := hide ((unhide HBU).keeps ((unhide HK3).then hk4) (fun _ h => h.elim))
  have HLT := hide (show ∀ i, sv.ownBlock = some i → i < w3.heap.size from fun i hi => ((unhide HO3).lt i hi).2)
  have HSZ := hide (unhide HK3).size
  have HSZ4 := hide hk4.size
  clear hT hk4 HK3 HO3 HSW3 HBU HV
  obtain ⟨sa, sc, es⟩ := row_form (unhide HS4)
  obtain ⟨ta, tc, et⟩ := row_form (unhide HT4)
  generalize hn : s.length = n at *
  have HN := hide hn
  clear hn
  subst es et
  go_wp2_with fail
  go_loopg [9, 10, 11] (n) (fun gg a b _ wr => ∃ (i kk : Nat) (T : List OpM), a = .int .i64 kk ∧ b = .int .i64 i ∧ i ≤ n ∧ kk ≤ i ∧ n - i = gg ∧ Hid (T.length = n) ∧ Hid (OwnS wr w3.heap.size (.slice ta n tc) T) ∧ Hid (∀ (j : Nat) o o', s[j]? = some o → T[j]? = some o' → likeO o o') ∧ Hid (∀ j, i ≤ j → T[j]? = s[j]?) ∧ Hid (Keeps (fun k => w3.heap.size ≤ k) w4 wr))
  case atStart => exact ⟨0, 0, s, rfl, rfl, by omega, by omega, rfl, HN, HT4, fun j o o' h h' => .inl (by rw [h] at h'; injection h' with h'; exact h'.symm), fun _ _ => rfl, Keeps.refl _ _⟩
  case round =>
    obtain ⟨i, kk, T, rfl, rfl, hi, hkk, hgg, HTN, HTO, HLK, HRS, HKR⟩ := hrel
    have HGG := hide hgg
    clear hgg
    by_cases hin : i < n
    · obtain ⟨o, ho⟩ : ∃ o, s[i]? = some o := ⟨s[i]'(by rw [unhide HN]; exact hin), List.getElem?_eq_getElem _⟩
      have hTo : T[i]? = some o := (unhide HRS i (Nat.le_refl _)).trans ho
      rcases own_script (unhide HTO) with ⟨_, h2⟩ | ⟨gt, cap, e1, hcap, hsc, hltg, hbg, hmax⟩
      · have := unhide HTN; rw [h2] at this; simp at this; omega
      · rw [unhide HTN] at e1 hcap
        injection e1 with e2 _ e3
        subst e2 e3
        obtain ⟨ck, cb⟩ := op_at hsc hTo
        rw [Nat.zero_add] at ck cb
        have HO := hide ho
        have HTO2 := hide hTo
        have hfz : ∀ j, wr.frozen? ⟨gt, j, none⟩ = false := by
          rcases (unhide HTO).2 with ⟨h1, _⟩ | ⟨g', c', cur, h1, _, h3, _⟩
          · cases h1
          · injection h1 with h1 _ _
            injection h1 with h1
            injection h1 with h1
            subst h1
            intro j; simp [World.frozen?, h3]
        have hi0 : (0 : Int) ≤ (i : Int) := by omega
        have hi1 : (i : Int) < (n : Int) := by omega
        clear hsc hbg hmax hcap ho hTo
        have hbw := (unhide HB4).keeps (unhide HKR) (fun k hk => by have := unhide HSZ; omega)
        have HBW := hide hbw
        clear hbw
        by_cases hgood : o.kind = 3 ∧ 0 ≤ o.b ∧ o.b ≤ 100 ∧ bs ≠ []
        · obtain ⟨g1, g2, g3, g4⟩ := hgood
          have HG4 := hide g4
          rcases unhide HBW with ⟨_, h2⟩ | ⟨bb, off, bcap, rfl, hb0, hbm, -, hbc⟩
          · exact absurd h2 g4
          clear g4
          rw [g1] at ck
          have HG1 := hide g1
          obtain ⟨u, hu⟩ : ∃ u, bs[kk % bs.length]? = some u := ⟨bs[kk % bs.length]'(Nat.mod_lt _ hb0), List.getElem?_eq_getElem _⟩
          obtain ⟨hcu, u0, u1⟩ := hbc _ u hu
          generalize hbl : bs.length = bl at *
          have hrl := Nat.mod_lt kk hb0
          obtain ⟨rm, hrm⟩ : ∃ rm : Nat, rm = kk % bl := ⟨_, rfl⟩
          rw [← hrm] at hcu hrl
          have hmod : (kk : Int) % (bl : Int) = (rm : Int) := by rw [hrm]; omega
          have hm0 : (0 : Int) ≤ (rm : Int) := by omega
          have hm1 : (rm : Int) < (bl : Int) := by omega
          have hbl0 : (0 : Int) < (bl : Int) := by omega
          clear hbc hu hbl g1 hrm
          go_wp2_with fail
          refine (pick_any u 101 wr (by omega) (by omega) u0 u1).mono ?_
          rintro r wq ⟨pk, hpk, rfl, hwq⟩
          rw [hwq]
          clear hwq wq hcu
          go_wp2
          go_roundg (n - (i + 1))
          case measure => have := unhide HGG; omega
          case rel =>
            have hown := own_set (u := (pk : Int)) (unhide HTN) (unhide HTO) (unhide HTO2)
            refine ⟨i + 1, kk + 1, T.set i { o with b := pk }, by go_num, by go_num, by omega, by omega, rfl, by show _ = _; rw [List.length_set]; exact unhide HTN, hown, ?_, ?_, ?_⟩
            · intro j p p' hp hp'
              by_cases hji : j = i
              · subst hji
                rw [List.getElem?_set_self (by rw [unhide HTN]; exact hin)] at hp'
                rw [unhide HO] at hp
                injection hp with hp
                injection hp' with hp'
                refine .inr ⟨by rw [← hp]; exact unhide HG1, by rw [← hp]; simp [inB]; omega, pk, by simp [inB]; omega, by rw [← hp, ← hp']⟩
              · rw [List.getElem?_set_ne (fun h => hji h.symm)] at hp'
                exact unhide HLK j p p' hp hp'
            · intro j hj
              rw [List.getElem?_set_ne (by omega)]
              exact unhide HRS j (by omega)
            · exact (unhide HKR).setCell (p := ⟨gt, i * 26 + 3, none⟩) (Or.inl (by
                rcases own_script (unhide HTO) with ⟨h1, _⟩ | ⟨g', _, h1, _, _, _, h2, _⟩
                · cases h1
                · injection h1 with h1 _ _
                  injection h1 with h1
                  injection h1 with h1
                  show w3.heap.size ≤ gt
                  omega)) _
        · have hbf : ∃ ba bl bc, bv = .slice ba bl bc ∧ (bl = 0 ↔ bs = []) ∧ bl ≤ 140737488355328 := by
            rcases unhide HBW with ⟨⟨a, c, h1⟩, h2⟩ | ⟨bb, off, bcap, h1, hb0, hbm, _, _⟩
            · exact ⟨a, 0, c, h1, by simp [h2], by omega⟩
            · exact ⟨_, bs.length, bcap, h1, by rw [List.length_eq_zero_iff], hbm⟩
          obtain ⟨ba, bl, bc, rfl, hbl, hbm⟩ := hbf
          have hwalk : ∀ (kb b0 b1 : Bool), (o.kind == 3) = kb → decide (0 ≤ o.b) = b0 → decide (o.b ≤ 100) = b1 → (kb = false ∨ b0 = false ∨ b1 = false ∨ bl = 0) := by
            intro kb b0 b1 h1 h2 h3
            cases kb
            · exact .inl rfl
            cases b0
            · exact .inr (.inl rfl)
            cases b1
            · exact .inr (.inr (.inl rfl))
            · refine .inr (.inr (.inr (Decidable.byContradiction fun h4 => hgood ⟨by simpa using h1, by simpa using h2, by simpa using h3, fun h5 => h4 (hbl.2 h5)⟩)))
          clear hgood hbl
          cases h1 : (o.kind == 3) <;> cases h2 : decide (0 ≤ o.b) <;> cases h3 : decide (o.b ≤ 100)
          all_goals
            have hw0 := hwalk _ _ _ h1 h2 h3
            clear hwalk
            simp only [Bool.true_eq_false, false_or, true_or, or_true] at hw0
            first
              | (subst hw0)
              | (clear hw0)
            go_wp2
            go_roundg (n - (i + 1))
            case measure => have := unhide HGG; omega
            case rel => exact ⟨i + 1, kk, T, rfl, by go_num, by omega, by omega, rfl, HTN, HTO, HLK, fun j hj => unhide HRS j (by omega), HKR⟩
    · have HS5 := hide (owns_keeps (unhide HS4) (unhide HKR) (fun j hj h => by have := unhide HLT j hj; omega))
      have HKW := hide (show Keeps (fun _ => False) w wr from (unhide HK4).trans (unhide HKR) (fun k hk hlt => by have := unhide HSZ; omega))
      have HLK2 := hide (unhide HLK)
      clear HRS HGG HT4 HB4 HKR
      go_wp2_with fail
      refine (run_script' _ s wr (own_scriptW (base := w2.heap.size) (by have h := unhide HS5; rw [← unhide HN] at h ⊢; exact h)) (by rw [unhide HN]; omega)).mono ?_
      rintro r w5 ⟨va, la, rfl, hA, hMA, hk5⟩
      have HA5 := hide hA
      have HMA := hide hMA
      have HLA := hide (show la.length = n by
        have := congrArg List.length hMA
        rwa [List.length_map, runM_length, unhide HN] at this)
      have HK5 := hide ((unhide HKW).then hk5)
      have HS6 := hide (owns_keeps (unhide HS5) hk5 (fun _ _ h => h))
      have HT6 := hide (show ScriptW w5 (.slice ta n tc) T from (own_scriptW (unhide HTO)).keeps hk5)
      clear hA hMA hk5 HKW HS5 HTO HS4
      go_wp2_with fail
      refine (run_script' _ T w5 (unhide HT6) (by rw [unhide HTN]; omega)).mono ?_
      rintro r w6 ⟨vb, lb, rfl, hB, hMB, hk6⟩
      have HLB := hide (show lb.length = n by
        have := congrArg List.length hMB
        rwa [List.length_map, runM_length, unhide HTN] at this)
      have HMB := hide hMB
      have HK6 := hide ((unhide HK5).then hk6)
      have HS7 := hide (owns_keeps (unhide HS6) hk6 (fun _ _ h => h))
      have hA6 := (unhide HA5).keeps hk6 (fun _ _ h => h)
      obtain ⟨aa, ca, ea⟩ := row_form hA6.row
      obtain ⟨ab, cb, eb⟩ := row_form hB.row
      rw [unhide HLA] at ea
      rw [unhide HLB] at eb
      subst ea eb
      have HA6 := hide hA6
      have HB6 := hide hB
      clear hA6 hB hMB hk6 HK5 HS6 HT6 HA5
      go_wp2_with fail
      go_loopw [14, 15] (fun i _ wr => ∃ j : Nat, j ≤ n ∧ i = .int .i64 j ∧ Hid (Keeps (fun _ => False) w6 wr)) (fun i _ _ => n - (intOf i).toNat)
      case atStart => exact ⟨0, by omega, rfl, Keeps.refl _ _⟩
      case round =>
        obtain ⟨j, hj, rfl, HK⟩ := hrel
        by_cases hjn : j < n
        · obtain ⟨xa, hxa⟩ : ∃ xa, la[j]? = some xa := ⟨la[j]'(by rw [unhide HLA]; omega), List.getElem?_eq_getElem _⟩
          obtain ⟨xb, hxb⟩ : ∃ xb, lb[j]? = some xb := ⟨lb[j]'(by rw [unhide HLB]; omega), List.getElem?_eq_getElem _⟩
          have hra := run_like s T ws0 ws0 (by rw [unhide HN, unhide HTN]) (unhide HLK2) rfl j (by rw [unhide HN]; exact hjn)
          rw [← unhide HMA, ← unhide HMB, List.getElem?_map, List.getElem?_map, hxa, hxb] at hra
          have hcode : xa.code = xb.code := by have := hra.1; simpa using this
          have hAr := (unhide HA6).keeps (unhide HK) (fun _ _ h => h)
          have hBr := (unhide HB6).keeps (unhide HK) (fun _ _ h => h)
          obtain ⟨ga, rfl, a0, a1, a2⟩ := ans_cells hAr j xa hxa
          obtain ⟨gb, rfl, b0, b1, b2⟩ := ans_cells hBr j xb hxb
          have HNA := hide (hAr.nums xa (List.mem_of_getElem? hxa))
          have HNB := hide (hBr.nums xb (List.mem_of_getElem? hxb))
          have HN9 := hide (show xa.nums.length ≤ 1000 ∧ xb.nums.length ≤ 1000 by
            have h1 : (xa.code, xa.nums) ∈ runM ws0 s := by rw [← unhide HMA]; exact List.mem_map_of_mem (f := fun x : Ans => (x.code, x.nums)) (List.mem_of_getElem? hxa)
            have h2 : (xb.code, xb.nums) ∈ runM ws0 T := by rw [← unhide HMB]; exact List.mem_map_of_mem (f := fun x : Ans => (x.code, x.nums)) (List.mem_of_getElem? hxb)
            have h3 := runM_nums _ _ _ h1
            have h4 := runM_nums _ _ _ h2
            simp only at h3 h4; omega)
          obtain ⟨os, hs1⟩ : ∃ os, s[j]? = some os := ⟨s[j]'(by rw [unhide HN]; omega), List.getElem?_eq_getElem _⟩
          have hsw : OwnS w6 w2.heap.size (.slice sa n sc) s := by have h := unhide HS7; rw [← unhide HN] at h ⊢; exact h
          rcases own_script hsw with ⟨_, h2⟩ | ⟨g, cap, e1, hcap, hsc, hltg, hbg, hmax⟩
          · have := unhide HN; rw [h2] at this; simp at this; omega
          rw [unhide HN] at e1 hcap
          injection e1 with e2 _ e3
          subst e2 e3
          have hos : _ := (op_at (hsc.keeps (unhide HK)) hs1).1
          rw [Nat.zero_add] at hos
          have hgd : s.getD j o1 = os := by rw [List.getD_eq_getElem?_getD, hs1]; rfl
          rw [hgd] at hra
          have HNUM := hide (show os.kind ≠ 3 → xa.nums = xb.nums from fun h => by have := hra.2 h; simp at this; exact this.2)
          rw [hcode] at a0
          obtain ⟨na, nca, ena⟩ := row_form (unhide HNA)
          obtain ⟨nb, ncb, enb⟩ := row_form (unhide HNB)
          rw [ena] at HNA a1
          rw [enb] at HNB b1
          clear ena enb hAr hBr hra hgd hs1 hxa hxb hcode hsw hsc hcap hbg hmax
          have hj0 : (0 : Int) ≤ (j : Int) := by omega
          have hj1 : (j : Int) < (n : Int) := by omega
          go_wp2_with fail
          go_region_held3 (fun w' => w'.cell? ⟨ga, j * 3 + 1, none⟩ = some (.slice na xa.nums.length nca) ∧ w'.cell? ⟨gb, j * 3 + 1, none⟩ = some (.slice nb xb.nums.length ncb))
            (first | (simp [*]; done) | (go_split_ands; exact ⟨hk7.cell (by assumption) (fun h => h), hk7.cell (by assumption) (fun h => h)⟩))
            (first | (go_at_call 13; refine (sameN_some _ _ _ _ xa.nums xb.nums _ (by exact owns_keeps (unhide HNA) ((Keeps.refl (fun _ => False) wr).drew) (fun _ _ h => h)) (by exact owns_keeps (unhide HNB) ((Keeps.refl (fun _ => False) wr).drew) (fun _ _ h => h)) (unhide HN9).1 (unhide HN9).2).mono ?_; rintro r w7 ⟨bx, rfl, hbx, hk7⟩))
          have hk67 : Keeps (fun _ => False) wr w7 := ((Keeps.refl (fun _ => False) wr).drew).then hk7
          have HK7 := hide ((unhide HK).then hk67)
          have c0 : w7.cell? ⟨ga, j * 3, none⟩ = some (.int .i64 xb.code) := hk67.cell a0 (fun h => h)
          have c1 : w7.cell? ⟨gb, j * 3, none⟩ = some (.int .i64 xb.code) := hk67.cell b0 (fun h => h)
          have c2 : w7.cell? ⟨g, j * 26, none⟩ = some (.int .i64 os.kind) := hk67.cell hos (fun h => h)
          have c3 : w7.cell? ⟨ga, j * 3 + 2, none⟩ = some (.string noBytes) := hk67.cell a2 (fun h => h)
          have c4 : w7.cell? ⟨gb, j * 3 + 2, none⟩ = some (.string noBytes) := hk67.cell b2 (fun h => h)
          have hcc : (xb.code != xb.code) = false := by simp
          clear hk7 hk67 a0 b0 hos a1 b1 a2 b2
          cases bx with
          | true =>
            go_wp2_with fail
            go_quiet (fail)
            go_wp2
            go_roundw
            case rel => exact ⟨j + 1, by omega, by go_num, hide ((unhide HK7).then (Keeps.drewN _ _ _))⟩
            case measure => simp [intOf]; omega
          | false =>
            have h3 : os.kind = 3 := by
              by_cases h3 : os.kind = 3
              · exact h3
              · exact absurd (hbx (unhide HNUM h3)) (by simp)
            rw [h3] at c2
            go_wp2_with fail
            go_quiet (fail)
            go_wp2
            go_roundw
            case rel => exact ⟨j + 1, by omega, by go_num, hide ((unhide HK7).then (Keeps.drewN _ _ _))⟩
            case measure => simp [intOf]; omega
        · go_wp2
          go_ret
          exact ⟨rfl, (unhide HK6).then (unhide HK)⟩

end Go.Proofs.Ytjhaihbjhikhlaa

namespace Go.Proofs.Ytjhaihbjhikhlaa
open Go.ChangeShapes Go.WideShapes Go.ChangeAt Go.RowKit Go.Deep

theorem bytes3 : Try.prog.bytesOf 3 = 8 := by kernel_rfl

set_option maxRecDepth 100000 in
theorem ints_open {H : Type} {enc : TypeId × Value → H} {W : World} {fuel : Nat} {a0 : Option Addr} {len cap : Nat} {d : DataW H} {p : List MemPlace}
    (hf : DataW.trod enc Try.prog W 0 (fun _ => true) true fuel 29 (Value.slice a0 len cap).cells.toList = some (d, p)) (hlt : ∀ x ∈ p, x.block < W.heap.size) (hlen : len ≠ 0 → ∀ elems spare, d = .slice elems spare → len ≤ elems.length + spare.length → len ≤ 140737488355328) :
    ∃ l, IntsW W W.heap.size (.slice a0 len cap) l := by
  by_cases hl0 : len = 0
  · subst hl0
    exact ⟨[], .inl ⟨⟨_, _, rfl⟩, rfl⟩⟩
  · rcases open_slice Try.underlying29 hf with ⟨hcs, hx⟩ | ⟨a, len', cap', k, n, D, Pl, hcs, _, hl, hm, hk, hx, hcell⟩
    · simp [Value.cells] at hcs
      exact absurd hcs.2.1 hl0
    · simp [Value.cells] at hcs
      obtain ⟨rfl, rfl, rfl⟩ := hcs
      simp only [Prod.mk.injEq] at hx
      obtain ⟨rfl, rfl⟩ := hx
      simp only [if_true] at hk
      subst k
      rw [cells3] at hcell
      obtain ⟨b, off, spot⟩ := a
      have hspot : spot = none := by
        obtain ⟨cs', h1, _⟩ := hcell 0 (by omega)
        obtain ⟨_, h2, h3⟩ := World.cells?_some h1
        have h4 := h3 0 (by omega)
        rw [List.getElem?_eq_getElem (by omega)] at h4
        simpa [Addr.add] using World.cell?_spot h4
      subst hspot
      have hbW : b < W.heap.size := hlt (.cell b off) (List.mem_append_left _ (MemPlace.mem_row.2 ⟨0, by rw [cells3]; omega, by simp⟩))
      have hints : ∀ i, i < len → ∃ u : Int, W.cell? ⟨b, off + i, none⟩ = some (.int .i64 u) ∧ -9223372036854775808 ≤ u ∧ u ≤ 9223372036854775807 := by
        intro i hi
        obtain ⟨cs', h1, h2⟩ := hcell i (by omega)
        obtain ⟨u, h5, h6⟩ := int_at h2
        obtain ⟨_, h3, h4⟩ := World.cells?_some h1
        have := h4 0 (by omega)
        rw [add_add, add_plain, h5, Nat.add_zero, Nat.mul_one] at this
        exact ⟨u, this, i64_of_wf h6⟩
      obtain ⟨U, hU⟩ := choose_lt (α := Int) hints
      refine ⟨(List.range len).map U, .inr ⟨b, off, cap, by simp, by simp; omega, by simpa using hlen hl0 _ _ rfl (by simp), hbW, ?_⟩⟩
      intro i u hu
      have hi : i < len := by have := (List.getElem?_eq_some_iff.1 hu).1; simpa using this
      have : U i = u := by simpa [hi] using hu
      rw [← this]
      exact hU i hi

set_option maxRecDepth 100000 in
theorem budgets_lifted (os : Os) (started : os.Started) (H : Type) (enc : TypeId × Value → H) :
    ReturnsInHanded {} Try.checked os 6 .any (Rows.budgetsSpec.pre6 enc Try.prog Try.f6 Rows.budgetsRow.domain false) (Rows.budgetsSpec.post enc Try.prog Try.f6 false true false false) := by
  refine returnsInHanded_of_change_sized (C := Try.checked) Try.own started (by kernel_rfl) Try.func6
    (ChangeSpec.witness6 (enc := enc) (C := Try.checked) false ⟨#[], #[.slice none 0 0, .slice none 0 0], []⟩ 8 (by kernel_rfl) (by kernel_rfl) (by kernel_rfl) (by kernel_rfl)) ?_
  intro W base args ds gs before hval0 hW _ hsz0 _
  have hsz : (DataW.weightsEach Try.prog (Try.f6.params.toList ++ Rows.budgetsSpec.plain.varTypes Try.prog) (ds ++ gs)).all (· ≤ reachBytes) = true := hsz0
  clear hsz0
  have hval : ∀ (j : Nat) t v, Try.f6.params[j]? = some t → args[j]? = some v → Value.okWide Try.prog W .any base t v := hval0
  have hW' := hW
  obtain ⟨p, q, hA0, hV, rfl, _, _⟩ := hW
  have hA : DataW.TrodAll enc Try.prog W 0 (fun _ => true) true Try.f6.params.toList args.toList ds p := hA0
  rw [Try.params6] at hA hval hsz
  obtain ⟨v0, v1, d0, d1, p0, p1, rfl, rfl, rfl, h0, h1⟩ := trodAll_two hA
  obtain ⟨rfl, rfl⟩ := trodVars_none hV
  obtain ⟨a0, len, cap, rfl⟩ := okWide_slice Try.underlying22 (hval 0 22 v0 rfl rfl)
  obtain ⟨a1, len1, cap1, rfl⟩ := okWide_slice Try.underlying29 (hval 1 29 v1 rfl rfl)
  have h0k := h0
  have h1k := h1
  obtain ⟨fuel, hf⟩ := h0
  obtain ⟨fuel1, hf1⟩ := h1
  clear hA0 hval0
  simp only [List.append_nil] at hW'
  have hlt : ∀ x ∈ p0, x.block < W.heap.size := fun x hx => by simpa using hW'.lt x (List.mem_append_left _ hx)
  have hlt1 : ∀ x ∈ p1, x.block < W.heap.size := fun x hx => by simpa using hW'.lt x (List.mem_append_right _ hx)
  obtain ⟨ops, hsc, hol, hd⟩ := script_open hf hlt
  have hlen : ops.length ≤ 651562446088 := by
    by_cases hl0 : len = 0
    · omega
    · obtain ⟨elems, spare, rfl, hle⟩ := hd hl0
      have := sized_slice hsz (j := 0) (t := 22) (e := 38) rfl rfl Try.underlying22
      rw [bytes40] at this
      simp only [reachBytes] at this
      omega
  obtain ⟨l, hl⟩ := ints_open hf1 hlt1 (fun _ elems spare he hle => by
    subst he
    have := sized_slice hsz (j := 1) (t := 29) (e := 3) rfl rfl Try.underlying29
    rw [bytes3] at this
    simp only [reachBytes] at this
    omega)
  refine (bud_any (.slice a0 len cap) (.slice a1 len1 cap1) ops l W hsc hl hlen).mono ?_
  rintro e W' ⟨rfl, hk⟩
  have hb := hk.below
  have hargs : DataW.Trod enc Try.prog W' 0 (fun b => decide (b < W.heap.size)) true 22 (.slice a0 len cap) d0 p0 :=
    Below.trod Try.laidOut (by kernel_rfl) (of_decide_eq_true (by kernel_rfl)) h0k hb hlt
  have hargs1 : DataW.Trod enc Try.prog W' 0 (fun b => decide (b < W.heap.size)) true 29 (.slice a1 len1 cap1) d1 p1 :=
    Below.trod Try.laidOut (by kernel_rfl) (of_decide_eq_true (by kernel_rfl)) h1k hb hlt1
  exact ⟨_, rfl, _, _, _, [], p0 ++ p1, [], hW', trodAll_mk1 (shut_bool Try.underlying4 _), trodAll_mk2 hargs hargs1, rfl, hb.frame _, fun h => by cases h⟩

theorem budgets_holds : Rows.BudgetsSaid :=
  OpenClaim.holds_of_wide 6 Try.f6 rfl rfl rfl rfl rfl rfl rfl ⟨rfl, rfl, rfl, rfl, rfl⟩ rfl rfl rfl rfl rfl (by kernel_rfl) Try.func6 (by kernel_rfl)
    (of_decide_eq_true (by kernel_rfl)) (by unfold Func.isWrapper; first | (rw [if_pos (by decide +kernel)]; kernel_rfl) | (rw [if_neg (by decide +kernel)]; exact ⟨rfl, rfl⟩))
    (fun os started H enc _ => budgets_lifted os started H enc)

end Go.Proofs.Ytjhaihbjhikhlaa
