import Derived.Test.YtjhaihbjhikhlaaGreatXP
import Derived.Laws.AppendOwnNone
namespace Go.Proofs.YtjhaihbjhikhlaaGreat

/-- A series without what was refused. -/
def Ser.bare (x : Ser) : Ser := { x with ref := [] }
def WS.bare (s : WS) : WS := ⟨s.clock, s.xs.map Ser.bare⟩
theorem bare_bare (x : Ser) : x.bare.bare = x.bare := rfl
theorem WS.bare_bare (s : WS) : s.bare.bare = s.bare := by
  unfold WS.bare
  simp only [List.map_map]
  congr 1

theorem find_bare (xs : List Ser) (id : Int) : findS (xs.map Ser.bare) id = (findS xs id).map Ser.bare := by
  induction xs with
  | nil => rfl
  | cons a l ih =>
    unfold findS at *
    rw [List.map_cons, List.find?_cons, List.find?_cons]
    have : (a.bare.id == id) = (a.id == id) := rfl
    rw [this]
    split
    · rfl
    · exact ih
theorem updS_cons (a : Ser) (l : List Ser) (id : Int) (y : Ser) : updS (a :: l) id y = if a.id == id then y :: l else a :: updS l id y := rfl
theorem upd_bare (xs : List Ser) (id : Int) (y : Ser) : (updS xs id y).map Ser.bare = updS (xs.map Ser.bare) id y.bare := by
  induction xs with
  | nil => rfl
  | cons a l ih =>
    rw [List.map_cons, updS_cons, updS_cons]
    have : (a.bare.id == id) = (a.id == id) := rfl
    rw [this]
    split
    · rfl
    · rw [List.map_cons, ih]
theorem upd_self (xs : List Ser) (id : Int) (y : Ser) (h : findS xs id = some y) : updS xs id y = xs := by
  induction xs with
  | nil => rfl
  | cons a l ih =>
    unfold findS at h ih
    rw [List.find?_cons] at h
    unfold updS
    split at h
    · rename_i hc
      rw [if_pos hc]
      injection h with h
      rw [h]
    · rename_i hc
      rw [if_neg (by simp [hc])]
      rw [ih h]
theorem relOne_bare (x : Ser) (t : Int) : (relOne x t).bare = relOne x.bare t := rfl
theorem relS_succ (n : Nat) (x : Ser) (t : Int) : relS (n + 1) x t = if x.l.isEmpty then x else if t < (itAt x.l 0).t then x else relS n (relOne x t) t := rfl
theorem relS_bare (n : Nat) (x : Ser) (t : Int) : (relS n x t).bare = relS n x.bare t := by
  induction n generalizing x with
  | zero => rfl
  | succ n ih =>
    rw [relS_succ, relS_succ]
    show _ = if x.l.isEmpty then x.bare else if t < (itAt x.l 0).t then x.bare else relS n (relOne x.bare t) t
    split
    · rfl
    · split
      · rfl
      · rw [ih, relOne_bare]

theorem tick_bare (c : Int) (xs : List Ser) : (xs.map Ser.bare).map (tickOne c) = (xs.map (tickOne c)).map Ser.bare := by
  rw [List.map_map, List.map_map]
  refine List.map_congr_left fun x _ => ?_
  show relS (x.l.length + 1) x.bare (c - x.c.lag) = (relS (x.l.length + 1) x (c - x.c.lag)).bare
  rw [relS_bare]
theorem sweep_bare (c b : Int) (xs : List Ser) : (sweepL c b (xs.map Ser.bare)).1.map Ser.bare = (sweepL c b xs).1.map Ser.bare ∧ (sweepL c b (xs.map Ser.bare)).2 = (sweepL c b xs).2 := by
  induction xs generalizing b with
  | nil => exact ⟨rfl, rfl⟩
  | cons a l ih =>
    have := ih (b - thrS c b a)
    refine ⟨?_, ?_⟩
    · show (swpS c b a.bare).bare :: (sweepL c (b - thrS c b a) (l.map Ser.bare)).1.map Ser.bare = (swpS c b a).bare :: (sweepL c (b - thrS c b a) l).1.map Ser.bare
      rw [this.1]; rfl
    · show leftS c b a + (sweepL c (b - thrS c b a) (l.map Ser.bare)).2 = leftS c b a + (sweepL c (b - thrS c b a) l).2
      rw [this.2]
theorem step_bare (s : WS) (o : OpM) : (stepM s.bare o).2.1 = (stepM s o).2.1 ∧ (o.kind ≠ 5 → (stepM s.bare o).2.2 = (stepM s o).2.2) ∧ (stepM s.bare o).1.bare = (stepM s o).1.bare := by
  unfold stepM
  by_cases h1 : o.kind = 1
  · simp only [if_pos h1]
    unfold createM
    have hf : (findS s.bare.xs o.id).isNone = (findS s.xs o.id).isNone := by
      show (findS (s.xs.map Ser.bare) o.id).isNone = _
      rw [find_bare]; cases findS s.xs o.id <;> rfl
    have hl : s.bare.xs.length = s.xs.length := by show (s.xs.map Ser.bare).length = _; simp
    rw [hf, hl]
    split
    · split
      · split
        · refine ⟨rfl, fun _ => rfl, ?_⟩
          show (⟨s.clock, (s.bare.xs ++ [_]).map Ser.bare⟩ : WS) = ⟨s.clock, (s.xs ++ [_]).map Ser.bare⟩
          rw [List.map_append, List.map_append]
          show (⟨s.clock, (s.xs.map Ser.bare).map Ser.bare ++ _⟩ : WS) = _
          rw [List.map_map]
          rfl
        · exact ⟨rfl, fun _ => rfl, s.bare_bare⟩
      · exact ⟨rfl, fun _ => rfl, s.bare_bare⟩
    · exact ⟨rfl, fun _ => rfl, s.bare_bare⟩
  simp only [if_neg h1]
  by_cases h2 : o.kind = 2
  · simp only [if_pos h2]
    unfold addM
    show _ ∧ _
    have hf : findS s.bare.xs o.id = (findS s.xs o.id).map Ser.bare := find_bare _ _
    rw [hf]
    cases hx : findS s.xs o.id with
    | none => exact ⟨rfl, fun _ => rfl, s.bare_bare⟩
    | some x =>
      have hr : refE x.bare s.bare.clock o.item = refE x s.clock o.item := rfl
      simp only [Option.map_some]
      rw [hr]
      split
      · refine ⟨rfl, fun _ => rfl, ?_⟩
        show (⟨s.clock, (updS s.bare.xs o.id (accS x.bare o.item)).map Ser.bare⟩ : WS) = ⟨s.clock, (updS s.xs o.id (accS x o.item)).map Ser.bare⟩
        rw [upd_bare, upd_bare]
        show (⟨s.clock, updS ((s.xs.map Ser.bare).map Ser.bare) _ _⟩ : WS) = _
        rw [List.map_map]
        rfl
      · refine ⟨rfl, fun _ => rfl, ?_⟩
        show (⟨s.clock, (updS s.bare.xs o.id (refS x.bare _)).map Ser.bare⟩ : WS) = ⟨s.clock, (updS s.xs o.id (refS x _)).map Ser.bare⟩
        rw [upd_bare, upd_bare]
        show (⟨s.clock, updS ((s.xs.map Ser.bare).map Ser.bare) _ _⟩ : WS) = _
        rw [List.map_map]
        rfl
  simp only [if_neg h2]
  by_cases h3 : o.kind = 3
  · simp only [if_pos h3]
    unfold tickM
    split
    · split
      · have hs := sweep_bare (maxC s.clock o.a) o.b (s.xs.map (tickOne (maxC s.clock o.a)))
        rw [← tick_bare] at hs
        refine ⟨rfl, fun _ => ?_, ?_⟩
        · show [(sweepL (maxC s.clock o.a) o.b ((s.xs.map Ser.bare).map (tickOne (maxC s.clock o.a)))).2] = [_]
          rw [hs.2]
        · show (⟨maxC s.clock o.a, (sweepL (maxC s.clock o.a) o.b ((s.xs.map Ser.bare).map (tickOne (maxC s.clock o.a)))).1.map Ser.bare⟩ : WS) = ⟨maxC s.clock o.a, (sweepL (maxC s.clock o.a) o.b (s.xs.map (tickOne (maxC s.clock o.a)))).1.map Ser.bare⟩
          rw [hs.1]
      · exact ⟨rfl, fun _ => rfl, s.bare_bare⟩
    · exact ⟨rfl, fun _ => rfl, s.bare_bare⟩
  simp only [if_neg h3]
  by_cases h4 : o.kind = 4
  · simp only [if_pos h4]
    unfold queryM
    show _ ∧ _
    have hf : findS s.bare.xs o.id = (findS s.xs o.id).map Ser.bare := find_bare _ _
    rw [hf]
    cases hx : findS s.xs o.id with
    | none => exact ⟨rfl, fun _ => rfl, s.bare_bare⟩
    | some x =>
      exact ⟨rfl, fun _ => rfl, s.bare_bare⟩
  simp only [if_neg h4]
  by_cases h5 : o.kind = 5
  · simp only [if_pos h5]
    unfold statsM
    show _ ∧ _
    have hf : findS s.bare.xs o.id = (findS s.xs o.id).map Ser.bare := find_bare _ _
    rw [hf]
    cases hx : findS s.xs o.id with
    | none => exact ⟨rfl, fun _ => rfl, s.bare_bare⟩
    | some x => exact ⟨rfl, fun h => absurd h5 h, s.bare_bare⟩
  simp only [if_neg h5]
  exact ⟨trivial, fun _ => trivial, s.bare_bare⟩

/-- What is refused, and what only asks, leaves all but counts as it was. -/
theorem step_idle (s : WS) (o : OpM) (h : (stepM s o).2.1 ≠ 0 ∨ o.kind = 4 ∨ o.kind = 5 ∨ o.kind = 6) : (stepM s o).1.bare = s.bare := by
  unfold stepM at *
  by_cases h1 : o.kind = 1
  · have h0 : (stepM s o).2.1 ≠ 0 := by
      rcases h with h | h | h | h
      · unfold stepM; exact h
      all_goals omega
    unfold stepM at h0
    simp only [if_pos h1] at h0 ⊢
    unfold createM at h0 ⊢
    revert h0
    (repeat' split) <;> intro h0
    · exact absurd rfl h0
    all_goals rfl
  simp only [if_neg h1] at h ⊢
  by_cases h2 : o.kind = 2
  · have h0 : (addM s o).2.1 ≠ 0 := by
      rcases h with h | h | h | h
      · simpa only [if_pos h2] using h
      all_goals omega
    simp only [if_pos h2]
    clear h
    unfold addM at h0 ⊢
    revert h0
    cases hx : findS s.xs o.id with
    | none => intro _; rfl
    | some x =>
      simp only
      split
      · intro h0; exact absurd rfl h0
      · intro _
        show (⟨s.clock, (updS s.xs o.id (refS x _)).map Ser.bare⟩ : WS) = ⟨s.clock, s.xs.map Ser.bare⟩
        rw [upd_bare]
        show (⟨s.clock, updS (s.xs.map Ser.bare) o.id x.bare⟩ : WS) = _
        rw [upd_self _ _ _ (by rw [find_bare, hx]; rfl)]
  simp only [if_neg h2] at h ⊢
  by_cases h3 : o.kind = 3
  · have h0 : (tickM s o).2.1 ≠ 0 := by
      rcases h with h | h | h | h
      · simpa only [if_pos h3] using h
      all_goals omega
    simp only [if_pos h3]
    clear h
    unfold tickM at h0 ⊢
    revert h0
    (repeat' split) <;> intro h0
    · exact absurd rfl h0
    all_goals rfl
  simp only [if_neg h3]
  clear h
  split
  · unfold queryM; (repeat' split) <;> rfl
  split
  · unfold statsM; (repeat' split) <;> rfl
  · rfl

/-- Two runs from wholes that are alike but for counts. -/
theorem run_bare (l : List OpM) : ∀ (s s' : WS), s.bare = s'.bare → ∀ i, i < l.length → ((runM s l)[i]?.map (·.1) = (runM s' l)[i]?.map (·.1)) ∧ ((l.getD i o1).kind ≠ 5 → (runM s l)[i]? = (runM s' l)[i]?) := by
  induction l with
  | nil => intro s s' _ i hi; simp at hi
  | cons o l ih =>
    intro s s' h i hi
    obtain ⟨a1, a2, a3⟩ := step_bare s o
    obtain ⟨b1, b2, b3⟩ := step_bare s' o
    rw [h] at a1 a2 a3
    cases i with
    | zero =>
      refine ⟨?_, fun hk => ?_⟩
      · show some (stepM s o).2.1 = some (stepM s' o).2.1
        rw [← a1, b1]
      · show some (stepM s o).2 = some (stepM s' o).2
        have hk' : o.kind ≠ 5 := hk
        rw [show (stepM s o).2 = ((stepM s o).2.1, (stepM s o).2.2) from rfl, show (stepM s' o).2 = ((stepM s' o).2.1, (stepM s' o).2.2) from rfl, ← a1, b1, ← a2 hk', b2 hk']
    | succ i =>
      exact ih _ _ (by rw [← a3, b3]) i (by simpa using hi)

end Go.Proofs.YtjhaihbjhikhlaaGreat

namespace Go.Proofs.YtjhaihbjhikhlaaGreat
open Go.RowKit
attribute [local go_sem ↓] execOp_load38 execOp_load40 execOp_store40 execOp_bs22
attribute [local go_sem] run_load38 run_load40 bigVal_drew hasBig_drew bigVal_ne hasBig_ne bigVal_alloc hasBig_alloc

def opFlat (l : List OpM) : List Value := l.flatMap OpM.cells
theorem opFlat_append (a b : List OpM) : opFlat (a ++ b) = opFlat a ++ opFlat b := by simp [opFlat]
theorem opFlat_length (l : List OpM) : (opFlat l).length = l.length * 26 := by
  induction l with
  | nil => rfl
  | cons a l ih =>
    have hc : opFlat (a :: l) = a.cells ++ opFlat l := by simp [opFlat]
    rw [hc, List.length_append, ih, List.length_cons]
    have : a.cells.length = 26 := rfl
    omega
theorem opFlat_get (l : List OpM) (i j : Nat) (x : OpM) (h : l[i]? = some x) (hj : j < 26) : (opFlat l)[i * 26 + j]? = x.cells[j]? := by
  induction l generalizing i with
  | nil => simp at h
  | cons a l ih =>
    have hc : opFlat (a :: l) = a.cells ++ opFlat l := by simp [opFlat]
    have hl : a.cells.length = 26 := rfl
    rw [hc]
    cases i with
    | zero =>
      have : a = x := by simpa using h
      subst this
      rw [List.getElem?_append_left (by omega)]
      simp
    | succ i =>
      rw [List.getElem?_append_right (by omega)]
      have := ih i (by simpa using h)
      rw [← this]
      congr 1
      omega
theorem opFlat_one (l : List OpM) (u : Value) (h : u ∈ opFlat l) : u.oneCell' = true := by
  obtain ⟨o, _, hu⟩ := List.mem_flatMap.1 h
  have := op_oneCell o
  simp only [List.all_toArray, List.all_eq_true] at this
  exact this u hu

/-- A script that the call has made. -/
abbrev OwnS (w : World) (base : Nat) (v : Value) (ops : List OpM) : Prop := w.ownsRow base 35 26 v ops.length (opFlat ops)
/-- A script as a value: of an empty one the address is whatever. -/
def ScriptW (w : World) (v : Value) (ops : List OpM) : Prop := ((∃ a c, v = .slice a 0 c) ∧ ops = []) ∨ ∃ sb so cap, v = .slice (some ⟨sb, so, none⟩) ops.length cap ∧ ops.length ≤ cap ∧ ScriptAt w sb so ops ∧ sb < w.heap.size
theorem ScriptAt.keeps {w w' : World} {sb so : Nat} {ops : List OpM} (h : ScriptAt w sb so ops) (hk : Keeps (fun _ => False) w w') : ScriptAt w' sb so ops :=
  fun i o ho j u hu => hk.cell (h i o ho j u hu) (fun h => h)
theorem ScriptW.keeps {w w' : World} {v : Value} {ops : List OpM} (h : ScriptW w v ops) (hk : Keeps (fun _ => False) w w') : ScriptW w' v ops := by
  rcases h with h | ⟨sb, so, cap, h1, h2, h3, h4⟩
  · exact .inl h
  · exact .inr ⟨sb, so, cap, h1, h2, h3.keeps hk, by have := hk.size; omega⟩
theorem run_script' (v : Value) (ops : List OpM) (w : World) (h : ScriptW w v ops) (hlen : ops.length ≤ 651562446090) :
    Calls Tryz.prog 10 #[v] w fun r w' => ∃ v l, r = .returned v ∧ ARep w' w.heap.size v l ∧ l.map (fun x => (x.code, x.nums)) = runM ws0 ops ∧ Keeps (fun _ => False) w w' := by
  rcases h with ⟨⟨a, c, rfl⟩, rfl⟩ | ⟨sb, so, cap, rfl, h2, h3, h4⟩
  · exact run_nil a c w
  · exact run_all sb so cap ops w h3 h4 hlen
theorem own_script {w : World} {base : Nat} {v : Value} {ops : List OpM} (h : OwnS w base v ops) : (v = .slice none 0 0 ∧ ops = []) ∨ ∃ g cap, v = .slice (some ⟨g, 0, none⟩) ops.length cap ∧ ops.length ≤ cap ∧ ScriptAt w g 0 ops ∧ g < w.heap.size ∧ base ≤ g ∧ cap ≤ maxLen := by
  rcases h.2 with ⟨h1, h2⟩ | ⟨g, cap, cur, h1, h2, h3, h4, h5, h6, h7⟩
  · exact .inl ⟨h1, List.length_eq_zero_iff.1 h2⟩
  · refine .inr ⟨g, cap, h1, h4, ?_, (Array.getElem?_eq_some_iff.1 h3).1, h2, h5⟩
    intro i o ho j u hu
    have hj : j < 26 := by have := (List.getElem?_eq_some_iff.1 hu).1; exact this
    have hi : i < ops.length := (List.getElem?_eq_some_iff.1 ho).1
    have hf := opFlat_get ops i j o ho hj
    have hc : cur[i * 26 + j]? = some u := by
      rw [← h7, List.getElem?_take, if_pos (by omega), hu] at hf
      simpa using hf
    rw [Nat.zero_add]
    simp [World.cell?, h3, hc]
theorem own_scriptW {w : World} {base : Nat} {v : Value} {ops : List OpM} (h : OwnS w base v ops) : ScriptW w v ops := by
  rcases own_script h with ⟨h1, h2⟩ | ⟨g, cap, h1, h2, h3, h4, _, _⟩
  · exact .inl ⟨⟨_, _, h1⟩, h2⟩
  · exact .inr ⟨g, 0, cap, h1, h2, h3, h4⟩

def cz0 : List Value := (⟨0, 0, 0, 0, 0, cz, noBytes⟩ : OpM).cells
theorem info40 : (Tryz.prog.info? 35).map (fun i => (i.zero, i.size, i.bytes)) = some (some (.agg cz0.toArray), 26, 216) := by kernel_rfl

/-! ### append of nothing -/
theorem run_append_zero {P : Program} {w : World} (base : Nat) (t ty e : TypeId) (i : TypeInfo) (size : Nat) (ht : P.underlying t = some (.slice e)) (hi : P.info? e = some i)
    (v : Value) (n : Nat) (xs : List Value) (hown : w.ownsRow base e size v n xs) (ad : Option Addr) (c : Nat) :
    (Builtin.append_ #[t, t] ty #[v, .slice ad 0 c]).run P w = .ok v w := by
  rcases hown.2 with ⟨rfl, rfl⟩ | ⟨g, cap, cur, rfl, _, _, hnc, _⟩
  · cases ad <;> simp [Builtin.append_, run_underlying ht, sizeOf, typeInfo, hi, Builtin.lenOf, Builtin.firstCells, loadCells, loadCellsFrom]
  · cases ad <;> simp [Builtin.append_, run_underlying ht, sizeOf, typeInfo, hi, Builtin.lenOf, Builtin.firstCells, hnc, storeCells, loadCells, loadCellsFrom]
theorem wpList_append_zero {P : Program} {w : World} {ops : Array Oper} {rest : List Oper} {o : Oper} {a : Act} {Q : Exit → Act → World → Prop} (hgd : o.guard = none) (s x : Operand) (t : TypeId)
    (ho : o.op = .call { callee := .builtin .append, args := #[s, x], argTypes := #[t, t] })
    (base : Nat) (e : TypeId) (i : TypeInfo) (size : Nat) (ht : P.underlying t = some (.slice e)) (hi : P.info? e = some i)
    (v : Value) (n : Nat) (xs : List Value) (hs : a.eval s = v) (hown : w.ownsRow base e size v n xs) (ad : Option Addr) (c : Nat) (hx : a.eval x = .slice ad 0 c)
    (h : wpList P ops Q rest (a.put o.dst v) w) : wpList P ops Q (o :: rest) a w := by
  refine wpList_plain hgd fun K hK => ?_
  have hrun := run_append_zero (P := P) (w := w) base t o.type e i size ht hi v n xs hown ad c
  unfold Oper.wp
  simp [execOp, ho, resolve, invoke, builtin, hs, hx, hrun, Result.andThen]
  exact hK _ _ h

end Go.Proofs.YtjhaihbjhikhlaaGreat

namespace Go.Proofs.YtjhaihbjhikhlaaGreat
open Go.RowKit
attribute [local go_sem ↓] execOp_load38 execOp_load40 execOp_store40 execOp_bs22
attribute [local go_sem] run_load38 run_load40 bigVal_drew hasBig_drew bigVal_ne hasBig_ne bigVal_alloc hasBig_alloc

/-- append of a script onto one that the call has made. -/
theorem wpList_append_ops {w : World} {ops : Array Oper} {rest : List Oper} {o : Oper} {a : Act} {Q : Exit → Act → World → Prop} (hgd : o.guard = none) (s x : Operand)
    (ho : o.op = .call { callee := .builtin .append, args := #[s, x], argTypes := #[22, 22] })
    (base : Nat) (v : Value) (A : List OpM) (hs : a.eval s = v) (hown : OwnS w base v A) (u : Value) (B : List OpM) (hx : a.eval x = u) (hB : ScriptW w u B)
    (hlen : A.length + B.length ≤ 651562446089) (hbase : base ≤ w.heap.size)
    (h : ∀ ad c w', OwnS w' base (.slice ad (A.length + B.length) c) (A ++ B) → Keeps (fun i => v.ownBlock = some i) w w' → (∀ i, (Value.slice ad (A.length + B.length) c).ownBlock = some i → v.ownBlock = some i ∨ w.heap.size ≤ i) → wpList Tryz.prog ops Q rest (a.put o.dst (.slice ad (A.length + B.length) c)) w') : wpList Tryz.prog ops Q (o :: rest) a w := by
  obtain ⟨i0, hi0, hz0, hz1, hz2⟩ := info_parts info40
  by_cases hb : B = []
  · subst hb
    have hu : ∃ ad c, u = .slice ad 0 c := by
      rcases hB with ⟨h, _⟩ | ⟨sb, so, cap, h, _⟩
      · exact h
      · exact ⟨_, _, h⟩
    obtain ⟨ad, c, rfl⟩ := hu
    obtain ⟨av, ac, hv⟩ := row_form hown
    refine wpList_append_zero hgd s x 22 ho base 35 i0 26 Tryz.underlying22 hi0 v A.length (opFlat A) hs hown ad c hx ?_
    have := h av ac w (by rw [List.append_nil]; rw [hv] at hown; exact hown) (Keeps.refl _ _) (by rw [hv]; exact fun i hi => .inl hi)
    rw [hv]
    exact this
  · rcases hB with ⟨_, h0⟩ | ⟨sb, so, cap, rfl, hcap, hsc, hlt⟩
    · exact absurd h0 hb
    · have hpos : 0 < B.length := List.length_pos_iff.2 hb
      refine wpList_append_lies w hgd s x 22 ho base 35 i0 (.agg cz0.toArray) 26 216 Tryz.underlying22 hi0 hz0 hz1 hz2 (by rfl) (by omega) v A.length (opFlat A) hs hown ⟨sb, so, none⟩ B.length cap (opFlat B) hx (opFlat_length B) ?_ (opFlat_one B) hpos (by unfold maxLen; omega) (by omega) hbase w.heap.size rfl ?_
      · intro j z hz
        have hj : j < B.length * 26 := by have := (List.getElem?_eq_some_iff.1 hz).1; rwa [opFlat_length] at this
        have hq : j / 26 < B.length := by omega
        have hf := opFlat_get B (j / 26) (j % 26) B[j / 26] (List.getElem?_eq_getElem hq) (by omega)
        rw [show j / 26 * 26 + j % 26 = j by omega, hz] at hf
        have := hsc (j / 26) B[j / 26] (List.getElem?_eq_getElem hq) (j % 26) z hf.symm
        rw [Go.WideShapes.add_plain, show so + j = so + j / 26 * 26 + j % 26 by omega]
        exact this
      · intro g c w' hown' hgrow hat hlt'
        refine h (some ⟨g, 0, none⟩) c w' ?_ ?_ ?_
        · show w'.ownsRow base 35 26 _ (A ++ B).length (opFlat (A ++ B))
          rw [opFlat_append, List.length_append]; exact hown'
        · exact ⟨hgrow.os, hgrow.tape, hgrow.output, hgrow.size, fun k hk hn => hgrow.block k hk (fun h => hn h.symm)⟩
        · intro i hi
          have : g = i := by simpa [Value.ownBlock] using hi
          subst this
          rcases hat with h1 | h1
          · exact .inl h1
          · exact .inr (by omega)

def OpM.noLoad (o : OpM) : Bool := o.kind != 7

theorem run_bs1 (w : World) (o : OpM) : (bsBig 22 1 #[(0, .agg o.cells.toArray)]).run Tryz.prog w = .ok (.value (.slice (some ⟨w.heap.size, 0, none⟩) 1 1)) (w.alloc (.cells o.cells.toArray 35)) := by kernel_rfl
theorem blk_script {w : World} {b : Nat} {o : OpM} (h : Blk w b o.cells 35) : ScriptW w (.slice (some ⟨b, 0, none⟩) 1 1) [o] := by
  refine .inr ⟨b, 0, 1, rfl, by simp, ?_, h.lt⟩
  intro i x hx j u hu
  have hi : i = 0 := by have := (List.getElem?_eq_some_iff.1 hx).1; simp at this; omega
  subst hi
  have : o = x := by simpa using hx
  subst this
  have := h.cell hu
  simpa using this

attribute [local go_sem] run_bs1
end Go.Proofs.YtjhaihbjhikhlaaGreat

namespace Go.Proofs.YtjhaihbjhikhlaaGreat
open Go.RowKit

/-- What Refused says, of the model's answers. -/
theorem refused_ans (s : List OpM) (k : Nat) (o : OpM) (hk : k ≤ s.length) (code : Int) (hB : ((runM ws0 (s.take k ++ [o] ++ s.drop k))[k]?).map (·.1) = some code) (h : code ≠ 0 ∨ o.kind = 4 ∨ o.kind = 5 ∨ o.kind = 6) (i : Nat) (hi : i < s.length) (x y : Int × List Int)
    (hx : (runM ws0 s)[i]? = some x) (hy : (runM ws0 (s.take k ++ [o] ++ s.drop k))[if k ≤ i then i + 1 else i]? = some y) : x.1 = y.1 ∧ ((s.getD i o1).kind ≠ 5 → x.2 = y.2) := by
  have hA : runM ws0 s = runM ws0 (s.take k) ++ runM (endM ws0 (s.take k)) (s.drop k) := by
    have := runM_append ws0 (s.take k) (s.drop k)
    rwa [List.take_append_drop] at this
  have hlk : (runM ws0 (s.take k)).length = k := by rw [runM_length, List.length_take]; omega
  have hBB : runM ws0 (s.take k ++ [o] ++ s.drop k) = runM ws0 (s.take k) ++ ((stepM (endM ws0 (s.take k)) o).2 :: runM (stepM (endM ws0 (s.take k)) o).1 (s.drop k)) := by
    rw [runM_append, runM_snoc, endM_snoc, List.append_assoc]; rfl
  rw [hBB] at hB hy
  rw [hA] at hx
  rw [List.getElem?_append_right (by omega), hlk, Nat.sub_self] at hB
  have hc : (stepM (endM ws0 (s.take k)) o).2.1 = code := by simpa using hB
  have hb := step_idle (endM ws0 (s.take k)) o (by rw [hc]; exact h)
  by_cases hki : k ≤ i
  · rw [if_pos hki, List.getElem?_append_right (by omega), hlk, show i + 1 - k = (i - k) + 1 by omega, List.getElem?_cons_succ] at hy
    rw [List.getElem?_append_right (by omega), hlk] at hx
    obtain ⟨r1, r2⟩ := run_bare (s.drop k) _ _ hb (i - k) (by rw [List.length_drop]; omega)
    rw [hx, hy] at r1 r2
    have hg : (s.drop k).getD (i - k) o1 = s.getD i o1 := by
      rw [List.getD_eq_getElem?_getD, List.getElem?_drop, show k + (i - k) = i by omega, ← List.getD_eq_getElem?_getD]
    rw [hg] at r2
    refine ⟨by simpa using r1.symm, fun h5 => ?_⟩
    have := r2 h5
    simp at this
    rw [this]
  · rw [if_neg hki, List.getElem?_append_left (by omega)] at hy
    rw [List.getElem?_append_left (by omega)] at hx
    rw [hx] at hy
    injection hy with hy
    subst hy
    exact ⟨rfl, fun _ => rfl⟩

end Go.Proofs.YtjhaihbjhikhlaaGreat
