import Derived.Test.YteecnidnlkjehaaF
import Derived.Laws.AppendOwnNone
namespace Go.Proofs.Yteecnidnlkjehaa
open Go.RowKit
attribute [local go_sem ↓] execOp_load38 execOp_load40 execOp_store40 execOp_bs22
attribute [local go_sem] run_load38 run_load40 bigVal_drew hasBig_drew bigVal_ne hasBig_ne bigVal_alloc hasBig_alloc

def opFlat (l : List OpM) : List Value := l.flatMap OpM.cells
theorem opFlat_append (a b : List OpM) : opFlat (a ++ b) = opFlat a ++ opFlat b := by simp [opFlat]
theorem opFlat_length (l : List OpM) : (opFlat l).length = l.length * 26 := by
  induction l with
  | nil => rfl
  | cons a l ih =>
    have hc : opFlat (a :: l) = a.cells ++ opFlat l := by simp [opFlat]
    rw [hc, List.length_append, ih, List.length_cons]
    have : a.cells.length = 26 := rfl
    omega
theorem opFlat_get (l : List OpM) (i j : Nat) (x : OpM) (h : l[i]? = some x) (hj : j < 26) : (opFlat l)[i * 26 + j]? = x.cells[j]? := by
  induction l generalizing i with
  | nil => simp at h
  | cons a l ih =>
    have hc : opFlat (a :: l) = a.cells ++ opFlat l := by simp [opFlat]
    have hl : a.cells.length = 26 := rfl
    rw [hc]
    cases i with
    | zero =>
      have : a = x := by simpa using h
      subst this
      rw [List.getElem?_append_left (by omega)]
      simp
    | succ i =>
      rw [List.getElem?_append_right (by omega)]
      have := ih i (by simpa using h)
      rw [← this]
      congr 1
      omega
theorem opFlat_one (l : List OpM) (u : Value) (h : u ∈ opFlat l) : u.oneCell' = true := by
  obtain ⟨o, _, hu⟩ := List.mem_flatMap.1 h
  have := op_oneCell o
  simp only [List.all_toArray, List.all_eq_true] at this
  exact this u hu

/-- A script that the call has made. -/
abbrev OwnS (w : World) (base : Nat) (v : Value) (ops : List OpM) : Prop := w.ownsRow base 40 26 v ops.length (opFlat ops)
/-- A script as a value: of an empty one the address is whatever. -/
def ScriptW (w : World) (v : Value) (ops : List OpM) : Prop := ((∃ a c, v = .slice a 0 c) ∧ ops = []) ∨ ∃ sb so cap, v = .slice (some ⟨sb, so, none⟩) ops.length cap ∧ ops.length ≤ cap ∧ ScriptAt w sb so ops ∧ sb < w.heap.size
theorem ScriptAt.keeps {w w' : World} {sb so : Nat} {ops : List OpM} (h : ScriptAt w sb so ops) (hk : Keeps (fun _ => False) w w') : ScriptAt w' sb so ops :=
  fun i o ho j u hu => hk.cell (h i o ho j u hu) (fun h => h)
theorem ScriptW.keeps {w w' : World} {v : Value} {ops : List OpM} (h : ScriptW w v ops) (hk : Keeps (fun _ => False) w w') : ScriptW w' v ops := by
  rcases h with h | ⟨sb, so, cap, h1, h2, h3, h4⟩
  · exact .inl h
  · exact .inr ⟨sb, so, cap, h1, h2, h3.keeps hk, by have := hk.size; omega⟩
theorem run_script' (v : Value) (ops : List OpM) (w : World) (h : ScriptW w v ops) (hlen : ops.length ≤ 651562446090) :
    Calls Try.prog 13 #[v] w fun r w' => ∃ v l, r = .returned v ∧ ARep w' w.heap.size v l ∧ l.map (fun x => (x.code, x.nums)) = runM ws0 ops ∧ Keeps (fun _ => False) w w' := by
  rcases h with ⟨⟨a, c, rfl⟩, rfl⟩ | ⟨sb, so, cap, rfl, h2, h3, h4⟩
  · exact run_nil a c w
  · exact run_all sb so cap ops w h3 h4 hlen
theorem own_script {w : World} {base : Nat} {v : Value} {ops : List OpM} (h : OwnS w base v ops) : (v = .slice none 0 0 ∧ ops = []) ∨ ∃ g cap, v = .slice (some ⟨g, 0, none⟩) ops.length cap ∧ ops.length ≤ cap ∧ ScriptAt w g 0 ops ∧ g < w.heap.size ∧ base ≤ g ∧ cap ≤ maxLen := by
  rcases h.2 with ⟨h1, h2⟩ | ⟨g, cap, cur, h1, h2, h3, h4, h5, h6, h7⟩
  · exact .inl ⟨h1, List.length_eq_zero_iff.1 h2⟩
  · refine .inr ⟨g, cap, h1, h4, ?_, (Array.getElem?_eq_some_iff.1 h3).1, h2, h5⟩
    intro i o ho j u hu
    have hj : j < 26 := by have := (List.getElem?_eq_some_iff.1 hu).1; exact this
    have hi : i < ops.length := (List.getElem?_eq_some_iff.1 ho).1
    have hf := opFlat_get ops i j o ho hj
    have hc : cur[i * 26 + j]? = some u := by
      rw [← h7, List.getElem?_take, if_pos (by omega), hu] at hf
      simpa using hf
    rw [Nat.zero_add]
    simp [World.cell?, h3, hc]
theorem own_scriptW {w : World} {base : Nat} {v : Value} {ops : List OpM} (h : OwnS w base v ops) : ScriptW w v ops := by
  rcases own_script h with ⟨h1, h2⟩ | ⟨g, cap, h1, h2, h3, h4, _, _⟩
  · exact .inl ⟨⟨_, _, h1⟩, h2⟩
  · exact .inr ⟨g, 0, cap, h1, h2, h3, h4⟩

def cz0 : List Value := (⟨0, 0, 0, 0, 0, cz, noBytes⟩ : OpM).cells
theorem info40 : (Try.prog.info? 40).map (fun i => (i.zero, i.size, i.bytes)) = some (some (.agg cz0.toArray), 26, 216) := by kernel_rfl

/-! ### append of nothing -/
theorem run_append_zero {P : Program} {w : World} (base : Nat) (t ty e : TypeId) (i : TypeInfo) (size : Nat) (ht : P.underlying t = some (.slice e)) (hi : P.info? e = some i)
    (v : Value) (n : Nat) (xs : List Value) (hown : w.ownsRow base e size v n xs) (ad : Option Addr) (c : Nat) :
    (Builtin.append_ #[t, t] ty #[v, .slice ad 0 c]).run P w = .ok v w := by
  rcases hown.2 with ⟨rfl, rfl⟩ | ⟨g, cap, cur, rfl, _, _, hnc, _⟩
  · cases ad <;> simp [Builtin.append_, run_underlying ht, sizeOf, typeInfo, hi, Builtin.lenOf, Builtin.firstCells, loadCells, loadCellsFrom]
  · cases ad <;> simp [Builtin.append_, run_underlying ht, sizeOf, typeInfo, hi, Builtin.lenOf, Builtin.firstCells, hnc, storeCells, loadCells, loadCellsFrom]
theorem wpList_append_zero {P : Program} {w : World} {ops : Array Oper} {rest : List Oper} {o : Oper} {a : Act} {Q : Exit → Act → World → Prop} (hgd : o.guard = none) (s x : Operand) (t : TypeId)
    (ho : o.op = .call { callee := .builtin .append, args := #[s, x], argTypes := #[t, t] })
    (base : Nat) (e : TypeId) (i : TypeInfo) (size : Nat) (ht : P.underlying t = some (.slice e)) (hi : P.info? e = some i)
    (v : Value) (n : Nat) (xs : List Value) (hs : a.eval s = v) (hown : w.ownsRow base e size v n xs) (ad : Option Addr) (c : Nat) (hx : a.eval x = .slice ad 0 c)
    (h : wpList P ops Q rest (a.put o.dst v) w) : wpList P ops Q (o :: rest) a w := by
  refine wpList_plain hgd fun K hK => ?_
  have hrun := run_append_zero (P := P) (w := w) base t o.type e i size ht hi v n xs hown ad c
  unfold Oper.wp
  simp [execOp, ho, resolve, invoke, builtin, hs, hx, hrun, Result.andThen]
  exact hK _ _ h

end Go.Proofs.Yteecnidnlkjehaa
