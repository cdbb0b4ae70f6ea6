import Derived.Test.YtahnliehdjncdaaGreatDoorXBQ
import Derived.Laws.AppendOwnNone
import Derived.Test.YtahnliehdjncdaaGreatDoorXBA
import Derived.Deep.DeepHandedRow
import Derived.Lib.LaidTab
import Derived.SevenTiedAt
import Derived.Test.YtahnliehdjncdaaGreatDoorCards
import Derived.Test.YtahnliehdjncdaaGreatDoorXAU
import Derived.Test.YtahnliehdjncdaaGreatDoorTie
import Derived.Test.YtahnliehdjncdaaGreatDoorXBD
import Derived.Test.YtahnliehdjncdaaGreatDoorXBH
import Derived.Test.YtahnliehdjncdaaGreatDoorXBO
set_option maxRecDepth 100000
set_option maxHeartbeats 16000000
namespace Go.Proofs.YtahnliehdjncdaaGreatDoor
open Go.ChangeShapes Go.WideShapes Go.ChangeAt Go.RowKit Go.Deep
theorem Tryz.own : ownKnob Tryz.prog.godebug = none := by kernel_rfl
theorem Tryz.laidOut : laidOutB Tryz.prog = true := by kernel_rfl
theorem Keeps.below {w w' : World} (h : Keeps (fun _ => False) w w') : Below w.heap.size w w' := ⟨h.os, h.tape, h.output, h.size, fun k hk => h.block k hk (fun h => h)⟩
theorem i64_of_wf {x : Int} (h : (Lit.int .i64 x).wf = true) : -9223372036854775808 ≤ x ∧ x ≤ 9223372036854775807 := by
 simp [Lit.wf, IntKind.min, IntKind.max, IntKind.signed, IntKind.bits] at h
 omega
end Go.Proofs.YtahnliehdjncdaaGreatDoor
namespace Go.Proofs.YtahnliehdjncdaaGreatDoor
open Go.RowKit
attribute [local go_sem ↓] execOp_load38 execOp_load40 execOp_store40 execOp_bs22
attribute [local go_sem] run_load38 run_load40 bigVal_drew hasBig_drew bigVal_ne hasBig_ne bigVal_alloc hasBig_alloc
def opFlat (l : List OpM) : List Value := l.flatMap OpM.cells
theorem opFlat_append (a b : List OpM) : opFlat (a ++ b) = opFlat a ++ opFlat b := by simp [opFlat]
theorem opFlat_length (l : List OpM) : (opFlat l).length = l.length * 26 := by
 induction l with
 | nil => rfl
 | cons a l ih =>
  have hc : opFlat (a :: l) = a.cells ++ opFlat l := by simp [opFlat]
  rw [hc, List.length_append, ih, List.length_cons]
  have : a.cells.length = 26 := rfl
  omega
theorem opFlat_get (l : List OpM) (i j : Nat) (x : OpM) (h : l[i]? = some x) (hj : j < 26) : (opFlat l)[i * 26 + j]? = x.cells[j]? := by
 induction l generalizing i with
 | nil => simp at h
 | cons a l ih =>
  have hc : opFlat (a :: l) = a.cells ++ opFlat l := by simp [opFlat]
  have hl : a.cells.length = 26 := rfl
  rw [hc]
  cases i with
  | zero =>
   have : a = x := by simpa using h
   subst this
   rw [List.getElem?_append_left (by omega)]
   simp
  | succ i =>
   rw [List.getElem?_append_right (by omega)]
   have := ih i (by simpa using h)
   rw [← this]
   congr 1
   omega
theorem opFlat_one (l : List OpM) (u : Value) (h : u ∈ opFlat l) : u.oneCell' = true := by
 obtain ⟨o, _, hu⟩ := List.mem_flatMap.1 h
 have := op_oneCell o
 simp only [List.all_toArray, List.all_eq_true] at this
 exact this u hu
abbrev OwnS (w : World) (base : Nat) (v : Value) (ops : List OpM) : Prop := w.ownsRow base 40 26 v ops.length (opFlat ops)
def ScriptW (w : World) (v : Value) (ops : List OpM) : Prop := ((∃ a c, v = .slice a 0 c) ∧ ops = []) ∨ ∃ sb so cap, v = .slice (some ⟨sb, so, none⟩) ops.length cap ∧ ops.length ≤ cap ∧ ScriptAt w sb so ops ∧ sb < w.heap.size
theorem ScriptAt.keeps {w w' : World} {sb so : Nat} {ops : List OpM} (h : ScriptAt w sb so ops) (hk : Keeps (fun _ => False) w w') : ScriptAt w' sb so ops :=
 fun i o ho j u hu => hk.cell (h i o ho j u hu) (fun h => h)
theorem ScriptW.keeps {w w' : World} {v : Value} {ops : List OpM} (h : ScriptW w v ops) (hk : Keeps (fun _ => False) w w') : ScriptW w' v ops := by
 rcases h with h | ⟨sb, so, cap, h1, h2, h3, h4⟩
 ·exact .inl h
 ·exact .inr ⟨sb, so, cap, h1, h2, h3.keeps hk, by have := hk.size; omega⟩
theorem run_script' (v : Value) (ops : List OpM) (w : World) (h : ScriptW w v ops) (hlen : ops.length ≤ 651562446090) (hT : Tab w) (hok : OkRun ops) :
  Calls Tryz.prog 19 #[v] w fun r w' => ∃ v l, r = .returned v ∧ ARep w' w.heap.size v l ∧ l.map (fun x => (x.code, x.nums)) = runM ws0 ops ∧ l.map (·.bs) = runB ws0 ops ∧ Keeps (fun _ => False) w w' := by
 rcases h with ⟨⟨a, c, rfl⟩, rfl⟩ | ⟨sb, so, cap, rfl, h2, h3, h4⟩
 ·exact run_nil a c w
 ·exact run_all sb so cap ops w h3 h4 hlen hT hok
theorem own_script {w : World} {base : Nat} {v : Value} {ops : List OpM} (h : OwnS w base v ops) : (v = .slice none 0 0 ∧ ops = []) ∨ ∃ g cap, v = .slice (some ⟨g, 0, none⟩) ops.length cap ∧ ops.length ≤ cap ∧ ScriptAt w g 0 ops ∧ g < w.heap.size ∧ base ≤ g ∧ cap ≤ maxLen := by
 rcases h.2 with ⟨h1, h2⟩ | ⟨g, cap, cur, h1, h2, h3, h4, h5, h6, h7⟩
 ·exact .inl ⟨h1, List.length_eq_zero_iff.1 h2⟩
 ·refine .inr ⟨g, cap, h1, h4, ?_, (Array.getElem?_eq_some_iff.1 h3).1, h2, h5⟩
  intro i o ho j u hu
  have hj : j < 26 := by have := (List.getElem?_eq_some_iff.1 hu).1; exact this
  have hi : i < ops.length := (List.getElem?_eq_some_iff.1 ho).1
  have hf := opFlat_get ops i j o ho hj
  have hc : cur[i * 26 + j]? = some u := by
   rw [← h7, List.getElem?_take, if_pos (by omega), hu] at hf
   simpa using hf
  rw [Nat.zero_add]
  simp [World.cell?, h3, hc]
theorem own_scriptW {w : World} {base : Nat} {v : Value} {ops : List OpM} (h : OwnS w base v ops) : ScriptW w v ops := by
 rcases own_script h with ⟨h1, h2⟩ | ⟨g, cap, h1, h2, h3, h4, _, _⟩
 ·exact .inl ⟨⟨_, _, h1⟩, h2⟩
 ·exact .inr ⟨g, 0, cap, h1, h2, h3, h4⟩
def cz0 : List Value := (⟨0, 0, 0, 0, 0, cz, noBytes⟩ : OpM).cells
theorem info40 : (Tryz.prog.info? 40).map (fun i => (i.zero, i.size, i.bytes)) = some (some (.agg cz0.toArray), 26, 216) := by kernel_rfl
end Go.Proofs.YtahnliehdjncdaaGreatDoor
namespace Go.Proofs.YtahnliehdjncdaaGreatDoor
open Go.RowKit
attribute [local go_sem ↓] execOp_load38 execOp_load40 execOp_store40 execOp_bs22
attribute [local go_sem] run_load38 run_load40 bigVal_drew hasBig_drew bigVal_ne hasBig_ne bigVal_alloc hasBig_alloc
theorem wpList_append_ops {w : World} {ops : Array Oper} {rest : List Oper} {o : Oper} {a : Act} {Q : Exit → Act → World → Prop} (hgd : o.guard = none) (s x : Operand)
  (ho : o.op = .call { callee := .builtin .append, args := #[s, x], argTypes := #[22, 22] })
  (base : Nat) (v : Value) (A : List OpM) (hs : a.eval s = v) (hown : OwnS w base v A) (u : Value) (B : List OpM) (hx : a.eval x = u) (hB : ScriptW w u B)
  (hlen : A.length + B.length ≤ 651562446089) (hbase : base ≤ w.heap.size)
  (h : ∀ ad c w', OwnS w' base (.slice ad (A.length + B.length) c) (A ++ B) → Keeps (fun i => v.ownBlock = some i) w w' → (∀ i, (Value.slice ad (A.length + B.length) c).ownBlock = some i → v.ownBlock = some i ∨ w.heap.size ≤ i) → wpList Tryz.prog ops Q rest (a.put o.dst (.slice ad (A.length + B.length) c)) w') : wpList Tryz.prog ops Q (o :: rest) a w := by
 obtain ⟨i0, hi0, hz0, hz1, hz2⟩ := info_parts info40
 by_cases hb : B = []
 ·subst hb
  have hu : ∃ ad c, u = .slice ad 0 c := by
   rcases hB with ⟨h, _⟩ | ⟨sb, so, cap, h, _⟩
   ·exact h
   ·exact ⟨_, _, h⟩
  obtain ⟨ad, c, rfl⟩ := hu
  obtain ⟨av, ac, hv⟩ := row_form0 hown
  refine wpList_append_zero hgd s x 22 ho base 40 i0 26 Tryz.underlying22 hi0 v A.length (opFlat A) hs hown ad c hx ?_
  have := h av ac w (by rw [List.append_nil]; rw [hv] at hown; exact hown) (Keeps.refl _ _) (by rw [hv]; exact fun i hi => .inl hi)
  rw [hv]
  exact this
 ·rcases hB with ⟨_, h0⟩ | ⟨sb, so, cap, rfl, hcap, hsc, hlt⟩
  ·exact absurd h0 hb
  ·have hpos : 0 < B.length := List.length_pos_iff.2 hb
   refine wpList_append_lies w hgd s x 22 ho base 40 i0 (.agg cz0.toArray) 26 216 Tryz.underlying22 hi0 hz0 hz1 hz2 (by rfl) (by omega) v A.length (opFlat A) hs hown ⟨sb, so, none⟩ B.length cap (opFlat B) hx (opFlat_length B) ?_ (opFlat_one B) hpos (by unfold maxLen; omega) (by omega) hbase w.heap.size rfl ?_
   ·intro j z hz
    have hj : j < B.length * 26 := by have := (List.getElem?_eq_some_iff.1 hz).1; rwa [opFlat_length] at this
    have hq : j / 26 < B.length := by omega
    have hf := opFlat_get B (j / 26) (j % 26) B[j / 26] (List.getElem?_eq_getElem hq) (by omega)
    rw [show j / 26 * 26 + j % 26 = j by omega, hz] at hf
    have := hsc (j / 26) B[j / 26] (List.getElem?_eq_getElem hq) (j % 26) z hf.symm
    rw [Go.WideShapes.add_plain, show so + j = so + j / 26 * 26 + j % 26 by omega]
    exact this
   ·intro g c w' hown' hgrow hat hlt'
    refine h (some ⟨g, 0, none⟩) c w' ?_ ?_ ?_
    ·show w'.ownsRow base 40 26 _ (A ++ B).length (opFlat (A ++ B))
     rw [opFlat_append, List.length_append]; exact hown'
    ·exact ⟨hgrow.os, hgrow.tape, hgrow.output, hgrow.size, fun k hk hn => hgrow.block k hk (fun h => hn h.symm)⟩
    ·intro i hi
     have : g = i := by simpa [Value.ownBlock] using hi
     subst this
     rcases hat with h1 | h1
     ·exact .inl h1
     ·exact .inr (by omega)
theorem with_any (v1 v2 : Value) (A B : List OpM) (w : World) (h1 : ScriptW w v1 A) (h2 : ScriptW w v2 B) (hlen : A.length + B.length ≤ 651562446089) :
  Calls Tryz.prog 22 #[v1, v2] w fun r w' => ∃ v, r = .returned v ∧ OwnS w' w.heap.size v (A ++ B) ∧ Keeps (fun _ => False) w w' := by
 have HA := hide h1
 have HB := hide h2
 clear h1 h2
 go_enter Tryz.func22, Tryz.ntmps22
 go_wp2_with (at_builtin; first
    | (refine wpList_append_ops rfl _ _ rfl w.heap.size (.slice none 0 0) [] rfl (World.ownsRow_nil _ _ _ _) v1 A rfl (uh HA) (by simp; omega) (by omega) ?_; intro ad c w1 hown1 hk1 hat1; have HO1 := hide (show OwnS w1 w.heap.size (.slice ad A.length c) A by simpa using hown1); have HK1 := hide (show Keeps (fun _ => False) w w1 from hk1.mono (fun i _ h => by simp [Value.ownBlock] at h)); clear hown1 hk1)
    | (refine wpList_append_ops rfl _ _ rfl w.heap.size (.slice ad A.length c) A rfl (uh HO1) v2 B rfl ((uh HB).keeps (uh HK1)) hlen (uh HK1).size ?_; intro ad2 c2 w2 hown2 hk2 hat2))
 go_ret
 refine ⟨_, rfl, hown2, (uh HK1).trans hk2 (fun i hi hlt => ?_)⟩
 have := ((uh HO1).lt i hi).1
 omega
def OpM.noLoad (o : OpM) : Bool := o.kind != 7
theorem run_bs1 (w : World) (o : OpM) : (bsBig 22 1 #[(0, .agg o.cells.toArray)]).run Tryz.prog w = .ok (.value (.slice (some ⟨w.heap.size, 0, none⟩) 1 1)) (w.alloc (.cells o.cells.toArray 40)) := by kernel_rfl
theorem blk_script {w : World} {b : Nat} {o : OpM} (h : Blk w b o.cells 40) : ScriptW w (.slice (some ⟨b, 0, none⟩) 1 1) [o] := by
 refine .inr ⟨b, 0, 1, rfl, by simp, ?_, h.lt⟩
 intro i x hx j u hu
 have hi : i = 0 := by have := (List.getElem?_eq_some_iff.1 hx).1; simp at this; omega
 subst hi
 have : o = x := by simpa using hx
 subst this
 have := h.cell hu
 simpa using this
attribute [local go_sem] run_bs1
theorem without_any (v : Value) (ops : List OpM) (w : World) (h : ScriptW w v ops) (hlen : ops.length ≤ 651562446089) :
  Calls Tryz.prog 21 #[v, .int .i64 7] w fun r w' => ∃ v', r = .returned v' ∧ OwnS w' w.heap.size v' (ops.filter OpM.noLoad) ∧ Keeps (fun _ => False) w w' ∧ (ops.filter OpM.noLoad = [] → v' = .slice none 0 0) := by
 by_cases h0 : ops = []
 ·subst h0
  have hv : ∃ a c, v = .slice a 0 c := by
   rcases h with ⟨h, _⟩ | ⟨sb, so, cap, h, _⟩
   ·exact h
   ·exact ⟨_, _, h⟩
  obtain ⟨a, c, rfl⟩ := hv
  clear h
  go_enter Tryz.func21, Tryz.ntmps21
  go_wp2
  go_loopw [5, 6] (fun l i wr => l = .slice none 0 0 ∧ i = .int .i64 0 ∧ wr = w) (fun _ _ _ => 0)
  case atStart => exact ⟨rfl, rfl, rfl⟩
  case round =>
   obtain ⟨rfl, rfl, rfl⟩ := hrel
   go_wp2
   go_ret
   exact ⟨_, rfl, World.ownsRow_nil _ _ _ _, Keeps.refl _ _, fun _ => rfl⟩
 rcases h with ⟨_, h⟩ | ⟨sb, so, cap, rfl, hcap, hsc, hlt⟩
 ·exact absurd h h0
 have HSC := hide hsc
 clear hsc
 generalize hn : ops.length = n at *
 have HN := hide hn
 clear hn
 go_enter Tryz.func21, Tryz.ntmps21
 go_wp2_with fail
 go_loopw [5, 6] (fun l i wr => ∃ (k m c : Nat) (ad : Option Addr), k ≤ n ∧ i = .int .i64 k ∧ l = .slice ad m c ∧ Hid (OwnS wr w.heap.size l ((ops.take k).filter OpM.noLoad)) ∧ Hid (Keeps (fun _ => False) w wr) ∧ Hid ((ops.take k).filter OpM.noLoad = [] → l = .slice none 0 0)) (fun _ i _ => n - (intOf i).toNat)
 case atStart => exact ⟨0, 0, 0, none, by omega, rfl, rfl, World.ownsRow_nil _ _ _ _, Keeps.refl _ _, fun _ => rfl⟩
 case round =>
  obtain ⟨k, m, c, ad, hk, rfl, rfl, HO, HK, HE⟩ := hrel
  by_cases hkn : k < n
  ·obtain ⟨o, ho⟩ : ∃ o, ops[k]? = some o := ⟨ops[k]'(by rw [uh HN]; exact hkn), List.getElem?_eq_getElem _⟩
   have hrange := (uh HSC).keeps (uh HK) k o ho
   have hsb := bigCells_of_range hrange
   have hv0 : bigVal wr sb (so + k * 26) 26 = .agg o.cells.toArray := by
    unfold bigVal
    have := hsb.1
    rw [show o.cells.length = 26 from rfl] at this
    rw [this]
   have hh0 : hasBig wr sb (so + k * 26) 26 = true := hsb.2
   have hkind : wr.cell? ⟨sb, so + k * 26, none⟩ = some (.int .i64 o.kind) := hrange 0 _ rfl
   have htk : ops.take (k + 1) = ops.take k ++ [o] := by rw [List.take_add_one, ho]; rfl
   have hk0 : (0 : Int) ≤ (k : Int) := by omega
   have hkn' : (k : Int) < (n : Int) := by omega
   have hl0 : ((ops.take k).filter OpM.noLoad).length ≤ k := by
    have h1 := List.length_filter_le OpM.noLoad (ops.take k)
    rw [List.length_take] at h1
    omega
   have HFL := hide (show (ops.take (k + 1)).filter OpM.noLoad = (ops.take k).filter OpM.noLoad ++ [o].filter OpM.noLoad by rw [htk, List.filter_append])
   clear hrange hsb htk ho
   by_cases h7 : o.kind = 7
   ·have hne : (o.kind != 7) = false := by simp [h7]
    have HF1 := hide (show [o].filter OpM.noLoad = [] by simp [OpM.noLoad, hne])
    rw [h7] at hkind
    clear h7 hne hv0 hh0
    go_wp2_with fail
    go_roundw
    case rel => exact ⟨k + 1, m, c, ad, by omega, by go_num, rfl, by show OwnS _ _ _ _; rw [uh HFL, uh HF1, List.append_nil]; exact uh HO, HK, by show _ → _; rw [uh HFL, uh HF1, List.append_nil]; exact uh HE⟩
    case measure => simp [intOf]; omega
   ·have hne : (o.kind != 7) = true := by simp [h7]
    have HF1 := hide (show [o].filter OpM.noLoad = [o] by simp [OpM.noLoad, hne])
    have hm : m = ((ops.take k).filter OpM.noLoad).length := by
     obtain ⟨_, _, e⟩ := row_form0 (uh HO)
     injection e
    generalize (ops.take k).filter OpM.noLoad = A at *
    go_wp2_with (at_builtin; refine wpList_append_ops rfl _ _ rfl w.heap.size (.slice ad m c) A rfl (by exact owns_keeps (uh HO) ((Keeps.refl (fun _ => False) wr).alloc _) (fun _ _ h => h)) _ [o] rfl (by exact blk_script (Blk.new wr o.cells 40)) (by simp; omega) (by have := (uh HK).size; simp; omega) ?_; intro ad2 c2 w2 hown2 hk2 hat2)
    go_roundw
    case rel =>
     refine ⟨k + 1, A.length + 1, c2, ad2, by omega, by go_num, rfl, ?_, ?_, ?_⟩
     ·show OwnS _ _ _ _; rw [uh HFL, uh HF1]; exact hown2
     ·refine (((uh HK).alloc _).trans hk2 (fun i hi hlt => ?_))
      have := ((uh HO).lt i hi).1
      omega
     ·show _ → _; rw [uh HFL, uh HF1]; intro h; simp at h
    case measure => simp [intOf]; omega
  ·have hkk : k = n := by omega
   subst hkk
   go_wp2
   go_ret
   have h1 := uh HO
   have h2 := uh HE
   rw [List.take_of_length_le (by rw [uh HN]; omega)] at h1 h2
   exact ⟨_, rfl, h1, uh HK, h2⟩
end Go.Proofs.YtahnliehdjncdaaGreatDoor
namespace Go.Proofs.YtahnliehdjncdaaGreatDoor
open Go.ChangeShapes Go.WideShapes Go.ChangeAt Go.RowKit Go.Deep
theorem gTab : Tryz.prog.globalNamed "math/bits.deBruijn64tab" = some 2 := by kernel_rfl
theorem gTabType : (Tryz.prog.globals[2]?).map (·.type) = some 287 := by kernel_rfl
theorem cells64 : Tryz.prog.cellsOf 287 = 64 := by kernel_rfl
theorem cells5' : Tryz.prog.cellsOf 5 = 1 := by kernel_rfl
theorem under5' : Tryz.prog.underlying 5 = some (.int .u8) := by kernel_rfl
def tabInts : List Int := Lib.deBruijn64tab.map fun (n : Nat) => (n : Int)
def tabVals : Array Value := (tabInts.map (.int .u8 ·)).toArray
theorem tab_of {W : World} (h : laidMetH Tryz.prog [("math/bits.deBruijn64tab", Rows.laid_math_bits_deBruijn64tab)] W) : Tab W := by
 have ht : Lib.TabIs Tryz.prog W "math/bits.deBruijn64tab" .u8 tabInts := Lib.tabIs_of_head (rest := []) gTab gTabType Tryz.underlying287 under5' cells5' cells64 h
 intro j hj
 have h1 := ht.cell gTab j (by simpa [tabInts] using hj)
 rw [h1]
 unfold tabInts
 rw [List.getD_eq_getElem?_getD, List.getD_eq_getElem?_getD, List.getElem?_map, List.getElem?_eq_getElem hj]
 rfl
noncomputable def laidWorld (os : Os) : World :=
 { World.holding Tryz.prog os ⟨#[], #[], []⟩ with heap := (World.holding Tryz.prog os ⟨#[], #[], []⟩).heap.modify 2 fun
     | .cells _ t frozen => .cells tabVals t frozen
     | o => o }
theorem script_open {H : Type} {enc : TypeId × Value → H} {W : World} {fuel : Nat} {a0 : Option Addr} {len cap : Nat} {d : DataW H} {p : List MemPlace}
  (hf : DataW.trod enc Tryz.prog W 0 (fun _ => true) true fuel 22 (Value.slice a0 len cap).cells.toList = some (d, p)) (hlt : ∀ x ∈ p, x.block < W.heap.size) :
  ∃ ops, ScriptW W (.slice a0 len cap) ops ∧ ops.length = len ∧ (len ≠ 0 → ∃ elems spare, d = .slice elems spare ∧ len ≤ elems.length + spare.length) := by
 by_cases hl0 : len = 0
 ·subst hl0
  exact ⟨[], .inl ⟨⟨_, _, rfl⟩, rfl⟩, rfl, fun h => absurd rfl h⟩
 ·rcases open_slice Tryz.underlying22 hf with ⟨hcs, hx⟩ | ⟨a, len', cap', k, n, D, Pl, hcs, _, hl, hm, hk, hx, hcell⟩
  ·simp [Value.cells] at hcs
   exact absurd hcs.2.1 hl0
  ·simp [Value.cells] at hcs
   obtain ⟨rfl, rfl, rfl⟩ := hcs
   simp only [Prod.mk.injEq] at hx
   obtain ⟨rfl, rfl⟩ := hx
   simp only [if_true] at hk
   subst k
   rw [cells40] at hcell
   obtain ⟨b, off, spot⟩ := a
   have hspot : spot = none := by
    obtain ⟨cs', h1, _⟩ := hcell 0 (by omega)
    obtain ⟨_, h2, h3⟩ := World.cells?_some h1
    have h4 := h3 0 (by omega)
    rw [List.getElem?_eq_getElem (by omega)] at h4
    simpa [Addr.add] using World.cell?_spot h4
   subst hspot
   have hbW : b < W.heap.size := hlt (.cell b off) (List.mem_append_left _ (MemPlace.mem_row.2 ⟨0, by rw [cells40]; omega, by simp⟩))
   have hops : ∀ i, i < len → ∃ o : OpM, W.rangeAt b (off + i * 26) o.cells := by
    intro i hi
    obtain ⟨cs', h1, h2⟩ := hcell i (by omega)
    obtain ⟨V, bs, rfl, _⟩ := op_open h2
    obtain ⟨_, h3, h4⟩ := World.cells?_some h1
    refine ⟨opOf V bs, fun j v hv => ?_⟩
    have hj : j < 26 := by have := (List.getElem?_eq_some_iff.1 hv).1; omega
    have := h4 j hj
    rw [add_add, add_plain, hv, ← Nat.add_assoc] at this
    exact this
   haveI : Inhabited OpM := ⟨o1⟩
   obtain ⟨O, hO⟩ := choose_lt (α := OpM) hops
   refine ⟨(List.range len).map O, .inr ⟨b, off, cap, by simp, by simpa using hl, ?_, hbW⟩, by simp, fun _ => ⟨_, _, rfl, by simp⟩⟩
   intro i o ho
   have hi : i < len := by have := (List.getElem?_eq_some_iff.1 ho).1; simpa using this
   have : O i = o := by simpa [hi] using ho
   rw [← this]
   exact hO i hi
end Go.Proofs.YtahnliehdjncdaaGreatDoor
namespace Go.Proofs.YtahnliehdjncdaaGreatDoor
structure PB (q : List Bk) : Prop where
 sorted : ∀ i j, i ≤ j → j < q.length → (bkAt q j).sz ≤ (bkAt q i).sz
 pow : ∀ i, i < q.length → ∃ k : Nat, (bkAt q i).sz = (2 : Int) ^ k
structure PI (q : List Bk) (sz : Int) (e : Nat) : Prop where
 pb : PB q
 he : e ≤ q.length
 hi : ∀ i, i < e → sz ≤ (bkAt q i).sz
 lo : ∀ i, e ≤ i → i < q.length → (bkAt q i).sz < sz
 szp : ∃ k : Nat, sz = (2 : Int) ^ k
theorem pow_pos2 (k : Nat) : (1 : Int) ≤ 2 ^ k := by
 induction k with
 | zero => decide
 | succ k ih => rw [Int.pow_succ]; omega
theorem pow_gap {a b : Nat} (h : (2 : Int) ^ a < 2 ^ b) : 2 * (2 : Int) ^ a ≤ 2 ^ b := by
 have hab : a < b := by
  rcases Nat.lt_or_ge a b with h1 | h1
  ·exact h1
  ·exfalso
   obtain ⟨d, rfl⟩ := Nat.exists_eq_add_of_le h1
   have h2 : (2 : Int) ^ (b + d) = 2 ^ b * 2 ^ d := Int.pow_add 2 b d
   have h3 := pow_pos2 d
   have h4 := pow_pos2 b
   have h5 : (2 : Int) ^ b * 1 ≤ 2 ^ b * 2 ^ d := Int.mul_le_mul_of_nonneg_left h3 (by omega)
   omega
 obtain ⟨d, rfl⟩ := Nat.exists_eq_add_of_le hab
 have h2 : (2 : Int) ^ (a + 1 + d) = 2 ^ a * 2 * 2 ^ d := by rw [Int.pow_add, Int.pow_succ]
 have h3 := pow_pos2 d
 have h4 := pow_pos2 a
 have h5 : (2 : Int) ^ a * 2 * 1 ≤ 2 ^ a * 2 * 2 ^ d := Int.mul_le_mul_of_nonneg_left h3 (by omega)
 rw [h2]
 omega
theorem bkAt_append_left (a b : List Bk) (i : Nat) (h : i < a.length) : bkAt (a ++ b) i = bkAt a i := by
 unfold bkAt; rw [List.getD_eq_getElem?_getD, List.getD_eq_getElem?_getD, List.getElem?_append_left h]
theorem bkAt_append_right (a b : List Bk) (i : Nat) (h : a.length ≤ i) : bkAt (a ++ b) i = bkAt b (i - a.length) := by
 unfold bkAt; rw [List.getD_eq_getElem?_getD, List.getD_eq_getElem?_getD, List.getElem?_append_right h]
theorem bkAt_take (l : List Bk) (n i : Nat) (h : i < n) : bkAt (l.take n) i = bkAt l i := by
 unfold bkAt; rw [List.getD_eq_getElem?_getD, List.getD_eq_getElem?_getD, List.getElem?_take, if_pos h]
theorem bkAt_dropN (l : List Bk) (n i : Nat) : bkAt (l.drop n) i = bkAt l (n + i) := by
 unfold bkAt; rw [List.getD_eq_getElem?_getD, List.getD_eq_getElem?_getD, List.getElem?_drop]
theorem bkAt_join (l : List Bk) (s : Nat) (x : Bk) (h : s + 2 ≤ l.length) (i : Nat) : bkAt (joinAt l s x) i = if i < s then bkAt l i else if i = s then x else bkAt l (i + 1) := by
 have hl : (l.take s).length = s := by simp; omega
 unfold joinAt
 by_cases h1 : i < s
 ·rw [if_pos h1, List.append_assoc, bkAt_append_left _ _ _ (by omega), bkAt_take _ _ _ h1]
 ·rw [if_neg h1]
  by_cases h2 : i = s
  ·rw [if_pos h2, List.append_assoc, bkAt_append_right _ _ _ (by omega), hl, h2, Nat.sub_self]; rfl
  ·rw [if_neg h2, bkAt_append_right _ _ _ (by simp; omega), bkAt_dropN]
   congr 1
   simp; omega
theorem PB.drop {q : List Bk} (h : PB q) (n : Nat) : PB (q.drop n) := by
 refine ⟨fun i j hij hj => ?_, fun i hi => ?_⟩
 ·rw [bkAt_dropN, bkAt_dropN]
  exact h.sorted _ _ (by omega) (by rw [List.length_drop] at hj; omega)
 ·rw [bkAt_dropN]
  exact h.pow _ (by rw [List.length_drop] at hi; omega)
theorem PI.start {q : List Bk} (h : PB q) (t : Int) : PI (q ++ [⟨1, t⟩]) 1 (q ++ [(⟨1, t⟩ : Bk)]).length := by
 have hone : ∀ i, i < (q ++ [(⟨1, t⟩ : Bk)]).length → ∃ k : Nat, (bkAt (q ++ [⟨1, t⟩]) i).sz = (2 : Int) ^ k := by
  intro i hi
  by_cases h1 : i < q.length
  ·rw [bkAt_append_left _ _ _ h1]; exact h.pow i h1
  ·rw [bkAt_append_right _ _ _ (by omega)]
   have : i - q.length = 0 := by simp at hi; omega
   rw [this]
   exact ⟨0, rfl⟩
 refine ⟨⟨fun i j hij hj => ?_, hone⟩, Nat.le_refl _, fun i hi => ?_, fun i h1 h2 => by omega, 0, rfl⟩
 ·by_cases h1 : j < q.length
  ·rw [bkAt_append_left _ _ _ h1, bkAt_append_left _ _ _ (by omega)]; exact h.sorted i j hij h1
  ·have : j - q.length = 0 := by simp at hj; omega
   rw [bkAt_append_right _ _ j (by omega), this]
   show (1 : Int) ≤ _
   obtain ⟨k, hk⟩ := hone i (by omega)
   rw [hk]; exact pow_pos2 k
 ·obtain ⟨k, hk⟩ := hone i hi
  rw [hk]; exact pow_pos2 k
theorem startN_below {q : List Bk} {sz : Int} {e : Nat} (h : PI q sz e) (i : Nat) (hi : i < startN q sz e) : sz < (bkAt q i).sz := by
 have hle := startN_le q sz e
 have h1 := h.hi i (by omega)
 have hne : (bkAt q (startN q sz e - 1)).sz ≠ sz := by
  generalize hs : startN q sz e = s at *
  clear h1 h
  induction e with
  | zero => simp [startN] at hs; omega
  | succ e ih =>
   unfold startN at hs
   split at hs
   ·exact ih hs (by have := startN_le q sz e; omega)
   ·rename_i hc
    rw [← hs]; exact hc
 have h2 := h.hi (startN q sz e - 1) (by omega)
 have h3 := h.pb.sorted i (startN q sz e - 1) (by omega) (by have := h.he; omega)
 omega
theorem PI.step {q : List Bk} {sz : Int} {e : Nat} (h : PI q sz e) (h2 : startN q sz e + 2 ≤ e) (t : Int) : PI (joinAt q (startN q sz e) ⟨2 * sz, t⟩) (2 * sz) (startN q sz e + 1) := by
 have hb := startN_below h
 have hin := startN_in q sz e
 obtain ⟨kz, hkz⟩ := h.szp
 have hz1 := pow_pos2 kz
 generalize startN q sz e = s at *
 have hlen := joinAt_length (⟨2 * sz, t⟩ : Bk) (l := q) (i := s) (by have := h.he; omega)
 have he := h.he
 have hat := bkAt_join q s ⟨2 * sz, t⟩ (by omega)
 have hbig : ∀ i, i < s → 2 * sz ≤ (bkAt q i).sz := by
  intro i hi
  obtain ⟨k, hk⟩ := h.pb.pow i (by omega)
  have := hb i hi
  rw [hk, hkz] at this ⊢
  exact pow_gap this
 have hsm : ∀ i, s ≤ i → i < q.length → (bkAt q i).sz ≤ sz := by
  intro i h1 h3
  have := h.pb.sorted s i h1 h3
  rw [hin s (Nat.le_refl _) (by omega)] at this
  exact this
 refine ⟨⟨fun i j hij hj => ?_, fun i hi => ?_⟩, by omega, fun i hi => ?_, fun i h1 h3 => ?_, kz + 1, by rw [Int.pow_succ, ← hkz]; omega⟩
 ·rw [hat, hat]
  by_cases j1 : j < s
  ·rw [if_pos j1, if_pos (by omega)]; exact h.pb.sorted i j hij (by omega)
  ·rw [if_neg j1]
   by_cases j2 : j = s
   ·rw [if_pos j2]
    by_cases i1 : i < s
    ·rw [if_pos i1]; exact hbig i i1
    ·rw [if_neg i1, if_pos (by omega)]; exact Int.le_refl _
   ·rw [if_neg j2]
    have hj' := hsm (j + 1) (by omega) (by omega)
    by_cases i1 : i < s
    ·rw [if_pos i1]; have := hbig i i1; omega
    ·rw [if_neg i1]
     by_cases i2 : i = s
     ·rw [if_pos i2]; show _ ≤ 2 * sz; omega
     ·rw [if_neg i2]; exact h.pb.sorted (i + 1) (j + 1) (by omega) (by omega)
 ·rw [hat]
  by_cases i1 : i < s
  ·rw [if_pos i1]; exact h.pb.pow i (by omega)
  ·rw [if_neg i1]
   by_cases i2 : i = s
   ·rw [if_pos i2]; exact ⟨kz + 1, by show 2 * sz = _; rw [Int.pow_succ, ← hkz]; omega⟩
   ·rw [if_neg i2]; exact h.pb.pow (i + 1) (by omega)
 ·rw [hat]
  by_cases i1 : i < s
  ·rw [if_pos i1]; exact hbig i i1
  ·rw [if_neg i1, if_pos (by omega)]; exact Int.le_refl _
 ·rw [hat, if_neg (by omega), if_neg (by omega)]
  have := hsm (i + 1) (by omega) (by omega)
  omega
theorem joinL_PB {K : Int} (hK : 0 ≤ K) (f : Nat) (q : List Bk) (sz : Int) (e : Nat) (h : PI q sz e) : PB (joinL K f q sz e) := by
 induction f generalizing q sz e with
 | zero => exact h.pb
 | succ f ih =>
  unfold joinL
  split
  ·exact h.pb
  ·exact ih _ _ _ (h.step (by omega) _)
theorem relB_PB {c : Cfg} (hK : 0 ≤ c.k) {q : List Bk} (h : PB q) (t m : Int) : PB (relB c q t m) := by
 unfold relB putB liveB
 exact joinL_PB hK _ _ _ _ (PI.start (h.drop _) t)
end Go.Proofs.YtahnliehdjncdaaGreatDoor
namespace Go.Proofs.YtahnliehdjncdaaGreatDoor
def relTimes : Nat → Ser → Int → List Int
 | 0, _, _ => []
 | f + 1, x, m => if x.l.isEmpty then [] else if m < (itAt x.l 0).t then [] else (itAt x.l 0).t :: relTimes f (relOne x m) m
theorem relTimes_spec (m : Int) (f : Nat) : ∀ x : Ser, x.l.length < f → HeapL x.l →
  (x.l.map (·.t)).Perm (relTimes f x m ++ (relS f x m).l.map (·.t)) ∧ (∀ t, t ∈ relTimes f x m → t ≤ m) ∧ (∀ t, t ∈ (relS f x m).l.map (·.t) → m < t) ∧ (relTimes f x m).Pairwise (· ≤ ·) ∧
   (x.k = 1 → (relS f x m).nt.bs = (relTimes f x m).foldl (fun l t => relB x.c l t m) x.nt.bs) := by
 induction f with
 | zero => intro x h; omega
 | succ f ih =>
  intro x hf hh
  unfold relS relTimes
  split
  ·rename_i he
   have hnil : x.l = [] := List.isEmpty_iff.1 he
   exact ⟨List.Perm.refl _, by simp, by simp [hnil], List.Pairwise.nil, fun _ => rfl⟩
  ·rename_i he
   have hne : x.l ≠ [] := fun h => he (by rw [h]; rfl)
   split
   ·rename_i hm
    refine ⟨List.Perm.refl _, by simp, ?_, List.Pairwise.nil, fun _ => rfl⟩
    intro t ht
    obtain ⟨y, hy, rfl⟩ := List.mem_map.1 ht
    have := hh.first_mem hy
    omega
   ·rename_i hm
    obtain ⟨th, tp⟩ := take_heap x.l hh hne
    have hlen : (relOne x m).l.length = x.l.length - 1 := takeL_length _
    have hpos : 0 < x.l.length := List.length_pos_iff.2 hne
    obtain ⟨h1, h2, h3, h4, h5⟩ := ih (relOne x m) (by omega) th
    have hperm : (x.l.map (·.t)).Perm ((itAt x.l 0).t :: (relOne x m).l.map (·.t)) := by
     have := (tp.map (·.t)).symm
     rw [List.map_cons] at this
     exact this
    refine ⟨?_, ?_, h3, ?_, ?_⟩
    ·refine hperm.trans ?_
     rw [List.cons_append]
     exact List.Perm.cons _ h1
    ·intro t ht
     rcases List.mem_cons.1 ht with ht | ht
     ·omega
     ·exact h2 t ht
    ·refine List.pairwise_cons.2 ⟨fun t ht => ?_, h4⟩
     have h6 : t ∈ (relOne x m).l.map (·.t) := h1.mem_iff.2 (List.mem_append.2 (.inl ht))
     have h7 : t ∈ x.l.map (·.t) := hperm.mem_iff.2 (List.mem_cons.2 (.inr h6))
     obtain ⟨y, hy, rfl⟩ := List.mem_map.1 h7
     exact hh.first_mem hy
    ·intro hk
     rw [h5 hk, List.foldl_cons]
     congr 1
     show (relN x.k x.c x.nt (itAt x.l 0) m).bs = _
     unfold relN
     rw [if_neg (by omega), if_pos hk]
end Go.Proofs.YtahnliehdjncdaaGreatDoor
namespace Go.Proofs.YtahnliehdjncdaaGreatDoor
def segB : List Bk → List Int → Prop
 | [], L => L = []
 | b :: l, L => ∃ s r, L = s ++ r ∧ (s.length : Int) = b.sz ∧ s.getLast? = some b.t ∧ segB l r
def HB (K : Int) : List Bk → Prop
 | [] => True
 | b :: l => K * (b.sz - 1) ≤ sumB l ∧ HB K l
theorem segB_append (a r : List Bk) : ∀ L, segB (a ++ r) L ↔ ∃ L1 L2, L = L1 ++ L2 ∧ segB a L1 ∧ segB r L2 := by
 induction a with
 | nil =>
  intro L
  constructor
  ·intro h; exact ⟨[], L, rfl, rfl, h⟩
  ·rintro ⟨L1, L2, rfl, h1, h2⟩
   have : L1 = [] := h1
   subst this; exact h2
 | cons b a ih =>
  intro L
  constructor
  ·rintro ⟨s, r', rfl, h1, h2, h3⟩
   obtain ⟨L1, L2, rfl, h4, h5⟩ := (ih r').1 h3
   exact ⟨s ++ L1, L2, by rw [List.append_assoc], ⟨s, L1, rfl, h1, h2, h4⟩, h5⟩
  ·rintro ⟨L1, L2, rfl, ⟨s, r', rfl, h1, h2, h3⟩, h5⟩
   exact ⟨s, r' ++ L2, by rw [List.append_assoc], h1, h2, (ih _).2 ⟨r', L2, rfl, h3, h5⟩⟩
theorem segB_sum {l : List Bk} : ∀ {L : List Int}, segB l L → sumB l = L.length := by
 induction l with
 | nil => intro L h; have : L = [] := h; subst this; rfl
 | cons b l ih =>
  rintro L ⟨s, r, rfl, h1, h2, h3⟩
  simp only [sumB, ih h3, List.length_append]
  omega
theorem segB_join {b0 b1 : Bk} {r : List Bk} {L : List Int} (h : segB (b0 :: b1 :: r) L) : segB (⟨b0.sz + b1.sz, b1.t⟩ :: r) L := by
 obtain ⟨s0, r0, rfl, h1, h2, s1, r1, rfl, h3, h4, h5⟩ := h
 refine ⟨s0 ++ s1, r1, by rw [List.append_assoc], by simp; omega, ?_, h5⟩
 rw [List.getLast?_append, h4]; rfl
theorem HB_front {K : Int} (a : List Bk) {r r' : List Bk} (hs : sumB r' = sumB r) (h : HB K (a ++ r)) (h' : HB K r') : HB K (a ++ r') := by
 induction a with
 | nil => exact h'
 | cons b a ih =>
  obtain ⟨h1, h2⟩ := h
  refine ⟨?_, ih h2⟩
  have e1 : sumB (a ++ r) = sumB a + sumB r := sumB_append a r
  have e2 : sumB (a ++ r') = sumB a + sumB r' := sumB_append a r'
  show K * (b.sz - 1) ≤ sumB (a ++ r')
  have h3 : K * (b.sz - 1) ≤ sumB (a ++ r) := h1
  omega
theorem HB_drop {K : Int} (l : List Bk) (h : HB K l) : ∀ p, HB K (l.drop p) := by
 induction l with
 | nil => intro p; simp [HB]
 | cons b l ih =>
  intro p
  cases p with
  | zero => exact h
  | succ p => exact ih h.2 p
theorem HB_run {K sz : Int} : ∀ (mid rest : List Bk), (∀ b ∈ mid, b.sz = sz) → HB K (mid ++ rest) → mid ≠ [] → K * (sz - 1) ≤ sumB rest := by
 intro mid
 induction mid with
 | nil => intro rest _ _ h; exact absurd rfl h
 | cons b mid ih =>
  intro rest hm h _
  cases mid with
  | nil =>
   have := hm b (by simp)
   rw [← this]; exact h.1
  | cons b' mid => exact ih rest (fun x hx => hm x (by simp [hx])) h.2 (by simp)
theorem sumB_run {sz : Int} (mid : List Bk) (h : ∀ b ∈ mid, b.sz = sz) : sumB mid = (mid.length : Int) * sz := by
 induction mid with
 | nil => simp [sumB]
 | cons b mid ih =>
  simp only [sumB, ih (fun x hx => h x (by simp [hx])), h b (by simp), List.length_cons]
  rw [Int.natCast_add, Int.add_mul]; omega
theorem HB_snoc {K : Int} (l : List Bk) (t : Int) (h : HB K l) : HB K (l ++ [⟨1, t⟩]) := by
 induction l with
 | nil => simp [HB, sumB]
 | cons b l ih =>
  refine ⟨?_, ih h.2⟩
  have e : sumB (l ++ [⟨1, t⟩]) = sumB l + sumB [⟨1, t⟩] := sumB_append _ _
  have e2 : sumB [(⟨1, t⟩ : Bk)] = 1 := rfl
  show K * (b.sz - 1) ≤ sumB (l ++ [⟨1, t⟩])
  have := h.1
  omega
theorem join_HB {K sz : Int} (hK : 1 ≤ K) (hz : 1 ≤ sz) (l : List Bk) (e : Nat) (he : e ≤ l.length) (hgt : K + 1 < (e : Int) - (startN l sz e : Int)) (h : HB K l) (L : List Int) (hs : segB l L) :
  HB K (joinAt l (startN l sz e) ⟨2 * sz, (bkAt l (startN l sz e + 1)).t⟩) ∧ segB (joinAt l (startN l sz e) ⟨2 * sz, (bkAt l (startN l sz e + 1)).t⟩) L := by
 have hin := startN_in l sz e
 generalize startN l sz e = i at *
 have hi2 : i + 2 ≤ l.length := by omega
 have z0 : (bkAt l i).sz = sz := hin i (by omega) (by omega)
 have z1 : (bkAt l (i + 1)).sz = sz := hin (i + 1) (by omega) (by omega)
 have hsp := joinAt_split l i hi2
 have hmid : l.drop (i + 2) = (l.drop (i + 2)).take (e - (i + 2)) ++ l.drop e := by
  conv => lhs; rw [← List.take_append_drop (e - (i + 2)) (l.drop (i + 2))]
  rw [List.drop_drop, show i + 2 + (e - (i + 2)) = e by omega]
 have hml : ((l.drop (i + 2)).take (e - (i + 2))).length = e - (i + 2) := by simp; omega
 have hmz : ∀ b ∈ (l.drop (i + 2)).take (e - (i + 2)), b.sz = sz := by
  intro b hb
  obtain ⟨j, hj, rfl⟩ := List.mem_iff_getElem.1 hb
  rw [hml] at hj
  have hq := hin (i + 2 + j) (by omega) (by omega)
  have : ((l.drop (i + 2)).take (e - (i + 2)))[j] = bkAt l (i + 2 + j) := by
   rw [List.getElem_take, List.getElem_drop]
   simp [bkAt, List.getD_eq_getElem?_getD, List.getElem?_eq_getElem (show i + 2 + j < l.length by omega)]
  rw [this]; exact hq
 have hd := HB_drop l h (i + 2)
 rw [hmid] at hd
 have hr := HB_run _ _ hmz hd (fun h0 => by rw [h0] at hml; simp at hml; omega)
 have hsm := sumB_run _ hmz
 rw [hml] at hsm
 have hsd : sumB (l.drop (i + 2)) = ((e - (i + 2) : Nat) : Int) * sz + sumB (l.drop e) := by
  rw [hmid, sumB_append, hsm]
 have hmul : K * sz ≤ ((e - (i + 2) : Nat) : Int) * sz := Int.mul_le_mul_of_nonneg_right (by omega) (by omega)
 have hx : HB K ((⟨2 * sz, (bkAt l (i + 1)).t⟩ : Bk) :: l.drop (i + 2)) := by
  refine ⟨?_, HB_drop l h (i + 2)⟩
  show K * (2 * sz - 1) ≤ sumB (l.drop (i + 2))
  have e1 : K * (2 * sz - 1) = K * sz + K * (sz - 1) := by
   rw [show 2 * sz - 1 = sz + (sz - 1) by omega, Int.mul_add]
  omega
 refine ⟨?_, ?_⟩
 ·unfold joinAt
  rw [List.append_assoc]
  rw [hsp] at h
  refine HB_front (l.take i) (r := bkAt l i :: bkAt l (i + 1) :: l.drop (i + 2)) ?_ h hx
  show 2 * sz + sumB (l.drop (i + 2)) = (bkAt l i).sz + ((bkAt l (i + 1)).sz + sumB (l.drop (i + 2)))
  omega
 ·unfold joinAt
  rw [List.append_assoc]
  rw [hsp] at hs
  obtain ⟨L1, L2, rfl, h1, h2⟩ := (segB_append _ _ _).1 hs
  refine (segB_append _ _ _).2 ⟨L1, L2, rfl, h1, ?_⟩
  have := segB_join h2
  rw [z0, z1, show sz + sz = 2 * sz by omega] at this
  exact this
theorem joinL_HB {K : Int} (hK : 1 ≤ K) (f : Nat) : ∀ (l : List Bk) (sz : Int) (e : Nat), 1 ≤ sz → e ≤ l.length → HB K l → ∀ L, segB l L → HB K (joinL K f l sz e) ∧ segB (joinL K f l sz e) L := by
 induction f with
 | zero => intro l sz e _ _ h L hs; exact ⟨h, hs⟩
 | succ f ih =>
  intro l sz e hz he h L hs
  unfold joinL
  by_cases hc : (e : Int) - (startN l sz e : Int) ≤ K + 1
  ·rw [if_pos hc]; exact ⟨h, hs⟩
  ·rw [if_neg hc]
   have hle := startN_le l sz e
   obtain ⟨h1, h2⟩ := join_HB hK hz l e he (by omega) h L hs
   exact ih _ _ _ (by omega) (by rw [joinAt_length _ (by omega)]; omega) h1 L h2
end Go.Proofs.YtahnliehdjncdaaGreatDoor
namespace Go.Proofs.YtahnliehdjncdaaGreatDoor
theorem last_le {s : List Int} {t : Int} (h : s.getLast? = some t) (hp : s.Pairwise (· ≤ ·)) : t ∈ s ∧ ∀ d ∈ s, d ≤ t := by
 obtain ⟨ys, rfl⟩ := List.getLast?_eq_some_iff.1 h
 refine ⟨by simp, fun d hd => ?_⟩
 rcases List.mem_append.1 hd with hd | hd
 ·exact (List.pairwise_append.1 hp).2.2 d hd t (by simp)
 ·rw [List.mem_singleton] at hd; omega
theorem seg_le {T : Int} (l : List Bk) : ∀ L, segB l L → L.Pairwise (· ≤ ·) → (∀ b ∈ l, b.t ≤ T) → ∀ d ∈ L, d ≤ T := by
 induction l with
 | nil => intro L h _ _ d hd; have : L = [] := h; subst this; simp at hd
 | cons b l ih =>
  rintro L ⟨s, r, rfl, h1, h2, h3⟩ hp hb d hd
  obtain ⟨p1, p2, _⟩ := List.pairwise_append.1 hp
  rcases List.mem_append.1 hd with hd | hd
  ·have := (last_le h2 p1).2 d hd
   have := hb b (by simp)
   omega
  ·exact ih r h3 p2 (fun x hx => hb x (by simp [hx])) d hd
theorem while_mem {T : Int} (l : List Bk) : ∀ b ∈ l.takeWhile (fun b => decide (b.t ≤ T)), b.t ≤ T := by
 induction l with
 | nil => intro b hb; simp at hb
 | cons x l ih =>
  intro b hb
  rw [List.takeWhile_cons] at hb
  split at hb
  ·rename_i hx
   rcases List.mem_cons.1 hb with hb | hb
   ·rw [hb]; simpa using hx
   ·exact ih b hb
  ·simp at hb
theorem past_take (l : List Bk) (T : Int) : ∀ b ∈ l.take (pastN l T), b.t ≤ T := by
 unfold pastN
 intro b hb
 rw [← List.prefix_iff_eq_take.1 (List.takeWhile_prefix _)] at hb
 exact while_mem l b hb
theorem relB_HB {c : Cfg} (hK : 1 ≤ c.k) (l : List Bk) (L : List Int) (t m : Int) (h : HB c.k l) (hs : segB l L) (hp : L.Pairwise (· ≤ ·)) :
  ∃ D L', L = D ++ L' ∧ (∀ d ∈ D, d ≤ m - c.window) ∧ HB c.k (relB c l t m) ∧ segB (relB c l t m) (L' ++ [t]) := by
 have hs' := hs
 rw [← List.take_append_drop (pastN l (m - c.window)) l] at hs'
 obtain ⟨D, L', rfl, h1, h2⟩ := (segB_append _ _ _).1 hs'
 refine ⟨D, L', rfl, seg_le _ D h1 (List.pairwise_append.1 hp).1 (past_take l _), ?_⟩
 exact joinL_HB hK _ _ 1 _ (by omega) (Nat.le_refl _) (HB_snoc _ t (HB_drop l h _)) _ ((segB_append _ _ _).2 ⟨L', [t], rfl, h2, [t], [], rfl, rfl, rfl, rfl⟩)
def cntA (T : Int) (L : List Int) : Int := ((L.filter (fun t => decide (T < t))).length : Int)
theorem cntA_append (T : Int) (a b : List Int) : cntA T (a ++ b) = cntA T a + cntA T b := by
 unfold cntA; rw [List.filter_append, List.length_append]; omega
theorem cntA_none {T : Int} {a : List Int} (h : ∀ d ∈ a, d ≤ T) : cntA T a = 0 := by
 unfold cntA
 rw [List.filter_eq_nil_iff.2 (fun d hd => by have := h d hd; simp; omega)]; rfl
theorem cntA_all {T : Int} {a : List Int} (h : ∀ d ∈ a, T < d) : cntA T a = a.length := by
 unfold cntA
 rw [List.filter_eq_self.2 (fun d hd => by have := h d hd; simpa using this)]
theorem cntA_le (T : Int) (a : List Int) : cntA T a ≤ a.length := by
 unfold cntA
 have := List.length_filter_le (fun t => decide (T < t)) a
 omega
theorem cntA_one {T t : Int} {a : List Int} (h : t ∈ a) (ht : T < t) : 1 ≤ cntA T a := by
 unfold cntA
 have : t ∈ a.filter (fun t => decide (T < t)) := List.mem_filter.2 ⟨h, by simpa using ht⟩
 have := List.length_pos_of_mem this
 omega
theorem est_cases {T : Int} (l : List Bk) : ∀ L, segB l L → L.Pairwise (· ≤ ·) →
  (pastN l T = l.length ∧ cntA T L = 0) ∨ (pastN l T < l.length ∧ ∃ x, 1 ≤ x ∧ x ≤ (bkAt l (pastN l T)).sz ∧ cntA T L = sumB (l.drop (pastN l T + 1)) + x) := by
 induction l with
 | nil => intro L h _; have : L = [] := h; subst this; exact .inl ⟨rfl, rfl⟩
 | cons b l ih =>
  rintro L ⟨s, r, rfl, h1, h2, h3⟩ hp
  obtain ⟨p1, p2, p3⟩ := List.pairwise_append.1 hp
  obtain ⟨l1, l2⟩ := last_le h2 p1
  by_cases hb : b.t ≤ T
  ·have hpn : pastN (b :: l) T = pastN l T + 1 := by
    unfold pastN; rw [List.takeWhile_cons, if_pos (by simpa using hb)]; rfl
   have hc : cntA T (s ++ r) = cntA T r := by
    rw [cntA_append, cntA_none (fun d hd => by have := l2 d hd; omega)]; omega
   rw [hpn, hc]
   rcases ih r h3 p2 with ⟨a1, a2⟩ | ⟨a1, x, x1, x2, x3⟩
   ·exact .inl ⟨by rw [List.length_cons]; omega, a2⟩
   ·exact .inr ⟨by rw [List.length_cons]; omega, x, x1, x2, x3⟩
  ·have hpn : pastN (b :: l) T = 0 := by
    unfold pastN; rw [List.takeWhile_cons, if_neg (by simpa using hb)]; rfl
   rw [hpn]
   refine .inr ⟨by simp, cntA T s, cntA_one l1 (by omega), ?_, ?_⟩
   ·have := cntA_le T s
    show cntA T s ≤ b.sz
    omega
   ·rw [cntA_append, cntA_all (a := r) (fun d hd => by have := p3 _ l1 d hd; omega)]
    show cntA T s + _ = sumB l + _
    rw [segB_sum h3]; omega
theorem est_bound {K T : Int} (hK : 0 ≤ K) (l : List Bk) (L : List Int) (hs : segB l L) (hp : L.Pairwise (· ≤ ·)) (hb : HB K l) (hz : ∀ b ∈ l, b.sz = 1 ∨ (1 ≤ b.sz / 2 ∧ b.sz = 2 * (b.sz / 2))) :
  K * (estN l T - cntA T L) ≤ cntA T L ∧ K * (cntA T L - estN l T) ≤ cntA T L := by
 rcases est_cases l L hs hp with ⟨a1, a2⟩ | ⟨a1, x, x1, x2, x3⟩
 ·have : estN l T = 0 := by
   unfold estN
   rw [if_pos a1, a1, List.drop_eq_nil_of_le (Nat.le_refl _)]; rfl
  rw [this, a2]
  exact ⟨by omega, by omega⟩
 ·generalize hpe : pastN l T = p at *
  have hd := HB_drop l hb p
  rw [bkAt_drop l p a1] at hd
  have hN := hd.1
  have he : estN l T = (bkAt l p).sz + sumB (l.drop (p + 1)) - (bkAt l p).sz / 2 := by
   unfold estN
   rw [hpe, if_neg (by omega), bkAt_drop l p a1]; rfl
  have hsz := hz _ (bkAt_mem a1)
  rw [he, x3]
  generalize (bkAt l p).sz = s at *
  generalize sumB (l.drop (p + 1)) = N at *
  rcases hsz with h1 | ⟨h1, h2⟩
  ·subst h1
   have hx : x = 1 := by omega
   subst hx
   have n0 : 0 ≤ N := by simpa using hN
   have e1 : (1 : Int) + N - 1 / 2 - (N + 1) = 0 := by omega
   have e2 : N + 1 - ((1 : Int) + N - 1 / 2) = 0 := by omega
   rw [e1, e2, Int.mul_zero]
   exact ⟨by omega, by omega⟩
  ·generalize s / 2 = q at *
   have hq : K * q ≤ K * (s - 1) := Int.mul_le_mul_of_nonneg_left (by omega) hK
   have a3 : K * (s + N - q - (N + x)) ≤ K * q := Int.mul_le_mul_of_nonneg_left (by omega) hK
   have a4 : K * (N + x - (s + N - q)) ≤ K * q := Int.mul_le_mul_of_nonneg_left (by omega) hK
   exact ⟨by omega, by omega⟩
end Go.Proofs.YtahnliehdjncdaaGreatDoor
namespace Go.Proofs.YtahnliehdjncdaaGreatDoor
structure Whole (c : Cfg) (T : Int) (l : List Bk) (R : List Int) : Prop where
 hb : HB c.k l
 sorted : R.Pairwise (· ≤ ·)
 parts : ∃ D L, R = D ++ L ∧ (∀ d ∈ D, d ≤ T) ∧ segB l L
theorem Whole.nil (c : Cfg) (T : Int) : Whole c T [] [] := ⟨trivial, List.Pairwise.nil, [], [], rfl, fun d hd => by simp at hd, rfl⟩
theorem Whole.later {c : Cfg} {T T' : Int} {l : List Bk} {R : List Int} (h : Whole c T l R) (ht : T ≤ T') : Whole c T' l R := by
 obtain ⟨D, L, h1, h2, h3⟩ := h.parts
 exact ⟨h.hb, h.sorted, D, L, h1, fun d hd => by have := h2 d hd; omega, h3⟩
theorem Whole.rel {c : Cfg} {m : Int} {l : List Bk} {R : List Int} (hK : 1 ≤ c.k) (h : Whole c (m - c.window) l R) (t : Int) (ht : ∀ r ∈ R, r ≤ t) : Whole c (m - c.window) (relB c l t m) (R ++ [t]) := by
 obtain ⟨D, L, rfl, h2, h3⟩ := h.parts
 obtain ⟨D', L', rfl, g2, g3, g4⟩ := relB_HB hK l L t m h.hb h3 (List.pairwise_append.1 h.sorted).2.1
 refine ⟨g3, ?_, D ++ D', L' ++ [t], by simp [List.append_assoc], ?_, g4⟩
 ·refine List.pairwise_append.2 ⟨h.sorted, List.pairwise_singleton _ _, fun a ha b hb => ?_⟩
  rw [List.mem_singleton] at hb
  subst hb
  exact ht a ha
 ·intro d hd
  rcases List.mem_append.1 hd with hd | hd
  ·exact h2 d hd
  ·exact g2 d hd
theorem Whole.fold {c : Cfg} {m : Int} (hK : 1 ≤ c.k) : ∀ (N : List Int) {l : List Bk} {R : List Int}, Whole c (m - c.window) l R → (R ++ N).Pairwise (· ≤ ·) → Whole c (m - c.window) (N.foldl (fun l t => relB c l t m) l) (R ++ N) := by
 intro N
 induction N with
 | nil => intro l R h _; simpa using h
 | cons t N ih =>
  intro l R h hp
  have h1 := h.rel hK t (fun r hr => (List.pairwise_append.1 hp).2.2 r hr t (by simp))
  have h2 := ih h1 (by simpa [List.append_assoc] using hp)
  simpa [List.append_assoc] using h2
theorem Whole.drop {c : Cfg} {T : Int} {l : List Bk} {R : List Int} (h : Whole c T l R) (n : Nat) (hn : n ≤ pastN l T) : Whole c T (l.drop n) R := by
 obtain ⟨D, L, rfl, h2, h3⟩ := h.parts
 rw [← List.take_append_drop n l] at h3
 obtain ⟨L1, L2, rfl, g1, g2⟩ := (segB_append _ _ _).1 h3
 have hs := (List.pairwise_append.1 (List.pairwise_append.1 h.sorted).2.1).1
 refine ⟨HB_drop l h.hb n, h.sorted, D ++ L1, L2, by rw [List.append_assoc], ?_, g2⟩
 intro d hd
 rcases List.mem_append.1 hd with hd | hd
 ·exact h2 d hd
 ·refine seg_le _ L1 g1 hs (fun b hb => past_take l T b ?_) d hd
  exact (List.take_sublist_take_left hn).subset hb
theorem Whole.bound {c : Cfg} {T T' : Int} {l : List Bk} {R : List Int} (hK : 0 ≤ c.k) (h : Whole c T l R) (ht : T ≤ T') (hz : ∀ b ∈ l, b.sz = 1 ∨ (1 ≤ b.sz / 2 ∧ b.sz = 2 * (b.sz / 2))) :
  c.k * (estN l T' - cntA T' R) ≤ cntA T' R ∧ c.k * (cntA T' R - estN l T') ≤ cntA T' R := by
 obtain ⟨D, L, rfl, h2, h3⟩ := h.parts
 have : cntA T' (D ++ L) = cntA T' L := by
  rw [cntA_append, cntA_none (fun d hd => by have := h2 d hd; omega)]; omega
 rw [this]
 exact est_bound hK l L h3 (List.pairwise_append.1 h.sorted).2.1 h.hb hz
end Go.Proofs.YtahnliehdjncdaaGreatDoor
namespace Go.Proofs.YtahnliehdjncdaaGreatDoor
structure BS (clock : Int) (x : Ser) (A : List Int) : Prop where
 heap : HeapL x.l
 wait : ∀ t, t ∈ x.l.map (·.t) → clock - x.c.lag < t
 whole : ∃ R, Whole x.c (clock - x.c.lag - x.c.window) x.nt.bs R ∧ (∀ r, r ∈ R → r ≤ clock - x.c.lag) ∧ (R ++ x.l.map (·.t)).Perm A
 pb : PB x.nt.bs
theorem relS_keep (m : Int) (f : Nat) : ∀ x : Ser, x.l.length < f → HeapL x.l → HeapL (relS f x m).l ∧ (relS f x m).c = x.c ∧ (relS f x m).k = x.k ∧ (relS f x m).id = x.id := by
 induction f with
 | zero => intro x h; omega
 | succ f ih =>
  intro x hf hh
  unfold relS
  split
  ·exact ⟨hh, rfl, rfl, rfl⟩
  ·rename_i he
   have hne : x.l ≠ [] := fun h => he (by rw [h]; rfl)
   split
   ·exact ⟨hh, rfl, rfl, rfl⟩
   ·obtain ⟨th, tp⟩ := take_heap x.l hh hne
    have hlen : (relOne x m).l.length = x.l.length - 1 := takeL_length _
    have hpos : 0 < x.l.length := List.length_pos_iff.2 hne
    obtain ⟨h1, h2, h3, h4⟩ := ih (relOne x m) (by omega) th
    exact ⟨h1, h2, h3, h4⟩
theorem fold_PB {c : Cfg} (hK : 0 ≤ c.k) (m : Int) : ∀ (N : List Int) (l : List Bk), PB l → PB (N.foldl (fun l t => relB c l t m) l) := by
 intro N
 induction N with
 | nil => intro l h; exact h
 | cons t N ih => intro l h; exact ih _ (relB_PB hK h t m)
theorem tick_BS {clock nc : Int} {x : Ser} {A : List Int} (h : BS clock x A) (hk : x.k = 1) (hcn : clock ≤ nc) (hK : 1 ≤ x.c.k) : BS nc (tickOne nc x) A := by
 obtain ⟨g1, g2, g3, g4, g5⟩ := relTimes_spec (nc - x.c.lag) (x.l.length + 1) x (by omega) h.heap
 obtain ⟨k1, k2, _, _⟩ := relS_keep (nc - x.c.lag) (x.l.length + 1) x (by omega) h.heap
 obtain ⟨R, hw, hr, hp⟩ := h.whole
 have hbs := g5 hk
 have hN : ∀ t, t ∈ relTimes (x.l.length + 1) x (nc - x.c.lag) → clock - x.c.lag < t := fun t ht => h.wait t (g1.mem_iff.2 (List.mem_append.2 (.inl ht)))
 unfold tickOne
 generalize relTimes (x.l.length + 1) x (nc - x.c.lag) = N at *
 refine ⟨k1, ?_, ⟨R ++ N, ?_, ?_, ?_⟩, ?_⟩
 ·rw [k2]; exact g3
 ·rw [k2, hbs]
  refine (hw.later (by omega)).fold hK N (List.pairwise_append.2 ⟨hw.sorted, g4, fun a ha b hb => ?_⟩)
  have h1 := hr a ha
  have h2 := hN b hb
  omega
 ·rw [k2]
  intro r hrm
  rcases List.mem_append.1 hrm with hrm | hrm
  ·have := hr r hrm; omega
  ·exact g2 r hrm
 ·rw [List.append_assoc]
  exact (List.Perm.append_left R g1.symm).trans hp
 ·rw [hbs]; exact fold_PB (by omega) _ _ _ h.pb
theorem sweep_BS {nc b : Int} {x : Ser} {A : List Int} (h : BS nc x A) (hk : x.k = 1) : BS nc (swpS nc b x) A := by
 obtain ⟨R, hw, hr, hp⟩ := h.whole
 have e : (swpS nc b x).nt.bs = x.nt.bs.drop (thrownB x.c x.nt.bs (nc - x.c.lag) b).toNat := by
  unfold swpS swpN; rw [if_pos hk]
 have hle : (thrownB x.c x.nt.bs (nc - x.c.lag) b).toNat ≤ pastN x.nt.bs (nc - x.c.lag - x.c.window) := by unfold thrownB; omega
 refine ⟨h.heap, h.wait, ⟨R, ?_, hr, hp⟩, ?_⟩
 ·rw [e]; exact hw.drop _ hle
 ·rw [e]; exact h.pb.drop _
theorem add_BS {clock : Int} {x : Ser} {A : List Int} (h : BS clock x A) (y : It) (hy : clock - x.c.lag < y.t) : BS clock (accS x y) (A ++ [y.t]) := by
 obtain ⟨R, hw, hr, hp⟩ := h.whole
 obtain ⟨h1, h2⟩ := put_heap x.l (numbered y (x.acc + 1)) h.heap
 have h3 : ((accS x y).l.map (·.t)).Perm (y.t :: x.l.map (·.t)) := h2.map (·.t)
 refine ⟨h1, ?_, ⟨R, hw, hr, ?_⟩, h.pb⟩
 ·intro t ht
  rcases List.mem_cons.1 (h3.mem_iff.1 ht) with ht | ht
  ·rw [ht]; exact hy
  ·exact h.wait t ht
 ·refine (List.Perm.append_left R h3).trans (List.perm_middle.trans ?_)
  exact (List.Perm.cons _ hp).trans (List.perm_append_singleton _ _).symm
theorem new_BS (clock id : Int) (c : Cfg) (k : Nat) : BS clock (newSer id c k) [] :=
 ⟨fun i _ hi => by simp [newSer] at hi, fun t ht => by simp [newSer] at ht, ⟨[], Whole.nil _ _, fun r hr => by simp at hr, List.Perm.refl _⟩, ⟨fun i j _ hj => absurd hj (Nat.not_lt_zero _), fun i hi => absurd hi (Nat.not_lt_zero _)⟩⟩
theorem BS.bound {clock a : Int} {x : Ser} {A : List Int} (h : BS clock x A) (hK : 0 ≤ x.c.k) (ha : a ≤ x.c.window) (T : Int) (hT : T = clock - x.c.lag - a) :
  ∃ n : Int, n = ((A.filter (fun t => decide (T < t ∧ t ≤ clock - x.c.lag))).length : Int) ∧ x.c.k * (estN x.nt.bs T - n) ≤ n ∧ x.c.k * (n - estN x.nt.bs T) ≤ n := by
 obtain ⟨R, hw, hr, hp⟩ := h.whole
 refine ⟨_, rfl, ?_⟩
 have e : ((A.filter (fun t => decide (T < t ∧ t ≤ clock - x.c.lag))).length : Int) = cntA T R := by
  rw [← (hp.filter _).length_eq, List.filter_append, List.length_append]
  have h1 : (x.l.map (·.t)).filter (fun t => decide (T < t ∧ t ≤ clock - x.c.lag)) = [] := List.filter_eq_nil_iff.2 (fun t ht => by have := h.wait t ht; simp; omega)
  have h2 : R.filter (fun t => decide (T < t ∧ t ≤ clock - x.c.lag)) = R.filter (fun t => decide (T < t)) := List.filter_congr (fun t ht => by have := hr t ht; simp; omega)
  rw [h1, h2]; unfold cntA; simp
 rw [e]
 refine hw.bound hK (by omega) (fun b hb => ?_)
 obtain ⟨i, hi, rfl⟩ := List.mem_iff_getElem.1 hb
 obtain ⟨k, hk⟩ := h.pb.pow i hi
 have hbk : bkAt x.nt.bs i = x.nt.bs[i] := by simp [bkAt, List.getD_eq_getElem?_getD, List.getElem?_eq_getElem hi]
 rw [hbk] at hk
 cases k with
 | zero => left; simpa using hk
 | succ k =>
  right
  rw [Int.pow_succ] at hk
  have := pow_pos2 k
  omega
end Go.Proofs.YtahnliehdjncdaaGreatDoor
