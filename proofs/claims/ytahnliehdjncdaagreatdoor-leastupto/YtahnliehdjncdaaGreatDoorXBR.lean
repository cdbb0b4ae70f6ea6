import Derived.Test.YtahnliehdjncdaaGreatDoorXBQ
import Derived.Laws.AppendOwnNone
import Derived.Test.YtahnliehdjncdaaGreatDoorXBA
import Derived.Deep.DeepHandedRow
import Derived.Lib.LaidTab
import Derived.SevenTiedAt
import Derived.Test.YtahnliehdjncdaaGreatDoorCards
import Derived.Test.YtahnliehdjncdaaGreatDoorXAU
import Derived.Test.YtahnliehdjncdaaGreatDoorTie
import Derived.Test.YtahnliehdjncdaaGreatDoorXBD
import Derived.Test.YtahnliehdjncdaaGreatDoorXBH
import Derived.Test.YtahnliehdjncdaaGreatDoorXBO
set_option maxRecDepth 100000
set_option maxHeartbeats 16000000
namespace Go.Proofs.YtahnliehdjncdaaGreatDoor
open Go.ChangeShapes Go.WideShapes Go.ChangeAt Go.RowKit Go.Deep
theorem Tryz.own : ownKnob Tryz.prog.godebug = none := by kernel_rfl
theorem Tryz.laidOut : laidOutB Tryz.prog = true := by kernel_rfl
theorem Keeps.below {w w' : World} (h : Keeps (fun _ => False) w w') : Below w.heap.size w w' := ⟨h.os, h.tape, h.output, h.size, fun k hk => h.block k hk (fun h => h)⟩
theorem i64_of_wf {x : Int} (h : (Lit.int .i64 x).wf = true) : -9223372036854775808 ≤ x ∧ x ≤ 9223372036854775807 := by
 simp [Lit.wf, IntKind.min, IntKind.max, IntKind.signed, IntKind.bits] at h
 omega
end Go.Proofs.YtahnliehdjncdaaGreatDoor
namespace Go.Proofs.YtahnliehdjncdaaGreatDoor
open Go.RowKit
attribute [local go_sem ↓] execOp_load38 execOp_load40 execOp_store40 execOp_bs22
attribute [local go_sem] run_load38 run_load40 bigVal_drew hasBig_drew bigVal_ne hasBig_ne bigVal_alloc hasBig_alloc
def opFlat (l : List OpM) : List Value := l.flatMap OpM.cells
theorem opFlat_append (a b : List OpM) : opFlat (a ++ b) = opFlat a ++ opFlat b := by simp [opFlat]
theorem opFlat_length (l : List OpM) : (opFlat l).length = l.length * 26 := by
 induction l with
 | nil => rfl
 | cons a l ih =>
  have hc : opFlat (a :: l) = a.cells ++ opFlat l := by simp [opFlat]
  rw [hc, List.length_append, ih, List.length_cons]
  have : a.cells.length = 26 := rfl
  omega
theorem opFlat_get (l : List OpM) (i j : Nat) (x : OpM) (h : l[i]? = some x) (hj : j < 26) : (opFlat l)[i * 26 + j]? = x.cells[j]? := by
 induction l generalizing i with
 | nil => simp at h
 | cons a l ih =>
  have hc : opFlat (a :: l) = a.cells ++ opFlat l := by simp [opFlat]
  have hl : a.cells.length = 26 := rfl
  rw [hc]
  cases i with
  | zero =>
   have : a = x := by simpa using h
   subst this
   rw [List.getElem?_append_left (by omega)]
   simp
  | succ i =>
   rw [List.getElem?_append_right (by omega)]
   have := ih i (by simpa using h)
   rw [← this]
   congr 1
   omega
theorem opFlat_one (l : List OpM) (u : Value) (h : u ∈ opFlat l) : u.oneCell' = true := by
 obtain ⟨o, _, hu⟩ := List.mem_flatMap.1 h
 have := op_oneCell o
 simp only [List.all_toArray, List.all_eq_true] at this
 exact this u hu
abbrev OwnS (w : World) (base : Nat) (v : Value) (ops : List OpM) : Prop := w.ownsRow base 40 26 v ops.length (opFlat ops)
def ScriptW (w : World) (v : Value) (ops : List OpM) : Prop := ((∃ a c, v = .slice a 0 c) ∧ ops = []) ∨ ∃ sb so cap, v = .slice (some ⟨sb, so, none⟩) ops.length cap ∧ ops.length ≤ cap ∧ ScriptAt w sb so ops ∧ sb < w.heap.size
theorem ScriptAt.keeps {w w' : World} {sb so : Nat} {ops : List OpM} (h : ScriptAt w sb so ops) (hk : Keeps (fun _ => False) w w') : ScriptAt w' sb so ops :=
 fun i o ho j u hu => hk.cell (h i o ho j u hu) (fun h => h)
theorem ScriptW.keeps {w w' : World} {v : Value} {ops : List OpM} (h : ScriptW w v ops) (hk : Keeps (fun _ => False) w w') : ScriptW w' v ops := by
 rcases h with h | ⟨sb, so, cap, h1, h2, h3, h4⟩
 ·exact .inl h
 ·exact .inr ⟨sb, so, cap, h1, h2, h3.keeps hk, by have := hk.size; omega⟩
theorem run_script' (v : Value) (ops : List OpM) (w : World) (h : ScriptW w v ops) (hlen : ops.length ≤ 651562446090) (hT : Tab w) (hok : OkRun ops) :
  Calls Tryz.prog 19 #[v] w fun r w' => ∃ v l, r = .returned v ∧ ARep w' w.heap.size v l ∧ l.map (fun x => (x.code, x.nums)) = runM ws0 ops ∧ l.map (·.bs) = runB ws0 ops ∧ Keeps (fun _ => False) w w' := by
 rcases h with ⟨⟨a, c, rfl⟩, rfl⟩ | ⟨sb, so, cap, rfl, h2, h3, h4⟩
 ·exact run_nil a c w
 ·exact run_all sb so cap ops w h3 h4 hlen hT hok
theorem own_script {w : World} {base : Nat} {v : Value} {ops : List OpM} (h : OwnS w base v ops) : (v = .slice none 0 0 ∧ ops = []) ∨ ∃ g cap, v = .slice (some ⟨g, 0, none⟩) ops.length cap ∧ ops.length ≤ cap ∧ ScriptAt w g 0 ops ∧ g < w.heap.size ∧ base ≤ g ∧ cap ≤ maxLen := by
 rcases h.2 with ⟨h1, h2⟩ | ⟨g, cap, cur, h1, h2, h3, h4, h5, h6, h7⟩
 ·exact .inl ⟨h1, List.length_eq_zero_iff.1 h2⟩
 ·refine .inr ⟨g, cap, h1, h4, ?_, (Array.getElem?_eq_some_iff.1 h3).1, h2, h5⟩
  intro i o ho j u hu
  have hj : j < 26 := by have := (List.getElem?_eq_some_iff.1 hu).1; exact this
  have hi : i < ops.length := (List.getElem?_eq_some_iff.1 ho).1
  have hf := opFlat_get ops i j o ho hj
  have hc : cur[i * 26 + j]? = some u := by
   rw [← h7, List.getElem?_take, if_pos (by omega), hu] at hf
   simpa using hf
  rw [Nat.zero_add]
  simp [World.cell?, h3, hc]
theorem own_scriptW {w : World} {base : Nat} {v : Value} {ops : List OpM} (h : OwnS w base v ops) : ScriptW w v ops := by
 rcases own_script h with ⟨h1, h2⟩ | ⟨g, cap, h1, h2, h3, h4, _, _⟩
 ·exact .inl ⟨⟨_, _, h1⟩, h2⟩
 ·exact .inr ⟨g, 0, cap, h1, h2, h3, h4⟩
def cz0 : List Value := (⟨0, 0, 0, 0, 0, cz, noBytes⟩ : OpM).cells
theorem info40 : (Tryz.prog.info? 40).map (fun i => (i.zero, i.size, i.bytes)) = some (some (.agg cz0.toArray), 26, 216) := by kernel_rfl
end Go.Proofs.YtahnliehdjncdaaGreatDoor
namespace Go.Proofs.YtahnliehdjncdaaGreatDoor
open Go.RowKit
attribute [local go_sem ↓] execOp_load38 execOp_load40 execOp_store40 execOp_bs22
attribute [local go_sem] run_load38 run_load40 bigVal_drew hasBig_drew bigVal_ne hasBig_ne bigVal_alloc hasBig_alloc
theorem wpList_append_ops {w : World} {ops : Array Oper} {rest : List Oper} {o : Oper} {a : Act} {Q : Exit → Act → World → Prop} (hgd : o.guard = none) (s x : Operand)
  (ho : o.op = .call { callee := .builtin .append, args := #[s, x], argTypes := #[22, 22] })
  (base : Nat) (v : Value) (A : List OpM) (hs : a.eval s = v) (hown : OwnS w base v A) (u : Value) (B : List OpM) (hx : a.eval x = u) (hB : ScriptW w u B)
  (hlen : A.length + B.length ≤ 651562446089) (hbase : base ≤ w.heap.size)
  (h : ∀ ad c w', OwnS w' base (.slice ad (A.length + B.length) c) (A ++ B) → Keeps (fun i => v.ownBlock = some i) w w' → (∀ i, (Value.slice ad (A.length + B.length) c).ownBlock = some i → v.ownBlock = some i ∨ w.heap.size ≤ i) → wpList Tryz.prog ops Q rest (a.put o.dst (.slice ad (A.length + B.length) c)) w') : wpList Tryz.prog ops Q (o :: rest) a w := by
 obtain ⟨i0, hi0, hz0, hz1, hz2⟩ := info_parts info40
 by_cases hb : B = []
 ·subst hb
  have hu : ∃ ad c, u = .slice ad 0 c := by
   rcases hB with ⟨h, _⟩ | ⟨sb, so, cap, h, _⟩
   ·exact h
   ·exact ⟨_, _, h⟩
  obtain ⟨ad, c, rfl⟩ := hu
  obtain ⟨av, ac, hv⟩ := row_form0 hown
  refine wpList_append_zero hgd s x 22 ho base 40 i0 26 Tryz.underlying22 hi0 v A.length (opFlat A) hs hown ad c hx ?_
  have := h av ac w (by rw [List.append_nil]; rw [hv] at hown; exact hown) (Keeps.refl _ _) (by rw [hv]; exact fun i hi => .inl hi)
  rw [hv]
  exact this
 ·rcases hB with ⟨_, h0⟩ | ⟨sb, so, cap, rfl, hcap, hsc, hlt⟩
  ·exact absurd h0 hb
  ·have hpos : 0 < B.length := List.length_pos_iff.2 hb
   refine wpList_append_lies w hgd s x 22 ho base 40 i0 (.agg cz0.toArray) 26 216 Tryz.underlying22 hi0 hz0 hz1 hz2 (by rfl) (by omega) v A.length (opFlat A) hs hown ⟨sb, so, none⟩ B.length cap (opFlat B) hx (opFlat_length B) ?_ (opFlat_one B) hpos (by unfold maxLen; omega) (by omega) hbase w.heap.size rfl ?_
   ·intro j z hz
    have hj : j < B.length * 26 := by have := (List.getElem?_eq_some_iff.1 hz).1; rwa [opFlat_length] at this
    have hq : j / 26 < B.length := by omega
    have hf := opFlat_get B (j / 26) (j % 26) B[j / 26] (List.getElem?_eq_getElem hq) (by omega)
    rw [show j / 26 * 26 + j % 26 = j by omega, hz] at hf
    have := hsc (j / 26) B[j / 26] (List.getElem?_eq_getElem hq) (j % 26) z hf.symm
    rw [Go.WideShapes.add_plain, show so + j = so + j / 26 * 26 + j % 26 by omega]
    exact this
   ·intro g c w' hown' hgrow hat hlt'
    refine h (some ⟨g, 0, none⟩) c w' ?_ ?_ ?_
    ·show w'.ownsRow base 40 26 _ (A ++ B).length (opFlat (A ++ B))
     rw [opFlat_append, List.length_append]; exact hown'
    ·exact ⟨hgrow.os, hgrow.tape, hgrow.output, hgrow.size, fun k hk hn => hgrow.block k hk (fun h => hn h.symm)⟩
    ·intro i hi
     have : g = i := by simpa [Value.ownBlock] using hi
     subst this
     rcases hat with h1 | h1
     ·exact .inl h1
     ·exact .inr (by omega)
theorem with_any (v1 v2 : Value) (A B : List OpM) (w : World) (h1 : ScriptW w v1 A) (h2 : ScriptW w v2 B) (hlen : A.length + B.length ≤ 651562446089) :
  Calls Tryz.prog 22 #[v1, v2] w fun r w' => ∃ v, r = .returned v ∧ OwnS w' w.heap.size v (A ++ B) ∧ Keeps (fun _ => False) w w' := by
 have HA := hide h1
 have HB := hide h2
 clear h1 h2
 go_enter Tryz.func22, Tryz.ntmps22
 go_wp2_with (at_builtin; first
    | (refine wpList_append_ops rfl _ _ rfl w.heap.size (.slice none 0 0) [] rfl (World.ownsRow_nil _ _ _ _) v1 A rfl (uh HA) (by simp; omega) (by omega) ?_; intro ad c w1 hown1 hk1 hat1; have HO1 := hide (show OwnS w1 w.heap.size (.slice ad A.length c) A by simpa using hown1); have HK1 := hide (show Keeps (fun _ => False) w w1 from hk1.mono (fun i _ h => by simp [Value.ownBlock] at h)); clear hown1 hk1)
    | (refine wpList_append_ops rfl _ _ rfl w.heap.size (.slice ad A.length c) A rfl (uh HO1) v2 B rfl ((uh HB).keeps (uh HK1)) hlen (uh HK1).size ?_; intro ad2 c2 w2 hown2 hk2 hat2))
 go_ret
 refine ⟨_, rfl, hown2, (uh HK1).trans hk2 (fun i hi hlt => ?_)⟩
 have := ((uh HO1).lt i hi).1
 omega
def OpM.noLoad (o : OpM) : Bool := o.kind != 7
theorem run_bs1 (w : World) (o : OpM) : (bsBig 22 1 #[(0, .agg o.cells.toArray)]).run Tryz.prog w = .ok (.value (.slice (some ⟨w.heap.size, 0, none⟩) 1 1)) (w.alloc (.cells o.cells.toArray 40)) := by kernel_rfl
theorem blk_script {w : World} {b : Nat} {o : OpM} (h : Blk w b o.cells 40) : ScriptW w (.slice (some ⟨b, 0, none⟩) 1 1) [o] := by
 refine .inr ⟨b, 0, 1, rfl, by simp, ?_, h.lt⟩
 intro i x hx j u hu
 have hi : i = 0 := by have := (List.getElem?_eq_some_iff.1 hx).1; simp at this; omega
 subst hi
 have : o = x := by simpa using hx
 subst this
 have := h.cell hu
 simpa using this
attribute [local go_sem] run_bs1
theorem without_any (v : Value) (ops : List OpM) (w : World) (h : ScriptW w v ops) (hlen : ops.length ≤ 651562446089) :
  Calls Tryz.prog 21 #[v, .int .i64 7] w fun r w' => ∃ v', r = .returned v' ∧ OwnS w' w.heap.size v' (ops.filter OpM.noLoad) ∧ Keeps (fun _ => False) w w' ∧ (ops.filter OpM.noLoad = [] → v' = .slice none 0 0) := by
 by_cases h0 : ops = []
 ·subst h0
  have hv : ∃ a c, v = .slice a 0 c := by
   rcases h with ⟨h, _⟩ | ⟨sb, so, cap, h, _⟩
   ·exact h
   ·exact ⟨_, _, h⟩
  obtain ⟨a, c, rfl⟩ := hv
  clear h
  go_enter Tryz.func21, Tryz.ntmps21
  go_wp2
  go_loopw [5, 6] (fun l i wr => l = .slice none 0 0 ∧ i = .int .i64 0 ∧ wr = w) (fun _ _ _ => 0)
  case atStart => exact ⟨rfl, rfl, rfl⟩
  case round =>
   obtain ⟨rfl, rfl, rfl⟩ := hrel
   go_wp2
   go_ret
   exact ⟨_, rfl, World.ownsRow_nil _ _ _ _, Keeps.refl _ _, fun _ => rfl⟩
 rcases h with ⟨_, h⟩ | ⟨sb, so, cap, rfl, hcap, hsc, hlt⟩
 ·exact absurd h h0
 have HSC := hide hsc
 clear hsc
 generalize hn : ops.length = n at *
 have HN := hide hn
 clear hn
 go_enter Tryz.func21, Tryz.ntmps21
 go_wp2_with fail
 go_loopw [5, 6] (fun l i wr => ∃ (k m c : Nat) (ad : Option Addr), k ≤ n ∧ i = .int .i64 k ∧ l = .slice ad m c ∧ Hid (OwnS wr w.heap.size l ((ops.take k).filter OpM.noLoad)) ∧ Hid (Keeps (fun _ => False) w wr) ∧ Hid ((ops.take k).filter OpM.noLoad = [] → l = .slice none 0 0)) (fun _ i _ => n - (intOf i).toNat)
 case atStart => exact ⟨0, 0, 0, none, by omega, rfl, rfl, World.ownsRow_nil _ _ _ _, Keeps.refl _ _, fun _ => rfl⟩
 case round =>
  obtain ⟨k, m, c, ad, hk, rfl, rfl, HO, HK, HE⟩ := hrel
  by_cases hkn : k < n
  ·obtain ⟨o, ho⟩ : ∃ o, ops[k]? = some o := ⟨ops[k]'(by rw [uh HN]; exact hkn), List.getElem?_eq_getElem _⟩
   have hrange := (uh HSC).keeps (uh HK) k o ho
   have hsb := bigCells_of_range hrange
   have hv0 : bigVal wr sb (so + k * 26) 26 = .agg o.cells.toArray := by
    unfold bigVal
    have := hsb.1
    rw [show o.cells.length = 26 from rfl] at this
    rw [this]
   have hh0 : hasBig wr sb (so + k * 26) 26 = true := hsb.2
   have hkind : wr.cell? ⟨sb, so + k * 26, none⟩ = some (.int .i64 o.kind) := hrange 0 _ rfl
   have htk : ops.take (k + 1) = ops.take k ++ [o] := by rw [List.take_add_one, ho]; rfl
   have hk0 : (0 : Int) ≤ (k : Int) := by omega
   have hkn' : (k : Int) < (n : Int) := by omega
   have hl0 : ((ops.take k).filter OpM.noLoad).length ≤ k := by
    have h1 := List.length_filter_le OpM.noLoad (ops.take k)
    rw [List.length_take] at h1
    omega
   have HFL := hide (show (ops.take (k + 1)).filter OpM.noLoad = (ops.take k).filter OpM.noLoad ++ [o].filter OpM.noLoad by rw [htk, List.filter_append])
   clear hrange hsb htk ho
   by_cases h7 : o.kind = 7
   ·have hne : (o.kind != 7) = false := by simp [h7]
    have HF1 := hide (show [o].filter OpM.noLoad = [] by simp [OpM.noLoad, hne])
    rw [h7] at hkind
    clear h7 hne hv0 hh0
    go_wp2_with fail
    go_roundw
    case rel => exact ⟨k + 1, m, c, ad, by omega, by go_num, rfl, by show OwnS _ _ _ _; rw [uh HFL, uh HF1, List.append_nil]; exact uh HO, HK, by show _ → _; rw [uh HFL, uh HF1, List.append_nil]; exact uh HE⟩
    case measure => simp [intOf]; omega
   ·have hne : (o.kind != 7) = true := by simp [h7]
    have HF1 := hide (show [o].filter OpM.noLoad = [o] by simp [OpM.noLoad, hne])
    have hm : m = ((ops.take k).filter OpM.noLoad).length := by
     obtain ⟨_, _, e⟩ := row_form0 (uh HO)
     injection e
    generalize (ops.take k).filter OpM.noLoad = A at *
    go_wp2_with (at_builtin; refine wpList_append_ops rfl _ _ rfl w.heap.size (.slice ad m c) A rfl (by exact owns_keeps (uh HO) ((Keeps.refl (fun _ => False) wr).alloc _) (fun _ _ h => h)) _ [o] rfl (by exact blk_script (Blk.new wr o.cells 40)) (by simp; omega) (by have := (uh HK).size; simp; omega) ?_; intro ad2 c2 w2 hown2 hk2 hat2)
    go_roundw
    case rel =>
     refine ⟨k + 1, A.length + 1, c2, ad2, by omega, by go_num, rfl, ?_, ?_, ?_⟩
     ·show OwnS _ _ _ _; rw [uh HFL, uh HF1]; exact hown2
     ·refine (((uh HK).alloc _).trans hk2 (fun i hi hlt => ?_))
      have := ((uh HO).lt i hi).1
      omega
     ·show _ → _; rw [uh HFL, uh HF1]; intro h; simp at h
    case measure => simp [intOf]; omega
  ·have hkk : k = n := by omega
   subst hkk
   go_wp2
   go_ret
   have h1 := uh HO
   have h2 := uh HE
   rw [List.take_of_length_le (by rw [uh HN]; omega)] at h1 h2
   exact ⟨_, rfl, h1, uh HK, h2⟩
end Go.Proofs.YtahnliehdjncdaaGreatDoor
namespace Go.Proofs.YtahnliehdjncdaaGreatDoor
open Go.ChangeShapes Go.WideShapes Go.ChangeAt Go.RowKit Go.Deep
theorem gTab : Tryz.prog.globalNamed "math/bits.deBruijn64tab" = some 2 := by kernel_rfl
theorem gTabType : (Tryz.prog.globals[2]?).map (·.type) = some 287 := by kernel_rfl
theorem cells64 : Tryz.prog.cellsOf 287 = 64 := by kernel_rfl
theorem cells5' : Tryz.prog.cellsOf 5 = 1 := by kernel_rfl
theorem under5' : Tryz.prog.underlying 5 = some (.int .u8) := by kernel_rfl
def tabInts : List Int := Lib.deBruijn64tab.map fun (n : Nat) => (n : Int)
def tabVals : Array Value := (tabInts.map (.int .u8 ·)).toArray
theorem tab_of {W : World} (h : laidMetH Tryz.prog [("math/bits.deBruijn64tab", Rows.laid_math_bits_deBruijn64tab)] W) : Tab W := by
 have ht : Lib.TabIs Tryz.prog W "math/bits.deBruijn64tab" .u8 tabInts := Lib.tabIs_of_head (rest := []) gTab gTabType Tryz.underlying287 under5' cells5' cells64 h
 intro j hj
 have h1 := ht.cell gTab j (by simpa [tabInts] using hj)
 rw [h1]
 unfold tabInts
 rw [List.getD_eq_getElem?_getD, List.getD_eq_getElem?_getD, List.getElem?_map, List.getElem?_eq_getElem hj]
 rfl
noncomputable def laidWorld (os : Os) : World :=
 { World.holding Tryz.prog os ⟨#[], #[], []⟩ with heap := (World.holding Tryz.prog os ⟨#[], #[], []⟩).heap.modify 2 fun
     | .cells _ t frozen => .cells tabVals t frozen
     | o => o }
theorem script_open {H : Type} {enc : TypeId × Value → H} {W : World} {fuel : Nat} {a0 : Option Addr} {len cap : Nat} {d : DataW H} {p : List MemPlace}
  (hf : DataW.trod enc Tryz.prog W 0 (fun _ => true) true fuel 22 (Value.slice a0 len cap).cells.toList = some (d, p)) (hlt : ∀ x ∈ p, x.block < W.heap.size) :
  ∃ ops, ScriptW W (.slice a0 len cap) ops ∧ ops.length = len ∧ (len ≠ 0 → ∃ elems spare, d = .slice elems spare ∧ len ≤ elems.length + spare.length) := by
 by_cases hl0 : len = 0
 ·subst hl0
  exact ⟨[], .inl ⟨⟨_, _, rfl⟩, rfl⟩, rfl, fun h => absurd rfl h⟩
 ·rcases open_slice Tryz.underlying22 hf with ⟨hcs, hx⟩ | ⟨a, len', cap', k, n, D, Pl, hcs, _, hl, hm, hk, hx, hcell⟩
  ·simp [Value.cells] at hcs
   exact absurd hcs.2.1 hl0
  ·simp [Value.cells] at hcs
   obtain ⟨rfl, rfl, rfl⟩ := hcs
   simp only [Prod.mk.injEq] at hx
   obtain ⟨rfl, rfl⟩ := hx
   simp only [if_true] at hk
   subst k
   rw [cells40] at hcell
   obtain ⟨b, off, spot⟩ := a
   have hspot : spot = none := by
    obtain ⟨cs', h1, _⟩ := hcell 0 (by omega)
    obtain ⟨_, h2, h3⟩ := World.cells?_some h1
    have h4 := h3 0 (by omega)
    rw [List.getElem?_eq_getElem (by omega)] at h4
    simpa [Addr.add] using World.cell?_spot h4
   subst hspot
   have hbW : b < W.heap.size := hlt (.cell b off) (List.mem_append_left _ (MemPlace.mem_row.2 ⟨0, by rw [cells40]; omega, by simp⟩))
   have hops : ∀ i, i < len → ∃ o : OpM, W.rangeAt b (off + i * 26) o.cells := by
    intro i hi
    obtain ⟨cs', h1, h2⟩ := hcell i (by omega)
    obtain ⟨V, bs, rfl, _⟩ := op_open h2
    obtain ⟨_, h3, h4⟩ := World.cells?_some h1
    refine ⟨opOf V bs, fun j v hv => ?_⟩
    have hj : j < 26 := by have := (List.getElem?_eq_some_iff.1 hv).1; omega
    have := h4 j hj
    rw [add_add, add_plain, hv, ← Nat.add_assoc] at this
    exact this
   haveI : Inhabited OpM := ⟨o1⟩
   obtain ⟨O, hO⟩ := choose_lt (α := OpM) hops
   refine ⟨(List.range len).map O, .inr ⟨b, off, cap, by simp, by simpa using hl, ?_, hbW⟩, by simp, fun _ => ⟨_, _, rfl, by simp⟩⟩
   intro i o ho
   have hi : i < len := by have := (List.getElem?_eq_some_iff.1 ho).1; simpa using this
   have : O i = o := by simpa [hi] using ho
   rw [← this]
   exact hO i hi
end Go.Proofs.YtahnliehdjncdaaGreatDoor
namespace Go.Proofs.YtahnliehdjncdaaGreatDoor
def HB (K : Int) : List Bk → Prop
 | [] => True
 | b :: l => K * (b.sz - 1) ≤ sumB l ∧ HB K l
end Go.Proofs.YtahnliehdjncdaaGreatDoor
namespace Go.Proofs.YtahnliehdjncdaaGreatDoor
theorem relS_keep (m : Int) (f : Nat) : ∀ x : Ser, x.l.length < f → HeapL x.l → HeapL (relS f x m).l ∧ (relS f x m).c = x.c ∧ (relS f x m).k = x.k ∧ (relS f x m).id = x.id := by
 induction f with
 | zero => intro x h; omega
 | succ f ih =>
  intro x hf hh
  unfold relS
  split
  ·exact ⟨hh, rfl, rfl, rfl⟩
  ·rename_i he
   have hne : x.l ≠ [] := fun h => he (by rw [h]; rfl)
   split
   ·exact ⟨hh, rfl, rfl, rfl⟩
   ·obtain ⟨th, tp⟩ := take_heap x.l hh hne
    have hlen : (relOne x m).l.length = x.l.length - 1 := takeL_length _
    have hpos : 0 < x.l.length := List.length_pos_iff.2 hne
    obtain ⟨h1, h2, h3, h4⟩ := ih (relOne x m) (by omega) th
    exact ⟨h1, h2, h3, h4⟩
end Go.Proofs.YtahnliehdjncdaaGreatDoor
namespace Go.Proofs.YtahnliehdjncdaaGreatDoor
theorem sweepL_from {c : Int} (xs : List Ser) : ∀ (b : Int) (z : Ser), z ∈ (sweepL c b xs).1 → ∃ y, y ∈ xs ∧ ∃ b', z = swpS c b' y := by
 induction xs with
 | nil => intro b z hz; simp [sweepL] at hz
 | cons x xs ih =>
  intro b z hz
  simp only [sweepL] at hz
  rcases List.mem_cons.1 hz with hz | hz
  ·exact ⟨x, by simp, b, hz⟩
  ·obtain ⟨y, hy, h⟩ := ih _ z hz
   exact ⟨y, by simp [hy], h⟩
theorem sweepL_ids (c : Int) (xs : List Ser) : ∀ b, (sweepL c b xs).1.map (·.id) = xs.map (·.id) := by
 induction xs with
 | nil => intro b; rfl
 | cons x xs ih => intro b; simp only [sweepL, List.map_cons, ih]; rfl
theorem find_split {xs : List Ser} {id : Int} {x : Ser} (h : findS xs id = some x) : ∃ l1 l2, xs = l1 ++ x :: l2 ∧ x.id = id ∧ ∀ y : Ser, updS xs id y = l1 ++ y :: l2 := by
 obtain ⟨hp, l1, l2, he, hn⟩ := List.find?_eq_some_iff_append.1 h
 refine ⟨l1, l2, he, by simpa using hp, fun y => ?_⟩
 subst he
 clear h
 induction l1 with
 | nil => simp [updS]; intro h0; exact absurd (by simpa using hp) h0
 | cons a l1 ih =>
  have ha := hn a (by simp)
  simp only [List.cons_append, updS]
  rw [if_neg (by simpa using ha), ih (fun z hz => hn z (by simp [hz]))]
theorem refE_late {x : Ser} {clock : Int} {y : It} (h : refE x clock y = 0) : clock - x.c.lag < y.t := by
 unfold refE at h
 split at h
 ·split at h
  ·omega
  ·omega
 ·omega
end Go.Proofs.YtahnliehdjncdaaGreatDoor
namespace Go.Proofs.YtahnliehdjncdaaGreatDoor
theorem step_clock (s : WS) (o : OpM) (h7 : o.kind ≠ 7) : (stepM s o).1.clock = if o.kind = 3 ∧ (stepM s o).2.1 = 0 ∧ s.clock < o.a then o.a else s.clock := by
 by_cases h3 : o.kind = 3
 ·have hs : stepM s o = tickM s o := by unfold stepM; rw [if_neg (by omega), if_neg (by omega), if_pos h3]
  rw [hs]
  unfold tickM
  by_cases ha : inB o.a 0 4611686018427387904 = true
  ·rw [if_pos ha]
   by_cases hb : inB o.b 0 100 = true
   ·rw [if_pos hb]
    show maxC s.clock o.a = _
    unfold maxC
    by_cases hc : s.clock < o.a
    ·rw [if_pos hc, if_pos ⟨h3, rfl, hc⟩]
    ·rw [if_neg hc, if_neg (fun h => hc h.2.2)]
   ·rw [if_neg hb, if_neg (fun h => by have := h.2.1; simp at this)]
  ·rw [if_neg ha, if_neg (fun h => by have := h.2.1; simp at this)]
 ·rw [if_neg (fun h => h3 h.1)]
  unfold stepM
  split
  ·unfold createM; split
   ·split
    ·split <;> rfl
    ·rfl
   ·rfl
  ·split
   ·unfold addM; split
    ·rfl
    ·split <;> rfl
   ·split
    ·unfold queryM; split <;> rfl
    ·split
     ·unfold statsM; split <;> rfl
     ·first | (rw [if_neg h7]; split <;> rfl) | (split <;> rfl)
theorem find_c (id : Int) : ∀ (l l' : List Ser), l.map (fun x => (x.id, x.c)) = l'.map (fun x => (x.id, x.c)) → (findS l id).map (·.c) = (findS l' id).map (·.c) := by
 intro l
 induction l with
 | nil => intro l' h; cases l' with
  | nil => rfl
  | cons a l' => simp at h
 | cons a l ih =>
  intro l' h
  cases l' with
  | nil => simp at h
  | cons b l' =>
   simp only [List.map_cons, List.cons.injEq, Prod.mk.injEq] at h
   obtain ⟨⟨h1, h2⟩, h3⟩ := h
   have := ih l' h3
   unfold findS at *
   rw [List.find?_cons, List.find?_cons, h1]
   cases (b.id == id)
   ·exact this
   ·simp [h2]
theorem upd_c {xs : List Ser} {id : Int} {x y : Ser} (hf : findS xs id = some x) (h1 : y.id = x.id) (h2 : y.c = x.c) : (updS xs id y).map (fun x => (x.id, x.c)) = xs.map (fun x => (x.id, x.c)) := by
 obtain ⟨l1, l2, he, _, hu⟩ := find_split hf
 rw [hu, he]; simp [h1, h2]
theorem sweepL_c (c : Int) (xs : List Ser) : ∀ b, (sweepL c b xs).1.map (fun x => (x.id, x.c)) = xs.map (fun x => (x.id, x.c)) := by
 induction xs with
 | nil => intro b; rfl
 | cons x xs ih => intro b; simp only [sweepL, List.map_cons, ih]; rfl
theorem step_cfg (s : WS) (o : OpM) (id : Int) (h7 : o.kind ≠ 7) : (findS (stepM s o).1.xs id).map (·.c) = match (findS s.xs id).map (·.c) with
  | some c => some c
  | none => if o.kind = 1 ∧ o.id = id ∧ (stepM s o).2.1 = 0 then some o.cfg else none := by
 have key : ∀ (p : Prop) [Decidable p] (r : Option Cfg), ¬ p → r = match r with | some c => some c | none => if p then some o.cfg else none := by
  intro p _ r hp; cases r with
  | none => simp [hp]
  | some c => rfl
 by_cases h1 : o.kind = 1
 ·have hs : stepM s o = createM s o := by unfold stepM; rw [if_pos h1]
  rw [hs]
  unfold createM
  by_cases ha : inB o.id 0 99 = true ∧ (findS s.xs o.id).isNone = true
  ·rw [if_pos ha]
   by_cases hv : validB o.cfg = true
   ·rw [if_pos hv]
    by_cases h6 : s.xs.length < 6
    ·rw [if_pos h6]
     show (findS (s.xs ++ [newSer o.id o.cfg o.cfg.kind.toNat]) id).map (·.c) = _
     have e : findS (s.xs ++ [newSer o.id o.cfg o.cfg.kind.toNat]) id = (findS s.xs id).or (findS [newSer o.id o.cfg o.cfg.kind.toNat] id) := List.find?_append
     rw [e]
     cases hf : findS s.xs id with
     | some x => rfl
     | none =>
      simp only [Option.none_or, Option.map_none]
      by_cases hid : o.id = id
      ·rw [if_pos ⟨h1, hid, by simp⟩]
       simp [findS, newSer, hid]
      ·rw [if_neg (fun h => hid h.2.1)]
       simp [findS, newSer, hid]
    ·rw [if_neg h6]; exact key _ _ (fun h => by have := h.2.2; simp at this)
   ·rw [if_neg hv]; exact key _ _ (fun h => by have := h.2.2; simp at this)
  ·rw [if_neg ha]; exact key _ _ (fun h => by have := h.2.2; simp at this)
 ·have hsame : (findS (stepM s o).1.xs id).map (·.c) = (findS s.xs id).map (·.c) := by
   refine find_c id _ _ ?_
   unfold stepM
   rw [if_neg h1]
   split
   ·unfold addM
    split
    ·rfl
    ·rename_i x hf
     split
     ·exact upd_c hf rfl rfl
     ·exact upd_c hf rfl rfl
   ·split
    ·unfold tickM
     split
     ·split
      ·show (sweepL _ _ _).1.map _ = _
       rw [sweepL_c, List.map_map]
       refine List.map_congr_left fun x _ => ?_
       have h := relS_k (x.l.length + 1) x (maxC s.clock o.a - x.c.lag)
       show ((tickOne _ x).id, (tickOne _ x).c) = _
       unfold tickOne
       rw [h.2.1, h.2.2]
      ·rfl
     ·rfl
    ·split
     ·unfold queryM; split <;> rfl
     ·split
      ·unfold statsM; split <;> rfl
      ·first | (rw [if_neg h7]; split <;> rfl) | (split <;> rfl)
  rw [hsame]; exact key _ _ (fun h => h1 h.1)
end Go.Proofs.YtahnliehdjncdaaGreatDoor
