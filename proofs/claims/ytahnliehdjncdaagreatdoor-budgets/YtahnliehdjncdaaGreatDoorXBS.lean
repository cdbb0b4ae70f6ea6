import Derived.Test.YtahnliehdjncdaaGreatDoorXBR
import Derived.Laws.AppendOwnNone
import Derived.Test.YtahnliehdjncdaaGreatDoorXBB
import Derived.Deep.DeepHandedRow
import Derived.Lib.LaidTab
import Derived.SevenTiedAt
import Derived.Test.YtahnliehdjncdaaGreatDoorCards
import Derived.Test.YtahnliehdjncdaaGreatDoorXAV
import Derived.Test.YtahnliehdjncdaaGreatDoorTie
set_option maxRecDepth 100000
set_option maxHeartbeats 16000000
namespace Go.Proofs.YtahnliehdjncdaaGreatDoor
open Go.ChangeShapes Go.WideShapes Go.ChangeAt Go.RowKit Go.Deep
theorem Tryz.own : ownKnob Tryz.prog.godebug = none := by kernel_rfl
theorem Tryz.laidOut : laidOutB Tryz.prog = true := by kernel_rfl
theorem Keeps.below {w w' : World} (h : Keeps (fun _ => False) w w') : Below w.heap.size w w' := ⟨h.os, h.tape, h.output, h.size, fun k hk => h.block k hk (fun h => h)⟩
theorem i64_of_wf {x : Int} (h : (Lit.int .i64 x).wf = true) : -9223372036854775808 ≤ x ∧ x ≤ 9223372036854775807 := by
 simp [Lit.wf, IntKind.min, IntKind.max, IntKind.signed, IntKind.bits] at h
 omega
end Go.Proofs.YtahnliehdjncdaaGreatDoor
namespace Go.Proofs.YtahnliehdjncdaaGreatDoor
open Go.RowKit
attribute [local go_sem ↓] execOp_load38 execOp_load40 execOp_store40 execOp_bs22
attribute [local go_sem] run_load38 run_load40 bigVal_drew hasBig_drew bigVal_ne hasBig_ne bigVal_alloc hasBig_alloc
def opFlat (l : List OpM) : List Value := l.flatMap OpM.cells
theorem opFlat_append (a b : List OpM) : opFlat (a ++ b) = opFlat a ++ opFlat b := by simp [opFlat]
theorem opFlat_length (l : List OpM) : (opFlat l).length = l.length * 26 := by
 induction l with
 | nil => rfl
 | cons a l ih =>
  have hc : opFlat (a :: l) = a.cells ++ opFlat l := by simp [opFlat]
  rw [hc, List.length_append, ih, List.length_cons]
  have : a.cells.length = 26 := rfl
  omega
theorem opFlat_get (l : List OpM) (i j : Nat) (x : OpM) (h : l[i]? = some x) (hj : j < 26) : (opFlat l)[i * 26 + j]? = x.cells[j]? := by
 induction l generalizing i with
 | nil => simp at h
 | cons a l ih =>
  have hc : opFlat (a :: l) = a.cells ++ opFlat l := by simp [opFlat]
  have hl : a.cells.length = 26 := rfl
  rw [hc]
  cases i with
  | zero =>
   have : a = x := by simpa using h
   subst this
   rw [List.getElem?_append_left (by omega)]
   simp
  | succ i =>
   rw [List.getElem?_append_right (by omega)]
   have := ih i (by simpa using h)
   rw [← this]
   congr 1
   omega
theorem opFlat_one (l : List OpM) (u : Value) (h : u ∈ opFlat l) : u.oneCell' = true := by
 obtain ⟨o, _, hu⟩ := List.mem_flatMap.1 h
 have := op_oneCell o
 simp only [List.all_toArray, List.all_eq_true] at this
 exact this u hu
abbrev OwnS (w : World) (base : Nat) (v : Value) (ops : List OpM) : Prop := w.ownsRow base 40 26 v ops.length (opFlat ops)
def ScriptW (w : World) (v : Value) (ops : List OpM) : Prop := ((∃ a c, v = .slice a 0 c) ∧ ops = []) ∨ ∃ sb so cap, v = .slice (some ⟨sb, so, none⟩) ops.length cap ∧ ops.length ≤ cap ∧ ScriptAt w sb so ops ∧ sb < w.heap.size
theorem ScriptAt.keeps {w w' : World} {sb so : Nat} {ops : List OpM} (h : ScriptAt w sb so ops) (hk : Keeps (fun _ => False) w w') : ScriptAt w' sb so ops :=
 fun i o ho j u hu => hk.cell (h i o ho j u hu) (fun h => h)
theorem ScriptW.keeps {w w' : World} {v : Value} {ops : List OpM} (h : ScriptW w v ops) (hk : Keeps (fun _ => False) w w') : ScriptW w' v ops := by
 rcases h with h | ⟨sb, so, cap, h1, h2, h3, h4⟩
 ·exact .inl h
 ·exact .inr ⟨sb, so, cap, h1, h2, h3.keeps hk, by have := hk.size; omega⟩
theorem run_script' (v : Value) (ops : List OpM) (w : World) (h : ScriptW w v ops) (hlen : ops.length ≤ 651562446090) (hT : Tab w) (hok : OkRun ops) :
  Calls Tryz.prog 19 #[v] w fun r w' => ∃ v l, r = .returned v ∧ ARep w' w.heap.size v l ∧ l.map (fun x => (x.code, x.nums)) = runM ws0 ops ∧ l.map (·.bs) = runB ws0 ops ∧ Keeps (fun _ => False) w w' := by
 rcases h with ⟨⟨a, c, rfl⟩, rfl⟩ | ⟨sb, so, cap, rfl, h2, h3, h4⟩
 ·exact run_nil a c w
 ·exact run_all sb so cap ops w h3 h4 hlen hT hok
theorem own_script {w : World} {base : Nat} {v : Value} {ops : List OpM} (h : OwnS w base v ops) : (v = .slice none 0 0 ∧ ops = []) ∨ ∃ g cap, v = .slice (some ⟨g, 0, none⟩) ops.length cap ∧ ops.length ≤ cap ∧ ScriptAt w g 0 ops ∧ g < w.heap.size ∧ base ≤ g ∧ cap ≤ maxLen := by
 rcases h.2 with ⟨h1, h2⟩ | ⟨g, cap, cur, h1, h2, h3, h4, h5, h6, h7⟩
 ·exact .inl ⟨h1, List.length_eq_zero_iff.1 h2⟩
 ·refine .inr ⟨g, cap, h1, h4, ?_, (Array.getElem?_eq_some_iff.1 h3).1, h2, h5⟩
  intro i o ho j u hu
  have hj : j < 26 := by have := (List.getElem?_eq_some_iff.1 hu).1; exact this
  have hi : i < ops.length := (List.getElem?_eq_some_iff.1 ho).1
  have hf := opFlat_get ops i j o ho hj
  have hc : cur[i * 26 + j]? = some u := by
   rw [← h7, List.getElem?_take, if_pos (by omega), hu] at hf
   simpa using hf
  rw [Nat.zero_add]
  simp [World.cell?, h3, hc]
theorem own_scriptW {w : World} {base : Nat} {v : Value} {ops : List OpM} (h : OwnS w base v ops) : ScriptW w v ops := by
 rcases own_script h with ⟨h1, h2⟩ | ⟨g, cap, h1, h2, h3, h4, _, _⟩
 ·exact .inl ⟨⟨_, _, h1⟩, h2⟩
 ·exact .inr ⟨g, 0, cap, h1, h2, h3, h4⟩
def cz0 : List Value := (⟨0, 0, 0, 0, 0, cz, noBytes⟩ : OpM).cells
theorem info40 : (Tryz.prog.info? 40).map (fun i => (i.zero, i.size, i.bytes)) = some (some (.agg cz0.toArray), 26, 216) := by kernel_rfl
end Go.Proofs.YtahnliehdjncdaaGreatDoor
namespace Go.Proofs.YtahnliehdjncdaaGreatDoor
open Go.RowKit
attribute [local go_sem ↓] execOp_load38 execOp_load40 execOp_store40 execOp_bs22
attribute [local go_sem] run_load38 run_load40 bigVal_drew hasBig_drew bigVal_ne hasBig_ne bigVal_alloc hasBig_alloc
theorem wpList_append_ops {w : World} {ops : Array Oper} {rest : List Oper} {o : Oper} {a : Act} {Q : Exit → Act → World → Prop} (hgd : o.guard = none) (s x : Operand)
  (ho : o.op = .call { callee := .builtin .append, args := #[s, x], argTypes := #[22, 22] })
  (base : Nat) (v : Value) (A : List OpM) (hs : a.eval s = v) (hown : OwnS w base v A) (u : Value) (B : List OpM) (hx : a.eval x = u) (hB : ScriptW w u B)
  (hlen : A.length + B.length ≤ 651562446089) (hbase : base ≤ w.heap.size)
  (h : ∀ ad c w', OwnS w' base (.slice ad (A.length + B.length) c) (A ++ B) → Keeps (fun i => v.ownBlock = some i) w w' → (∀ i, (Value.slice ad (A.length + B.length) c).ownBlock = some i → v.ownBlock = some i ∨ w.heap.size ≤ i) → wpList Tryz.prog ops Q rest (a.put o.dst (.slice ad (A.length + B.length) c)) w') : wpList Tryz.prog ops Q (o :: rest) a w := by
 obtain ⟨i0, hi0, hz0, hz1, hz2⟩ := info_parts info40
 by_cases hb : B = []
 ·subst hb
  have hu : ∃ ad c, u = .slice ad 0 c := by
   rcases hB with ⟨h, _⟩ | ⟨sb, so, cap, h, _⟩
   ·exact h
   ·exact ⟨_, _, h⟩
  obtain ⟨ad, c, rfl⟩ := hu
  obtain ⟨av, ac, hv⟩ := row_form0 hown
  refine wpList_append_zero hgd s x 22 ho base 40 i0 26 Tryz.underlying22 hi0 v A.length (opFlat A) hs hown ad c hx ?_
  have := h av ac w (by rw [List.append_nil]; rw [hv] at hown; exact hown) (Keeps.refl _ _) (by rw [hv]; exact fun i hi => .inl hi)
  rw [hv]
  exact this
 ·rcases hB with ⟨_, h0⟩ | ⟨sb, so, cap, rfl, hcap, hsc, hlt⟩
  ·exact absurd h0 hb
  ·have hpos : 0 < B.length := List.length_pos_iff.2 hb
   refine wpList_append_lies w hgd s x 22 ho base 40 i0 (.agg cz0.toArray) 26 216 Tryz.underlying22 hi0 hz0 hz1 hz2 (by rfl) (by omega) v A.length (opFlat A) hs hown ⟨sb, so, none⟩ B.length cap (opFlat B) hx (opFlat_length B) ?_ (opFlat_one B) hpos (by unfold maxLen; omega) (by omega) hbase w.heap.size rfl ?_
   ·intro j z hz
    have hj : j < B.length * 26 := by have := (List.getElem?_eq_some_iff.1 hz).1; rwa [opFlat_length] at this
    have hq : j / 26 < B.length := by omega
    have hf := opFlat_get B (j / 26) (j % 26) B[j / 26] (List.getElem?_eq_getElem hq) (by omega)
    rw [show j / 26 * 26 + j % 26 = j by omega, hz] at hf
    have := hsc (j / 26) B[j / 26] (List.getElem?_eq_getElem hq) (j % 26) z hf.symm
    rw [Go.WideShapes.add_plain, show so + j = so + j / 26 * 26 + j % 26 by omega]
    exact this
   ·intro g c w' hown' hgrow hat hlt'
    refine h (some ⟨g, 0, none⟩) c w' ?_ ?_ ?_
    ·show w'.ownsRow base 40 26 _ (A ++ B).length (opFlat (A ++ B))
     rw [opFlat_append, List.length_append]; exact hown'
    ·exact ⟨hgrow.os, hgrow.tape, hgrow.output, hgrow.size, fun k hk hn => hgrow.block k hk (fun h => hn h.symm)⟩
    ·intro i hi
     have : g = i := by simpa [Value.ownBlock] using hi
     subst this
     rcases hat with h1 | h1
     ·exact .inl h1
     ·exact .inr (by omega)
theorem with_any (v1 v2 : Value) (A B : List OpM) (w : World) (h1 : ScriptW w v1 A) (h2 : ScriptW w v2 B) (hlen : A.length + B.length ≤ 651562446089) :
  Calls Tryz.prog 22 #[v1, v2] w fun r w' => ∃ v, r = .returned v ∧ OwnS w' w.heap.size v (A ++ B) ∧ Keeps (fun _ => False) w w' := by
 have HA := hide h1
 have HB := hide h2
 clear h1 h2
 go_enter Tryz.func22, Tryz.ntmps22
 go_wp2_with (at_builtin; first
    | (refine wpList_append_ops rfl _ _ rfl w.heap.size (.slice none 0 0) [] rfl (World.ownsRow_nil _ _ _ _) v1 A rfl (uh HA) (by simp; omega) (by omega) ?_; intro ad c w1 hown1 hk1 hat1; have HO1 := hide (show OwnS w1 w.heap.size (.slice ad A.length c) A by simpa using hown1); have HK1 := hide (show Keeps (fun _ => False) w w1 from hk1.mono (fun i _ h => by simp [Value.ownBlock] at h)); clear hown1 hk1)
    | (refine wpList_append_ops rfl _ _ rfl w.heap.size (.slice ad A.length c) A rfl (uh HO1) v2 B rfl ((uh HB).keeps (uh HK1)) hlen (uh HK1).size ?_; intro ad2 c2 w2 hown2 hk2 hat2))
 go_ret
 refine ⟨_, rfl, hown2, (uh HK1).trans hk2 (fun i hi hlt => ?_)⟩
 have := ((uh HO1).lt i hi).1
 omega
def OpM.noLoad (o : OpM) : Bool := o.kind != 7
theorem run_bs1 (w : World) (o : OpM) : (bsBig 22 1 #[(0, .agg o.cells.toArray)]).run Tryz.prog w = .ok (.value (.slice (some ⟨w.heap.size, 0, none⟩) 1 1)) (w.alloc (.cells o.cells.toArray 40)) := by kernel_rfl
theorem blk_script {w : World} {b : Nat} {o : OpM} (h : Blk w b o.cells 40) : ScriptW w (.slice (some ⟨b, 0, none⟩) 1 1) [o] := by
 refine .inr ⟨b, 0, 1, rfl, by simp, ?_, h.lt⟩
 intro i x hx j u hu
 have hi : i = 0 := by have := (List.getElem?_eq_some_iff.1 hx).1; simp at this; omega
 subst hi
 have : o = x := by simpa using hx
 subst this
 have := h.cell hu
 simpa using this
attribute [local go_sem] run_bs1
theorem without_any (v : Value) (ops : List OpM) (w : World) (h : ScriptW w v ops) (hlen : ops.length ≤ 651562446089) :
  Calls Tryz.prog 21 #[v, .int .i64 7] w fun r w' => ∃ v', r = .returned v' ∧ OwnS w' w.heap.size v' (ops.filter OpM.noLoad) ∧ Keeps (fun _ => False) w w' ∧ (ops.filter OpM.noLoad = [] → v' = .slice none 0 0) := by
 by_cases h0 : ops = []
 ·subst h0
  have hv : ∃ a c, v = .slice a 0 c := by
   rcases h with ⟨h, _⟩ | ⟨sb, so, cap, h, _⟩
   ·exact h
   ·exact ⟨_, _, h⟩
  obtain ⟨a, c, rfl⟩ := hv
  clear h
  go_enter Tryz.func21, Tryz.ntmps21
  go_wp2
  go_loopw [5, 6] (fun l i wr => l = .slice none 0 0 ∧ i = .int .i64 0 ∧ wr = w) (fun _ _ _ => 0)
  case atStart => exact ⟨rfl, rfl, rfl⟩
  case round =>
   obtain ⟨rfl, rfl, rfl⟩ := hrel
   go_wp2
   go_ret
   exact ⟨_, rfl, World.ownsRow_nil _ _ _ _, Keeps.refl _ _, fun _ => rfl⟩
 rcases h with ⟨_, h⟩ | ⟨sb, so, cap, rfl, hcap, hsc, hlt⟩
 ·exact absurd h h0
 have HSC := hide hsc
 clear hsc
 generalize hn : ops.length = n at *
 have HN := hide hn
 clear hn
 go_enter Tryz.func21, Tryz.ntmps21
 go_wp2_with fail
 go_loopw [5, 6] (fun l i wr => ∃ (k m c : Nat) (ad : Option Addr), k ≤ n ∧ i = .int .i64 k ∧ l = .slice ad m c ∧ Hid (OwnS wr w.heap.size l ((ops.take k).filter OpM.noLoad)) ∧ Hid (Keeps (fun _ => False) w wr) ∧ Hid ((ops.take k).filter OpM.noLoad = [] → l = .slice none 0 0)) (fun _ i _ => n - (intOf i).toNat)
 case atStart => exact ⟨0, 0, 0, none, by omega, rfl, rfl, World.ownsRow_nil _ _ _ _, Keeps.refl _ _, fun _ => rfl⟩
 case round =>
  obtain ⟨k, m, c, ad, hk, rfl, rfl, HO, HK, HE⟩ := hrel
  by_cases hkn : k < n
  ·obtain ⟨o, ho⟩ : ∃ o, ops[k]? = some o := ⟨ops[k]'(by rw [uh HN]; exact hkn), List.getElem?_eq_getElem _⟩
   have hrange := (uh HSC).keeps (uh HK) k o ho
   have hsb := bigCells_of_range hrange
   have hv0 : bigVal wr sb (so + k * 26) 26 = .agg o.cells.toArray := by
    unfold bigVal
    have := hsb.1
    rw [show o.cells.length = 26 from rfl] at this
    rw [this]
   have hh0 : hasBig wr sb (so + k * 26) 26 = true := hsb.2
   have hkind : wr.cell? ⟨sb, so + k * 26, none⟩ = some (.int .i64 o.kind) := hrange 0 _ rfl
   have htk : ops.take (k + 1) = ops.take k ++ [o] := by rw [List.take_add_one, ho]; rfl
   have hk0 : (0 : Int) ≤ (k : Int) := by omega
   have hkn' : (k : Int) < (n : Int) := by omega
   have hl0 : ((ops.take k).filter OpM.noLoad).length ≤ k := by
    have h1 := List.length_filter_le OpM.noLoad (ops.take k)
    rw [List.length_take] at h1
    omega
   have HFL := hide (show (ops.take (k + 1)).filter OpM.noLoad = (ops.take k).filter OpM.noLoad ++ [o].filter OpM.noLoad by rw [htk, List.filter_append])
   clear hrange hsb htk ho
   by_cases h7 : o.kind = 7
   ·have hne : (o.kind != 7) = false := by simp [h7]
    have HF1 := hide (show [o].filter OpM.noLoad = [] by simp [OpM.noLoad, hne])
    rw [h7] at hkind
    clear h7 hne hv0 hh0
    go_wp2_with fail
    go_roundw
    case rel => exact ⟨k + 1, m, c, ad, by omega, by go_num, rfl, by show OwnS _ _ _ _; rw [uh HFL, uh HF1, List.append_nil]; exact uh HO, HK, by show _ → _; rw [uh HFL, uh HF1, List.append_nil]; exact uh HE⟩
    case measure => simp [intOf]; omega
   ·have hne : (o.kind != 7) = true := by simp [h7]
    have HF1 := hide (show [o].filter OpM.noLoad = [o] by simp [OpM.noLoad, hne])
    have hm : m = ((ops.take k).filter OpM.noLoad).length := by
     obtain ⟨_, _, e⟩ := row_form0 (uh HO)
     injection e
    generalize (ops.take k).filter OpM.noLoad = A at *
    go_wp2_with (at_builtin; refine wpList_append_ops rfl _ _ rfl w.heap.size (.slice ad m c) A rfl (by exact owns_keeps (uh HO) ((Keeps.refl (fun _ => False) wr).alloc _) (fun _ _ h => h)) _ [o] rfl (by exact blk_script (Blk.new wr o.cells 40)) (by simp; omega) (by have := (uh HK).size; simp; omega) ?_; intro ad2 c2 w2 hown2 hk2 hat2)
    go_roundw
    case rel =>
     refine ⟨k + 1, A.length + 1, c2, ad2, by omega, by go_num, rfl, ?_, ?_, ?_⟩
     ·show OwnS _ _ _ _; rw [uh HFL, uh HF1]; exact hown2
     ·refine (((uh HK).alloc _).trans hk2 (fun i hi hlt => ?_))
      have := ((uh HO).lt i hi).1
      omega
     ·show _ → _; rw [uh HFL, uh HF1]; intro h; simp at h
    case measure => simp [intOf]; omega
  ·have hkk : k = n := by omega
   subst hkk
   go_wp2
   go_ret
   have h1 := uh HO
   have h2 := uh HE
   rw [List.take_of_length_le (by rw [uh HN]; omega)] at h1 h2
   exact ⟨_, rfl, h1, uh HK, h2⟩
end Go.Proofs.YtahnliehdjncdaaGreatDoor
namespace Go.Proofs.YtahnliehdjncdaaGreatDoor
open Go.ChangeShapes Go.WideShapes Go.ChangeAt Go.RowKit Go.Deep
theorem gTab : Tryz.prog.globalNamed "math/bits.deBruijn64tab" = some 2 := by kernel_rfl
theorem gTabType : (Tryz.prog.globals[2]?).map (·.type) = some 287 := by kernel_rfl
theorem cells64 : Tryz.prog.cellsOf 287 = 64 := by kernel_rfl
theorem cells5' : Tryz.prog.cellsOf 5 = 1 := by kernel_rfl
theorem under5' : Tryz.prog.underlying 5 = some (.int .u8) := by kernel_rfl
def tabInts : List Int := Lib.deBruijn64tab.map fun (n : Nat) => (n : Int)
def tabVals : Array Value := (tabInts.map (.int .u8 ·)).toArray
theorem tab_of {W : World} (h : laidMetH Tryz.prog [("math/bits.deBruijn64tab", Rows.laid_math_bits_deBruijn64tab)] W) : Tab W := by
 have ht : Lib.TabIs Tryz.prog W "math/bits.deBruijn64tab" .u8 tabInts := Lib.tabIs_of_head (rest := []) gTab gTabType Tryz.underlying287 under5' cells5' cells64 h
 intro j hj
 have h1 := ht.cell gTab j (by simpa [tabInts] using hj)
 rw [h1]
 unfold tabInts
 rw [List.getD_eq_getElem?_getD, List.getD_eq_getElem?_getD, List.getElem?_map, List.getElem?_eq_getElem hj]
 rfl
noncomputable def laidWorld (os : Os) : World :=
 { World.holding Tryz.prog os ⟨#[], #[], []⟩ with heap := (World.holding Tryz.prog os ⟨#[], #[], []⟩).heap.modify 2 fun
     | .cells _ t frozen => .cells tabVals t frozen
     | o => o }
theorem script_open {H : Type} {enc : TypeId × Value → H} {W : World} {fuel : Nat} {a0 : Option Addr} {len cap : Nat} {d : DataW H} {p : List MemPlace}
  (hf : DataW.trod enc Tryz.prog W 0 (fun _ => true) true fuel 22 (Value.slice a0 len cap).cells.toList = some (d, p)) (hlt : ∀ x ∈ p, x.block < W.heap.size) :
  ∃ ops, ScriptW W (.slice a0 len cap) ops ∧ ops.length = len ∧ (len ≠ 0 → ∃ elems spare, d = .slice elems spare ∧ len ≤ elems.length + spare.length) := by
 by_cases hl0 : len = 0
 ·subst hl0
  exact ⟨[], .inl ⟨⟨_, _, rfl⟩, rfl⟩, rfl, fun h => absurd rfl h⟩
 ·rcases open_slice Tryz.underlying22 hf with ⟨hcs, hx⟩ | ⟨a, len', cap', k, n, D, Pl, hcs, _, hl, hm, hk, hx, hcell⟩
  ·simp [Value.cells] at hcs
   exact absurd hcs.2.1 hl0
  ·simp [Value.cells] at hcs
   obtain ⟨rfl, rfl, rfl⟩ := hcs
   simp only [Prod.mk.injEq] at hx
   obtain ⟨rfl, rfl⟩ := hx
   simp only [if_true] at hk
   subst k
   rw [cells40] at hcell
   obtain ⟨b, off, spot⟩ := a
   have hspot : spot = none := by
    obtain ⟨cs', h1, _⟩ := hcell 0 (by omega)
    obtain ⟨_, h2, h3⟩ := World.cells?_some h1
    have h4 := h3 0 (by omega)
    rw [List.getElem?_eq_getElem (by omega)] at h4
    simpa [Addr.add] using World.cell?_spot h4
   subst hspot
   have hbW : b < W.heap.size := hlt (.cell b off) (List.mem_append_left _ (MemPlace.mem_row.2 ⟨0, by rw [cells40]; omega, by simp⟩))
   have hops : ∀ i, i < len → ∃ o : OpM, W.rangeAt b (off + i * 26) o.cells := by
    intro i hi
    obtain ⟨cs', h1, h2⟩ := hcell i (by omega)
    obtain ⟨V, bs, rfl, _⟩ := op_open h2
    obtain ⟨_, h3, h4⟩ := World.cells?_some h1
    refine ⟨opOf V bs, fun j v hv => ?_⟩
    have hj : j < 26 := by have := (List.getElem?_eq_some_iff.1 hv).1; omega
    have := h4 j hj
    rw [add_add, add_plain, hv, ← Nat.add_assoc] at this
    exact this
   haveI : Inhabited OpM := ⟨o1⟩
   obtain ⟨O, hO⟩ := choose_lt (α := OpM) hops
   refine ⟨(List.range len).map O, .inr ⟨b, off, cap, by simp, by simpa using hl, ?_, hbW⟩, by simp, fun _ => ⟨_, _, rfl, by simp⟩⟩
   intro i o ho
   have hi : i < len := by have := (List.getElem?_eq_some_iff.1 ho).1; simpa using this
   have : O i = o := by simpa [hi] using ho
   rw [← this]
   exact hO i hi
end Go.Proofs.YtahnliehdjncdaaGreatDoor
namespace Go.Proofs.YtahnliehdjncdaaGreatDoor
open Go.RowKit
attribute [local go_sem ↓] execOp_load38 execOp_load40 execOp_build38 execOp_build40 execOp_bs22 execOp_store38
def cc : Cfg := ⟨1, 0, 9, 8, 1, 5, 0, 0, 0, 0, 0, 0, 0, 0, 0, 0, 0, 0, 0, 0⟩
def p1 : OpM := ⟨1, 7, 0, 0, 0, cc, noBytes⟩
def p4 : OpM := ⟨4, 7, 5, 0, 0, cz, noBytes⟩
def fourO : List OpM := [p1, o2, o3, p4]
def fourCells : List Value := p1.cells ++ (o2.cells ++ (o3.cells ++ p4.cells))
theorem four_run : runM ws0 fourO = [(0, []), (0, [1]), (0, [0]), (0, [1])] := by kernel_rfl
theorem run_c38 (w : World) : (buildBig 38 #[(0, .int .i64 1), (2, .int .i64 9), (3, .int .i64 8), (4, .int .i64 1), (5, .int .i64 5)]).run Tryz.prog w = .ok (.value (.agg cc.cells.toArray)) w := by kernel_rfl
theorem run_c1 (w : World) : (buildBig 40 #[(0, .int .i64 1), (1, .int .i64 7), (5, .agg cc.cells.toArray)]).run Tryz.prog w = .ok (.value (.agg p1.cells.toArray)) w := by kernel_rfl
theorem run_c4 (w : World) : (buildBig 40 #[(0, .int .i64 4), (1, .int .i64 7), (2, .int .i64 5)]).run Tryz.prog w = .ok (.value (.agg p4.cells.toArray)) w := by kernel_rfl
theorem run_cs (w : World) : (bsBig 22 4 #[(0, .agg p1.cells.toArray), (1, .agg o2.cells.toArray), (2, .agg o3.cells.toArray), (3, .agg p4.cells.toArray)]).run Tryz.prog w =
  .ok (.value (.slice (some ⟨w.heap.size, 0, none⟩) 4 4)) (w.alloc (.cells fourCells.toArray 40)) := by kernel_rfl
attribute [local go_sem] run_load38 run_load40 bigVal_drew hasBig_drew bigVal_ne hasBig_ne bigVal_alloc hasBig_alloc run_c38 run_c1 run_b2 run_b3 run_c4 run_cs
theorem four_at (w : World) (b : Nat) (h : Blk w b fourCells 40) : ScriptAt w b 0 fourO := by
 intro i o ho
 have hi : i < 4 := (List.getElem?_eq_some_iff.1 ho).1
 have hi' : i = 0 ∨ i = 1 ∨ i = 2 ∨ i = 3 := by omega
 have hr : ∀ (off : Nat) (cs : List Value), (fourCells.drop off).take 26 = cs → w.rangeAt b off cs := by
  intro off cs hcs j v hv
  rw [← hcs, List.getElem?_take] at hv
  split at hv
  ·exact h.cell (by simpa using hv)
  ·cases hv
 rcases hi' with h' | h' | h' | h'
 all_goals
  subst h'
  injection ho with ho
  subst ho
 ·exact hr 0 _ rfl
 ·exact hr 26 _ rfl
 ·exact hr 52 _ rfl
 ·exact hr 78 _ rfl
theorem list_four {α : Type _} (l : List α) (h : l.length = 4) : ∃ a b c d, l = [a, b, c, d] := by
 match l, h with
 | [a, b, c, d], _ => exact ⟨a, b, c, d, rfl⟩
theorem four_ok : OkRun fourO := by
 intro o ho
 simp [fourO, p1, o2, o3, p4] at ho
 rcases ho with h | h | h | h <;> subst h <;> simp
theorem counting_any (w : World) (hT : Tab w) : Calls Tryz.prog 24 #[] w fun e w' => e = .returned (.bool true) ∧ Keeps (fun _ => False) w w' := by
 have hst : ∀ zs : List Value, zs.length = 20 → (storeBig 38 (.pointer (some ⟨w.heap.size, 0, none⟩)) (.agg cc.cells.toArray)).run Tryz.prog (w.alloc (.cells zs.toArray 38)) = .ok .skip (w.alloc (.cells cc.cells.toArray 38)) := fun zs hz => run_store38 w zs cc.cells hz rfl (by simp [Cfg.cells, Value.oneCell'])
 have hv1 : bigVal (w.alloc (.cells cc.cells.toArray 38)) w.heap.size 0 20 = .agg cc.cells.toArray := bigVal_new w cc.cells 38 20 rfl
 have hh1 : hasBig (w.alloc (.cells cc.cells.toArray 38)) w.heap.size 0 20 = true := hasBig_new w cc.cells 38 20 rfl
 have HK0 := hide (((Keeps.refl (fun _ => False) w).alloc (.cells cc.cells.toArray 38)).alloc (.cells fourCells.toArray 40))
 have HB0 := hide (show Blk ((w.alloc (.cells cc.cells.toArray 38)).alloc (.cells fourCells.toArray 40)) (w.heap.size + 1) fourCells 40 from Blk.newAt (by simp) _ _)
 have HTT := hide hT
 clear hT
 go_enter Tryz.func24, Tryz.ntmps24
 go_wp2_with fail
 refine (run_all (w.heap.size + 1) 0 4 fourO _ (four_at _ _ (uh HB0)) (uh HB0).lt (by decide) ((uh HTT).keeps (uh HK0) (fun h => h)) four_ok).mono ?_
 rintro r w1 ⟨v, l, rfl, hA, hM, _, hk1⟩
 rw [four_run] at hM
 obtain ⟨x0, x1, x2, x3, hl5⟩ := list_four l (by have := congrArg List.length hM; simpa using this)
 subst hl5
 simp only [List.map_cons, List.map_nil, List.cons.injEq, Prod.mk.injEq, and_true] at hM
 obtain ⟨⟨k0, m0⟩, ⟨k1, m1⟩, ⟨k2, m2⟩, k3, m3⟩ := hM
 obtain ⟨g, cap, hv, hc⟩ := ans_row hA (by simp)
 have n3 := hA.nums x3 (by simp)
 rw [m3] at n3
 rcases num_cells n3 with ⟨h, _⟩ | ⟨g1, cp1, hv1', hn1⟩
 ·cases h
 have y3 : w1.cell? ⟨g, 9, none⟩ = some (.int .i64 0) := (hc 9 _ rfl).trans (by rw [k3])
 have z3 : w1.cell? ⟨g, 10, none⟩ = some (.slice (some ⟨g1, 0, none⟩) 1 cp1) := (hc 10 _ rfl).trans (by rw [hv1']; rfl)
 have q1 : w1.cell? ⟨g1, 0, none⟩ = some (.int .i64 1) := hn1 0 (by simp)
 have HK1 := hide ((uh HK0).then hk1)
 rw [hv]
 clear hA hk1 hc n3 hn1 hv hv1' k0 k1 k2 k3 m0 m1 m2 m3 hst hv1 hh1 HK0 HB0
 show _
 go_wp2
 go_ret
 exact ⟨rfl, uh HK1⟩
end Go.Proofs.YtahnliehdjncdaaGreatDoor
namespace Go.Proofs.YtahnliehdjncdaaGreatDoor
theorem updS_cons (a : Ser) (l : List Ser) (id : Int) (y : Ser) : updS (a :: l) id y = if a.id == id then y :: l else a :: updS l id y := rfl
theorem relS_succ (n : Nat) (x : Ser) (t : Int) : relS (n + 1) x t = if x.l.isEmpty then x else if t < (itAt x.l 0).t then x else relS n (relOne x t) t := rfl
end Go.Proofs.YtahnliehdjncdaaGreatDoor
namespace Go.Proofs.YtahnliehdjncdaaGreatDoor
theorem past_past (l : List Bk) {t0 t : Int} (h : t0 ≤ t) : pastN l t = pastN l t0 + pastN (l.drop (pastN l t0)) t := by
 induction l with
 | nil => rfl
 | cons b l ih =>
  by_cases hb : b.t ≤ t0
  ·have e0 : pastN (b :: l) t0 = pastN l t0 + 1 := by unfold pastN; rw [List.takeWhile_cons, if_pos (by simpa using hb)]; rfl
   have e1 : pastN (b :: l) t = pastN l t + 1 := by unfold pastN; rw [List.takeWhile_cons, if_pos (by simp; omega)]; rfl
   rw [e0, e1, List.drop_succ_cons, ih]
   omega
  ·have e0 : pastN (b :: l) t0 = 0 := by unfold pastN; rw [List.takeWhile_cons, if_neg (by simpa using hb)]; rfl
   rw [e0]
   simp
theorem live_live (c : Cfg) (l : List Bk) {m0 m : Int} (h : m0 ≤ m) : liveB c (liveB c l m0) m = liveB c l m := by
 unfold liveB
 rw [past_past l (show m0 - c.window ≤ m - c.window by omega), List.drop_drop]
theorem live_drop (c : Cfg) (l : List Bk) (m : Int) (j : Nat) (h : j ≤ pastN l (m - c.window)) : liveB c (l.drop j) m = liveB c l m := by
 unfold liveB
 generalize m - c.window = t at *
 have : pastN l t = j + pastN (l.drop j) t := by
  induction j generalizing l with
  | zero => simp
  | succ j ih =>
   cases l with
   | nil => simp [pastN] at h
   | cons b l =>
    by_cases hb : b.t ≤ t
    ·have e1 : pastN (b :: l) t = pastN l t + 1 := by unfold pastN; rw [List.takeWhile_cons, if_pos (by simpa using hb)]; rfl
     rw [e1] at h ⊢
     rw [List.drop_succ_cons, ih l (by omega)]
     omega
    ·have e1 : pastN (b :: l) t = 0 := by unfold pastN; rw [List.takeWhile_cons, if_neg (by simpa using hb)]; rfl
     omega
 rw [this, List.drop_drop]
theorem est_live (c : Cfg) (l : List Bk) {m0 t : Int} (h : m0 - c.window ≤ t) : estN (liveB c l m0) t = estN l t := by
 have hp := past_past l h
 have hle := pastN_le l (m0 - c.window)
 unfold estN
 unfold liveB
 generalize pastN l (m0 - c.window) = p at *
 have hle2 := pastN_le (l.drop p) t
 rw [hp, List.drop_drop]
 have hb : bkAt (l.drop p) (pastN (l.drop p) t) = bkAt l (p + pastN (l.drop p) t) := by
  unfold bkAt
  rw [List.getD_eq_getElem?_getD, List.getD_eq_getElem?_getD, List.getElem?_drop]
 rw [hb]
 have hl : (l.drop p).length = l.length - p := by simp
 by_cases he : pastN (l.drop p) t = (l.drop p).length
 ·rw [if_pos he, if_pos (by omega)]
 ·rw [if_neg he, if_neg (by omega)]
def Ser.shape (clock : Int) (x : Ser) : Ser := { x with nt := { x.nt with bs := liveB x.c x.nt.bs (clock - x.c.lag) } }
def WS.shape (s : WS) : WS := ⟨s.clock, s.xs.map (Ser.shape s.clock)⟩
theorem shape_shape {a b : Int} (h : a ≤ b) (x : Ser) : (x.shape a).shape b = x.shape b := by
 unfold Ser.shape
 simp only
 rw [live_live x.c x.nt.bs (show a - x.c.lag ≤ b - x.c.lag by omega)]
theorem WS.shape_shape (s : WS) : s.shape.shape = s.shape := by
 unfold WS.shape
 simp only [List.map_map]
 congr 1
 exact List.map_congr_left fun x _ => Go.Proofs.YtahnliehdjncdaaGreatDoor.shape_shape (Int.le_refl _) x
theorem find_shape (c : Int) (xs : List Ser) (id : Int) : findS (xs.map (Ser.shape c)) id = (findS xs id).map (Ser.shape c) := by
 induction xs with
 | nil => rfl
 | cons a l ih =>
  unfold findS at *
  rw [List.map_cons, List.find?_cons, List.find?_cons]
  have : ((a.shape c).id == id) = (a.id == id) := rfl
  rw [this]
  split
  ·rfl
  ·exact ih
theorem upd_shape (c : Int) (xs : List Ser) (id : Int) (y : Ser) : (updS xs id y).map (Ser.shape c) = updS (xs.map (Ser.shape c)) id (y.shape c) := by
 induction xs with
 | nil => rfl
 | cons a l ih =>
  rw [List.map_cons, updS_cons, updS_cons]
  have : ((a.shape c).id == id) = (a.id == id) := rfl
  rw [this]
  split
  ·rfl
  ·rw [List.map_cons, ih]
theorem relN_shape (k : Nat) (c : Cfg) (nt : Note) (y : It) {m0 m : Int} (h : m0 ≤ m) : relN k c { nt with bs := liveB c nt.bs m0 } y m = relN k c nt y m ∨ (k ≠ 1 ∧ relN k c { nt with bs := liveB c nt.bs m0 } y m = { relN k c nt y m with bs := liveB c nt.bs m0 } ∧ (relN k c nt y m).bs = nt.bs) := by
 by_cases h1 : k = 1
 ·refine .inl ?_
  subst h1
  have e : ∀ n : Note, relN 1 c n y m = { n with bs := relB c n.bs y.t m } := fun n => by unfold relN; rw [if_neg (show ¬ (1 : Nat) = 4 by omega), if_pos rfl]
  rw [e, e]
  unfold relB putB
  simp only
  rw [live_live c nt.bs h]
 ·refine .inr ⟨h1, ?_, ?_⟩
  ·unfold relN
   repeat (first | rfl | (rw [if_neg h1]) | split)
  ·unfold relN
   repeat (first | rfl | (rw [if_neg h1]) | split)
theorem relOne_shape (x : Ser) {a b : Int} (h : a ≤ b) : ∀ y, y = x.shape a ∨ y = x → (relOne y (b - x.c.lag)).shape b = (relOne x (b - x.c.lag)).shape b ∧ ((relOne y (b - x.c.lag)) = (relOne x (b - x.c.lag)) ∨ (relOne y (b - x.c.lag)) = (relOne x (b - x.c.lag)).shape a) := by
 rintro y (hy | hy)
 ·subst hy
  rcases relN_shape x.k x.c x.nt (itAt x.l 0) (show a - x.c.lag ≤ b - x.c.lag by omega) with hr | ⟨h1, hr, hb⟩
  ·have e : relOne (x.shape a) (b - x.c.lag) = relOne x (b - x.c.lag) := by
    unfold relOne Ser.shape
    simp only
    rw [hr]
   rw [e]
   exact ⟨rfl, .inl rfl⟩
  ·have e : relOne (x.shape a) (b - x.c.lag) = (relOne x (b - x.c.lag)).shape a := by
    unfold relOne Ser.shape
    simp only
    rw [hr, hb]
   rw [e]
   exact ⟨shape_shape h _, .inr rfl⟩
 ·subst hy
  exact ⟨rfl, .inl rfl⟩
theorem relS_shape (f : Nat) {a b : Int} (h : a ≤ b) : ∀ (x y : Ser), (y = x.shape a ∨ y = x) → (relS f y (b - x.c.lag)).shape b = (relS f x (b - x.c.lag)).shape b := by
 induction f with
 | zero =>
  rintro x y (hy | hy)
  ·subst hy; exact shape_shape h x
  ·subst hy; rfl
 | succ f ih =>
  intro x y hy
  have hl : y.l = x.l := by rcases hy with hy | hy <;> rw [hy]; rfl
  rw [relS_succ, relS_succ, hl]
  split
  ·rcases hy with hy | hy
   ·subst hy; exact shape_shape h x
   ·subst hy; rfl
  ·split
   ·rcases hy with hy | hy
    ·subst hy; exact shape_shape h x
    ·subst hy; rfl
   ·obtain ⟨h1, h2⟩ := relOne_shape x h y hy
    have hc : (relOne x (b - x.c.lag)).c = x.c := rfl
    have := ih (relOne x (b - x.c.lag)) (relOne y (b - x.c.lag)) (h2.symm)
    rw [hc] at this
    exact this
theorem tick_shape {a b : Int} (h : a ≤ b) (x : Ser) : (tickOne b (x.shape a)).shape b = (tickOne b x).shape b := by
 unfold tickOne
 exact relS_shape (x.l.length + 1) h x (x.shape a) (.inl rfl)
theorem swpS_shape (clock b : Int) (x : Ser) : (swpS clock b x).shape clock = x.shape clock := by
 unfold swpS Ser.shape swpN
 split
 ·simp only
  rw [live_drop x.c x.nt.bs (clock - x.c.lag) _ (by unfold thrownB; omega)]
 ·rfl
theorem sweep_shape (clock b : Int) (xs : List Ser) : (sweepL clock b xs).1.map (Ser.shape clock) = xs.map (Ser.shape clock) := by
 induction xs generalizing b with
 | nil => rfl
 | cons a l ih => simp only [sweepL, List.map_cons, swpS_shape, ih]
theorem maxC_le (c a : Int) : c ≤ maxC c a := by unfold maxC; split <;> omega
theorem step_shape (s : WS) (o : OpM) (h7 : o.kind ≠ 7) : (stepM s.shape o).2.1 = (stepM s o).2.1 ∧ (o.kind ≠ 3 → (stepM s.shape o).2.2 = (stepM s o).2.2) ∧ (stepM s.shape o).1.shape = (stepM s o).1.shape := by
 unfold stepM
 by_cases h1 : o.kind = 1
 ·simp only [if_pos h1]
  unfold createM
  have hf : (findS s.shape.xs o.id).isNone = (findS s.xs o.id).isNone := by
   show (findS (s.xs.map (Ser.shape s.clock)) o.id).isNone = _
   rw [find_shape]; cases findS s.xs o.id <;> rfl
  have hl : s.shape.xs.length = s.xs.length := by show (s.xs.map (Ser.shape s.clock)).length = _; simp
  rw [hf, hl]
  split
  ·split
   ·split
    ·refine ⟨rfl, fun _ => rfl, ?_⟩
     show (⟨s.clock, (s.shape.xs ++ [_]).map (Ser.shape s.clock)⟩ : WS) = ⟨s.clock, (s.xs ++ [_]).map (Ser.shape s.clock)⟩
     rw [List.map_append, List.map_append]
     have := congrArg WS.xs s.shape_shape
     have h2 : s.shape.xs.map (Ser.shape s.clock) = s.xs.map (Ser.shape s.clock) := this
     rw [h2]
    ·exact ⟨rfl, fun _ => rfl, s.shape_shape⟩
   ·exact ⟨rfl, fun _ => rfl, s.shape_shape⟩
  ·exact ⟨rfl, fun _ => rfl, s.shape_shape⟩
 simp only [if_neg h1]
 by_cases h2 : o.kind = 2
 ·simp only [if_pos h2]
  unfold addM
  show _ ∧ _
  have hf : findS s.shape.xs o.id = (findS s.xs o.id).map (Ser.shape s.clock) := find_shape _ _ _
  have hss : s.shape.xs.map (Ser.shape s.clock) = s.xs.map (Ser.shape s.clock) := congrArg WS.xs s.shape_shape
  rw [hf]
  cases hx : findS s.xs o.id with
  | none => exact ⟨rfl, fun _ => rfl, s.shape_shape⟩
  | some x =>
   have hr : refE (x.shape s.clock) s.shape.clock o.item = refE x s.clock o.item := rfl
   simp only [Option.map_some]
   rw [hr]
   split
   ·refine ⟨rfl, fun _ => rfl, ?_⟩
    show (⟨s.clock, (updS s.shape.xs o.id (accS (x.shape s.clock) o.item)).map (Ser.shape s.clock)⟩ : WS) = ⟨s.clock, (updS s.xs o.id (accS x o.item)).map (Ser.shape s.clock)⟩
    rw [upd_shape, upd_shape, hss]
    have : (accS (x.shape s.clock) o.item).shape s.clock = (accS x o.item).shape s.clock := shape_shape (Int.le_refl _) (accS x o.item)
    rw [this]
   ·refine ⟨rfl, fun _ => rfl, ?_⟩
    show (⟨s.clock, (updS s.shape.xs o.id (refS (x.shape s.clock) _)).map (Ser.shape s.clock)⟩ : WS) = ⟨s.clock, (updS s.xs o.id (refS x _)).map (Ser.shape s.clock)⟩
    rw [upd_shape, upd_shape, hss]
    have : ∀ j, (refS (x.shape s.clock) j).shape s.clock = (refS x j).shape s.clock := fun j => shape_shape (Int.le_refl _) (refS x j)
    rw [this]
 simp only [if_neg h2]
 by_cases h3 : o.kind = 3
 ·simp only [if_pos h3]
  unfold tickM
  split
  ·split
   ·refine ⟨rfl, fun h => absurd h3 h, ?_⟩
    show (⟨maxC s.clock o.a, (sweepL (maxC s.clock o.a) o.b ((s.xs.map (Ser.shape s.clock)).map (tickOne (maxC s.clock o.a)))).1.map (Ser.shape (maxC s.clock o.a))⟩ : WS) = ⟨maxC s.clock o.a, (sweepL (maxC s.clock o.a) o.b (s.xs.map (tickOne (maxC s.clock o.a)))).1.map (Ser.shape (maxC s.clock o.a))⟩
    rw [sweep_shape, sweep_shape, List.map_map, List.map_map, List.map_map]
    congr 1
    exact List.map_congr_left fun x _ => tick_shape (maxC_le _ _) x
   ·exact ⟨rfl, fun _ => rfl, s.shape_shape⟩
  ·exact ⟨rfl, fun _ => rfl, s.shape_shape⟩
 simp only [if_neg h3]
 by_cases h4 : o.kind = 4
 ·simp only [if_pos h4]
  unfold queryM
  show _ ∧ _
  have hf : findS s.shape.xs o.id = (findS s.xs o.id).map (Ser.shape s.clock) := find_shape _ _ _
  rw [hf]
  cases hx : findS s.xs o.id with
  | none => exact ⟨rfl, fun _ => rfl, s.shape_shape⟩
  | some x =>
   have hq : qryN x.k x.c (x.shape s.clock).nt o.a (s.clock - x.c.lag) = qryN x.k x.c x.nt o.a (s.clock - x.c.lag) := by
    unfold qryN
    split
    ·rfl
    ·split
     ·split
      ·rename_i hin
       have : 1 ≤ o.a ∧ o.a ≤ x.c.window := by simpa [inB] using hin
       show (0, [estN (liveB x.c x.nt.bs (s.clock - x.c.lag)) _]) = _
       rw [est_live x.c x.nt.bs (by omega)]
      ·rfl
     ·rfl
   refine ⟨?_, fun _ => ?_, s.shape_shape⟩
   ·show (qryN x.k x.c (x.shape s.clock).nt o.a (s.clock - x.c.lag)).1 = _
    rw [hq]
   ·show (qryN x.k x.c (x.shape s.clock).nt o.a (s.clock - x.c.lag)).2 = _
    rw [hq]
 simp only [if_neg h4]
 by_cases h5 : o.kind = 5
 ·simp only [if_pos h5]
  unfold statsM
  show _ ∧ _
  have hf : findS s.shape.xs o.id = (findS s.xs o.id).map (Ser.shape s.clock) := find_shape _ _ _
  rw [hf]
  cases hx : findS s.xs o.id with
  | none => exact ⟨rfl, fun _ => rfl, s.shape_shape⟩
  | some x => exact ⟨rfl, fun _ => rfl, s.shape_shape⟩
 simp only [if_neg h5, if_neg h7]
 by_cases h6 : o.kind = 6
 ·simp only [if_pos h6]
  exact ⟨trivial, fun _ => trivial, s.shape_shape⟩
 ·simp only [if_neg h6]
  exact ⟨trivial, fun _ => trivial, s.shape_shape⟩
def likeO (o o' : OpM) : Prop := o' = o ∨ (o.kind = 3 ∧ inB o.b 0 100 = true ∧ ∃ b, inB b 0 100 = true ∧ o' = { o with b := b })
theorem step_like (s : WS) (o o' : OpM) (h : likeO o o') : (stepM s o').2.1 = (stepM s o).2.1 ∧ (o.kind ≠ 3 → (stepM s o').2.2 = (stepM s o).2.2) ∧ (stepM s o').1.shape = (stepM s o).1.shape := by
 rcases h with rfl | ⟨h3, hb, b, hb', rfl⟩
 ·exact ⟨rfl, fun _ => rfl, rfl⟩
 ·have e : ∀ o : OpM, o.kind = 3 → stepM s o = tickM s o := fun o h => by unfold stepM; rw [if_neg (by omega), if_neg (by omega), if_pos h]
  rw [e o h3, e { o with b := b } h3]
  unfold tickM
  simp only
  split
  ·refine ⟨rfl, fun h => absurd h3 h, ?_⟩
   show (⟨maxC s.clock o.a, (sweepL (maxC s.clock o.a) b _).1.map (Ser.shape (maxC s.clock o.a))⟩ : WS) = ⟨maxC s.clock o.a, (sweepL (maxC s.clock o.a) o.b _).1.map (Ser.shape (maxC s.clock o.a))⟩
   rw [sweep_shape, sweep_shape]
  ·exact ⟨rfl, fun _ => rfl, rfl⟩
theorem run_like : ∀ (l l' : List OpM) (s s' : WS), l.length = l'.length → (∀ (i : Nat) o o', l[i]? = some o → l'[i]? = some o' → likeO o o') → OkRun l → s.shape = s'.shape → ∀ i, i < l.length → (runM s l)[i]?.map (·.1) = (runM s' l')[i]?.map (·.1) ∧ ((l.getD i o1).kind ≠ 3 → (runM s l)[i]? = (runM s' l')[i]?) := by
 intro l
 induction l with
 | nil => intro l' s s' _ _ _ _ i hi; simp at hi
 | cons o l ih =>
  intro l' s s' hlen hl hok h i hi
  cases l' with
  | nil => simp at hlen
  | cons o' l' =>
   have hlo := hl 0 o o' rfl rfl
   obtain ⟨a1, a2, a3⟩ := step_shape s o (hok o (by simp))
   obtain ⟨b1, b2, b3⟩ := step_shape s' o (hok o (by simp))
   obtain ⟨c1, c2, c3⟩ := step_like s' o o' hlo
   rw [h] at a1 a2 a3
   cases i with
   | zero =>
    refine ⟨?_, fun hk => ?_⟩
    ·show some (stepM s o).2.1 = some (stepM s' o').2.1
     rw [← a1, b1, c1]
    ·show some (stepM s o).2 = some (stepM s' o').2
     have hk' : o.kind ≠ 3 := hk
     rw [show (stepM s o).2 = ((stepM s o).2.1, (stepM s o).2.2) from rfl, show (stepM s' o').2 = ((stepM s' o').2.1, (stepM s' o').2.2) from rfl, ← a1, b1, c1, ← a2 hk', b2 hk', c2 hk']
   | succ i =>
    have := ih l' (stepM s o).1 (stepM s' o').1 (by simpa using hlen) (fun j p p' hp hp' => hl (j + 1) p p' hp hp') (fun o ho => hok o (by simp [ho])) (by rw [← a3, b3, c3]) i (by simpa using hi)
    exact this
end Go.Proofs.YtahnliehdjncdaaGreatDoor
namespace Go.Proofs.YtahnliehdjncdaaGreatDoor
open Go.RowKit
theorem sameN_some (b1 b2 : Nat) (v1 v2 : Value) (l1 l2 : List Int) (w : World) (h1 : w.ownsRow b1 3 1 v1 l1.length (ints l1)) (h2 : w.ownsRow b2 3 1 v2 l2.length (ints l2)) (hl1 : l1.length ≤ 1000) (hl2 : l2.length ≤ 1000) :
  Calls Tryz.prog 23 #[v1, v2] w fun e w' => ∃ b, e = .returned (.bool b) ∧ (l1 = l2 → b = true) ∧ Keeps (fun _ => False) w w' := by
 by_cases he : l1 = l2
 ·subst he
  exact (sameN_any b1 b2 v1 v2 l1 w h1 h2 hl1).mono fun e w' ⟨h, hk⟩ => ⟨true, h, fun _ => rfl, hk⟩
 by_cases hlen : l1.length = l2.length
 ·rcases num_cells h1 with ⟨rfl, _⟩ | ⟨g1, c1, rfl, hc1⟩
  ·have : l2 = [] := List.length_eq_zero_iff.1 hlen.symm
   exact absurd this.symm he
  rcases num_cells h2 with ⟨rfl, _⟩ | ⟨g2, c2, rfl, hc2⟩
  ·have : l1 = [] := List.length_eq_zero_iff.1 hlen
   exact absurd this he
  rw [← hlen] at hc2 ⊢
  have HC1 := hide hc1
  have HC2 := hide hc2
  clear h1 h2 hc1 hc2 hl2 hlen
  generalize hn : l1.length = n at *
  clear hn
  go_enter Tryz.func23, Tryz.ntmps23
  go_wp2
  go_loopw [5] (fun i wr => ∃ k : Nat, k ≤ n ∧ i = .int .i64 k ∧ Hid (Keeps (fun _ => False) w wr)) (fun i _ => n - (intOf i).toNat)
  case atStart => exact ⟨0, by omega, rfl, Keeps.refl _ _⟩
  case round =>
   obtain ⟨k, hk, rfl, HK⟩ := hrel
   by_cases hlt : k < n
   ·have x1 : wr.cell? ⟨g1, k, none⟩ = some (.int .i64 (l1.getD k 0)) := (uh HK).cell (uh HC1 k hlt) (fun h => h)
    have x2 : wr.cell? ⟨g2, k, none⟩ = some (.int .i64 (l2.getD k 0)) := (uh HK).cell (uh HC2 k hlt) (fun h => h)
    have hk0 : (0 : Int) ≤ (k : Int) := by omega
    have hkn : (k : Int) < (n : Int) := by omega
    by_cases hxy : l1.getD k 0 = l2.getD k 0
    ·rw [hxy] at x1
     generalize l2.getD k 0 = y at *
     have hne : (y != y) = false := by simp
     go_wp2
     go_quiet (fail)
     go_wp2
     go_roundw
     case rel => exact ⟨k + 1, by omega, by go_num, hide ((uh HK).then (Keeps.drewN _ _ _))⟩
     case measure => simp [intOf]; omega
    ·generalize l2.getD k 0 = y at *
     generalize l1.getD k 0 = x at *
     have hne : (x != y) = true := by simp [hxy]
     go_wp2
     go_quiet (fail)
     go_wp2
     go_ret
     exact ⟨false, rfl, fun h => absurd h he, (uh HK).then (Keeps.drewN _ _ _)⟩
   ·go_wp2
    go_ret
    exact ⟨true, rfl, fun h => absurd h he, uh HK⟩
 ·obtain ⟨a1, c1, rfl⟩ := row_form0 h1
  obtain ⟨a2, c2, rfl⟩ := row_form0 h2
  clear h1 h2
  generalize l1.length = n1 at *
  generalize l2.length = n2 at *
  have hne : ((n1 : Int) != (n2 : Int)) = true := by simp; omega
  go_enter Tryz.func23, Tryz.ntmps23
  go_wp2
  go_ret
  exact ⟨false, rfl, fun h => absurd h he, Keeps.refl _ _⟩
end Go.Proofs.YtahnliehdjncdaaGreatDoor
