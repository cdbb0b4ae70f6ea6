import Derived.Test.YtahnliehdjncdaaGreatDoorXBP
import Derived.Deep.DeepHandedRow
import Derived.Lib.LaidTab
import Derived.SevenTiedAt
import Derived.Test.YtahnliehdjncdaaGreatDoorCards
import Derived.Test.YtahnliehdjncdaaGreatDoorXAU
import Derived.Test.YtahnliehdjncdaaGreatDoorTie
import Derived.Test.YtahnliehdjncdaaGreatDoorXBD
import Derived.Test.YtahnliehdjncdaaGreatDoorXBG
import Derived.Test.YtahnliehdjncdaaGreatDoorXBN
set_option maxRecDepth 100000
set_option maxHeartbeats 16000000
namespace Go.Proofs.YtahnliehdjncdaaGreatDoor
open Go.RowKit
attribute [local go_sem ↓] execOp_load38 execOp_load40 execOp_store40 execOp_bs22
attribute [local go_sem] run_load38 run_load40 bigVal_drew hasBig_drew bigVal_ne hasBig_ne bigVal_alloc hasBig_alloc
theorem wpList_append_ops {w : World} {ops : Array Oper} {rest : List Oper} {o : Oper} {a : Act} {Q : Exit → Act → World → Prop} (hgd : o.guard = none) (s x : Operand)
  (ho : o.op = .call { callee := .builtin .append, args := #[s, x], argTypes := #[22, 22] })
  (base : Nat) (v : Value) (A : List OpM) (hs : a.eval s = v) (hown : OwnS w base v A) (u : Value) (B : List OpM) (hx : a.eval x = u) (hB : ScriptW w u B)
  (hlen : A.length + B.length ≤ 651562446089) (hbase : base ≤ w.heap.size)
  (h : ∀ ad c w', OwnS w' base (.slice ad (A.length + B.length) c) (A ++ B) → Keeps (fun i => v.ownBlock = some i) w w' → (∀ i, (Value.slice ad (A.length + B.length) c).ownBlock = some i → v.ownBlock = some i ∨ w.heap.size ≤ i) → wpList Tryz.prog ops Q rest (a.put o.dst (.slice ad (A.length + B.length) c)) w') : wpList Tryz.prog ops Q (o :: rest) a w := by
 obtain ⟨i0, hi0, hz0, hz1, hz2⟩ := info_parts info40
 by_cases hb : B = []
 ·subst hb
  have hu : ∃ ad c, u = .slice ad 0 c := by
   rcases hB with ⟨h, _⟩ | ⟨sb, so, cap, h, _⟩
   ·exact h
   ·exact ⟨_, _, h⟩
  obtain ⟨ad, c, rfl⟩ := hu
  obtain ⟨av, ac, hv⟩ := row_form0 hown
  refine wpList_append_zero hgd s x 22 ho base 40 i0 26 Tryz.underlying22 hi0 v A.length (opFlat A) hs hown ad c hx ?_
  have := h av ac w (by rw [List.append_nil]; rw [hv] at hown; exact hown) (Keeps.refl _ _) (by rw [hv]; exact fun i hi => .inl hi)
  rw [hv]
  exact this
 ·rcases hB with ⟨_, h0⟩ | ⟨sb, so, cap, rfl, hcap, hsc, hlt⟩
  ·exact absurd h0 hb
  ·have hpos : 0 < B.length := List.length_pos_iff.2 hb
   refine wpList_append_lies w hgd s x 22 ho base 40 i0 (.agg cz0.toArray) 26 216 Tryz.underlying22 hi0 hz0 hz1 hz2 (by rfl) (by omega) v A.length (opFlat A) hs hown ⟨sb, so, none⟩ B.length cap (opFlat B) hx (opFlat_length B) ?_ (opFlat_one B) hpos (by unfold maxLen; omega) (by omega) hbase w.heap.size rfl ?_
   ·intro j z hz
    have hj : j < B.length * 26 := by have := (List.getElem?_eq_some_iff.1 hz).1; rwa [opFlat_length] at this
    have hq : j / 26 < B.length := by omega
    have hf := opFlat_get B (j / 26) (j % 26) B[j / 26] (List.getElem?_eq_getElem hq) (by omega)
    rw [show j / 26 * 26 + j % 26 = j by omega, hz] at hf
    have := hsc (j / 26) B[j / 26] (List.getElem?_eq_getElem hq) (j % 26) z hf.symm
    rw [Go.WideShapes.add_plain, show so + j = so + j / 26 * 26 + j % 26 by omega]
    exact this
   ·intro g c w' hown' hgrow hat hlt'
    refine h (some ⟨g, 0, none⟩) c w' ?_ ?_ ?_
    ·show w'.ownsRow base 40 26 _ (A ++ B).length (opFlat (A ++ B))
     rw [opFlat_append, List.length_append]; exact hown'
    ·exact ⟨hgrow.os, hgrow.tape, hgrow.output, hgrow.size, fun k hk hn => hgrow.block k hk (fun h => hn h.symm)⟩
    ·intro i hi
     have : g = i := by simpa [Value.ownBlock] using hi
     subst this
     rcases hat with h1 | h1
     ·exact .inl h1
     ·exact .inr (by omega)
theorem with_any (v1 v2 : Value) (A B : List OpM) (w : World) (h1 : ScriptW w v1 A) (h2 : ScriptW w v2 B) (hlen : A.length + B.length ≤ 651562446089) :
  Calls Tryz.prog 22 #[v1, v2] w fun r w' => ∃ v, r = .returned v ∧ OwnS w' w.heap.size v (A ++ B) ∧ Keeps (fun _ => False) w w' := by
 have HA := hide h1
 have HB := hide h2
 clear h1 h2
 go_enter Tryz.func22, Tryz.ntmps22
 go_wp2_with (at_builtin; first
    | (refine wpList_append_ops rfl _ _ rfl w.heap.size (.slice none 0 0) [] rfl (World.ownsRow_nil _ _ _ _) v1 A rfl (uh HA) (by simp; omega) (by omega) ?_; intro ad c w1 hown1 hk1 hat1; have HO1 := hide (show OwnS w1 w.heap.size (.slice ad A.length c) A by simpa using hown1); have HK1 := hide (show Keeps (fun _ => False) w w1 from hk1.mono (fun i _ h => by simp [Value.ownBlock] at h)); clear hown1 hk1)
    | (refine wpList_append_ops rfl _ _ rfl w.heap.size (.slice ad A.length c) A rfl (uh HO1) v2 B rfl ((uh HB).keeps (uh HK1)) hlen (uh HK1).size ?_; intro ad2 c2 w2 hown2 hk2 hat2))
 go_ret
 refine ⟨_, rfl, hown2, (uh HK1).trans hk2 (fun i hi hlt => ?_)⟩
 have := ((uh HO1).lt i hi).1
 omega
def OpM.noLoad (o : OpM) : Bool := o.kind != 7
theorem run_bs1 (w : World) (o : OpM) : (bsBig 22 1 #[(0, .agg o.cells.toArray)]).run Tryz.prog w = .ok (.value (.slice (some ⟨w.heap.size, 0, none⟩) 1 1)) (w.alloc (.cells o.cells.toArray 40)) := by kernel_rfl
theorem blk_script {w : World} {b : Nat} {o : OpM} (h : Blk w b o.cells 40) : ScriptW w (.slice (some ⟨b, 0, none⟩) 1 1) [o] := by
 refine .inr ⟨b, 0, 1, rfl, by simp, ?_, h.lt⟩
 intro i x hx j u hu
 have hi : i = 0 := by have := (List.getElem?_eq_some_iff.1 hx).1; simp at this; omega
 subst hi
 have : o = x := by simpa using hx
 subst this
 have := h.cell hu
 simpa using this
attribute [local go_sem] run_bs1
theorem without_any (v : Value) (ops : List OpM) (w : World) (h : ScriptW w v ops) (hlen : ops.length ≤ 651562446089) :
  Calls Tryz.prog 21 #[v, .int .i64 7] w fun r w' => ∃ v', r = .returned v' ∧ OwnS w' w.heap.size v' (ops.filter OpM.noLoad) ∧ Keeps (fun _ => False) w w' ∧ (ops.filter OpM.noLoad = [] → v' = .slice none 0 0) := by
 by_cases h0 : ops = []
 ·subst h0
  have hv : ∃ a c, v = .slice a 0 c := by
   rcases h with ⟨h, _⟩ | ⟨sb, so, cap, h, _⟩
   ·exact h
   ·exact ⟨_, _, h⟩
  obtain ⟨a, c, rfl⟩ := hv
  clear h
  go_enter Tryz.func21, Tryz.ntmps21
  go_wp2
  go_loopw [5, 6] (fun l i wr => l = .slice none 0 0 ∧ i = .int .i64 0 ∧ wr = w) (fun _ _ _ => 0)
  case atStart => exact ⟨rfl, rfl, rfl⟩
  case round =>
   obtain ⟨rfl, rfl, rfl⟩ := hrel
   go_wp2
   go_ret
   exact ⟨_, rfl, World.ownsRow_nil _ _ _ _, Keeps.refl _ _, fun _ => rfl⟩
 rcases h with ⟨_, h⟩ | ⟨sb, so, cap, rfl, hcap, hsc, hlt⟩
 ·exact absurd h h0
 have HSC := hide hsc
 clear hsc
 generalize hn : ops.length = n at *
 have HN := hide hn
 clear hn
 go_enter Tryz.func21, Tryz.ntmps21
 go_wp2_with fail
 go_loopw [5, 6] (fun l i wr => ∃ (k m c : Nat) (ad : Option Addr), k ≤ n ∧ i = .int .i64 k ∧ l = .slice ad m c ∧ Hid (OwnS wr w.heap.size l ((ops.take k).filter OpM.noLoad)) ∧ Hid (Keeps (fun _ => False) w wr) ∧ Hid ((ops.take k).filter OpM.noLoad = [] → l = .slice none 0 0)) (fun _ i _ => n - (intOf i).toNat)
 case atStart => exact ⟨0, 0, 0, none, by omega, rfl, rfl, World.ownsRow_nil _ _ _ _, Keeps.refl _ _, fun _ => rfl⟩
 case round =>
  obtain ⟨k, m, c, ad, hk, rfl, rfl, HO, HK, HE⟩ := hrel
  by_cases hkn : k < n
  ·obtain ⟨o, ho⟩ : ∃ o, ops[k]? = some o := ⟨ops[k]'(by rw [uh HN]; exact hkn), List.getElem?_eq_getElem _⟩
   have hrange := (uh HSC).keeps (uh HK) k o ho
   have hsb := bigCells_of_range hrange
   have hv0 : bigVal wr sb (so + k * 26) 26 = .agg o.cells.toArray := by
    unfold bigVal
    have := hsb.1
    rw [show o.cells.length = 26 from rfl] at this
    rw [this]
   have hh0 : hasBig wr sb (so + k * 26) 26 = true := hsb.2
   have hkind : wr.cell? ⟨sb, so + k * 26, none⟩ = some (.int .i64 o.kind) := hrange 0 _ rfl
   have htk : ops.take (k + 1) = ops.take k ++ [o] := by rw [List.take_add_one, ho]; rfl
   have hk0 : (0 : Int) ≤ (k : Int) := by omega
   have hkn' : (k : Int) < (n : Int) := by omega
   have hl0 : ((ops.take k).filter OpM.noLoad).length ≤ k := by
    have h1 := List.length_filter_le OpM.noLoad (ops.take k)
    rw [List.length_take] at h1
    omega
   have HFL := hide (show (ops.take (k + 1)).filter OpM.noLoad = (ops.take k).filter OpM.noLoad ++ [o].filter OpM.noLoad by rw [htk, List.filter_append])
   clear hrange hsb htk ho
   by_cases h7 : o.kind = 7
   ·have hne : (o.kind != 7) = false := by simp [h7]
    have HF1 := hide (show [o].filter OpM.noLoad = [] by simp [OpM.noLoad, hne])
    rw [h7] at hkind
    clear h7 hne hv0 hh0
    go_wp2_with fail
    go_roundw
    case rel => exact ⟨k + 1, m, c, ad, by omega, by go_num, rfl, by show OwnS _ _ _ _; rw [uh HFL, uh HF1, List.append_nil]; exact uh HO, HK, by show _ → _; rw [uh HFL, uh HF1, List.append_nil]; exact uh HE⟩
    case measure => simp [intOf]; omega
   ·have hne : (o.kind != 7) = true := by simp [h7]
    have HF1 := hide (show [o].filter OpM.noLoad = [o] by simp [OpM.noLoad, hne])
    have hm : m = ((ops.take k).filter OpM.noLoad).length := by
     obtain ⟨_, _, e⟩ := row_form0 (uh HO)
     injection e
    generalize (ops.take k).filter OpM.noLoad = A at *
    go_wp2_with (at_builtin; refine wpList_append_ops rfl _ _ rfl w.heap.size (.slice ad m c) A rfl (by exact owns_keeps (uh HO) ((Keeps.refl (fun _ => False) wr).alloc _) (fun _ _ h => h)) _ [o] rfl (by exact blk_script (Blk.new wr o.cells 40)) (by simp; omega) (by have := (uh HK).size; simp; omega) ?_; intro ad2 c2 w2 hown2 hk2 hat2)
    go_roundw
    case rel =>
     refine ⟨k + 1, A.length + 1, c2, ad2, by omega, by go_num, rfl, ?_, ?_, ?_⟩
     ·show OwnS _ _ _ _; rw [uh HFL, uh HF1]; exact hown2
     ·refine (((uh HK).alloc _).trans hk2 (fun i hi hlt => ?_))
      have := ((uh HO).lt i hi).1
      omega
     ·show _ → _; rw [uh HFL, uh HF1]; intro h; simp at h
    case measure => simp [intOf]; omega
  ·have hkk : k = n := by omega
   subst hkk
   go_wp2
   go_ret
   have h1 := uh HO
   have h2 := uh HE
   rw [List.take_of_length_le (by rw [uh HN]; omega)] at h1 h2
   exact ⟨_, rfl, h1, uh HK, h2⟩
end Go.Proofs.YtahnliehdjncdaaGreatDoor
namespace Go.Proofs.YtahnliehdjncdaaGreatDoor
open Go.ChangeShapes Go.WideShapes Go.ChangeAt Go.RowKit Go.Deep
theorem gTab : Tryz.prog.globalNamed "math/bits.deBruijn64tab" = some 2 := by kernel_rfl
theorem gTabType : (Tryz.prog.globals[2]?).map (·.type) = some 287 := by kernel_rfl
theorem cells64 : Tryz.prog.cellsOf 287 = 64 := by kernel_rfl
theorem cells5' : Tryz.prog.cellsOf 5 = 1 := by kernel_rfl
theorem under5' : Tryz.prog.underlying 5 = some (.int .u8) := by kernel_rfl
def tabInts : List Int := Lib.deBruijn64tab.map fun (n : Nat) => (n : Int)
def tabVals : Array Value := (tabInts.map (.int .u8 ·)).toArray
theorem tab_of {W : World} (h : laidMetH Tryz.prog [("math/bits.deBruijn64tab", Rows.laid_math_bits_deBruijn64tab)] W) : Tab W := by
 have ht : Lib.TabIs Tryz.prog W "math/bits.deBruijn64tab" .u8 tabInts := Lib.tabIs_of_head (rest := []) gTab gTabType Tryz.underlying287 under5' cells5' cells64 h
 intro j hj
 have h1 := ht.cell gTab j (by simpa [tabInts] using hj)
 rw [h1]
 unfold tabInts
 rw [List.getD_eq_getElem?_getD, List.getD_eq_getElem?_getD, List.getElem?_map, List.getElem?_eq_getElem hj]
 rfl
noncomputable def laidWorld (os : Os) : World :=
 { World.holding Tryz.prog os ⟨#[], #[], []⟩ with heap := (World.holding Tryz.prog os ⟨#[], #[], []⟩).heap.modify 2 fun
     | .cells _ t frozen => .cells tabVals t frozen
     | o => o }
theorem script_open {H : Type} {enc : TypeId × Value → H} {W : World} {fuel : Nat} {a0 : Option Addr} {len cap : Nat} {d : DataW H} {p : List MemPlace}
  (hf : DataW.trod enc Tryz.prog W 0 (fun _ => true) true fuel 22 (Value.slice a0 len cap).cells.toList = some (d, p)) (hlt : ∀ x ∈ p, x.block < W.heap.size) :
  ∃ ops, ScriptW W (.slice a0 len cap) ops ∧ ops.length = len ∧ (len ≠ 0 → ∃ elems spare, d = .slice elems spare ∧ len ≤ elems.length + spare.length) := by
 by_cases hl0 : len = 0
 ·subst hl0
  exact ⟨[], .inl ⟨⟨_, _, rfl⟩, rfl⟩, rfl, fun h => absurd rfl h⟩
 ·rcases open_slice Tryz.underlying22 hf with ⟨hcs, hx⟩ | ⟨a, len', cap', k, n, D, Pl, hcs, _, hl, hm, hk, hx, hcell⟩
  ·simp [Value.cells] at hcs
   exact absurd hcs.2.1 hl0
  ·simp [Value.cells] at hcs
   obtain ⟨rfl, rfl, rfl⟩ := hcs
   simp only [Prod.mk.injEq] at hx
   obtain ⟨rfl, rfl⟩ := hx
   simp only [if_true] at hk
   subst k
   rw [cells40] at hcell
   obtain ⟨b, off, spot⟩ := a
   have hspot : spot = none := by
    obtain ⟨cs', h1, _⟩ := hcell 0 (by omega)
    obtain ⟨_, h2, h3⟩ := World.cells?_some h1
    have h4 := h3 0 (by omega)
    rw [List.getElem?_eq_getElem (by omega)] at h4
    simpa [Addr.add] using World.cell?_spot h4
   subst hspot
   have hbW : b < W.heap.size := hlt (.cell b off) (List.mem_append_left _ (MemPlace.mem_row.2 ⟨0, by rw [cells40]; omega, by simp⟩))
   have hops : ∀ i, i < len → ∃ o : OpM, W.rangeAt b (off + i * 26) o.cells := by
    intro i hi
    obtain ⟨cs', h1, h2⟩ := hcell i (by omega)
    obtain ⟨V, bs, rfl, _⟩ := op_open h2
    obtain ⟨_, h3, h4⟩ := World.cells?_some h1
    refine ⟨opOf V bs, fun j v hv => ?_⟩
    have hj : j < 26 := by have := (List.getElem?_eq_some_iff.1 hv).1; omega
    have := h4 j hj
    rw [add_add, add_plain, hv, ← Nat.add_assoc] at this
    exact this
   haveI : Inhabited OpM := ⟨o1⟩
   obtain ⟨O, hO⟩ := choose_lt (α := OpM) hops
   refine ⟨(List.range len).map O, .inr ⟨b, off, cap, by simp, by simpa using hl, ?_, hbW⟩, by simp, fun _ => ⟨_, _, rfl, by simp⟩⟩
   intro i o ho
   have hi : i < len := by have := (List.getElem?_eq_some_iff.1 ho).1; simpa using this
   have : O i = o := by simpa [hi] using ho
   rw [← this]
   exact hO i hi
end Go.Proofs.YtahnliehdjncdaaGreatDoor
namespace Go.Proofs.YtahnliehdjncdaaGreatDoor
def HB (K : Int) : List Bk → Prop
 | [] => True
 | b :: l => K * (b.sz - 1) ≤ sumB l ∧ HB K l
end Go.Proofs.YtahnliehdjncdaaGreatDoor
namespace Go.Proofs.YtahnliehdjncdaaGreatDoor
theorem relS_keep (m : Int) (f : Nat) : ∀ x : Ser, x.l.length < f → HeapL x.l → HeapL (relS f x m).l ∧ (relS f x m).c = x.c ∧ (relS f x m).k = x.k ∧ (relS f x m).id = x.id := by
 induction f with
 | zero => intro x h; omega
 | succ f ih =>
  intro x hf hh
  unfold relS
  split
  ·exact ⟨hh, rfl, rfl, rfl⟩
  ·rename_i he
   have hne : x.l ≠ [] := fun h => he (by rw [h]; rfl)
   split
   ·exact ⟨hh, rfl, rfl, rfl⟩
   ·obtain ⟨th, tp⟩ := take_heap x.l hh hne
    have hlen : (relOne x m).l.length = x.l.length - 1 := takeL_length _
    have hpos : 0 < x.l.length := List.length_pos_iff.2 hne
    obtain ⟨h1, h2, h3, h4⟩ := ih (relOne x m) (by omega) th
    exact ⟨h1, h2, h3, h4⟩
end Go.Proofs.YtahnliehdjncdaaGreatDoor
namespace Go.Proofs.YtahnliehdjncdaaGreatDoor
theorem sweepL_from {c : Int} (xs : List Ser) : ∀ (b : Int) (z : Ser), z ∈ (sweepL c b xs).1 → ∃ y, y ∈ xs ∧ ∃ b', z = swpS c b' y := by
 induction xs with
 | nil => intro b z hz; simp [sweepL] at hz
 | cons x xs ih =>
  intro b z hz
  simp only [sweepL] at hz
  rcases List.mem_cons.1 hz with hz | hz
  ·exact ⟨x, by simp, b, hz⟩
  ·obtain ⟨y, hy, h⟩ := ih _ z hz
   exact ⟨y, by simp [hy], h⟩
theorem sweepL_ids (c : Int) (xs : List Ser) : ∀ b, (sweepL c b xs).1.map (·.id) = xs.map (·.id) := by
 induction xs with
 | nil => intro b; rfl
 | cons x xs ih => intro b; simp only [sweepL, List.map_cons, ih]; rfl
theorem find_split {xs : List Ser} {id : Int} {x : Ser} (h : findS xs id = some x) : ∃ l1 l2, xs = l1 ++ x :: l2 ∧ x.id = id ∧ ∀ y : Ser, updS xs id y = l1 ++ y :: l2 := by
 obtain ⟨hp, l1, l2, he, hn⟩ := List.find?_eq_some_iff_append.1 h
 refine ⟨l1, l2, he, by simpa using hp, fun y => ?_⟩
 subst he
 clear h
 induction l1 with
 | nil => simp [updS]; intro h0; exact absurd (by simpa using hp) h0
 | cons a l1 ih =>
  have ha := hn a (by simp)
  simp only [List.cons_append, updS]
  rw [if_neg (by simpa using ha), ih (fun z hz => hn z (by simp [hz]))]
theorem refE_late {x : Ser} {clock : Int} {y : It} (h : refE x clock y = 0) : clock - x.c.lag < y.t := by
 unfold refE at h
 split at h
 ·split at h
  ·omega
  ·omega
 ·omega
end Go.Proofs.YtahnliehdjncdaaGreatDoor
namespace Go.Proofs.YtahnliehdjncdaaGreatDoor
theorem step_clock (s : WS) (o : OpM) (h7 : o.kind ≠ 7) : (stepM s o).1.clock = if o.kind = 3 ∧ (stepM s o).2.1 = 0 ∧ s.clock < o.a then o.a else s.clock := by
 by_cases h3 : o.kind = 3
 ·have hs : stepM s o = tickM s o := by unfold stepM; rw [if_neg (by omega), if_neg (by omega), if_pos h3]
  rw [hs]
  unfold tickM
  by_cases ha : inB o.a 0 4611686018427387904 = true
  ·rw [if_pos ha]
   by_cases hb : inB o.b 0 100 = true
   ·rw [if_pos hb]
    show maxC s.clock o.a = _
    unfold maxC
    by_cases hc : s.clock < o.a
    ·rw [if_pos hc, if_pos ⟨h3, rfl, hc⟩]
    ·rw [if_neg hc, if_neg (fun h => hc h.2.2)]
   ·rw [if_neg hb, if_neg (fun h => by have := h.2.1; simp at this)]
  ·rw [if_neg ha, if_neg (fun h => by have := h.2.1; simp at this)]
 ·rw [if_neg (fun h => h3 h.1)]
  unfold stepM
  split
  ·unfold createM; split
   ·split
    ·split <;> rfl
    ·rfl
   ·rfl
  ·split
   ·unfold addM; split
    ·rfl
    ·split <;> rfl
   ·split
    ·unfold queryM; split <;> rfl
    ·split
     ·unfold statsM; split <;> rfl
     ·first | (rw [if_neg h7]; split <;> rfl) | (split <;> rfl)
theorem find_c (id : Int) : ∀ (l l' : List Ser), l.map (fun x => (x.id, x.c)) = l'.map (fun x => (x.id, x.c)) → (findS l id).map (·.c) = (findS l' id).map (·.c) := by
 intro l
 induction l with
 | nil => intro l' h; cases l' with
  | nil => rfl
  | cons a l' => simp at h
 | cons a l ih =>
  intro l' h
  cases l' with
  | nil => simp at h
  | cons b l' =>
   simp only [List.map_cons, List.cons.injEq, Prod.mk.injEq] at h
   obtain ⟨⟨h1, h2⟩, h3⟩ := h
   have := ih l' h3
   unfold findS at *
   rw [List.find?_cons, List.find?_cons, h1]
   cases (b.id == id)
   ·exact this
   ·simp [h2]
theorem upd_c {xs : List Ser} {id : Int} {x y : Ser} (hf : findS xs id = some x) (h1 : y.id = x.id) (h2 : y.c = x.c) : (updS xs id y).map (fun x => (x.id, x.c)) = xs.map (fun x => (x.id, x.c)) := by
 obtain ⟨l1, l2, he, _, hu⟩ := find_split hf
 rw [hu, he]; simp [h1, h2]
theorem sweepL_c (c : Int) (xs : List Ser) : ∀ b, (sweepL c b xs).1.map (fun x => (x.id, x.c)) = xs.map (fun x => (x.id, x.c)) := by
 induction xs with
 | nil => intro b; rfl
 | cons x xs ih => intro b; simp only [sweepL, List.map_cons, ih]; rfl
theorem step_cfg (s : WS) (o : OpM) (id : Int) (h7 : o.kind ≠ 7) : (findS (stepM s o).1.xs id).map (·.c) = match (findS s.xs id).map (·.c) with
  | some c => some c
  | none => if o.kind = 1 ∧ o.id = id ∧ (stepM s o).2.1 = 0 then some o.cfg else none := by
 have key : ∀ (p : Prop) [Decidable p] (r : Option Cfg), ¬ p → r = match r with | some c => some c | none => if p then some o.cfg else none := by
  intro p _ r hp; cases r with
  | none => simp [hp]
  | some c => rfl
 by_cases h1 : o.kind = 1
 ·have hs : stepM s o = createM s o := by unfold stepM; rw [if_pos h1]
  rw [hs]
  unfold createM
  by_cases ha : inB o.id 0 99 = true ∧ (findS s.xs o.id).isNone = true
  ·rw [if_pos ha]
   by_cases hv : validB o.cfg = true
   ·rw [if_pos hv]
    by_cases h6 : s.xs.length < 6
    ·rw [if_pos h6]
     show (findS (s.xs ++ [newSer o.id o.cfg o.cfg.kind.toNat]) id).map (·.c) = _
     have e : findS (s.xs ++ [newSer o.id o.cfg o.cfg.kind.toNat]) id = (findS s.xs id).or (findS [newSer o.id o.cfg o.cfg.kind.toNat] id) := List.find?_append
     rw [e]
     cases hf : findS s.xs id with
     | some x => rfl
     | none =>
      simp only [Option.none_or, Option.map_none]
      by_cases hid : o.id = id
      ·rw [if_pos ⟨h1, hid, by simp⟩]
       simp [findS, newSer, hid]
      ·rw [if_neg (fun h => hid h.2.1)]
       simp [findS, newSer, hid]
    ·rw [if_neg h6]; exact key _ _ (fun h => by have := h.2.2; simp at this)
   ·rw [if_neg hv]; exact key _ _ (fun h => by have := h.2.2; simp at this)
  ·rw [if_neg ha]; exact key _ _ (fun h => by have := h.2.2; simp at this)
 ·have hsame : (findS (stepM s o).1.xs id).map (·.c) = (findS s.xs id).map (·.c) := by
   refine find_c id _ _ ?_
   unfold stepM
   rw [if_neg h1]
   split
   ·unfold addM
    split
    ·rfl
    ·rename_i x hf
     split
     ·exact upd_c hf rfl rfl
     ·exact upd_c hf rfl rfl
   ·split
    ·unfold tickM
     split
     ·split
      ·show (sweepL _ _ _).1.map _ = _
       rw [sweepL_c, List.map_map]
       refine List.map_congr_left fun x _ => ?_
       have h := relS_k (x.l.length + 1) x (maxC s.clock o.a - x.c.lag)
       show ((tickOne _ x).id, (tickOne _ x).c) = _
       unfold tickOne
       rw [h.2.1, h.2.2]
      ·rfl
     ·rfl
    ·split
     ·unfold queryM; split <;> rfl
     ·split
      ·unfold statsM; split <;> rfl
      ·first | (rw [if_neg h7]; split <;> rfl) | (split <;> rfl)
  rw [hsame]; exact key _ _ (fun h => h1 h.1)
end Go.Proofs.YtahnliehdjncdaaGreatDoor
namespace Go.Proofs.YtahnliehdjncdaaGreatDoor
open Go.RowKit
attribute [local go_sem ↓] execOp_load38 execOp_load40 execOp_store40
attribute [local go_sem] run_load38 run_load40 bigVal_drew hasBig_drew bigVal_ne hasBig_ne bigVal_alloc hasBig_alloc bigVal_new hasBig_newB
def opAt (ops : List OpM) (i : Nat) : OpM := ops.getD i ⟨0, 0, 0, 0, 0, ⟨0, 0, 0, 0, 0, 0, 0, 0, 0, 0, 0, 0, 0, 0, 0, 0, 0, 0, 0, 0⟩, noBytes⟩
def codeAt (cs : List Int) (i : Nat) : Int := cs.getD i 1
def CodesAt (w : World) (g : Nat) (cs : List Int) : Prop := ∀ (i : Nat), i < cs.length → w.cell? ⟨g, i * 3, none⟩ = some (.int .i64 (codeAt cs i))
theorem CodesAt.keeps {M : Nat → Prop} {w w' : World} {g : Nat} {cs : List Int} (h : CodesAt w g cs) (hk : Keeps M w w') (hn : ¬ M g) : CodesAt w' g cs := fun i hi => hk.cell (h i hi) hn
theorem opAt_cells {w : World} {sb so : Nat} {ops : List OpM} (h : ScriptAt w sb so ops) {i : Nat} (hi : i < ops.length) : w.cell? ⟨sb, so + i * 26, none⟩ = some (.int .i64 (opAt ops i).kind) ∧ w.cell? ⟨sb, so + i * 26 + 1, none⟩ = some (.int .i64 (opAt ops i).id) ∧ w.cell? ⟨sb, so + i * 26 + 2, none⟩ = some (.int .i64 (opAt ops i).a) := by
 have e : opAt ops i = ops[i] := by simp [opAt, List.getD_eq_getElem?_getD, List.getElem?_eq_getElem hi]
 have h1 := h i ops[i] (List.getElem?_eq_getElem hi)
 rw [e]
 exact ⟨by simpa using h1 0 _ rfl, h1 1 _ rfl, h1 2 _ rfl⟩
def clockD (ops : List OpM) (cs : List Int) : Nat → Int
 | 0 => 0
 | n + 1 => if (opAt ops n).kind = 3 ∧ codeAt cs n = 0 ∧ clockD ops cs n < (opAt ops n).a then (opAt ops n).a else clockD ops cs n
theorem clockD_succ (ops : List OpM) (cs : List Int) (n : Nat) : clockD ops cs (n + 1) = if (opAt ops n).kind = 3 ∧ codeAt cs n = 0 ∧ clockD ops cs n < (opAt ops n).a then (opAt ops n).a else clockD ops cs n := rfl
theorem clock_any (sb so cap g acap : Nat) (ops : List OpM) (cs : List Int) (n : Nat) (w : World) (hs : ScriptAt w sb so ops) (ha : CodesAt w g cs) (hn : n ≤ ops.length) (hc : cs.length = ops.length) (hl : ops.length ≤ 1099511627776) :
  Calls Tryz.prog 26 #[.slice (some ⟨sb, so, none⟩) ops.length cap, .slice (some ⟨g, 0, none⟩) ops.length acap, .int .i64 n] w fun r w' => r = .returned (.int .i64 (clockD ops cs n)) ∧ w' = w := by
 have HS := hide hs
 have HA := hide ha
 have HC := hide hc
 clear hs ha hc
 generalize hm : ops.length = m at *
 have HM := hide hm
 clear hm
 go_enter Tryz.func26, Tryz.ntmps26
 go_wp2
 go_loopw [7, 8] (fun t i wr => ∃ k : Nat, i = .int .i64 k ∧ k ≤ n ∧ t = .int .i64 (clockD ops cs k) ∧ wr = w) (fun _ i _ => n - (intOf i).toNat)
 case atStart => exact ⟨0, rfl, Nat.zero_le _, rfl, rfl⟩
 case round =>
  obtain ⟨k, rfl, hk, rfl, hwr⟩ := hrel
  rw [hwr]
  clear hwr wr
  by_cases hlk : k < n
  ·obtain ⟨c0, _, c2⟩ := opAt_cells (uh HS) (i := k) (by rw [uh HM]; omega)
   have ca := uh HA k (by rw [uh HC]; omega)
   have HN := hide (clockD_succ ops cs k)
   generalize opAt ops k = o at *
   generalize codeAt cs k = c at *
   generalize clockD ops cs k = T at *
   have hk0 : (0 : Int) ≤ (k : Int) := by omega
   have hkn : (k : Int) < (n : Int) := by omega
   have hkm : (k : Int) < (m : Int) := by omega
   cases h1 : (o.kind == 3)
   ·have h1' : ¬ o.kind = 3 := by simpa using h1
    have HN' := hide (show clockD ops cs (k + 1) = T by rw [uh HN, if_neg (fun h => h1' h.1)])
    clear h1'
    go_wp2
    go_roundw
    case rel => exact ⟨k + 1, by go_num, by omega, by rw [uh HN'], by simp⟩
    case measure => simp [intOf]; omega
   ·have h1' : o.kind = 3 := by simpa using h1
    cases h2 : (c == 0)
    ·have h2' : ¬ c = 0 := by simpa using h2
     have HN' := hide (show clockD ops cs (k + 1) = T by rw [uh HN, if_neg (fun h => h2' h.2.1)])
     clear h2' h1'
     go_wp2
     go_roundw
     case rel => exact ⟨k + 1, by go_num, by omega, by rw [uh HN'], by simp⟩
     case measure => simp [intOf]; omega
    ·have h2' : c = 0 := by simpa using h2
     cases h3 : decide (T < o.a)
     ·have h3' : ¬ T < o.a := by simpa using h3
      have HN' := hide (show clockD ops cs (k + 1) = T by rw [uh HN, if_neg (fun h => h3' h.2.2)])
      clear h3' h2' h1'
      go_wp2
      go_roundw
      case rel => exact ⟨k + 1, by go_num, by omega, by rw [uh HN'], by simp⟩
      case measure => simp [intOf]; omega
     ·have h3' : T < o.a := by simpa using h3
      have HN' := hide (show clockD ops cs (k + 1) = o.a by rw [uh HN, if_pos ⟨h1', h2', h3'⟩])
      clear h3' h2' h1'
      go_wp2
      go_roundw
      case rel => exact ⟨k + 1, by go_num, by omega, by rw [uh HN'], by simp⟩
      case measure => simp [intOf]; omega
  ·have hkn : k = n := by omega
   subst hkn
   have hf : decide ((k : Int) < (k : Int)) = false := by simp
   go_wp2
   go_ret
   exact ⟨rfl, rfl⟩
def configD (ops : List OpM) (cs : List Int) (id : Int) : Nat → Option Cfg
 | 0 => none
 | n + 1 => match configD ops cs id n with
  | some c => some c
  | none => if (opAt ops n).kind = 1 ∧ (opAt ops n).id = id ∧ codeAt cs n = 0 then some (opAt ops n).cfg else none
theorem configD_none (ops : List OpM) (cs : List Int) (id : Int) (n : Nat) (h : configD ops cs id n = none) : configD ops cs id (n + 1) = if (opAt ops n).kind = 1 ∧ (opAt ops n).id = id ∧ codeAt cs n = 0 then some (opAt ops n).cfg else none := by
 show (match configD ops cs id n with | some c => some c | none => _) = _
 rw [h]
theorem configD_some (ops : List OpM) (cs : List Int) (id : Int) (n m : Nat) (c : Cfg) (h : configD ops cs id n = some c) (hm : n ≤ m) : configD ops cs id m = some c := by
 induction m with
 | zero =>
  have : n = 0 := by omega
  subst this
  exact h
 | succ m ih =>
  by_cases e : n = m + 1
  ·rw [← e]; exact h
  ·show (match configD ops cs id m with | some c => some c | none => _) = _
   rw [ih (by omega)]
theorem range_cfg {w : World} {sb so : Nat} {ops : List OpM} (h : ScriptAt w sb so ops) {i : Nat} (hi : i < ops.length) : bigVal w sb (so + i * 26 + 5) 20 = .agg (opAt ops i).cfg.cells.toArray ∧ hasBig w sb (so + i * 26 + 5) 20 = true := by
 have e : opAt ops i = ops[i] := by simp [opAt, List.getD_eq_getElem?_getD, List.getElem?_eq_getElem hi]
 have h1 := h i ops[i] (List.getElem?_eq_getElem hi)
 rw [e]
 have h2 : w.rangeAt sb (so + i * 26 + 5) ops[i].cfg.cells := by
  intro j v hv
  have hj : j < 20 := by have := (List.getElem?_eq_some_iff.1 hv).1; simpa [Cfg.cells] using this
  have h3 : ops[i].cells[5 + j]? = some v := by
   have e2 : (ops[i].cells.drop 5).take 20 = ops[i].cfg.cells := rfl
   rw [← e2, List.getElem?_take, if_pos hj, List.getElem?_drop] at hv
   exact hv
  have := h1 (5 + j) v h3
  rw [show so + i * 26 + 5 + j = so + i * 26 + (5 + j) by omega]
  exact this
 have h3 := bigCells_of_range h2
 have e3 : ops[i].cfg.cells.length = 20 := rfl
 rw [e3] at h3
 exact ⟨by unfold bigVal; rw [h3.1], h3.2⟩
def cfg0 : Cfg := ⟨0, 0, 0, 0, 0, 0, 0, 0, 0, 0, 0, 0, 0, 0, 0, 0, 0, 0, 0, 0⟩
attribute [local go_sem ↓] execOp_store38 execOp_build38
theorem run_z38 (w : World) : (buildBig 38 #[]).run Tryz.prog w = .ok (.value (.agg cfg0.cells.toArray)) w := by kernel_rfl
attribute [local go_sem] run_z38
theorem config_any (sb so cap g acap : Nat) (ops : List OpM) (cs : List Int) (n : Nat) (id : Int) (w : World) (hs : ScriptAt w sb so ops) (ha : CodesAt w g cs) (hn : n ≤ ops.length) (hc : cs.length = ops.length) (hl : ops.length ≤ 1099511627776) :
  Calls Tryz.prog 25 #[.slice (some ⟨sb, so, none⟩) ops.length cap, .slice (some ⟨g, 0, none⟩) ops.length acap, .int .i64 n, .int .i64 id] w fun r w' => r = .returned (.tuple #[((configD ops cs id n).getD cfg0).val, .bool (configD ops cs id n).isSome]) ∧ Keeps (fun _ => False) w w' := by
 obtain ⟨W, hW⟩ : ∃ W, W = w.alloc (.cells cfg0.cells.toArray 38) := ⟨_, rfl⟩
 have hkW : Keeps (fun _ => False) w W := by rw [hW]; exact (Keeps.refl _ _).alloc _
 have HS := hide (show ScriptAt W sb so ops from fun i o ho j v hv => hkW.cell (hs i o ho j v hv) (fun h => h))
 have HA := hide (ha.keeps hkW (fun h => h))
 have HC := hide hc
 have HK := hide hkW
 have HW := hide (show w.alloc (.cells #[.int .i64 0, .int .i64 0, .int .i64 0, .int .i64 0, .int .i64 0, .int .i64 0, .int .i64 0, .int .i64 0, .int .i64 0, .int .i64 0, .int .i64 0, .int .i64 0, .int .i64 0, .int .i64 0, .int .i64 0, .int .i64 0, .int .i64 0, .int .i64 0, .int .i64 0, .int .i64 0] 38) = W from hW.symm)
 have HWW := hide hW
 have HST := hide (show ∀ c : Cfg, (storeBig 38 (.pointer (some ⟨w.heap.size, 0, none⟩)) (.agg c.cells.toArray)).run Tryz.prog W = .ok .skip (w.alloc (.cells c.cells.toArray 38)) from fun c => by
    rw [hW]; exact run_store38 w cfg0.cells c.cells rfl rfl (by simp [Cfg.cells, Value.oneCell']))
 clear hs ha hc hkW hW
 generalize hm : ops.length = m at *
 have HM := hide hm
 clear hm
 go_enter Tryz.func25, Tryz.ntmps25
 go_wp2_with fail
 rw [uh HW]
 go_loopw [10] (fun i wr => ∃ k : Nat, i = .int .i64 k ∧ k ≤ n ∧ Hid (configD ops cs id k = none) ∧ wr = W) (fun i _ => n - (intOf i).toNat)
 case atStart => exact ⟨0, rfl, Nat.zero_le _, rfl, rfl⟩
 case round =>
  obtain ⟨k, rfl, hk, HNO, hwr⟩ := hrel
  rw [hwr]
  clear hwr wr
  by_cases hlk : k < n
  ·obtain ⟨c0, c1, _⟩ := opAt_cells (uh HS) (i := k) (by rw [uh HM]; omega)
   have ca := uh HA k (by rw [uh HC]; omega)
   have HN := hide (configD_none ops cs id k (uh HNO))
   have HCF := hide (range_cfg (uh HS) (i := k) (by rw [uh HM]; omega))
   generalize opAt ops k = o at *
   generalize codeAt cs k = c at *
   have hk0 : (0 : Int) ≤ (k : Int) := by omega
   have hkn : (k : Int) < (n : Int) := by omega
   have hkm : (k : Int) < (m : Int) := by omega
   by_cases hh : o.kind = 1 ∧ o.id = id ∧ c = 0
   ·obtain ⟨h1, h2, h3⟩ := hh
    have HN' := hide (show configD ops cs id n = some o.cfg from configD_some ops cs id (k + 1) n _ (by rw [uh HN, if_pos ⟨h1, h2, h3⟩]) (by omega))
    obtain ⟨hv, hb⟩ := uh HCF
    have hst := uh HST o.cfg
    have e1 : (o.kind == 1) = true := by simpa using h1
    have e2 : (o.id == id) = true := by simpa using h2
    have e3 : (c == 0) = true := by simpa using h3
    clear h1 h2 h3
    have hv1 : bigVal (w.alloc (.cells o.cfg.cells.toArray 38)) w.heap.size 0 20 = .agg o.cfg.cells.toArray := bigVal_new w o.cfg.cells 38 20 rfl
    have hh1 : hasBig (w.alloc (.cells o.cfg.cells.toArray 38)) w.heap.size 0 20 = true := hasBig_new w o.cfg.cells 38 20 rfl
    go_wp2
    have hb9 := Blk.new w o.cfg.cells 38
    have HK9 := hide ((Keeps.refl (fun _ => False) w).alloc (.cells o.cfg.cells.toArray 38))
    generalize w.alloc (.cells o.cfg.cells.toArray 38) = W9 at *
    have HLV := hide (show (loadVar 38 ⟨w.heap.size, 0, none⟩).run Tryz.prog W9 = .ok (.agg o.cfg.cells.toArray) W9 from run_loadVar_mid W9 w.heap.size 0 38 o.cfg.cells _ (fun j v hv => by rw [Nat.zero_add]; exact hb9.cell hv) Tryz.underlying38 rfl (by rw [size38]; rfl))
    clear hb9
    refine bodyPost_ret (v := .tuple #[o.cfg.val, .bool true]) (by simp [results, Tryz.results25, asAddr, uh HLV]; rfl) rfl ?_
    exact ⟨by rw [uh HN']; rfl, uh HK9⟩
   ·have HN' := hide (show configD ops cs id (k + 1) = none by rw [uh HN, if_neg hh])
    cases h1 : (o.kind == 1)
    ·clear hh
     go_wp2
     go_roundw
     case rel => exact ⟨k + 1, by go_num, by omega, HN', by simp⟩
     case measure => simp [intOf]; omega
    ·cases h2 : (o.id == id)
     ·clear hh
      go_wp2
      go_roundw
      case rel => exact ⟨k + 1, by go_num, by omega, HN', by simp⟩
      case measure => simp [intOf]; omega
     ·have h3 : (c == 0) = false := by
       cases h3 : (c == 0)
       ·rfl
       ·exact absurd ⟨by simpa using h1, by simpa using h2, by simpa using h3⟩ hh
      clear hh
      go_wp2
      go_roundw
      case rel => exact ⟨k + 1, by go_num, by omega, HN', by simp⟩
      case measure => simp [intOf]; omega
  ·have hkn : k = n := by omega
   subst hkn
   have hf : decide ((k : Int) < (k : Int)) = false := by simp
   have hst := uh HST cfg0
   go_wp2
   have hb9 := Blk.new w cfg0.cells 38
   have HK9 := hide ((Keeps.refl (fun _ => False) w).alloc (.cells cfg0.cells.toArray 38))
   generalize w.alloc (.cells cfg0.cells.toArray 38) = W9 at *
   have HLV := hide (show (loadVar 38 ⟨w.heap.size, 0, none⟩).run Tryz.prog W9 = .ok (.agg cfg0.cells.toArray) W9 from run_loadVar_mid W9 w.heap.size 0 38 cfg0.cells _ (fun j v hv => by rw [Nat.zero_add]; exact hb9.cell hv) Tryz.underlying38 rfl (by rw [size38]; rfl))
   clear hb9
   refine bodyPost_ret (v := .tuple #[cfg0.val, .bool false]) (by simp [results, Tryz.results25, asAddr, uh HLV]; rfl) rfl ?_
   exact ⟨by rw [uh HNO]; rfl, uh HK9⟩
end Go.Proofs.YtahnliehdjncdaaGreatDoor
namespace Go.Proofs.YtahnliehdjncdaaGreatDoor
open Go.RowKit
attribute [local go_sem ↓] execOp_load38 execOp_load40 execOp_store40 execOp_bs22
attribute [local go_sem] run_load38 run_load40 bigVal_drew hasBig_drew bigVal_ne hasBig_ne bigVal_alloc hasBig_alloc bigVal_new hasBig_newB run_bs1
def itemsD (ops : List OpM) (cs : List Int) (id fr to : Int) : Nat → List OpM
 | 0 => []
 | n + 1 => itemsD ops cs id fr to n ++ (if (opAt ops n).kind = 2 ∧ (opAt ops n).id = id ∧ codeAt cs n = 0 ∧ fr < (opAt ops n).a ∧ (opAt ops n).a ≤ to then [opAt ops n] else [])
theorem itemsD_succ (ops : List OpM) (cs : List Int) (id fr to : Int) (n : Nat) : itemsD ops cs id fr to (n + 1) = itemsD ops cs id fr to n ++ (if (opAt ops n).kind = 2 ∧ (opAt ops n).id = id ∧ codeAt cs n = 0 ∧ fr < (opAt ops n).a ∧ (opAt ops n).a ≤ to then [opAt ops n] else []) := rfl
theorem itemsD_length (ops : List OpM) (cs : List Int) (id fr to : Int) (n : Nat) : (itemsD ops cs id fr to n).length ≤ n := by
 induction n with
 | zero => simp [itemsD]
 | succ n ih => rw [itemsD_succ, List.length_append]; split <;> simp <;> omega
theorem range_op {w : World} {sb so : Nat} {ops : List OpM} (h : ScriptAt w sb so ops) {i : Nat} (hi : i < ops.length) : bigVal w sb (so + i * 26) 26 = .agg (opAt ops i).cells.toArray ∧ hasBig w sb (so + i * 26) 26 = true := by
 have e : opAt ops i = ops[i] := by simp [opAt, List.getD_eq_getElem?_getD, List.getElem?_eq_getElem hi]
 have h3 := bigCells_of_range (h i ops[i] (List.getElem?_eq_getElem hi))
 have e3 : ops[i].cells.length = 26 := rfl
 rw [e3] at h3
 rw [e]
 exact ⟨by unfold bigVal; rw [h3.1], h3.2⟩
theorem ScriptAt.keepsM {M : Nat → Prop} {w w' : World} {sb so : Nat} {ops : List OpM} (h : ScriptAt w sb so ops) (hk : Keeps M w w') (hn : ¬ M sb) : ScriptAt w' sb so ops := fun i o ho j v hv => hk.cell (h i o ho j v hv) hn
theorem items_any (sb so cap g acap : Nat) (ops : List OpM) (cs : List Int) (n : Nat) (id fr to : Int) (w : World) (hs : ScriptAt w sb so ops) (hgl : g < w.heap.size) (ha : CodesAt w g cs) (hn : n ≤ ops.length) (hc : cs.length = ops.length) (hl : ops.length ≤ 651562446088) :
  Calls Tryz.prog 27 #[.slice (some ⟨sb, so, none⟩) ops.length cap, .slice (some ⟨g, 0, none⟩) ops.length acap, .int .i64 n, .int .i64 id, .int .i64 fr, .int .i64 to] w fun r w' => ∃ v, r = .returned v ∧ OwnS w' w.heap.size v (itemsD ops cs id fr to n) ∧ Keeps (fun _ => False) w w' := by
 have HS := hide hs
 have HA := hide ha
 have HC := hide hc
 clear hs ha hc
 generalize hm : ops.length = m at *
 have HM := hide hm
 clear hm
 go_enter Tryz.func27, Tryz.ntmps27
 go_wp2_with fail
 go_loopw [13, 14] (fun l i wr => ∃ (k mm cp : Nat) (ad : Option Addr), k ≤ n ∧ i = .int .i64 k ∧ l = .slice ad mm cp ∧ Hid (OwnS wr w.heap.size l (itemsD ops cs id fr to k)) ∧ Hid (Keeps (fun _ => False) w wr)) (fun _ i _ => n - (intOf i).toNat)
 case atStart => exact ⟨0, 0, 0, none, by omega, rfl, rfl, World.ownsRow_nil _ _ _ _, Keeps.refl _ _⟩
 case round =>
  obtain ⟨k, mm, cp, ad, hk, rfl, rfl, HO, HK⟩ := hrel
  by_cases hlk : k < n
  ·have HSr := hide ((uh HS).keepsM (uh HK) (fun h => h))
   obtain ⟨hv0, hh0⟩ := range_op (uh HSr) (i := k) (by rw [uh HM]; omega)
   have ca : wr.cell? ⟨g, k * 3, none⟩ = some (.int .i64 (codeAt cs k)) := (uh HK).cell (uh HA k (by rw [uh HC]; omega)) (fun h => h)
   have HN := hide (itemsD_succ ops cs id fr to k)
   have hAl := itemsD_length ops cs id fr to k
   have hm' : mm = (itemsD ops cs id fr to k).length := by
    obtain ⟨_, _, e⟩ := row_form0 (uh HO)
    injection e
   generalize opAt ops k = o at *
   generalize codeAt cs k = c at *
   have hst : ∀ zs : List Value, zs.length = 26 → (storeBig 40 (.pointer (some ⟨wr.heap.size, 0, none⟩)) (.agg o.cells.toArray)).run Tryz.prog (wr.alloc (.cells zs.toArray 40)) = .ok .skip (wr.alloc (.cells o.cells.toArray 40)) := fun zs hz => run_store40 wr zs o.cells hz rfl (op_oneCell o)
   have hv1 : bigVal (wr.alloc (.cells o.cells.toArray 40)) wr.heap.size 0 26 = .agg o.cells.toArray := bigVal_new wr o.cells 40 26 rfl
   have hh1 : hasBig (wr.alloc (.cells o.cells.toArray 40)) wr.heap.size 0 26 = true := hasBig_new wr o.cells 40 26 rfl
   have o0 : o.cells[0]? = some (.int .i64 o.kind) := rfl
   have o1 : o.cells[1]? = some (.int .i64 o.id) := rfl
   have o2 : o.cells[2]? = some (.int .i64 o.a) := rfl
   have hgne : g < wr.heap.size := by have := (uh HK).size; omega
   have ca2 : (wr.alloc (.cells o.cells.toArray 40)).cell? ⟨g, k * 3, none⟩ = some (.int .i64 c) := ((Keeps.refl (fun _ => False) wr).alloc _).cell ca (fun h => h)
   have hk0 : (0 : Int) ≤ (k : Int) := by omega
   have hkn : (k : Int) < (n : Int) := by omega
   have hkm : (k : Int) < (m : Int) := by omega
   cases h0 : (o.kind == 2)
   ·have hx : ¬ o.kind = 2 := by simpa using h0
    have HH := hide (show itemsD ops cs id fr to (k + 1) = itemsD ops cs id fr to k by rw [uh HN, if_neg (fun h => hx h.1), List.append_nil])
    clear hx
    have HK2 := hide ((uh HK).alloc (.cells o.cells.toArray 40))
    have HO2 := hide (owns_keeps (uh HO) ((Keeps.refl (fun _ => False) wr).alloc (.cells o.cells.toArray 40)) (fun _ _ h => h))
    go_wp2_with fail
    go_roundw
    case rel => exact ⟨k + 1, _, _, _, by omega, by go_num, rfl, by show OwnS _ _ _ _; rw [uh HH]; exact uh HO2, HK2⟩
    case measure => simp [intOf]; omega
   ·skip
    cases h1 : (o.id == id)
    ·have hx : ¬ o.id = id := by simpa using h1
     have HH := hide (show itemsD ops cs id fr to (k + 1) = itemsD ops cs id fr to k by rw [uh HN, if_neg (fun h => hx h.2.1), List.append_nil])
     clear hx
     have HK2 := hide ((uh HK).alloc (.cells o.cells.toArray 40))
     have HO2 := hide (owns_keeps (uh HO) ((Keeps.refl (fun _ => False) wr).alloc (.cells o.cells.toArray 40)) (fun _ _ h => h))
     go_wp2_with fail
     go_roundw
     case rel => exact ⟨k + 1, _, _, _, by omega, by go_num, rfl, by show OwnS _ _ _ _; rw [uh HH]; exact uh HO2, HK2⟩
     case measure => simp [intOf]; omega
    ·skip
     cases h2 : (c == 0)
     ·have hx : ¬ c = 0 := by simpa using h2
      have HH := hide (show itemsD ops cs id fr to (k + 1) = itemsD ops cs id fr to k by rw [uh HN, if_neg (fun h => hx h.2.2.1), List.append_nil])
      clear hx
      have HK2 := hide ((uh HK).alloc (.cells o.cells.toArray 40))
      have HO2 := hide (owns_keeps (uh HO) ((Keeps.refl (fun _ => False) wr).alloc (.cells o.cells.toArray 40)) (fun _ _ h => h))
      go_wp2_with fail
      go_roundw
      case rel => exact ⟨k + 1, _, _, _, by omega, by go_num, rfl, by show OwnS _ _ _ _; rw [uh HH]; exact uh HO2, HK2⟩
      case measure => simp [intOf]; omega
     ·skip
      cases h3 : decide (fr < o.a)
      ·have hx : ¬ fr < o.a := by simpa using h3
       have HH := hide (show itemsD ops cs id fr to (k + 1) = itemsD ops cs id fr to k by rw [uh HN, if_neg (fun h => hx h.2.2.2.1), List.append_nil])
       clear hx
       have HK2 := hide ((uh HK).alloc (.cells o.cells.toArray 40))
       have HO2 := hide (owns_keeps (uh HO) ((Keeps.refl (fun _ => False) wr).alloc (.cells o.cells.toArray 40)) (fun _ _ h => h))
       go_wp2_with fail
       go_roundw
       case rel => exact ⟨k + 1, _, _, _, by omega, by go_num, rfl, by show OwnS _ _ _ _; rw [uh HH]; exact uh HO2, HK2⟩
       case measure => simp [intOf]; omega
      ·skip
       cases h4 : decide (o.a ≤ to)
       ·have hx : ¬ o.a ≤ to := by simpa using h4
        have HH := hide (show itemsD ops cs id fr to (k + 1) = itemsD ops cs id fr to k by rw [uh HN, if_neg (fun h => hx h.2.2.2.2), List.append_nil])
        clear hx
        have HK2 := hide ((uh HK).alloc (.cells o.cells.toArray 40))
        have HO2 := hide (owns_keeps (uh HO) ((Keeps.refl (fun _ => False) wr).alloc (.cells o.cells.toArray 40)) (fun _ _ h => h))
        go_wp2_with fail
        go_roundw
        case rel => exact ⟨k + 1, _, _, _, by omega, by go_num, rfl, by show OwnS _ _ _ _; rw [uh HH]; exact uh HO2, HK2⟩
        case measure => simp [intOf]; omega
       ·skip
        have HH := hide (show itemsD ops cs id fr to (k + 1) = itemsD ops cs id fr to k ++ [o] by rw [uh HN, if_pos ⟨by simpa using h0, by simpa using h1, by simpa using h2, by simpa using h3, by simpa using h4⟩])
        generalize itemsD ops cs id fr to k = A at *
        go_wp2_with (at_builtin; refine wpList_append_ops rfl _ _ rfl w.heap.size (.slice ad mm cp) A rfl (by exact owns_keeps (uh HO) (((Keeps.refl (fun _ => False) wr).alloc _).alloc _) (fun _ _ h => h)) _ [o] rfl (by exact blk_script (Blk.newAt (by simp) o.cells 40)) (by simp; omega) (by have := (uh HK).size; simp; omega) ?_; intro ad2 c2 w2 hown2 hk2 hat2)
        have HK2 := hide ((((uh HK).alloc (.cells o.cells.toArray 40)).alloc (.cells o.cells.toArray 40)).trans hk2 (fun i hi hlt => by have := ((uh HO).lt i hi).1; omega))
        go_roundw
        case rel => exact ⟨k + 1, _, _, _, by omega, by go_num, rfl, by show OwnS _ _ _ _; rw [uh HH]; exact hown2, HK2⟩
        case measure => simp [intOf]; omega
  ·have hkn : k = n := by omega
   subst hkn
   have hf : decide ((k : Int) < (k : Int)) = false := by simp
   go_wp2
   go_ret
   exact ⟨_, rfl, uh HO, uh HK⟩
end Go.Proofs.YtahnliehdjncdaaGreatDoor
namespace Go.Proofs.YtahnliehdjncdaaGreatDoor
theorem runM_at (s : WS) (ops : List OpM) (i : Nat) (o : OpM) (h : ops[i]? = some o) : (runM s ops)[i]? = some (stepM (endM s (ops.take i)) o).2 := by
 induction ops generalizing s i with
 | nil => simp at h
 | cons a l ih =>
  cases i with
  | zero =>
   have : a = o := by simpa using h
   subst this
   rfl
  | succ i =>
   have := ih (stepM s a).1 i (by simpa using h)
   simpa [runM, endM] using this
def codesOf (ops : List OpM) : List Int := (runM ws0 ops).map (·.1)
theorem codesOf_length (ops : List OpM) : (codesOf ops).length = ops.length := by simp [codesOf, runM_length]
theorem opAt_get {ops : List OpM} {i : Nat} (hi : i < ops.length) : ops[i]? = some (opAt ops i) := by
 simp [opAt, List.getD_eq_getElem?_getD, List.getElem?_eq_getElem hi]
theorem codeAt_is (ops : List OpM) (i : Nat) (hi : i < ops.length) : codeAt (codesOf ops) i = (stepM (endM ws0 (ops.take i)) (opAt ops i)).2.1 := by
 unfold codeAt codesOf
 rw [List.getD_eq_getElem?_getD, List.getElem?_map, runM_at ws0 ops i _ (opAt_get hi)]
 rfl
theorem take_opAt {ops : List OpM} {i : Nat} (hi : i < ops.length) : ops.take (i + 1) = ops.take i ++ [opAt ops i] := by
 rw [List.take_add_one, opAt_get hi]; rfl
theorem opAt_mem {ops : List OpM} {i : Nat} (hi : i < ops.length) : opAt ops i ∈ ops := List.mem_of_getElem? (opAt_get hi)
theorem clockD_is (ops : List OpM) (hok : OkRun ops) (n : Nat) (hn : n ≤ ops.length) : clockD ops (codesOf ops) n = (endM ws0 (ops.take n)).clock := by
 induction n with
 | zero => rfl
 | succ n ih =>
  have hi : n < ops.length := by omega
  rw [clockD_succ, ih (by omega), codeAt_is ops n hi, take_opAt hi, endM_snoc, step_clock _ _ (hok _ (opAt_mem hi))]
theorem configD_is (ops : List OpM) (hok : OkRun ops) (id : Int) (n : Nat) (hn : n ≤ ops.length) : configD ops (codesOf ops) id n = (findS (endM ws0 (ops.take n)).xs id).map (·.c) := by
 induction n with
 | zero => rfl
 | succ n ih =>
  have hi : n < ops.length := by omega
  rw [take_opAt hi, endM_snoc, step_cfg _ _ _ (hok _ (opAt_mem hi)), ← ih (by omega), ← codeAt_is ops n hi]
  rfl
end Go.Proofs.YtahnliehdjncdaaGreatDoor
namespace Go.Proofs.YtahnliehdjncdaaGreatDoor
open Go.RowKit
attribute [local go_sem ↓] execOp_load38 execOp_load40 execOp_build38 execOp_build40 execOp_bs22 execOp_store38
def cc : Cfg := ⟨1, 0, 9, 8, 1, 5, 0, 0, 0, 0, 0, 0, 0, 0, 0, 0, 0, 0, 0, 0⟩
def p1 : OpM := ⟨1, 7, 0, 0, 0, cc, noBytes⟩
def p4 : OpM := ⟨4, 7, 5, 0, 0, cz, noBytes⟩
def fourCells : List Value := p1.cells ++ (o2.cells ++ (o3.cells ++ p4.cells))
theorem run_c38 (w : World) : (buildBig 38 #[(0, .int .i64 1), (2, .int .i64 9), (3, .int .i64 8), (4, .int .i64 1), (5, .int .i64 5)]).run Tryz.prog w = .ok (.value (.agg cc.cells.toArray)) w := by kernel_rfl
theorem run_c1 (w : World) : (buildBig 40 #[(0, .int .i64 1), (1, .int .i64 7), (5, .agg cc.cells.toArray)]).run Tryz.prog w = .ok (.value (.agg p1.cells.toArray)) w := by kernel_rfl
theorem run_c4 (w : World) : (buildBig 40 #[(0, .int .i64 4), (1, .int .i64 7), (2, .int .i64 5)]).run Tryz.prog w = .ok (.value (.agg p4.cells.toArray)) w := by kernel_rfl
theorem run_cs (w : World) : (bsBig 22 4 #[(0, .agg p1.cells.toArray), (1, .agg o2.cells.toArray), (2, .agg o3.cells.toArray), (3, .agg p4.cells.toArray)]).run Tryz.prog w =
  .ok (.value (.slice (some ⟨w.heap.size, 0, none⟩) 4 4)) (w.alloc (.cells fourCells.toArray 40)) := by kernel_rfl
attribute [local go_sem] run_load38 run_load40 bigVal_drew hasBig_drew bigVal_ne hasBig_ne bigVal_alloc hasBig_alloc run_c38 run_c1 run_b2 run_b3 run_c4 run_cs
end Go.Proofs.YtahnliehdjncdaaGreatDoor
