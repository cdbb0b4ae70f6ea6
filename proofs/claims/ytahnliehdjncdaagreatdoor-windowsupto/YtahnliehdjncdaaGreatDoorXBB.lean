import Derived.Deep.OwnRows
import Derived.Test.YtahnliehdjncdaaGreatDoorXAV
import Derived.Laws.MakeOwn
import Derived.Test.YtahnliehdjncdaaGreatDoorXAY
import Derived.Test.YtahnliehdjncdaaGreatDoorXBA
import Derived.Deep.LoopGhost
set_option maxRecDepth 100000
set_option maxHeartbeats 16000000
namespace Go.Proofs.YtahnliehdjncdaaGreatDoor
open Go.RowKit
attribute [local go_sem ↓] execOp_load38 execOp_load40
attribute [local go_sem] run_load38 run_load40 bigVal_drew hasBig_drew bigVal_ne hasBig_ne bigVal_new hasBig_newB
theorem infoPM : (Tryz.prog.info? 219).map (fun i => (i.zero, i.size, i.bytes)) = some (some (.pointer none), 1, 8) := by kernel_rfl
def buildD (ty : TypeId) (ps : Array (Nat × Value)) : Sem Next := do pure (.value (← Instr.build ty ps))
theorem execOp_buildD (ρ : Operand → Value) (dst : Option Tmp) (x : Array (Nat × Operand)) (ty : TypeId) (pos : String) (after : Array Edge) (guard : Option (Nat × Bool)) :
  execOp ρ { dst, op := .build 225 x, type := ty, pos, after, guard } = buildD 225 (x.map fun (i, y) => (i, ρ y)) := rfl
theorem run_buildD (c : Cfg) (rg n : Nat) (w : World) :
  (buildD 225 #[(0, .agg c.cells.toArray), (1, .slice (some ⟨rg, 0, none⟩) n n)]).run Tryz.prog w = .ok (.value (.agg (disCells c rg n).toArray)) w := by kernel_rfl
attribute [local go_sem ↓] execOp_buildD
attribute [local go_sem] run_buildD
theorem made_list (z : Value) (n : Nat) : (madeCells #[z] n).toList = List.replicate n z := by
 apply List.ext_getElem?
 intro j
 by_cases h : j < n
 ·simp [madeCells, h, Nat.mod_one]
 ·simp [madeCells, h]
theorem ptrs_next (qs : List (Nat × Option Nat)) (n k q : Nat) (hk : qs.length = k) (hkn : k < n) : (ptrsQ qs ++ List.replicate (n - k) (Value.pointer none)).set k (.pointer (some ⟨q, 0, none⟩)) = ptrsQ (qs ++ [(q, none)]) ++ List.replicate (n - (k + 1)) (.pointer none) := by
 obtain ⟨r, hr⟩ : ∃ r, n - k = r + 1 := ⟨n - k - 1, by omega⟩
 have hl : (ptrsQ qs).length = k := by simp [ptrsQ, hk]
 rw [hr, show n - (k + 1) = r by omega, List.set_append_right _ _ (by omega), hl, Nat.sub_self, List.replicate_succ, List.set_cons_zero]
 simp [ptrsQ]
theorem qAt_append (qs : List (Nat × Option Nat)) (p : Nat × Option Nat) (j : Nat) : qAt (qs ++ [p]) j = if j < qs.length then qAt qs j else if j = qs.length then p else (0, none) := by
 unfold qAt
 simp only [List.getD_eq_getElem?_getD]
 by_cases h : j < qs.length
 ·simp [h, List.getElem?_append_left h]
 ·by_cases h2 : j = qs.length
  ·subst h2; simp
  ·rw [List.getElem?_eq_none (by simp; omega), if_neg h, if_neg h2]; rfl
theorem newDistinct_any (c : Cfg) (n : Nat) (w : World) (b0 : 0 ≤ c.bits) (b1 : c.bits ≤ 4) (hn : 2 ^ c.bits.toNat = n) :
  Calls Tryz.prog 165 #[c.val] w fun e w' => ∃ d rg qs, e = .returned (.pointer (some ⟨d, 0, none⟩)) ∧ w.heap.size ≤ d ∧ w.heap.size ≤ rg ∧ (∀ i a, i < qs.length → qf (qAt qs i) a → w.heap.size ≤ a) ∧ qs.length = n ∧ DRep w' d rg qs c (fun _ => []) ∧ Keeps (fun _ => False) w w' := by
 obtain ⟨W, hW⟩ : ∃ W, W = w.alloc (.cells c.cells.toArray 38) := ⟨_, rfl⟩
 have HKW := hide (show Keeps (fun _ => False) w W by rw [hW]; exact (Keeps.refl _ _).alloc _)
 have hcW : Blk W w.heap.size c.cells 38 := by rw [hW]; exact Blk.new w _ _
 have HW0 := hide hW
 clear hW
 have c6 : W.cell? ⟨w.heap.size, 6, none⟩ = some (.int .i64 c.bits) := hcW.cell rfl
 have HCW := hide hcW
 have hnI : (2 : Int) ^ c.bits.toNat = (n : Int) := by rw [← hn]; simp
 have hn16 : n ≤ 16 := by
  rw [← hn]
  have := Nat.pow_le_pow_right (n := 2) (by omega) (show c.bits.toNat ≤ 4 by omega)
  simpa using this
 have hn1 : 1 ≤ n := by rw [← hn]; exact Nat.one_le_two_pow
 have hwn : wrap64 (n : Int) = (n : Int) := by unfold wrap64; omega
 have hmk := fun W => run_make_row' (P := Tryz.prog) 218 219 (.pointer none) 8 Tryz.underlying218 infoPM rfl .i64 .i64 n (by omega) (by omega) W
 clear hcW hn
 unfold Cfg.val
 go_enter Tryz.func165, Tryz.ntmps165
 go_wp2_with fail
 rw [show w.alloc (.cells #[.int .i64 c.kind, .int .i64 c.lag, .int .i64 c.skew, .int .i64 c.cap, .int .i64 c.k, .int .i64 c.window, .int .i64 c.bits, .int .i64 c.rows, .int .i64 c.width, .int .i64 c.panes, .int .i64 c.size, .int .i64 c.degree, .int .i64 c.half, .int .i64 c.mark, .int .i64 c.s00, .int .i64 c.s01, .int .i64 c.s10, .int .i64 c.s11, .int .i64 c.s20, .int .i64 c.s21] 38) = W from (uh HW0).symm]
 have HB1 := hide (show Blk (W.alloc (.cells (madeCells #[.pointer none] n) 219)) W.heap.size (ptrsQ [] ++ List.replicate (n - 0) (.pointer none)) 219 by
    have := Blk.new W (madeCells #[.pointer none] n).toList 219
    rw [Array.toArray_toList] at this
    rw [made_list] at this
    exact this)
 have HWS := hide (show W.heap.size = w.heap.size + 1 by rw [uh HW0]; simp)
 rw [uh HWS] at HB1
 have HK1 := hide ((uh HKW).alloc (.cells (madeCells #[.pointer none] n) 219))
 have HC1 := hide ((uh HCW).alloc (.cells (madeCells #[.pointer none] n) 219))
 generalize W.alloc (.cells (madeCells #[.pointer none] n) 219) = W1 at *
 generalize hcb : w.heap.size = cb at *
 have HCB := hide hcb
 clear hcb hmk c6
 go_loopw [11] (fun i wr => ∃ (k : Nat) (qs : List (Nat × Option Nat)), i = .int .i64 k ∧ k ≤ n ∧ Hid (qs.length = k) ∧ Hid (Blk wr (cb + 1) (ptrsQ qs ++ List.replicate (n - k) (.pointer none)) 219) ∧ Hid (Blk wr cb c.cells 38) ∧
     Hid (∀ j, j < k → (qAt qs j).2 = none ∧ cb + 1 < (qAt qs j).1 ∧ Mk.RowRep wr (qAt qs j).1 none []) ∧ Hid (∀ i j, i < k → j < k → (qAt qs i).1 = (qAt qs j).1 → i = j) ∧ Hid (Keeps (fun _ => False) w wr)) (fun i _ => n - (intOf i).toNat)
 case atStart => exact ⟨0, [], rfl, Nat.zero_le _, rfl, HB1, HC1, fun j hj => by omega, fun i j hi => by omega, HK1⟩
 case round =>
  obtain ⟨k, qs, rfl, hk, HQL, HBr, HCr, HRr, HDr, HKr⟩ := hrel
  have hk0 : (0 : Int) ≤ (k : Int) := by omega
  have hbf := (uh HBr).frozen
  by_cases hlt : k < n
  ·have hkn : (k : Int) < (n : Int) := by omega
   go_wp2_with fail
   refine (Mk.rowNew_any wr).mono ?_
   rintro e W2 ⟨rfl, hr2, hk2, hz2⟩
   have hb2 := (uh HBr).keeps hk2 (fun h => h)
   have hcell : W2.cell? ⟨cb + 1, k, none⟩ = some (.pointer none) := hb2.cell (by
      have hl : (ptrsQ qs).length = k := by simp [ptrsQ, uh HQL]
      rw [List.getElem?_append_right (by omega), hl, Nat.sub_self, List.getElem?_replicate, if_pos (by omega)])
   have hf2 := hb2.frozen
   have HB2 := hide hb2
   have HR2 := hide hr2
   have HK2 := hide hk2
   have HZ := hide (show cb + 1 < wr.heap.size from (uh HBr).lt)
   clear hb2 hr2 hk2
   go_wp2
   have HKS := hide ((Keeps.refl (fun a => a = cb + 1) W2).setCell (p := ⟨cb + 1, k, none⟩) (Or.inl rfl) (.pointer (some ⟨wr.heap.size, 0, none⟩)))
   refine ⟨⟨k + 1, qs ++ [(wr.heap.size, none)], by go_num, by omega, ?_, ?_, ?_, ?_, ?_, ?_⟩, by simp [intOf]; omega⟩
   ·show _ = _; simp [uh HQL]
   ·show Blk _ _ _ _
    rw [← ptrs_next qs n k wr.heap.size (uh HQL) hlt]
    exact (uh HB2).setCell k _
   ·exact ((uh HCr).keeps (uh HK2) (fun h => h)).keeps (uh HKS) (by omega)
   ·intro j hj
    rw [qAt_append, uh HQL]
    by_cases h1 : j < k
    ·rw [if_pos h1]
     obtain ⟨a1, a2, a3⟩ := uh HRr j h1
     exact ⟨a1, a2, (a3.still (uh HK2)).keeps (uh HKS) (by omega) (fun _ h => by cases h)⟩
    ·rw [if_neg h1, if_pos (show j = k by omega)]
     refine ⟨rfl, uh HZ, ?_⟩
     have := uh HZ
     exact (uh HR2).keeps (uh HKS) (fun h => by have h' : wr.heap.size = cb + 1 := h; omega) (fun _ h => by cases h)
   ·intro i j hi hj h
    rw [qAt_append, qAt_append, uh HQL] at h
    by_cases h1 : i < k <;> by_cases h2 : j < k
    ·rw [if_pos h1, if_pos h2] at h; exact uh HDr i j h1 h2 h
    ·rw [if_pos h1, if_neg h2, if_pos (show j = k by omega)] at h
     have := (uh HRr i h1).2.2.lt.1
     have h' : (qAt qs i).1 = wr.heap.size := h
     omega
    ·rw [if_neg h1, if_pos h2, if_pos (show i = k by omega)] at h
     have := (uh HRr j h2).2.2.lt.1
     have h' : wr.heap.size = (qAt qs j).1 := h
     omega
    ·omega
   ·exact ((uh HKr).then (uh HK2)).trans (uh HKS) (fun i hi hlt => by have := uh HCB; omega)
  ·have hkn : k = n := by omega
   subst hkn
   have hkf : decide ((k : Int) < (k : Int)) = false := by simp
   obtain ⟨hv, hh⟩ := bigVal_Blk (uh HCr) 20 rfl
   go_wp2
   go_ret
   have hcb := uh HCB
   have hql := uh HQL
   have hlt := (uh HBr).lt
   have hBr : Blk wr (cb + 1) (ptrsQ qs) 219 := by have := uh HBr; rw [Nat.sub_self] at this; simpa using this
   have hq : ∀ i a, i < qs.length → qf (qAt qs i) a → a = (qAt qs i).1 := fun i a hi h => by
    rcases h with h | h
    ·exact h
    ·rw [(uh HRr i (by omega)).1] at h; cases h
   have hka : ∀ O, Keeps (fun _ => False) wr (wr.alloc O) := fun O => (Keeps.refl (fun _ => False) wr).alloc O
   refine ⟨wr.heap.size, cb + 1, qs, rfl, ?_, ?_, ?_, hql, ⟨?_, ?_, ?_, ?_, ?_, ?_⟩, ?_⟩
   ·omega
   ·omega
   ·intro i a hi h
    have h1 := hq i a hi h
    have h2 := (uh HRr i (by omega)).2.1
    omega
   ·rw [hql]; exact Blk.new wr (disCells c (cb + 1) k) 225
   ·exact hBr.keeps (hka _) (fun h => h)
   ·intro i hi
    obtain ⟨a1, a2, a3⟩ := uh HRr i (by omega)
    rw [a1]; exact a3.still (hka _)
   ·intro i j a hi hj h1 h2
    exact uh HDr i j (by omega) (by omega) ((hq i a hi h1).symm.trans (hq j a hj h2))
   ·intro i hi
    obtain ⟨a1, a2, a3⟩ := uh HRr i (by omega)
    have := a3.lt.1
    exact ⟨fun h => by have := hq i _ hi h; omega, fun h => by have := hq i _ hi h; omega⟩
   ·omega
   ·exact (uh HKr).alloc _
def disRelV (d : Nat) : Value := .func (.func 166) #[.pointer (some ⟨d, 0, none⟩)] #[]
def disLodV (d : Nat) : Value := .func (.func 170) #[.pointer (some ⟨d, 0, none⟩)] #[]
def disSavV (d : Nat) : Value := .func (.func 169) #[.pointer (some ⟨d, 0, none⟩)] #[]
def disQryV (d : Nat) : Value := .func (.func 167) #[.pointer (some ⟨d, 0, none⟩)] #[]
def noSwpV : Value := .func (.func 168) #[] #[]
theorem startDistinct_any (c : Cfg) (n : Nat) (w : World) (b0 : 0 ≤ c.bits) (b1 : c.bits ≤ 4) (hn : 2 ^ c.bits.toNat = n) :
  Calls Tryz.prog 126 #[c.val] w fun e w' => ∃ d rg qs, e = .returned (.agg #[disRelV d, disQryV d, noSwpV, disSavV d, disLodV d]) ∧ w.heap.size ≤ d ∧ w.heap.size ≤ rg ∧ (∀ i a, i < qs.length → qf (qAt qs i) a → w.heap.size ≤ a) ∧ qs.length = n ∧ DRep w' d rg qs c (fun _ => []) ∧ Keeps (fun _ => False) w w' := by
 obtain ⟨W, hW⟩ : ∃ W, W = (w.alloc (.cells c.cells.toArray 38)).alloc (.cells #[.nilFunc, .nilFunc, .nilFunc, .nilFunc, .nilFunc] 100) := ⟨_, rfl⟩
 have HT := hide (show Blk W (w.heap.size + 1) [.nilFunc, .nilFunc, .nilFunc, .nilFunc, .nilFunc] 100 by rw [hW]; exact Blk.newAt (by simp) _ _)
 have HK := hide (show Keeps (fun _ => False) w W by rw [hW]; exact ((Keeps.refl (fun _ => False) w).alloc _).alloc _)
 have HW := hide hW
 have HN := hide (newDistinct_any c n W b0 b1 hn)
 clear hW hn
 unfold Cfg.val at *
 go_enter Tryz.func126, Tryz.ntmps126
 go_wp2_with fail
 rw [show (w.alloc (.cells #[.int .i64 c.kind, .int .i64 c.lag, .int .i64 c.skew, .int .i64 c.cap, .int .i64 c.k, .int .i64 c.window, .int .i64 c.bits, .int .i64 c.rows, .int .i64 c.width, .int .i64 c.panes, .int .i64 c.size, .int .i64 c.degree, .int .i64 c.half, .int .i64 c.mark, .int .i64 c.s00, .int .i64 c.s01, .int .i64 c.s10, .int .i64 c.s11, .int .i64 c.s20, .int .i64 c.s21] 38)).alloc (.cells #[.nilFunc, .nilFunc, .nilFunc, .nilFunc, .nilFunc] 100) = W from (uh HW).symm]
 generalize hcb : w.heap.size = cb at *
 have HCB := hide hcb
 clear hcb
 refine (uh HN).mono ?_
 rintro e w2 ⟨d, rg, qs, rfl, hd, hrg, hqs, hql, hc2, hk2⟩
 have HC2 := hide hc2
 have HT2 := hide ((uh HT).keeps hk2 (fun h => h))
 have HK2 := hide ((uh HK).then hk2)
 have HSZ := hide (uh HK).size
 have HLT := hide (uh HT).lt
 have HQS := hide hqs
 have HQL := hide hql
 clear hc2 hk2 HT HK HN hqs hql
 have f0 := (uh HT2).frozen
 have q0 : w2.cell? ⟨cb + 1, 0, none⟩ = some .nilFunc := (uh HT2).cell rfl
 have q1 : w2.cell? ⟨cb + 1, 1, none⟩ = some .nilFunc := (uh HT2).cell rfl
 have q2 : w2.cell? ⟨cb + 1, 2, none⟩ = some .nilFunc := (uh HT2).cell rfl
 have q3 : w2.cell? ⟨cb + 1, 3, none⟩ = some .nilFunc := (uh HT2).cell rfl
 have q4 : w2.cell? ⟨cb + 1, 4, none⟩ = some .nilFunc := (uh HT2).cell rfl
 go_wp2
 have hcb := uh HCB
 have hsz := uh HSZ
 have hkf : Keeps (fun i => i = cb + 1) w2 (((((w2.setCell ⟨cb + 1, 0, none⟩ (disRelV d)).setCell ⟨cb + 1, 1, none⟩ (disQryV d)).setCell ⟨cb + 1, 2, none⟩ noSwpV).setCell ⟨cb + 1, 3, none⟩ (disSavV d)).setCell ⟨cb + 1, 4, none⟩ (disLodV d)) := (((((Keeps.refl (fun i => i = cb + 1) w2).setCell (p := ⟨cb + 1, 0, none⟩) (Or.inl rfl) _).setCell (p := ⟨cb + 1, 1, none⟩) (Or.inl rfl) _).setCell (p := ⟨cb + 1, 2, none⟩) (Or.inl rfl) _).setCell (p := ⟨cb + 1, 3, none⟩) (Or.inl rfl) _).setCell (p := ⟨cb + 1, 4, none⟩) (Or.inl rfl) _
 refine bodyPost_ret (v := .agg #[disRelV d, disQryV d, noSwpV, disSavV d, disLodV d]) (by simp [results, Tryz.results126, go_sem, q0, q1, q2, q3, q4, disRelV, disQryV, noSwpV, disSavV, disLodV]) rfl ⟨d, rg, qs, rfl, by omega, by omega, fun i a hi h => by have := uh HQS i a hi h; omega, uh HQL, ?_, ?_⟩
 ·exact (uh HC2).keeps hkf (fun h => by have := uh HLT; omega) (fun h => by have := uh HLT; omega) (fun i a hi h1 h2 => by have := uh HQS i a hi h1; have := uh HLT; omega)
 ·exact (uh HK2).trans hkf (fun i hi hlt => by omega)
end Go.Proofs.YtahnliehdjncdaaGreatDoor
namespace Go.Proofs.YtahnliehdjncdaaGreatDoor.Dr
open Go.RowKit
def Own (w : World) (base : Nat) (v : Value) (l : List It) : Prop := w.ownsRow base 251 5 v l.length (flat l)
theorem Own.keeps {M : Nat → Prop} {w w' : World} {base : Nat} {v : Value} {l : List It} (h : Own w base v l) (hk : Keeps M w w') (hn : ∀ i, v.ownBlock = some i → ¬ M i) : Own w' base v l := by
 rcases h.2 with ⟨h1, h2⟩ | ⟨g, cap, cur, h1, h2, h3, h4⟩
 ·exact ⟨h.1, .inl ⟨h1, h2⟩⟩
 ·refine ⟨h.1, .inr ⟨g, cap, cur, h1, h2, ?_, h4⟩⟩
  have hlt : g < w.heap.size := (Array.getElem?_eq_some_iff.1 h3).1
  rw [hk.block g hlt (hn g (by rw [h1]; simp [Value.ownBlock]))]
  exact h3
theorem Own.base {w : World} {base : Nat} {v : Value} {l : List It} (h : Own w base v l) (i : Nat) (hi : v.ownBlock = some i) : base ≤ i := by
 rcases h.2 with ⟨h1, _⟩ | ⟨g, cap, cur, h1, h2, _⟩
 ·rw [h1] at hi; simp [Value.ownBlock] at hi
 ·rw [h1] at hi
  have : g = i := by simpa [Value.ownBlock] using hi
  omega
theorem flat_one (l : List It) : ∀ u ∈ flat l, u.oneCell' = true := by
 induction l with
 | nil => simp [flat]
 | cons x l ih =>
  intro u hu
  simp only [flat, List.mem_cons] at hu
  rcases hu with rfl | rfl | rfl | rfl | rfl | hu
  ·rfl
  ·rfl
  ·rfl
  ·rfl
  ·rfl
  ·exact ih u hu
theorem wpList_append_tks {w : World} {ops : Array Oper} {rest : List Oper} {o : Oper} {a : Act} {Q : Exit → Act → World → Prop} (hgd : o.guard = none) (s x : Operand)
  (ho : o.op = .call { callee := .builtin .append, args := #[s, x], argTypes := #[258, 258] })
  (base : Nat) (v : Value) (A : List It) (k : Nat) (hk : A.length = k) (hs : a.eval s = v) (hown : Own w base v A) (sb m c : Nat) (B : List It) (hm : B.length = m) (hx : a.eval x = .slice (some ⟨sb, 0, none⟩) m c) (hB : ∀ j u, (flat B)[j]? = some u → w.cell? ⟨sb, j, none⟩ = some u)
  (hpos : 0 < m) (hlen : k + m ≤ 100000) (hbase : base ≤ w.heap.size)
  (h : ∀ g c' w1, Own w1 base (.slice (some ⟨g, 0, none⟩) (k + m) c') (A ++ B) → Keeps (fun i => v.ownBlock = some i) w w1 → (v.ownBlock = some g ∨ w.heap.size ≤ g) → wpList Tryz.prog ops Q rest (a.put o.dst (.slice (some ⟨g, 0, none⟩) (k + m) c')) w1) : wpList Tryz.prog ops Q (o :: rest) a w := by
 obtain ⟨i0, hi0, hz0, hz1, hz2⟩ := info_parts info72
 subst hk hm
 refine wpList_append_lies w hgd s x 258 ho base 251 i0 _ 5 40 Tryz.underlying258 hi0 hz0 hz1 hz2 (by rfl) (by omega) v A.length (flat A) hs hown ⟨sb, 0, none⟩ B.length c (flat B) hx (flat_length B) ?_ (flat_one B) hpos (by unfold maxLen; omega) (by omega) hbase w.heap.size rfl ?_
 ·intro j u hu
  rw [Addr.add_lit, Nat.zero_add]
  exact hB j u hu
 ·intro g c' w' hown' hgrow hat hlt'
  refine h g c' w' ?_ ⟨hgrow.os, hgrow.tape, hgrow.output, hgrow.size, fun k hk hn => hgrow.block k hk (fun h => hn h.symm)⟩ ?_
  ·show w'.ownsRow base 251 5 _ (A ++ B).length (flat (A ++ B))
   rw [flat_append, List.length_append]; exact hown'
  ·rcases hat with h1 | h1
   ·exact .inl h1
   ·exact .inr (by omega)
theorem Own.row {w : World} {base g n c : Nat} {l : List It} (_ : l.length = n) (h : Own w base (.slice (some ⟨g, 0, none⟩) n c) l) : IRow w g c l ∧ base ≤ g := by
 rcases h.2 with ⟨h1, _⟩ | ⟨g', cap', cur, h1, h2, h3, h4, h5, h6, h7⟩
 ·cases h1
 ·cases h1
  exact ⟨⟨⟨cur.toList, by unfold Blk; simpa using h3, by simpa using h6, h7⟩, h4, h5⟩, h2⟩
theorem eqNil_no (g n cap : Nat) (w : World) : (binOp BinOp.eql 258 (.slice (some ⟨g, 0, none⟩) n cap) (.slice none 0 0)).run Tryz.prog w = .ok (.bool false) w := by kernel_rfl
theorem eqNil_yes (w : World) : (binOp BinOp.eql 258 (.slice none 0 0) (.slice none 0 0)).run Tryz.prog w = .ok (.bool true) w := by kernel_rfl
attribute [local go_sem] eqNil_no eqNil_yes
theorem cloneNil_any (w : World) :
  Calls Tryz.prog 256 #[.slice none 0 0] w fun e w' => e = .returned (.slice none 0 0) ∧ w' = w := by
 go_enter Tryz.func256, Tryz.ntmps256
 go_wp2
 go_ret
 exact ⟨rfl, rfl⟩
theorem clone_any (g cap : Nat) (l : List It) (w : World) (h : IRow w g cap l) (hl : l.length ≤ 1000) :
  Calls Tryz.prog 256 #[.slice (some ⟨g, 0, none⟩) l.length cap] w fun e w' => ∃ g' c', e = .returned (.slice (some ⟨g', 0, none⟩) l.length c') ∧ w.heap.size ≤ g' ∧ IRow w' g' c' l ∧ Keeps (fun _ => False) w w' := by
 obtain ⟨n, hn⟩ : ∃ n, n = l.length := ⟨_, rfl⟩
 have HR := hide h
 have HN := hide hn
 rw [← hn] at hl ⊢
 obtain ⟨i0, hi0, hz0, hz1, hz2⟩ := info_parts info72
 clear hn h
 have HE := hide (show Own (w.alloc (.cells #[] 251)) w.heap.size (.slice (some ⟨w.heap.size, 0, none⟩) 0 0) [] from
    ⟨rfl, .inr ⟨w.heap.size, 0, #[], rfl, Nat.le_refl _, heap_alloc_new w _, Nat.le_refl _, Nat.zero_le _, rfl, rfl⟩⟩)
 have HK := hide ((Keeps.refl (fun _ => False) w).alloc (.cells #[] 251))
 by_cases h0 : n = 0
 ·subst h0
  have HL := hide (show l = [] from List.length_eq_zero_iff.1 (uh HN).symm)
  go_enter Tryz.func256, Tryz.ntmps256
  go_wp2_with (at_builtin; refine wpList_append_zero rfl _ _ 258 rfl w.heap.size 251 i0 5 Tryz.underlying258 hi0 _ 0 [] rfl (uh HE) (some ⟨g, 0, none⟩) cap rfl ?_)
  go_ret
  refine ⟨w.heap.size, 0, rfl, Nat.le_refl _, ?_, uh HK⟩
  rw [uh HL]; exact (Own.row rfl (uh HE)).1
 ·have HC := hide (show ∀ j u, (flat l)[j]? = some u → (w.alloc (.cells #[] 251)).cell? ⟨g, j, none⟩ = some u from fun j u hu => by
     obtain ⟨cur, hb, hl, ht⟩ := (uh HR).ex
     refine (uh HK).cell (hb.cell ?_) (fun h => h)
     have hj : j < l.length * 5 := by have := (List.getElem?_eq_some_iff.1 hu).1; rwa [flat_length] at this
     rw [← ht, List.getElem?_take, if_pos hj] at hu
     exact hu)
  have hpos : 0 < n := by omega
  go_enter Tryz.func256, Tryz.ntmps256
  go_wp2_with (at_builtin; refine wpList_append_tks rfl _ _ rfl w.heap.size _ [] 0 rfl rfl (uh HE) g n cap l (uh HN).symm rfl (uh HC) hpos (by omega) (by simp) ?_; intro g2 c2 W2 hown2 hk2 hat2)
  have how := Own.row (by have := uh HN; simp; omega) hown2
  have HO := hide how.1
  have HG := hide how.2
  have HK2 := hide (((uh HK).trans hk2 (fun i hi hlt => by
         have hi' : (Value.slice (some ⟨w.heap.size, 0, none⟩) 0 0).ownBlock = some i := hi
         have : w.heap.size = i := by simpa [Value.ownBlock] using hi'
         omega)))
  clear how hown2 hk2 hat2
  go_wp2
  go_ret
  exact ⟨g2, c2, rfl, uh HG, uh HO, uh HK2⟩
def allL : Nat → List It → List It
 | 0, _ => []
 | f + 1, l => if l.length = 0 then [] else itAt l 0 :: allL f (takeL l)
theorem takeL_length (l : List It) : (takeL l).length = l.length - 1 := by
 unfold takeL
 rw [sinkL_length]
 simp
end Go.Proofs.YtahnliehdjncdaaGreatDoor.Dr
namespace Go.Proofs.YtahnliehdjncdaaGreatDoor.Dr
open Go.RowKit
theorem qLen_is (q : Nat) (og : Option Nat) (l : List It) (n : Int) (w : World) (h : QRep w q og l) (hn : (l.length : Int) = n) :
  Calls Tryz.prog 230 #[.pointer (some ⟨q, 0, none⟩)] w fun e w' => e = .returned (.int .i64 n) ∧ w' = w :=
 (len_any q og l w h).mono fun _ _ ⟨he, hw⟩ => ⟨by rw [he, hn], hw⟩
theorem take_is (q g : Nat) (l : List It) (x : It) (w : World) (h : QRep w q (some g) l) (hl : l.length ≤ 900) (hl0 : 0 < l.length) (hx : itAt l 0 = x) :
  Calls Tryz.prog 231 #[.pointer (some ⟨q, 0, none⟩)] w fun e w' => e = .returned (.tuple #[.agg #[.int .i64 x.t, .int .i64 x.k, .int .i64 x.d, .int .i64 x.n, .int .i64 x.v], .bool true]) ∧ QRep w' q (some g) (takeL l) ∧ Keeps (fun k => k = q ∨ k = g) w w' :=
 (take_any q g l w h hl hl0).mono fun _ _ ⟨he, hw⟩ => ⟨by rw [he, hx]; rfl, hw⟩
theorem all_some (q g : Nat) (l : List It) (w : World) (h : QRep w q (some g) l) (hl : l.length ≤ 900) :
  Calls Tryz.prog 232 #[.pointer (some ⟨q, 0, none⟩)] w fun e w' => ∃ g cp, e = .returned (.slice (some ⟨g, 0, none⟩) l.length cp) ∧ w.heap.size ≤ g ∧ IRow w' g cp (allL (l.length + 1) l) ∧ (allL (l.length + 1) l).length = l.length ∧ Keeps (fun _ => False) w w' := by
 obtain ⟨n, hn⟩ : ∃ n, n = l.length := ⟨_, rfl⟩
 obtain ⟨i0, hi0, hz0, hz1, hz2⟩ := info_parts info72
 have HN := hide hn
 have HQ := hide h
 rw [← hn] at hl ⊢
 obtain ⟨hne, cap, hb, hr⟩ := h
 have hq0 : w.cell? ⟨q, 0, none⟩ = some (.func (.func 228) #[] #[]) := hb.cell rfl
 have hq1 : w.cell? ⟨q, 1, none⟩ = some (.slice (some ⟨g, 0, none⟩) n cap) := by rw [hn]; exact hb.cell rfl
 have HCL := hide (show ∀ W, Keeps (fun _ => False) w W → Calls Tryz.prog 256 #[.slice (some ⟨g, 0, none⟩) n cap] W fun e w' => ∃ g1 c1, e = .returned (.slice (some ⟨g1, 0, none⟩) n c1) ∧ W.heap.size ≤ g1 ∧ IRow w' g1 c1 l ∧ Keeps (fun _ => False) W w' from fun W hW => by
    rw [hn]; exact clone_any g cap l W (hr.keeps hW (fun h => h)) (by omega))
 clear hb hr hn
 go_enter Tryz.func232, Tryz.ntmps232
 go_wp2_with fail
 go_region_held3 (fun w' => w'.cell? ⟨q, 0, none⟩ = some (.func (.func 228) #[] #[]) ∧ w'.cell? ⟨q, 1, none⟩ = some (.slice (some ⟨g, 0, none⟩) n cap))
  (first | (go_split_ands; exact ⟨by assumption, by assumption⟩) | (go_split_ands; exact ⟨((Keeps.refl (fun _ => False) _).alloc _).cell (by assumption) (fun h => h), ((Keeps.refl (fun _ => False) _).alloc _).cell (by assumption) (fun h => h)⟩) | (go_split_ands; exact ⟨hka.cell (by assumption) (fun h => h), hka.cell (by assumption) (fun h => h)⟩))
  (first | (go_at_call 256; refine (uh HCL _ (by exact (Keeps.refl _ _).drew)).mono ?_; rintro e W1 ⟨g1, c1, rfl, hg1, hrow, hka⟩))
 have HK1 := hide (((Keeps.refl (fun _ => False) w).drew).then hka)
 have HG1 := hide (show w.heap.size ≤ g1 from hg1)
 have HZ1 := hide (uh HK1).size
 have HGL := hide hrow.lt
 have HROW := hide hrow
 clear hrow hka HCL hg1
 obtain ⟨W2, hW2⟩ : ∃ W2, W2 = W1.alloc (.cells #[.func (.func 228) #[] #[], .slice (some ⟨g1, 0, none⟩) n c1] 282) := ⟨_, rfl⟩
 have HB2 := hide (show Blk W2 W1.heap.size [aheadV, .slice (some ⟨g1, 0, none⟩) n c1] 282 by rw [hW2]; exact Blk.new W1 _ _)
 have HA2 := hide (show Keeps (fun _ => False) W1 W2 by rw [hW2]; exact (Keeps.refl (fun _ => False) W1).alloc _)
 have HW2 := hide hW2
 clear hW2
 have HQR := hide (show QRep W2 W1.heap.size (some g1) l from ⟨by have := uh HGL; omega, c1, by rw [← uh HN]; exact uh HB2, (uh HROW).keeps (uh HA2) (fun h => h)⟩)
 have HK2 := hide ((uh HK1).then (uh HA2))
 obtain ⟨wm, hmk, hown, hgr⟩ := run_make_own (P := Tryz.prog) W2 w.heap.size 258 251 i0 _ 5 Tryz.underlying258 hi0 hz0 hz1 .i64 .i64 n (by rw [hz2]; omega) (by unfold maxLen; omega) (uh HK2).size
 have HKM := hide (show Keeps (fun _ => False) W2 wm from (Keeps.refl (fun _ => False) W2).grown hgr (fun k hk => by cases hk))
 have HOM := hide (show Own wm w.heap.size (.slice (some ⟨W2.heap.size, 0, none⟩) 0 n) [] from hown)
 clear hown hgr
 go_wp2_with fail
 rw [show W1.alloc (.cells #[.func (.func 228) #[] #[], .slice (some ⟨g1, 0, none⟩) n c1] 282) = W2 from (uh HW2).symm]
 refine (qLen_is q (some g) l n W2 ((uh HQ).keeps (uh HK2) (fun h => h) (fun _ _ h => h)) (by rw [uh HN])).mono ?_
 rintro e w' ⟨rfl, hw'⟩
 rw [hw']
 clear hw' w'
 have HRB := hide (show W1.heap.size < W2.heap.size from (uh HB2).lt)
 have HGB := hide (show g1 < W2.heap.size from ((uh HQR).lt.2 g1 rfl).1)
 have HRG := hide (show W1.heap.size ≠ g1 from ((uh HQR).lt.2 g1 rfl).2)
 have HRBW := hide (show w.heap.size ≤ W1.heap.size from uh HZ1)
 generalize hrb : W1.heap.size = rb at *
 generalize hga : W2.heap.size = ga0 at *
 go_wp2_with fail
 go_loopg [4] (n) (fun gk v wr => ∃ (m dn : List It) (ga cp : Nat), v = .slice (some ⟨ga, 0, none⟩) dn.length cp ∧ Hid (m.length = gk) ∧ Hid (dn.length + gk = n) ∧ Hid (ga ≠ rb ∧ ga ≠ g1) ∧ Hid (Own wr w.heap.size (.slice (some ⟨ga, 0, none⟩) dn.length cp) dn) ∧ Hid (QRep wr rb (some g1) m) ∧ Hid (Keeps (fun _ => False) w wr) ∧ Hid (allL (n + 1) l = dn ++ allL (gk + 1) m))
 case atStart => exact ⟨l, [], ga0, n, rfl, (uh HN).symm, by show _ = _; simp, ⟨by have := uh HRB; omega, by have := uh HGB; omega⟩, HOM, (uh HQR).keeps (uh HKM) (fun h => h) (fun _ _ h => h), (uh HK2).then (uh HKM), rfl⟩
 case round =>
  obtain ⟨m, dn, ga, cp, rfl, HM, HDN, HGA, HO, HQr, HKr, HE⟩ := hrel
  obtain ⟨k, hk⟩ : ∃ k, dn.length = k := ⟨_, rfl⟩
  rw [hk]
  have HKE := hide hk
  clear hk
  by_cases h0 : gk = 0
  ·go_wp2_with (go_at_call 230; refine (qLen_is rb (some g1) m 0 _ (uh HQr) (by have := uh HM; omega)).mono ?_; rintro e w' ⟨rfl, hw'⟩; rw [hw']; clear hw' w')
   go_ret
   have hkn : k = n := by have := uh HDN; have := uh HKE; omega
   subst hkn
   have ho := Own.row rfl (uh HO)
   have hall : allL (k + 1) l = dn := by
    rw [uh HE, h0]
    unfold allL
    rw [if_pos (by have := uh HM; omega), List.append_nil]
   refine ⟨ga, cp, rfl, ho.2, ?_, ?_, uh HKr⟩
   ·rw [hall]; exact ho.1
   ·rw [hall]; exact uh HKE
  ·have hgt : (0 : Int) < (gk : Int) := by omega
   have hgN : 0 < gk := by omega
   obtain ⟨x, hx⟩ : ∃ x, itAt m 0 = x := ⟨_, rfl⟩
   have HTK := hide (take_is rb g1 m x wr (uh HQr) (by have := uh HM; have := uh HDN; omega) (by have := uh HM; omega) hx)
   have HX := hide hx
   clear hx
   go_wp2_with (first | (go_at_call 230; refine (qLen_is rb (some g1) m gk _ (uh HQr) (by have := uh HM; omega)).mono ?_; rintro e w' ⟨rfl, hw'⟩; rw [hw']; clear hw' w') | (go_at_call 231; refine (uh HTK).mono ?_; rintro e W3 ⟨rfl, hq3, hk3⟩; have HQ3 := hide hq3; have HK3 := hide hk3; clear hq3 hk3; have HO3 := hide (show Own W3 w.heap.size (.slice (some ⟨ga, 0, none⟩) k cp) dn by rw [← uh HKE]; exact (uh HO).keeps (uh HK3) (fun i hi h => by
             have hi' : ga = i := by simpa [Value.ownBlock] using hi
             rcases h with h | h
             ·exact (uh HGA).1 (by omega)
             ·exact (uh HGA).2 (by omega)))) | (at_builtin; refine wpList_append_tks rfl _ _ rfl w.heap.size _ dn k (uh HKE) rfl (by exact (uh HO3).keeps (((Keeps.refl (fun _ => False) W3).alloc _).alloc _) (fun _ _ h => h)) (W3.heap.size + 1) 1 1 [x] rfl rfl (by exact fun j u hu => (Blk.newAt (by simp) (flat [x]) 251).cell hu) (by omega) (by have := uh HDN; have := uh HKE; omega) (by have h1 := (uh HKr).size; have h2 := (uh HK3).size; simp; omega) ?_; intro g2 c2 W4 hown4 hk4 hat4))
   have HBND := hide (show W3.heap.size ≤ W4.heap.size ∧ wr.heap.size ≤ W3.heap.size ∧ w.heap.size ≤ wr.heap.size from ⟨by have := hk4.size; simp at this; omega, (uh HK3).size, (uh HKr).size⟩)
   have hq3 := uh HQ3
   have hlt3 := hq3.lt
   have HK4 := hide (((Keeps.refl (fun i => i = ga) W3).alloc (.cells #[.int .i64 x.t, .int .i64 x.k, .int .i64 x.d, .int .i64 x.n, .int .i64 x.v] 251)).alloc (.cells #[.int .i64 x.t, .int .i64 x.k, .int .i64 x.d, .int .i64 x.n, .int .i64 x.v] 251) |>.trans hk4 (fun i hi hlt => by
         have hi' : (Value.slice (some ⟨ga, 0, none⟩) k cp).ownBlock = some i := hi
         have : ga = i := by simpa [Value.ownBlock] using hi'
         exact this.symm))
   have HO4 := hide hown4
   have HAT := hide (show g2 = ga ∨ W3.heap.size ≤ g2 from by
      rcases hat4 with h | h
      ·have h' : (Value.slice (some ⟨ga, 0, none⟩) k cp).ownBlock = some g2 := h
       exact .inl (by have : ga = g2 := (by simpa [Value.ownBlock] using h'); exact this.symm)
      ·exact .inr (by simp at h; omega))
   clear hown4 hk4 hat4
   have HGN := hide (show w.heap.size ≤ ga from (uh HO).base ga (by simp [Value.ownBlock]))
   go_wp2
   go_roundg (gk - 1)
   case measure => omega
   case rel =>
    have hgl := (hlt3.2 g1 rfl).1
    have hgr := hlt3.1
    have hGA := uh HGA
    refine ⟨takeL m, dn ++ [x], g2, c2, ?_, ?_, ?_, ?_, ?_, ?_, ?_, ?_⟩
    ·rw [List.length_append, uh HKE]; rfl
    ·show _ = _; rw [takeL_length]; have := uh HM; omega
    ·show _ = _; rw [List.length_append]; have := uh HDN; simp; omega
    ·show _ ∧ _
     rcases uh HAT with h | h
     ·rw [h]; exact hGA
     ·exact ⟨by omega, by omega⟩
    ·show Own _ _ _ _
     rw [List.length_append, uh HKE]; exact uh HO4
    ·exact hq3.keeps (uh HK4) (fun h => hGA.1 h.symm) (fun g hg h => by injection hg with hg; exact hGA.2 (by rw [hg]; exact h.symm))
    ·have hK3 : Keeps (fun _ => False) w W3 := (uh HKr).trans (uh HK3) (fun i hi hlt => by
        rcases hi with hi | hi
        ·have := uh HRBW; omega
        ·have := uh HG1; omega)
     exact hK3.trans (uh HK4) (fun i hi hlt => by have := uh HGN; omega)
    ·show _ = _
     rw [uh HE]
     conv => lhs; unfold allL
     rw [if_neg (by have := uh HM; omega), uh HX, show gk - 1 + 1 = gk by omega]
     simp
end Go.Proofs.YtahnliehdjncdaaGreatDoor.Dr
namespace Go.Proofs.YtahnliehdjncdaaGreatDoor.Dr
open Go.RowKit
theorem all_none (q : Nat) (w : World) (h : QRep w q none []) :
  Calls Tryz.prog 232 #[.pointer (some ⟨q, 0, none⟩)] w fun e w' => ∃ g cp, e = .returned (.slice (some ⟨g, 0, none⟩) 0 cp) ∧ w.heap.size ≤ g ∧ IRow w' g cp [] ∧ Keeps (fun _ => False) w w' := by
 obtain ⟨i0, hi0, hz0, hz1, hz2⟩ := info_parts info72
 have HQ := hide h
 have hb := h.2
 have hq0 : w.cell? ⟨q, 0, none⟩ = some (.func (.func 228) #[] #[]) := hb.cell rfl
 have hq1 : w.cell? ⟨q, 1, none⟩ = some (.slice none 0 0) := hb.cell rfl
 clear hb h
 go_enter Tryz.func232, Tryz.ntmps232
 go_wp2_with fail
 go_region_held3 (fun w' => w'.cell? ⟨q, 0, none⟩ = some (.func (.func 228) #[] #[]) ∧ w'.cell? ⟨q, 1, none⟩ = some (.slice none 0 0))
  (first | (go_split_ands; exact ⟨by assumption, by assumption⟩) | (go_split_ands; exact ⟨((Keeps.refl (fun _ => False) _).alloc _).cell (by assumption) (fun h => h), ((Keeps.refl (fun _ => False) _).alloc _).cell (by assumption) (fun h => h)⟩))
  (first | (go_at_call 256; refine (cloneNil_any _).mono ?_; rintro e w' ⟨rfl, rfl⟩))
 obtain ⟨W2, hW2⟩ : ∃ W2, W2 = (w.alloc (.cells #[.func (.func 228) #[] #[], .slice none 0 0] 282)).drew := ⟨_, rfl⟩
 have HB2 := hide (show Blk W2 w.heap.size [aheadV, .slice none 0 0] 282 by rw [hW2]; exact (Blk.new w _ _).drew)
 have HK2 := hide (show Keeps (fun _ => False) w W2 by rw [hW2]; exact ((Keeps.refl (fun _ => False) w).alloc _).drew)
 have HW2 := hide hW2
 clear hW2
 have HQR := hide (show QRep W2 w.heap.size none [] from ⟨rfl, uh HB2⟩)
 obtain ⟨wm, hmk, hown, hgr⟩ := run_make_own (P := Tryz.prog) W2 w.heap.size 258 251 i0 _ 5 Tryz.underlying258 hi0 hz0 hz1 .i64 .i64 0 (by rw [hz2]; omega) (by unfold maxLen; omega) (uh HK2).size
 have HKM := hide (show Keeps (fun _ => False) W2 wm from (Keeps.refl (fun _ => False) W2).grown hgr (fun k hk => by cases hk))
 have HOM := hide (show Own wm w.heap.size (.slice (some ⟨W2.heap.size, 0, none⟩) 0 0) [] from hown)
 have hmk2 : (Instr.makeSlice 258 (.int .i64 0) (.int .i64 0)).run Tryz.prog W2 = .ok (.slice (some ⟨W2.heap.size, 0, none⟩) 0 0) wm := hmk
 clear hown hgr hmk
 go_wp2_with fail
 rw [show (w.alloc (.cells #[.func (.func 228) #[] #[], .slice none 0 0] 282)).drew = W2 from (uh HW2).symm]
 refine (qLen_is q none [] 0 W2 ((uh HQ).keeps (uh HK2) (fun h => h) (fun _ h => by cases h)) rfl).mono ?_
 rintro e w' ⟨rfl, hw'⟩
 rw [hw']
 clear hw' w'
 generalize hrb : w.heap.size = rb at *
 go_wp2_with fail
 go_loopg [4] (0) (fun gk v wr => v = .slice (some ⟨W2.heap.size, 0, none⟩) 0 0 ∧ wr = wm)
 case atStart => exact ⟨rfl, rfl⟩
 case round =>
  obtain ⟨rfl, hwr⟩ := hrel
  rw [hwr]
  clear hwr wr
  go_wp2_with (go_at_call 230; refine (qLen_is rb none [] 0 _ ((uh HQR).keeps (uh HKM) (fun h => h) (fun _ h => by cases h)) rfl).mono ?_; rintro e w' ⟨rfl, hw'⟩; rw [hw']; clear hw' w')
  go_ret
  have ho := Own.row rfl (uh HOM)
  exact ⟨W2.heap.size, 0, rfl, by rw [hrb]; exact ho.2, ho.1, (uh HK2).then (uh HKM)⟩
theorem itAt_set (l : List It) (i j : Nat) (x : It) (hi : i < l.length) : itAt (l.set i x) j = if j = i then x else itAt l j := by
 unfold itAt
 simp only [List.getD_eq_getElem?_getD, List.getElem?_set]
 by_cases h : i = j
 ·subst h; simp [hi]
 ·simp [h, Ne.symm h]
theorem itAt_swap (l : List It) (i j t : Nat) (hi : i < l.length) (hj : j < l.length) : itAt (swapL l i j) t = if t = j then itAt l i else if t = i then itAt l j else itAt l t := by
 unfold swapL
 rw [itAt_set _ _ _ _ (by simpa using hj)]
 by_cases h : t = j
 ·rw [if_pos h, if_pos h]
 ·rw [if_neg h, if_neg h, itAt_set _ _ _ _ hi]
theorem itAt_ext {a b : List It} (h : a.length = b.length) (hh : ∀ t, t < a.length → itAt a t = itAt b t) : a = b := by
 apply List.ext_getElem h
 intro i h1 h2
 have := hh i h1
 simpa [itAt, List.getD_eq_getElem?_getD, List.getElem?_eq_getElem h1, List.getElem?_eq_getElem h2] using this
theorem itAt_reverse (l : List It) (t : Nat) (h : t < l.length) : itAt l.reverse t = itAt l (l.length - 1 - t) := by
 unfold itAt
 simp only [List.getD_eq_getElem?_getD]
 rw [List.getElem?_reverse h]
theorem reverse_any (g cap n : Nat) (l : List It) (w : World) (hn : l.length = n) (hn9 : n ≤ 900) (hr : IRow w g cap l) :
  Calls Tryz.prog 233 #[.slice (some ⟨g, 0, none⟩) n cap] w fun e w' => e = .returned (.tuple #[]) ∧ IRow w' g cap l.reverse ∧ Keeps (· = g) w w' := by
 have HR := hide hr
 have HN := hide hn
 clear hr hn
 go_enter Tryz.func233, Tryz.ntmps233
 go_wp2_with fail
 go_loopw [2, 3] (fun a b wr => ∃ (k : Nat) (jj : Int) (m : List It), a = .int .i64 k ∧ b = .int .i64 jj ∧ k ≤ n ∧ -900 ≤ jj ∧ jj ≤ 900 ∧ Hid (jj = (n : Int) - 1 - k) ∧ Hid (m.length = n) ∧ Hid (∀ t, t < n → itAt m t = if t < k ∨ n ≤ t + k then itAt l (n - 1 - t) else itAt l t) ∧ Hid (IRow wr g cap m) ∧ Hid (Keeps (· = g) w wr)) (fun a _ _ => n - (intOf a).toNat)
 case atStart => exact ⟨0, (n : Int) - 1, l, rfl, rfl, Nat.zero_le _, by omega, by omega, by show _ = _; simp, HN, fun t ht => by rw [if_neg (by omega)], HR, Keeps.refl _ _⟩
 case round =>
  obtain ⟨k, jj, m, rfl, rfl, hk, j0, j1, HJ, HL, HM, HI, HK⟩ := hrel
  by_cases hlt : (k : Int) < jj
  ·obtain ⟨j, rfl⟩ : ∃ j : Nat, jj = (j : Int) := ⟨jj.toNat, by omega⟩
   have hjn : j < n := by have := uh HJ; omega
   have hkn : k < n := by omega
   have hij : k ≠ j := by omega
   have hj9 : j ≤ 900 := by omega
   have hi0 : (0 : Int) ≤ (k : Int) := by omega
   have hin : (k : Int) < (n : Int) := by omega
   have hjz : (0 : Int) ≤ (j : Int) := by omega
   have hjn2 : (j : Int) < (n : Int) := by omega
   obtain ⟨x0, x1, x2, x3, x4⟩ := (uh HI).cells k (by rw [uh HL]; exact hkn)
   obtain ⟨y0, y1, y2, y3, y4⟩ := (uh HI).cells j (by rw [uh HL]; exact hjn)
   have hf := (uh HI).frozen
   have hne : k * 5 ≠ j * 5 := by omega
   have HS := hide (show swapL m k j = (m.set k (itAt m j)).set j (itAt m k) from rfl)
   have HSW := hide (fun t => itAt_swap m k j t (by rw [uh HL]; exact hkn) (by rw [uh HL]; exact hjn))
   have HE1 := hide (uh HM k hkn)
   have HE2 := hide (uh HM j hjn)
   generalize itAt m k = x at *
   generalize itAt m j = y at *
   go_wp2_with fail
   go_region
   have HP := hide (((uh HI).put k y).put j x)
   have HKP := hide ((((Keeps.refl (fun i => i = g) wr).putTk (Or.inl rfl) k y).putTk (Or.inl rfl) j x))
   have HD := hide (show ∀ t, t < n → itAt (swapL m k j) t = if t < k + 1 ∨ n ≤ t + (k + 1) then itAt l (n - 1 - t) else itAt l t from fun t ht => by
      have hJ := uh HJ
      have hjk : j = n - 1 - k := by omega
      rw [uh HSW t]
      by_cases h1 : t = j
      ·rw [if_pos h1, if_pos (by omega), uh HE1, if_neg (by omega), h1]
       congr 1; omega
      ·rw [if_neg h1]
       by_cases h2 : t = k
       ·rw [if_pos h2, if_pos (by omega), uh HE2, if_neg (by omega), h2]
        congr 1
       ·rw [if_neg h2, uh HM t ht]
        by_cases h3 : t < k ∨ n ≤ t + k
        ·rw [if_pos h3, if_pos (by omega)]
        ·rw [if_neg h3, if_neg (by omega)])
   have hw1 : IntKind.i64.wrap ((k : Int) + 1) = (k : Int) + 1 := by rw [IntKind.wrap_i64]; omega
   have hw2 : IntKind.i64.wrap ((j : Int) - 1) = (j : Int) - 1 := by rw [IntKind.wrap_i64]; omega
   go_wp2_with fail
   refine ⟨⟨k + 1, (j : Int) - 1, swapL m k j, by go_num, rfl, by omega, by omega, by omega, ?_, ?_, HD, ?_, ?_⟩, by simp [intOf]; omega⟩
   ·show _ = _; have := uh HJ; omega
   ·show _ = _; rw [swapL_length]; exact uh HL
   ·show IRow _ _ _ _; rw [uh HS]; exact (uh HP).drew
   ·exact ((uh HK).then (uh HKP)).drew
  ·have hd : decide ((k : Int) < jj) = false := by simp; omega
   go_wp2
   go_end0
   refine ⟨rfl, ?_, uh HK⟩
   have hlm := uh HL
   have hln := uh HN
   have hJ := uh HJ
   have : m = l.reverse := itAt_ext (by simp; omega) (fun t ht => by
      rw [uh HM t (by omega), itAt_reverse l t (by omega), hln]
      by_cases h3 : t < k ∨ n ≤ t + k
      ·rw [if_pos h3]
      ·rw [if_neg h3]; congr 1; omega)
   rw [← this]; exact uh HI
end Go.Proofs.YtahnliehdjncdaaGreatDoor.Dr
