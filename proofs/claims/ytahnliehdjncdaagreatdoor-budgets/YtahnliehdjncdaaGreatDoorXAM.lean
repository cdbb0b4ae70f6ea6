import Derived.Test.YtahnliehdjncdaaGreatDoorXAL
import Derived.Test.YtahnliehdjncdaaGreatDoorXAB
set_option maxRecDepth 100000
set_option maxHeartbeats 16000000
namespace Go.Proofs.YtahnliehdjncdaaGreatDoor
open Go.RowKit
def cntCells (c : Cfg) (r : Nat) : List Value := c.cells ++ [.pointer (some ⟨r, 0, none⟩)]
structure CRep (w : World) (d r : Nat) (og : Option Nat) (c : Cfg) (l : List Bk) : Prop where
 blk : Blk w d (cntCells c r) 214
 row : RowRep w r og l
 dr : d ≠ r
 dg : ∀ g, og = some g → d ≠ g
theorem CRep.keeps {M : Nat → Prop} {w w' : World} {d r : Nat} {og : Option Nat} {c : Cfg} {l : List Bk} (h : CRep w d r og c l) (k : Keeps M w w') (hd : ¬ M d) (hr : ¬ M r) (hg : ∀ g, og = some g → ¬ M g) : CRep w' d r og c l :=
 ⟨h.blk.keeps k hd, h.row.keeps k hr hg, h.dr, h.dg⟩
theorem CRep.still {w w' : World} {d r : Nat} {og : Option Nat} {c : Cfg} {l : List Bk} (h : CRep w d r og c l) (k : Keeps (fun _ => False) w w') : CRep w' d r og c l := h.keeps k (fun h => h) (fun h => h) (fun _ _ h => h)
def sumB : List Bk → Int
 | [] => 0
 | b :: l => b.sz + sumB l
theorem sumB_append (a b : List Bk) : sumB (a ++ b) = sumB a + sumB b := by
 induction a with
 | nil => simp [sumB]
 | cons x l ih => simp [sumB, ih]; omega
theorem sumB_nonneg {l : List Bk} (h : ∀ b ∈ l, 1 ≤ b.sz) : 0 ≤ sumB l := by
 induction l with
 | nil => simp [sumB]
 | cons x l ih =>
  have h1 := h x (by simp)
  have h2 := ih (fun b hb => h b (by simp [hb]))
  simp only [sumB]; omega
theorem length_le_sumB {l : List Bk} (h : ∀ b ∈ l, 1 ≤ b.sz) : (l.length : Int) ≤ sumB l := by
 induction l with
 | nil => simp [sumB]
 | cons x l ih =>
  have h1 := h x (by simp)
  have h2 := ih (fun b hb => h b (by simp [hb]))
  simp only [sumB, List.length_cons]; omega
theorem sumB_split (l : List Bk) (k : Nat) : sumB (l.take k) + sumB (l.drop k) = sumB l := by
 rw [← sumB_append, List.take_append_drop]
theorem bkAt_mem {l : List Bk} {i : Nat} (h : i < l.length) : bkAt l i ∈ l := by
 have : bkAt l i = l[i] := by simp [bkAt, List.getD_eq_getElem?_getD, List.getElem?_eq_getElem h]
 rw [this]; exact List.getElem_mem h
theorem sz_le_sumB {l : List Bk} (h : ∀ b ∈ l, 1 ≤ b.sz) {b : Bk} (hb : b ∈ l) : b.sz ≤ sumB l := by
 induction l with
 | nil => simp at hb
 | cons x l ih =>
  have h0 := sumB_nonneg (l := l) (fun b hb => h b (by simp [hb]))
  have h1 := h x (by simp)
  simp only [sumB]
  rcases List.mem_cons.1 hb with rfl | hb
  ·omega
  ·have := ih (fun b hb => h b (by simp [hb])) hb
   omega
def fieldBk (v : Value) : Sem Next := do pure (.value (← Instr.field 211 v 0))
theorem execOp_fieldBk (ρ : Operand → Value) (dst : Option Tmp) (x : Operand) (ty : TypeId) (pos : String) (after : Array Edge) (guard : Option (Nat × Bool)) :
  execOp ρ { dst, op := .field 211 x 0, type := ty, pos, after, guard } = fieldBk (ρ x) := rfl
theorem run_fieldBk (a b : Value) (w : World) : (fieldBk (.agg #[a, b])).run Tryz.prog w = .ok (.value a) w := by kernel_rfl
attribute [local go_sem ↓] execOp_fieldBk
attribute [local go_sem] run_fieldBk
def startN (l : List Bk) (sz : Int) : Nat → Nat
 | 0 => 0
 | e + 1 => if (bkAt l e).sz = sz then startN l sz e else e + 1
theorem startN_le (l : List Bk) (sz : Int) (e : Nat) : startN l sz e ≤ e := by
 induction e with
 | zero => simp [startN]
 | succ e ih => unfold startN; split <;> omega
theorem startN_in (l : List Bk) (sz : Int) (e i : Nat) (h1 : startN l sz e ≤ i) (h2 : i < e) : (bkAt l i).sz = sz := by
 induction e with
 | zero => omega
 | succ e ih =>
  unfold startN at h1
  split at h1
  ·rename_i h
   by_cases hi : i = e
   ·rw [hi]; exact h
   ·exact ih h1 (by omega)
  ·omega
def joinL (K : Int) : Nat → List Bk → Int → Nat → List Bk
 | 0, l, _, _ => l
 | f + 1, l, sz, e => if (e : Int) - (startN l sz e : Int) ≤ K + 1 then l else joinL K f (joinAt l (startN l sz e) ⟨2 * sz, (bkAt l (startN l sz e + 1)).t⟩) (2 * sz) (startN l sz e + 1)
theorem joinAt_split (l : List Bk) (i : Nat) (h : i + 2 ≤ l.length) : l = l.take i ++ (bkAt l i :: bkAt l (i + 1) :: l.drop (i + 2)) := by
 conv => lhs; rw [← List.take_append_drop i l]
 rw [bkAt_drop l i (by omega), bkAt_drop l (i + 1) (by omega)]
theorem joinAt_sum (l : List Bk) (i : Nat) (x : Bk) (h : i + 2 ≤ l.length) (hx : x.sz = (bkAt l i).sz + (bkAt l (i + 1)).sz) : sumB (joinAt l i x) = sumB l := by
 conv => rhs; rw [joinAt_split l i h]
 unfold joinAt
 simp only [sumB_append, sumB]
 omega
theorem joinAt_all {P : Bk → Prop} (l : List Bk) (i : Nat) (x : Bk) (h : ∀ b ∈ l, P b) (hx : P x) : ∀ b ∈ joinAt l i x, P b := by
 intro b hb
 unfold joinAt at hb
 rcases List.mem_append.1 hb with hb | hb
 ·rcases List.mem_append.1 hb with hb | hb
  ·exact h b (List.mem_of_mem_take hb)
  ·rw [List.mem_singleton] at hb; rw [hb]; exact hx
 ·exact h b (List.mem_of_mem_drop hb)
theorem dead_any (d r : Nat) (og : Option Nat) (c : Cfg) (l : List Bk) (m : Int) (w : World) (h : CRep w d r og c l) (hl : l.length ≤ 4398046511104) (m0 : -100 ≤ m) (m1 : m ≤ 4611686018427387904) (w0 : 0 ≤ c.window) (w1 : c.window ≤ 1000) :
  Calls Tryz.prog 196 #[.pointer (some ⟨d, 0, none⟩), .int .i64 m] w fun e w' => e = .returned (.int .i64 (pastN l (m - c.window))) ∧ Keeps (fun _ => False) w w' := by
 have hc5 : w.cell? ⟨d, 5, none⟩ = some (.int .i64 c.window) := h.blk.cell rfl
 have hc20 : w.cell? ⟨d, 20, none⟩ = some (.pointer (some ⟨r, 0, none⟩)) := h.blk.cell rfl
 have HR := hide h.row
 have hwr : IntKind.i64.wrap (m - c.window) = m - c.window := by rw [IntKind.wrap_i64]; omega
 clear h
 go_enter Tryz.func196, Tryz.ntmps196
 go_wp2_with fail
 go_region_with (go_at_call 237; refine (past_any r og l (m - c.window) _ (by exact (uh HR).still (Keeps.refl _ _).drew) hl).mono ?_; rintro e w1 ⟨rfl, hk1⟩)
 all_goals
  go_wp2
  go_ret
  exact ⟨rfl, ((Keeps.refl _ _).drew).then hk1⟩
theorem startOf_any (d r : Nat) (og : Option Nat) (c : Cfg) (l : List Bk) (sz : Int) (e : Nat) (w : World) (h : CRep w d r og c l) (hl : l.length ≤ 4398046511104) (he : e ≤ l.length) :
  Calls Tryz.prog 238 #[.pointer (some ⟨d, 0, none⟩), .int .i64 sz, .int .i64 e] w fun r w' => r = .returned (.int .i64 (startN l sz e)) ∧ Keeps (fun _ => False) w w' := by
 have HR := hide h
 clear h
 go_enter Tryz.func238, Tryz.ntmps238
 go_wp2
 go_loopw [7] (fun s wr => ∃ k : Nat, s = .int .i64 k ∧ k ≤ e ∧ Hid (Keeps (fun _ => False) w wr) ∧ Hid (startN l sz e = startN l sz k)) (fun s _ => (intOf s).toNat)
 case atStart => exact ⟨e, rfl, Nat.le_refl _, Keeps.refl _ _, rfl⟩
 case round =>
  obtain ⟨k, rfl, hk, HK, HE⟩ := hrel
  have HC := hide ((uh HR).still (uh HK))
  have hc20 : wr.cell? ⟨d, 20, none⟩ = some (.pointer (some ⟨r, 0, none⟩)) := (uh HC).blk.cell rfl
  cases k with
  | zero =>
   go_wp2
   go_ret
   exact ⟨by rw [uh HE]; rfl, uh HK⟩
  | succ k =>
   have hkl : k < l.length := by omega
   have hk1 : ((k + 1 : Nat) : Int) - 1 = (k : Int) := by omega
   have hk0 : (0 : Int) < ((k + 1 : Nat) : Int) := by omega
   have hk2 : ((k + 1 : Nat) : Int) ≤ 4398046511104 := by omega
   have HU := hide (show startN l sz (k + 1) = if (bkAt l k).sz = sz then startN l sz k else k + 1 from rfl)
   generalize hk3 : ((k + 1 : Nat) : Int) = kk at *
   have HK3 := hide hk3
   clear hk3
   go_wp2_with fail
   refine (rowAt_any r og l k wr (uh HC).row hkl).mono ?_
   rintro x w1 ⟨rfl, hk4⟩
   have HK4 := hide ((uh HK).then hk4)
   clear hk4
   generalize bkAt l k = x at *
   unfold Bk.val
   by_cases hs : x.sz = sz
   ·have HS := hide hs
    have hs' : (x.sz == sz) = true := by simpa using hs
    clear hs
    go_wp2
    go_roundw
    case rel => exact ⟨k, rfl, by omega, HK4, by show _ = _; rw [uh HE, uh HU, if_pos (uh HS)]⟩
    case measure => simp [intOf]; have := uh HK3; omega
   ·have HS := hide hs
    have hs' : (x.sz == sz) = false := by simpa using hs
    clear hs
    go_wp2
    go_ret
    exact ⟨by rw [uh HE, uh HU, if_neg (uh HS), uh HK3]; rfl, uh HK4⟩
end Go.Proofs.YtahnliehdjncdaaGreatDoor
