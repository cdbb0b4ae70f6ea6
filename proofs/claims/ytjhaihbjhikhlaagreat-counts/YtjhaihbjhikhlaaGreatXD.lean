import Derived.Test.YtjhaihbjhikhlaaGreatXK
import Derived.Test.YtjhaihbjhikhlaaGreatXC
import Derived.Deep.LoopGhost
namespace Go.Proofs.YtjhaihbjhikhlaaGreat
open Go.RowKit

/-- The block of a count's notes. -/
def cntCells (c : Cfg) (r : Nat) : List Value := c.cells ++ [.pointer (some ⟨r, 0, none⟩)]

structure CRep (w : World) (d r : Nat) (og : Option Nat) (c : Cfg) (l : List Bk) : Prop where
  blk : Blk w d (cntCells c r) 146
  row : RowRep w r og l
  dr : d ≠ r
  dg : ∀ g, og = some g → d ≠ g

theorem CRep.keeps {M : Nat → Prop} {w w' : World} {d r : Nat} {og : Option Nat} {c : Cfg} {l : List Bk} (h : CRep w d r og c l) (k : Keeps M w w') (hd : ¬ M d) (hr : ¬ M r) (hg : ∀ g, og = some g → ¬ M g) : CRep w' d r og c l :=
  ⟨h.blk.keeps k hd, h.row.keeps k hr hg, h.dr, h.dg⟩
theorem CRep.still {w w' : World} {d r : Nat} {og : Option Nat} {c : Cfg} {l : List Bk} (h : CRep w d r og c l) (k : Keeps (fun _ => False) w w') : CRep w' d r og c l := h.keeps k (fun h => h) (fun h => h) (fun _ _ h => h)

def sumB : List Bk → Int
  | [] => 0
  | b :: l => b.sz + sumB l
theorem sumB_append (a b : List Bk) : sumB (a ++ b) = sumB a + sumB b := by
  induction a with
  | nil => simp [sumB]
  | cons x l ih => simp [sumB, ih]; omega
theorem sumB_nonneg {l : List Bk} (h : ∀ b ∈ l, 1 ≤ b.sz) : 0 ≤ sumB l := by
  induction l with
  | nil => simp [sumB]
  | cons x l ih =>
    have h1 := h x (by simp)
    have h2 := ih (fun b hb => h b (by simp [hb]))
    simp only [sumB]; omega
theorem length_le_sumB {l : List Bk} (h : ∀ b ∈ l, 1 ≤ b.sz) : (l.length : Int) ≤ sumB l := by
  induction l with
  | nil => simp [sumB]
  | cons x l ih =>
    have h1 := h x (by simp)
    have h2 := ih (fun b hb => h b (by simp [hb]))
    simp only [sumB, List.length_cons]; omega
theorem sumB_split (l : List Bk) (k : Nat) : sumB (l.take k) + sumB (l.drop k) = sumB l := by
  rw [← sumB_append, List.take_append_drop]
theorem bkAt_mem {l : List Bk} {i : Nat} (h : i < l.length) : bkAt l i ∈ l := by
  have : bkAt l i = l[i] := by simp [bkAt, List.getD_eq_getElem?_getD, List.getElem?_eq_getElem h]
  rw [this]; exact List.getElem_mem h
theorem sz_le_sumB {l : List Bk} (h : ∀ b ∈ l, 1 ≤ b.sz) {b : Bk} (hb : b ∈ l) : b.sz ≤ sumB l := by
  induction l with
  | nil => simp at hb
  | cons x l ih =>
    have h0 := sumB_nonneg (l := l) (fun b hb => h b (by simp [hb]))
    have h1 := h x (by simp)
    simp only [sumB]
    rcases List.mem_cons.1 hb with rfl | hb
    · omega
    · have := ih (fun b hb => h b (by simp [hb])) hb
      omega

/-- The size of a bucket that was handed out. -/
def fieldBk (v : Value) : Sem Next := do pure (.value (← Instr.field 143 v 0))
theorem execOp_fieldBk (ρ : Operand → Value) (dst : Option Tmp) (x : Operand) (ty : TypeId) (pos : String) (after : Array Edge) (guard : Option (Nat × Bool)) :
    execOp ρ { dst, op := .field 143 x 0, type := ty, pos, after, guard } = fieldBk (ρ x) := rfl
theorem run_fieldBk (a b : Value) (w : World) : (fieldBk (.agg #[a, b])).run Tryz.prog w = .ok (.value a) w := by kernel_rfl
attribute [local go_sem ↓] execOp_fieldBk
attribute [local go_sem] run_fieldBk

/-- 'startOf'. -/
def startN (l : List Bk) (sz : Int) : Nat → Nat
  | 0 => 0
  | e + 1 => if (bkAt l e).sz = sz then startN l sz e else e + 1
theorem startN_le (l : List Bk) (sz : Int) (e : Nat) : startN l sz e ≤ e := by
  induction e with
  | zero => simp [startN]
  | succ e ih => unfold startN; split <;> omega
theorem startN_in (l : List Bk) (sz : Int) (e i : Nat) (h1 : startN l sz e ≤ i) (h2 : i < e) : (bkAt l i).sz = sz := by
  induction e with
  | zero => omega
  | succ e ih =>
    unfold startN at h1
    split at h1
    · rename_i h
      by_cases hi : i = e
      · rw [hi]; exact h
      · exact ih h1 (by omega)
    · omega

/-- 'join', with fuel. -/
def joinL (K : Int) : Nat → List Bk → Int → Nat → List Bk
  | 0, l, _, _ => l
  | f + 1, l, sz, e => if (e : Int) - (startN l sz e : Int) ≤ K + 1 then l else joinL K f (joinAt l (startN l sz e) ⟨2 * sz, (bkAt l (startN l sz e + 1)).t⟩) (2 * sz) (startN l sz e + 1)

theorem joinAt_split (l : List Bk) (i : Nat) (h : i + 2 ≤ l.length) : l = l.take i ++ (bkAt l i :: bkAt l (i + 1) :: l.drop (i + 2)) := by
  conv => lhs; rw [← List.take_append_drop i l]
  rw [bkAt_drop l i (by omega), bkAt_drop l (i + 1) (by omega)]
theorem joinAt_sum (l : List Bk) (i : Nat) (x : Bk) (h : i + 2 ≤ l.length) (hx : x.sz = (bkAt l i).sz + (bkAt l (i + 1)).sz) : sumB (joinAt l i x) = sumB l := by
  conv => rhs; rw [joinAt_split l i h]
  unfold joinAt
  simp only [sumB_append, sumB]
  omega
theorem joinAt_all {P : Bk → Prop} (l : List Bk) (i : Nat) (x : Bk) (h : ∀ b ∈ l, P b) (hx : P x) : ∀ b ∈ joinAt l i x, P b := by
  intro b hb
  unfold joinAt at hb
  rcases List.mem_append.1 hb with hb | hb
  · rcases List.mem_append.1 hb with hb | hb
    · exact h b (List.mem_of_mem_take hb)
    · rw [List.mem_singleton] at hb; rw [hb]; exact hx
  · exact h b (List.mem_of_mem_drop hb)

set_option maxRecDepth 100000 in
set_option maxHeartbeats 2000000 in
theorem dead_any (d r : Nat) (og : Option Nat) (c : Cfg) (l : List Bk) (m : Int) (w : World) (h : CRep w d r og c l) (hl : l.length ≤ 4398046511104) (m0 : -100 ≤ m) (m1 : m ≤ 4611686018427387904) (w0 : 0 ≤ c.window) (w1 : c.window ≤ 1000) :
    Calls Tryz.prog 108 #[.pointer (some ⟨d, 0, none⟩), .int .i64 m] w fun e w' => e = .returned (.int .i64 (pastN l (m - c.window))) ∧ Keeps (fun _ => False) w w' := by
  have hc5 : w.cell? ⟨d, 5, none⟩ = some (.int .i64 c.window) := h.blk.cell rfl
  have hc20 : w.cell? ⟨d, 20, none⟩ = some (.pointer (some ⟨r, 0, none⟩)) := h.blk.cell rfl
  have HR := hide h.row
  have hwr : IntKind.i64.wrap (m - c.window) = m - c.window := by rw [IntKind.wrap_i64]; omega
  clear h
  go_enter Tryz.func108, Tryz.ntmps108
  go_wp2_with fail
  go_region_with (go_at_call 116; refine (past_any r og l (m - c.window) _ (by exact (unhide HR).still (Keeps.refl _ _).drew) hl).mono ?_; rintro e w1 ⟨rfl, hk1⟩)
  all_goals
    go_wp2
    go_ret
    exact ⟨rfl, ((Keeps.refl _ _).drew).then hk1⟩

set_option maxRecDepth 100000 in
set_option maxHeartbeats 2000000 in
theorem startOf_any (d r : Nat) (og : Option Nat) (c : Cfg) (l : List Bk) (sz : Int) (e : Nat) (w : World) (h : CRep w d r og c l) (hl : l.length ≤ 4398046511104) (he : e ≤ l.length) :
    Calls Tryz.prog 118 #[.pointer (some ⟨d, 0, none⟩), .int .i64 sz, .int .i64 e] w fun r w' => r = .returned (.int .i64 (startN l sz e)) ∧ Keeps (fun _ => False) w w' := by
  have HR := hide h
  clear h
  go_enter Tryz.func118, Tryz.ntmps118
  go_wp2
  go_loopw [7] (fun s wr => ∃ k : Nat, s = .int .i64 k ∧ k ≤ e ∧ Hid (Keeps (fun _ => False) w wr) ∧ Hid (startN l sz e = startN l sz k)) (fun s _ => (intOf s).toNat)
  case atStart => exact ⟨e, rfl, Nat.le_refl _, Keeps.refl _ _, rfl⟩
  case round =>
    obtain ⟨k, rfl, hk, HK, HE⟩ := hrel
    have HC := hide ((unhide HR).still (unhide HK))
    have hc20 : wr.cell? ⟨d, 20, none⟩ = some (.pointer (some ⟨r, 0, none⟩)) := (unhide HC).blk.cell rfl
    cases k with
    | zero =>
      go_wp2
      go_ret
      exact ⟨by rw [unhide HE]; rfl, unhide HK⟩
    | succ k =>
      have hkl : k < l.length := by omega
      have hk1 : ((k + 1 : Nat) : Int) - 1 = (k : Int) := by omega
      have hk0 : (0 : Int) < ((k + 1 : Nat) : Int) := by omega
      have hk2 : ((k + 1 : Nat) : Int) ≤ 4398046511104 := by omega
      have HU := hide (show startN l sz (k + 1) = if (bkAt l k).sz = sz then startN l sz k else k + 1 from rfl)
      generalize hk3 : ((k + 1 : Nat) : Int) = kk at *
      have HK3 := hide hk3
      clear hk3
      go_wp2_with fail
      refine (rowAt_any r og l k wr (unhide HC).row hkl).mono ?_
      rintro x w1 ⟨rfl, hk4⟩
      have HK4 := hide ((unhide HK).then hk4)
      clear hk4
      generalize bkAt l k = x at *
      unfold Bk.val
      by_cases hs : x.sz = sz
      · have HS := hide hs
        have hs' : (x.sz == sz) = true := by simpa using hs
        clear hs
        go_wp2
        go_roundw
        case rel => exact ⟨k, rfl, by omega, HK4, by show _ = _; rw [unhide HE, unhide HU, if_pos (unhide HS)]⟩
        case measure => simp [intOf]; have := unhide HK3; omega
      · have HS := hide hs
        have hs' : (x.sz == sz) = false := by simpa using hs
        clear hs
        go_wp2
        go_ret
        exact ⟨by rw [unhide HE, unhide HU, if_neg (unhide HS), unhide HK3]; rfl, unhide HK4⟩

end Go.Proofs.YtjhaihbjhikhlaaGreat

namespace Go.Proofs.YtjhaihbjhikhlaaGreat
open Go.RowKit
attribute [local go_sem ↓] execOp_fieldBk
attribute [local go_sem] run_fieldBk

/-- What holds of the buckets throughout. -/
structure BInv (l : List Bk) : Prop where
  one : ∀ b ∈ l, 1 ≤ b.sz
  sum : sumB l ≤ 4398046511104

theorem BInv.len {l : List Bk} (h : BInv l) : l.length ≤ 4398046511104 := by have h1 := length_le_sumB h.one; have h2 := h.sum; omega
theorem BInv.drop {l : List Bk} (h : BInv l) (k : Nat) : BInv (l.drop k) := by
  refine ⟨fun b hb => h.one b (List.mem_of_mem_drop hb), ?_⟩
  have h1 := sumB_split l k
  have h2 := sumB_nonneg (l := l.take k) (fun b hb => h.one b (List.mem_of_mem_take hb))
  have h3 := h.sum
  omega
theorem joinL_fuel {K : Int} (hK : 0 ≤ K) (f1 f2 : Nat) (l : List Bk) (sz : Int) (e : Nat) (h1 : e < f1) (h2 : e < f2) : joinL K f1 l sz e = joinL K f2 l sz e := by
  induction f1 generalizing f2 l sz e with
  | zero => omega
  | succ f1 ih =>
    obtain ⟨f2, rfl⟩ : ∃ f, f2 = f + 1 := ⟨f2 - 1, by omega⟩
    unfold joinL
    split
    · rfl
    · rename_i h
      exact ih _ _ _ _ (by omega) (by omega)
theorem joinAt_inv {l : List Bk} {sz t : Int} {s e : Nat} (h : BInv l) (hs : s = startN l sz e) (he : e ≤ l.length) (h2 : s + 2 ≤ e) (z1 : 1 ≤ sz) : BInv (joinAt l s ⟨2 * sz, t⟩) ∧ sz ≤ 4398046511104 ∧ sumB (joinAt l s ⟨2 * sz, t⟩) = sumB l := by
  have a1 : (bkAt l s).sz = sz := startN_in l sz e s (by omega) (by omega)
  have a2 : (bkAt l (s + 1)).sz = sz := startN_in l sz e (s + 1) (by omega) (by omega)
  have h3 := sz_le_sumB h.one (bkAt_mem (l := l) (i := s) (by omega))
  have h4 := h.sum
  have hsum := joinAt_sum l s ⟨2 * sz, t⟩ (by omega) (by show 2 * sz = _; omega)
  refine ⟨⟨joinAt_all l s _ h.one (by show 1 ≤ 2 * sz; omega), ?_⟩, by omega, hsum⟩
  rw [hsum]
  exact h4

set_option maxRecDepth 100000 in
set_option maxHeartbeats 4000000 in
theorem join_any (d r : Nat) (og : Option Nat) (c : Cfg) (l : List Bk) (w : World) (h : CRep w d r og c l) (hi : BInv l) (k1 : 1 ≤ c.k) (k10 : c.k ≤ 10) :
    Calls Tryz.prog 110 #[.pointer (some ⟨d, 0, none⟩)] w fun e w' => e = .returned (.tuple #[]) ∧ CRep w' d r og c (joinL c.k (l.length + 1) l 1 l.length) ∧ Keeps (fun i => i = r ∨ og = some i) w w' := by
  have hc20 : w.cell? ⟨d, 20, none⟩ = some (.pointer (some ⟨r, 0, none⟩)) := h.blk.cell rfl
  have HC := hide h
  have HI := hide hi
  have hl := hi.len
  clear h hi
  go_enter Tryz.func110, Tryz.ntmps110
  go_wp2_with fail
  refine (rowLen_any r og l w (unhide HC).row).mono ?_
  rintro e w1 ⟨rfl, hw1⟩
  rw [hw1]
  clear hw1 w1 hc20
  generalize hn : l.length = n at *
  have HN := hide hn
  clear hn
  go_wp2_with fail
  go_loopg [2, 3, 4, 5] (n) (fun g a b _ _ wr => ∃ (m : List Bk) (e : Nat) (sz : Int), a = .int .i64 e ∧ b = .int .i64 sz ∧ e = g ∧ 1 ≤ sz ∧ sz ≤ 8796093022208 ∧ e ≤ 4398046511104 ∧ Hid (e ≤ m.length) ∧ Hid (BInv m) ∧ Hid (CRep wr d r og c m) ∧ Hid (Keeps (fun i => i = r ∨ og = some i) w wr) ∧ Hid (joinL c.k (n + 1) l 1 n = joinL c.k (e + 1) m sz e))
  case atStart => exact ⟨l, n, 1, rfl, rfl, rfl, by omega, by omega, hl, by show _ ≤ _; rw [unhide HN]; omega, HI, HC, Keeps.refl _ _, rfl⟩
  case round =>
    obtain ⟨m, e, sz, rfl, rfl, heg, z1, z2, e2, HEM, HIM, HCM, HKM, HJ⟩ := hrel
    have HEG := hide heg
    clear heg
    have hc20 : wr.cell? ⟨d, 20, none⟩ = some (.pointer (some ⟨r, 0, none⟩)) := (unhide HCM).blk.cell rfl
    have hc4 : wr.cell? ⟨d, 4, none⟩ = some (.int .i64 c.k) := (unhide HCM).blk.cell rfl
    go_wp2_with fail
    refine (startOf_any d r og c m sz e wr (unhide HCM) (unhide HIM).len (unhide HEM)).mono ?_
    rintro x w1 ⟨rfl, hk1⟩
    have HC1 := hide ((unhide HCM).still hk1)
    have HK1 := hide ((unhide HKM).trans hk1 (fun _ h _ => h.elim))
    clear hk1 hc20 hc4 HCM HKM
    have hc20 : w1.cell? ⟨d, 20, none⟩ = some (.pointer (some ⟨r, 0, none⟩)) := (unhide HC1).blk.cell rfl
    have hc4 : w1.cell? ⟨d, 4, none⟩ = some (.int .i64 c.k) := (unhide HC1).blk.cell rfl
    have hse := startN_le m sz e
    generalize hs : startN m sz e = s at *
    have HS := hide hs
    clear hs
    have hw1 : IntKind.i64.wrap ((e : Int) - (s : Int)) = (e : Int) - (s : Int) := by rw [IntKind.wrap_i64]; omega
    by_cases hle : (e : Int) - (s : Int) ≤ c.k + 1
    · go_wp2
      refine bodyPost_ret (results_none rfl _ _ _) rfl ⟨rfl, ?_, unhide HK1⟩
      rw [unhide HN, unhide HJ]
      unfold joinL
      rw [unhide HS, if_pos hle]
      exact unhide HC1
    · have hd : decide ((e : Int) - (s : Int) ≤ c.k + 1) = false := by simpa using hle
      have HLE := hide hle
      have hs2 : s + 2 < e := by omega
      obtain ⟨s1, hs1⟩ : ∃ s1, s1 = s + 1 := ⟨_, rfl⟩
      have e1 : (s : Int) + 1 = (s1 : Int) := by omega
      have HJI := hide (joinAt_inv (t := (bkAt m s1).t) (unhide HIM) (unhide HS).symm (unhide HEM) (by omega) z1)
      have HSL := hide (show s + 2 ≤ m.length by have := unhide HEM; omega)
      have HS1 := hide hs1
      have hsz2 := (unhide HJI).2.1
      clear hle hs1
      go_wp2_with fail
      refine (rowAt_any r og m s1 w1 (unhide HC1).row (by have h1 := unhide HSL; have h2 := unhide HS1; omega)).mono ?_
      rintro x w2 ⟨rfl, hk2⟩
      have HC2 := hide ((unhide HC1).still hk2)
      have HK2 := hide ((unhide HK1).trans hk2 (fun _ h _ => h.elim))
      clear hk2 hc20 hc4 HC1 HK1
      generalize hx : bkAt m s1 = x at *
      have HX := hide hx
      clear hx
      unfold Bk.val
      have hc20 : w2.cell? ⟨d, 20, none⟩ = some (.pointer (some ⟨r, 0, none⟩)) := (unhide HC2).blk.cell rfl
      have hlt2 := (unhide HC2).blk.lt
      go_wp2_with fail
      have HC3 := hide ((unhide HC2).still ((Keeps.refl (fun _ => False) w2).alloc (.cells #[.int .i64 x.sz, .int .i64 x.t] 143)))
      have HK3 := hide ((unhide HK2).alloc (.cells #[.int .i64 x.sz, .int .i64 x.t] 143))
      have HX3 := hide (Blk.new w2 [.int .i64 x.sz, .int .i64 x.t] 143)
      have e3 : (w2.alloc (.cells [Value.int .i64 x.sz, .int .i64 x.t].toArray 143)) = (w2.alloc (.cells #[.int .i64 x.sz, .int .i64 x.t] 143)) := rfl
      rw [e3] at HX3
      clear e3
      generalize w2.alloc (.cells #[.int .i64 x.sz, .int .i64 x.t] 143) = w3 at *
      generalize w2.heap.size = bx at *
      clear hc20 hlt2 HC2 HK2
      have hc20 : w3.cell? ⟨d, 20, none⟩ = some (.pointer (some ⟨r, 0, none⟩)) := (unhide HC3).blk.cell rfl
      have hx1 : w3.cell? ⟨bx, 1, none⟩ = some (.int .i64 x.t) := (unhide HX3).cell rfl
      have hw2 : IntKind.i64.wrap (2 * sz) = 2 * sz := by rw [IntKind.wrap_i64]; omega
      go_region_with (go_at_call 120; refine (rowJoin_any r og m s ⟨2 * sz, x.t⟩ _ (by exact (unhide HC3).row.still (Keeps.refl _ _).drew) (unhide HSL) (unhide HIM).len).mono ?_; rintro y w4 ⟨rfl, hr4, hk4⟩)
      all_goals
        have HC4 := hide (show CRep w4 d r og c (joinAt m s ⟨2 * sz, x.t⟩) from ⟨((unhide HC3).blk.drew).keeps hk4 (fun h => h.elim (unhide HC3).dr (fun h => (unhide HC3).dg d h rfl)), hr4, (unhide HC3).dr, (unhide HC3).dg⟩)
        have HK4 := hide (((unhide HK3).drew).then hk4)
        clear hr4 hk4 hc20 hx1 hw2
        have hw5 : IntKind.i64.wrap (sz * 2) = 2 * sz := by rw [IntKind.wrap_i64]; omega
        go_wp2
        go_roundg (s1)
        case measure => have h1 := unhide HEG; have h2 := unhide HS1; omega
        case rel =>
          refine ⟨joinAt m s ⟨2 * sz, x.t⟩, s1, 2 * sz, rfl, rfl, rfl, by omega, by omega, by omega, ?_, (unhide HJI).1, HC4, HK4, ?_⟩
          · show _ ≤ _
            have := joinAt_length (⟨2 * sz, x.t⟩ : Bk) (unhide HSL); have h2 := unhide HS1; have h3 := unhide HSL; omega
          · show _ = _
            rw [unhide HJ]
            conv => lhs; unfold joinL
            rw [unhide HS, if_neg (by have := unhide HLE; omega), ← unhide HS1, unhide HX]
            exact joinL_fuel (by omega) _ _ _ _ _ (by have := unhide HS1; omega) (by omega)

end Go.Proofs.YtjhaihbjhikhlaaGreat

namespace Go.Proofs.YtjhaihbjhikhlaaGreat
open Go.RowKit
attribute [local go_sem ↓] execOp_fieldBk
attribute [local go_sem] run_fieldBk

/-- 'estimate'. -/
def estN (l : List Bk) (t : Int) : Int := sumB (l.drop (pastN l t)) - (if pastN l t = l.length then 0 else (bkAt l (pastN l t)).sz / 2)

set_option maxRecDepth 100000 in
set_option maxHeartbeats 2000000 in
theorem estimate_any (d r : Nat) (og : Option Nat) (c : Cfg) (l : List Bk) (t : Int) (w : World) (h : CRep w d r og c l) (hi : BInv l) :
    Calls Tryz.prog 111 #[.pointer (some ⟨d, 0, none⟩), .int .i64 t] w fun e w' => e = .returned (.int .i64 (estN l t)) ∧ Keeps (fun _ => False) w w' := by
  have hc20 : w.cell? ⟨d, 20, none⟩ = some (.pointer (some ⟨r, 0, none⟩)) := h.blk.cell rfl
  have HC := hide h
  have HI := hide hi
  have hl := hi.len
  clear h hi
  go_enter Tryz.func111, Tryz.ntmps111
  go_wp2_with fail
  refine (past_any r og l t w (unhide HC).row hl).mono ?_
  rintro e w1 ⟨rfl, hk1⟩
  have HC1 := hide ((unhide HC).still hk1)
  have HK1 := hide hk1
  clear hk1 hc20
  have hc20 : w1.cell? ⟨d, 20, none⟩ = some (.pointer (some ⟨r, 0, none⟩)) := (unhide HC1).blk.cell rfl
  have hp := pastN_le l t
  have HE := hide (show estN l t = sumB (l.drop (pastN l t)) - (if pastN l t = l.length then 0 else (bkAt l (pastN l t)).sz / 2) from rfl)
  generalize pastN l t = p at *
  go_wp2_with fail
  refine (rowLen_any r og l w1 (unhide HC1).row).mono ?_
  rintro e w2 ⟨rfl, hw2⟩
  rw [hw2]
  clear hw2 w2
  generalize hn : l.length = n at *
  have HN := hide hn
  clear hn
  by_cases hpn : p = n
  · have hb : ((p : Int) == (n : Int)) = true := by simp [hpn]
    have HPN := hide hpn
    clear hpn
    go_wp2
    go_ret
    refine ⟨?_, unhide HK1⟩
    rw [unhide HE, if_pos (unhide HPN), List.drop_eq_nil_of_le (by rw [unhide HN, unhide HPN]; exact Nat.le_refl _)]
    rfl
  · have hb : ((p : Int) == (n : Int)) = false := by simp; omega
    have HPN := hide hpn
    have hpl : p < n := by omega
    clear hpn
    go_wp2_with fail
    go_loopg [6, 7] (n - p) (fun g a b wr => ∃ (k : Nat) (s : Int), a = .int .i64 s ∧ b = .int .i64 k ∧ p ≤ k ∧ k ≤ n ∧ n - k = g ∧ 0 ≤ s ∧ s ≤ 4398046511104 ∧ Hid (CRep wr d r og c l) ∧ Hid (Keeps (fun _ => False) w wr) ∧ Hid (s + sumB (l.drop k) = sumB (l.drop p)))
    case atStart => exact ⟨p, 0, rfl, rfl, Nat.le_refl _, by omega, rfl, by omega, by omega, HC1, HK1, by show _ = _; omega⟩
    case round =>
      obtain ⟨k, s, rfl, rfl, hk1, hk2, hg, s0, s1, HCR, HKR, HSR⟩ := hrel
      have HG := hide hg
      clear hg hc20
      have hc20 : wr.cell? ⟨d, 20, none⟩ = some (.pointer (some ⟨r, 0, none⟩)) := (unhide HCR).blk.cell rfl
      go_wp2_with fail
      refine (rowLen_any r og l wr (unhide HCR).row).mono ?_
      rintro e w2 ⟨rfl, hw2⟩
      rw [hw2, unhide HN]
      clear hw2 w2
      by_cases hkn : k < n
      · have hkn' : (k : Int) < (n : Int) := by omega
        go_wp2_with fail
        refine (rowAt_any r og l k wr (unhide HCR).row (by rw [unhide HN]; exact hkn)).mono ?_
        rintro e w2 ⟨rfl, hk3⟩
        have HC2 := hide ((unhide HCR).still hk3)
        have HK2 := hide ((unhide HKR).then hk3)
        clear hk3
        have hdk := bkAt_drop l k (by rw [unhide HN]; exact hkn)
        have hx1 := (unhide HI).one _ (bkAt_mem (l := l) (i := k) (by rw [unhide HN]; exact hkn))
        generalize bkAt l k = x at *
        have hsd : sumB (l.drop k) = x.sz + sumB (l.drop (k + 1)) := by rw [hdk]; rfl
        have hsp : sumB (l.drop p) ≤ 4398046511104 := ((unhide HI).drop p).sum
        have hs1 : 0 ≤ sumB (l.drop (k + 1)) := sumB_nonneg ((unhide HI).drop (k + 1)).one
        have hse : s + x.sz ≤ 4398046511104 := by have := unhide HSR; omega
        have HSN := hide (show s + x.sz + sumB (l.drop (k + 1)) = sumB (l.drop p) by have := unhide HSR; omega)
        clear hdk hsd hsp hs1
        have hw3 : IntKind.i64.wrap (s + x.sz) = s + x.sz := by rw [IntKind.wrap_i64]; omega
        unfold Bk.val
        go_wp2
        go_roundg (n - (k + 1))
        case measure => have := unhide HG; omega
        case rel => exact ⟨k + 1, s + x.sz, rfl, by go_num, by omega, by omega, rfl, by omega, by omega, HC2, HK2, HSN⟩
      · have HKN := hide (show k = n by omega)
        go_wp2_with fail
        refine (rowAt_any r og l p wr (unhide HCR).row (by rw [unhide HN]; exact hpl)).mono ?_
        rintro e w2 ⟨rfl, hk3⟩
        have HK2 := hide ((unhide HKR).then hk3)
        clear hk3
        have hx1 := (unhide HI).one _ (bkAt_mem (l := l) (i := p) (by rw [unhide HN]; exact hpl))
        have hx2 := sz_le_sumB (unhide HI).one (bkAt_mem (l := l) (i := p) (by rw [unhide HN]; exact hpl))
        have hx3 := (unhide HI).sum
        generalize bkAt l p = x at *
        have hx4 : x.sz ≤ 4398046511104 := by omega
        have hx5 : x.sz / 2 ≤ 4398046511104 := by omega
        have hx6 : 0 ≤ x.sz / 2 := by omega
        have HSF := hide (show s = sumB (l.drop p) by
          have := unhide HSR
          rw [List.drop_eq_nil_of_le (by rw [unhide HN, unhide HKN]; exact Nat.le_refl _)] at this
          simp only [sumB] at this; omega)
        have hw4 : IntKind.i64.wrap (s - x.sz / 2) = s - x.sz / 2 := by rw [IntKind.wrap_i64]; omega
        clear hx2 hx3
        unfold Bk.val
        go_wp2
        go_ret
        refine ⟨?_, unhide HK2⟩
        rw [unhide HE, if_neg (unhide HPN), unhide HSF]
        rfl

end Go.Proofs.YtjhaihbjhikhlaaGreat

namespace Go.Proofs.YtjhaihbjhikhlaaGreat
open Go.RowKit
attribute [local go_sem ↓] execOp_load38 execOp_load40
attribute [local go_sem] run_load38 run_load40 bigVal_drew hasBig_drew bigVal_ne hasBig_ne bigVal_new hasBig_newB

/-- A release, on the buckets. -/
def liveB (c : Cfg) (l : List Bk) (m : Int) : List Bk := l.drop (pastN l (m - c.window))
def putB (c : Cfg) (l : List Bk) (t m : Int) : List Bk := liveB c l m ++ [⟨1, t⟩]
def relB (c : Cfg) (l : List Bk) (t m : Int) : List Bk := joinL c.k ((putB c l t m).length + 1) (putB c l t m) 1 (putB c l t m).length

theorem liveB_put {c : Cfg} {l : List Bk} {m : Int} (t : Int) (h : BInv l) (hs : sumB l + 1 ≤ 4398046511104) : BInv (putB c l t m) := by
  unfold putB
  refine ⟨fun b hb => ?_, ?_⟩
  · rcases List.mem_append.1 hb with hb | hb
    · exact h.one b (List.mem_of_mem_drop hb)
    · rw [List.mem_singleton] at hb; rw [hb]; exact Int.le_refl _
  · have h1 := sumB_split l (pastN l (m - c.window))
    have h2 := sumB_nonneg (l := l.take (pastN l (m - c.window))) (fun b hb => h.one b (List.mem_of_mem_take hb))
    rw [sumB_append]
    unfold liveB
    simp only [sumB]
    omega

set_option maxRecDepth 100000 in
set_option maxHeartbeats 4000000 in
theorem cntRelease_any (d r : Nat) (og : Option Nat) (c : Cfg) (l : List Bk) (x : It) (m : Int) (w : World) (h : CRep w d r og c l) (hi : BInv l) (hs : sumB l + 1 ≤ 4398046511104)
    (m0 : -100 ≤ m) (m1 : m ≤ 4611686018427387904) (w0 : 0 ≤ c.window) (w1 : c.window ≤ 1000) (k1 : 1 ≤ c.k) (k10 : c.k ≤ 10) :
    Calls Tryz.prog 91 #[.pointer (some ⟨d, 0, none⟩), x.val, .int .i64 m] w fun e w' => e = .returned (.tuple #[]) ∧ ∃ og', CRep w' d r og' c (relB c l x.t m) ∧ Keeps (fun i => i = r ∨ og = some i) w w' ∧ (og' = og ∨ ∃ k, og' = some k ∧ w.heap.size ≤ k) := by
  have hc20 : w.cell? ⟨d, 20, none⟩ = some (.pointer (some ⟨r, 0, none⟩)) := h.blk.cell rfl
  have HC := hide h
  have HI := hide hi
  have hl := hi.len
  have HP := hide (pastN_le l (m - c.window))
  have HL := hide (liveB_put (c := c) (m := m) x.t hi hs)
  have HLL := hide (show (liveB c l m).length ≤ 4398046511104 from by have := (hi.drop (pastN l (m - c.window))).len; exact this)
  have HRB := hide (show relB c l x.t m = joinL c.k ((putB c l x.t m).length + 1) (putB c l x.t m) 1 (putB c l x.t m).length from rfl)
  have HLV := hide (show liveB c l m = l.drop (pastN l (m - c.window)) from rfl)
  have hlt := h.blk.lt
  clear h hi
  unfold It.val
  go_enter Tryz.func91, Tryz.ntmps91
  go_wp2_with fail
  have HX := hide (Blk.new w [.int .i64 x.t, .int .i64 x.k, .int .i64 x.d, .int .i64 x.n] 66)
  have e0 : (w.alloc (.cells [Value.int .i64 x.t, .int .i64 x.k, .int .i64 x.d, .int .i64 x.n].toArray 66)) = (w.alloc (.cells #[.int .i64 x.t, .int .i64 x.k, .int .i64 x.d, .int .i64 x.n] 66)) := rfl
  rw [e0] at HX
  clear e0
  have HC0 := hide ((unhide HC).still ((Keeps.refl (fun _ => False) w).alloc (.cells #[.int .i64 x.t, .int .i64 x.k, .int .i64 x.d, .int .i64 x.n] 66)))
  have HK0 := hide ((Keeps.refl (fun i => i = r ∨ og = some i) w).alloc (.cells #[.int .i64 x.t, .int .i64 x.k, .int .i64 x.d, .int .i64 x.n] 66))
  generalize w.alloc (.cells #[.int .i64 x.t, .int .i64 x.k, .int .i64 x.d, .int .i64 x.n] 66) = W at *
  have HNX := hide (show w.heap.size ≠ r ∧ ∀ g, og = some g → w.heap.size ≠ g from by
    have h1 := (unhide HC).row.lt
    exact ⟨by omega, fun g hg => by have := h1.2 g hg; omega⟩)
  generalize hbx : w.heap.size = bx at *
  have HBX := hide hbx
  clear hbx hc20
  have hc20 : W.cell? ⟨d, 20, none⟩ = some (.pointer (some ⟨r, 0, none⟩)) := (unhide HC0).blk.cell rfl
  go_region_with (first | (go_at_call 108; refine (dead_any d r og c l m _ (by exact (unhide HC0).still (Keeps.refl _ _).drew) hl m0 m1 w0 w1).mono ?_; rintro e W1 ⟨rfl, hkd⟩; have hc20d := ((unhide HC0).still (((Keeps.refl (fun _ => False) W).drew).then hkd)).blk.cell (i := 20) rfl) | (go_at_call 107; refine (lose_any r og l (pastN l (m - c.window)) _ (by exact ((unhide HC0).still (((Keeps.refl (fun _ => False) W).drew).then hkd)).row) (unhide HP)).mono ?_; rintro e W2 ⟨rfl, hr2, hk2⟩))
  all_goals
    have HC2 := hide (show CRep W2 d r og c (liveB c l m) from ⟨(((unhide HC0).blk.drew).keeps hkd (fun h => h)).keeps hk2 (fun h => h.elim (unhide HC0).dr (fun h => (unhide HC0).dg d h rfl)), by rw [unhide HLV]; exact hr2, (unhide HC0).dr, (unhide HC0).dg⟩)
    have HX2 := hide ((((unhide HX).drew).keeps hkd (fun h => h)).keeps hk2 (fun h => h.elim (unhide HNX).1 (fun h => (unhide HNX).2 bx h rfl)))
    have HK2 := hide ((((unhide HK0).drew).trans hkd (fun _ h _ => h.elim)).then hk2)
    clear hkd hk2 hr2 hc20
    have hc20 : W2.cell? ⟨d, 20, none⟩ = some (.pointer (some ⟨r, 0, none⟩)) := (unhide HC2).blk.cell rfl
    have hx0 : W2.cell? ⟨bx, 0, none⟩ = some (.int .i64 x.t) := (unhide HX2).cell rfl
    go_wp2_with fail
    go_region_with (go_at_call 109; refine (rowPut_any r og (liveB c l m) ⟨1, x.t⟩ _ (by exact (unhide HC2).row.still (Keeps.refl _ _).drew) (unhide HLL)).mono ?_; rintro e W3 ⟨rfl, og', hr3, hk3, hog⟩)
    all_goals
      have HC3 := hide (show CRep W3 d r og' c (putB c l x.t m) from ⟨((unhide HC2).blk.drew).keeps hk3 (fun h => h.elim (unhide HC2).dr (fun h => (unhide HC2).dg d h rfl)), hr3, (unhide HC2).dr, fun g hg => by
        rcases hog with h | ⟨k, h, hk⟩
        · exact (unhide HC2).dg g (by rw [← h, hg])
        · rw [hg] at h
          injection h with h
          have := (unhide HC2).blk.lt
          rw [World.size_drew] at hk
          omega⟩)
      have HK3 := hide (((unhide HK2).drew).then hk3)
      have HOG := hide (show og' = og ∨ ∃ k, og' = some k ∧ W2.heap.size ≤ k from hog)
      have HSZ2 := hide (unhide HK2).size
      clear hk3 hr3 hc20 hog
      go_wp2_with fail
      refine (join_any d r og' c _ W3 (unhide HC3) (unhide HL) k1 k10).mono ?_
      rintro e W4 ⟨rfl, hc4, hk4⟩
      go_wp2
      go_end0
      refine ⟨rfl, og', by rw [unhide HRB]; exact hc4, (unhide HK3).trans hk4 (fun i hi hlt => ?_), ?_⟩
      · rcases hi with hi | hi
        · exact .inl hi
        · rcases unhide HOG with h | ⟨k, h, hk⟩
          · exact .inr (by rw [← h, hi])
          · rw [hi] at h
            injection h with h
            have := unhide HSZ2
            have h5 := unhide HBX
            omega
      · rcases unhide HOG with h | ⟨k, h, hk⟩
        · exact .inl h
        · have := unhide HSZ2
          have h5 := unhide HBX
          exact .inr ⟨k, h, by omega⟩

end Go.Proofs.YtjhaihbjhikhlaaGreat

namespace Go.Proofs.YtjhaihbjhikhlaaGreat
open Go.RowKit
attribute [local go_sem ↓] execOp_load38 execOp_load40
attribute [local go_sem] run_load38 run_load40 bigVal_drew hasBig_drew bigVal_ne hasBig_ne bigVal_new hasBig_newB

set_option maxRecDepth 100000 in
set_option maxHeartbeats 2000000 in
theorem cntQuery_no (d r : Nat) (og : Option Nat) (c : Cfg) (l : List Bk) (a m : Int) (w : World) (h : CRep w d r og c l) (ha : inB a 1 c.window = false) :
    Calls Tryz.prog 92 #[.pointer (some ⟨d, 0, none⟩), .int .i64 a, .int .i64 m] w fun e w' => e = .returned (.tuple #[.slice none 0 0, .int .i64 13]) ∧ Keeps (fun _ => False) w w' := by
  have hc5 : w.cell? ⟨d, 5, none⟩ = some (.int .i64 c.window) := h.blk.cell rfl
  clear h
  go_enter Tryz.func92, Tryz.ntmps92
  go_wp2_with (go_at_call 30; refine (within_any _ _ _ _).mono ?_; rintro e w' ⟨rfl, rfl⟩)
  go_ret2
  exact ⟨rfl, Keeps.refl _ _⟩

set_option maxRecDepth 100000 in
set_option maxHeartbeats 2000000 in
theorem cntQuery_yes (d r : Nat) (og : Option Nat) (c : Cfg) (l : List Bk) (a m : Int) (w : World) (h : CRep w d r og c l) (hi : BInv l) (ha : inB a 1 c.window = true) (m0 : -100 ≤ m) (m1 : m ≤ 4611686018427387904) (w1 : c.window ≤ 1000) :
    Calls Tryz.prog 92 #[.pointer (some ⟨d, 0, none⟩), .int .i64 a, .int .i64 m] w fun e w' => ∃ g, e = .returned (.tuple #[.slice (some ⟨g, 0, none⟩) 1 1, .int .i64 0]) ∧ w.heap.size ≤ g ∧ Blk w' g [.int .i64 (estN l (m - a))] 3 ∧ Keeps (fun _ => False) w w' := by
  have hc5 : w.cell? ⟨d, 5, none⟩ = some (.int .i64 c.window) := h.blk.cell rfl
  have HC := hide h
  have HI := hide hi
  have ha1 : 1 ≤ a ∧ a ≤ c.window := by simpa [inB] using ha
  obtain ⟨a1, a2⟩ := ha1
  have hwr : IntKind.i64.wrap (m - a) = m - a := by rw [IntKind.wrap_i64]; omega
  clear h hi
  go_enter Tryz.func92, Tryz.ntmps92
  go_wp2_with (first | (go_at_call 30; refine (within_any _ _ _ _).mono ?_; rintro e w' ⟨rfl, rfl⟩) | fail)
  refine (estimate_any d r og c l (m - a) _ (unhide HC) (unhide HI)).mono ?_
  rintro e w2 ⟨rfl, hk2⟩
  have HK2 := hide hk2
  clear hk2
  go_wp2
  go_ret2
  exact ⟨w2.heap.size, rfl, (unhide HK2).size, Blk.new w2 [.int .i64 (estN l (m - a))] 3, (unhide HK2).alloc _⟩

def thrownB (c : Cfg) (l : List Bk) (m b : Int) : Int := min (pastN l (m - c.window) : Int) b

set_option maxRecDepth 100000 in
set_option maxHeartbeats 2000000 in
theorem cntSweep_any (d r : Nat) (og : Option Nat) (c : Cfg) (l : List Bk) (m b : Int) (w : World) (h : CRep w d r og c l) (hi : BInv l) (m0 : -100 ≤ m) (m1 : m ≤ 4611686018427387904) (w0 : 0 ≤ c.window) (w1 : c.window ≤ 1000) (b0 : 0 ≤ b) (b1 : b ≤ 100) :
    Calls Tryz.prog 93 #[.pointer (some ⟨d, 0, none⟩), .int .i64 m, .int .i64 b] w fun e w' => e = .returned (.tuple #[.int .i64 (thrownB c l m b), .int .i64 ((pastN l (m - c.window) : Int) - thrownB c l m b)]) ∧ CRep w' d r og c (l.drop (thrownB c l m b).toNat) ∧ Keeps (fun i => i = r ∨ og = some i) w w' := by
  have HC := hide h
  have hl := hi.len
  have hp := pastN_le l (m - c.window)
  have HT := hide (show thrownB c l m b = min (pastN l (m - c.window) : Int) b from rfl)
  clear h hi
  go_enter Tryz.func93, Tryz.ntmps93
  go_wp2_with fail
  refine (dead_any d r og c l m w (unhide HC) hl m0 m1 w0 w1).mono ?_
  rintro e W1 ⟨rfl, hk1⟩
  have HC1 := hide ((unhide HC).still hk1)
  have HK1 := hide hk1
  clear hk1
  generalize hpp : pastN l (m - c.window) = p at *
  have HPP := hide hpp
  clear hpp
  have hc20 : W1.cell? ⟨d, 20, none⟩ = some (.pointer (some ⟨r, 0, none⟩)) := (unhide HC1).blk.cell rfl
  by_cases hbp : b < (p : Int)
  · obtain ⟨bn, rfl⟩ : ∃ bn : Nat, b = (bn : Int) := ⟨b.toNat, by omega⟩
    have HT2 := hide (show thrownB c l m bn = (bn : Int) by rw [unhide HT]; omega)
    have hwr : IntKind.i64.wrap ((p : Int) - (bn : Int)) = (p : Int) - (bn : Int) := by rw [IntKind.wrap_i64]; omega
    clear HT
    go_wp2_with fail
    refine (lose_any r og l bn W1 (unhide HC1).row (by omega)).mono ?_
    rintro e W2 ⟨rfl, hr2, hk2⟩
    have HC2 := hide (show CRep W2 d r og c (l.drop bn) from ⟨(unhide HC1).blk.keeps hk2 (fun h => h.elim (unhide HC1).dr (fun h => (unhide HC1).dg d h rfl)), hr2, (unhide HC1).dr, (unhide HC1).dg⟩)
    have HK2 := hide (((unhide HK1).mono (M' := fun i => i = r ∨ og = some i) (fun _ _ h => h.elim)).then hk2)
    clear hr2 hk2 hc20
    go_wp2
    go_ret2
    refine ⟨?_, ?_, unhide HK2⟩
    · rw [unhide HPP, unhide HT2]; rfl
    · rw [unhide HT2, Int.toNat_natCast]; exact unhide HC2
  · have hbp' : (p : Int) ≤ b := by omega
    have HT2 := hide (show thrownB c l m b = (p : Int) by rw [unhide HT]; omega)
    have hwr : IntKind.i64.wrap ((p : Int) - (p : Int)) = (p : Int) - (p : Int) := by rw [IntKind.wrap_i64]; omega
    clear HT hbp
    go_wp2_with fail
    refine (lose_any r og l p W1 (unhide HC1).row hp).mono ?_
    rintro e W2 ⟨rfl, hr2, hk2⟩
    have HC2 := hide (show CRep W2 d r og c (l.drop p) from ⟨(unhide HC1).blk.keeps hk2 (fun h => h.elim (unhide HC1).dr (fun h => (unhide HC1).dg d h rfl)), hr2, (unhide HC1).dr, (unhide HC1).dg⟩)
    have HK2 := hide (((unhide HK1).mono (M' := fun i => i = r ∨ og = some i) (fun _ _ h => h.elim)).then hk2)
    clear hr2 hk2 hc20
    go_wp2
    go_ret2
    refine ⟨?_, ?_, unhide HK2⟩
    · rw [unhide HPP, unhide HT2]; simp
    · rw [unhide HT2, Int.toNat_natCast]; exact unhide HC2

def cntRelV (d : Nat) : Value := .func (.func 91) #[.pointer (some ⟨d, 0, none⟩)] #[]
def cntQryV (d : Nat) : Value := .func (.func 92) #[.pointer (some ⟨d, 0, none⟩)] #[]
def cntSwpV (d : Nat) : Value := .func (.func 93) #[.pointer (some ⟨d, 0, none⟩)] #[]

theorem bigVal_keep {w w' : World} {b o n : Nat} (hk : Keeps (fun _ => False) w w') (hlt : b < w.heap.size) : bigVal w' b o n = bigVal w b o n ∧ hasBig w' b o n = hasBig w b o n := by
  have hc : ∀ j, w'.cell? ⟨b, o + j, none⟩ = w.cell? ⟨b, o + j, none⟩ := fun j => World.cell?_of_block (a := ⟨b, o + j, none⟩) (hk.block b hlt (fun h => h))
  constructor
  · unfold bigVal bigCells; simp only [hc]
  · unfold hasBig; simp only [hc]
/-- The notes' literal. -/
def buildC (ty : TypeId) (ps : Array (Nat × Value)) : Sem Next := do pure (.value (← Instr.build ty ps))
theorem execOp_buildC (ρ : Operand → Value) (dst : Option Tmp) (x : Array (Nat × Operand)) (ty : TypeId) (pos : String) (after : Array Edge) (guard : Option (Nat × Bool)) :
    execOp ρ { dst, op := .build 146 x, type := ty, pos, after, guard } = buildC 146 (x.map fun (i, y) => (i, ρ y)) := rfl
theorem run_buildC (c : Cfg) (rb : Nat) (w : World) :
    (buildC 146 #[(0, .agg c.cells.toArray), (1, .pointer (some ⟨rb, 0, none⟩))]).run Tryz.prog w = .ok (.value (.agg (cntCells c rb).toArray)) w := by kernel_rfl
attribute [local go_sem ↓] execOp_buildC
attribute [local go_sem] run_buildC

set_option maxRecDepth 100000 in
set_option maxHeartbeats 2000000 in
theorem newCount_any (c : Cfg) (w : World) :
    Calls Tryz.prog 90 #[c.val] w fun e w' => ∃ d r, e = .returned (.pointer (some ⟨d, 0, none⟩)) ∧ w.heap.size ≤ d ∧ w.heap.size ≤ r ∧ CRep w' d r none c [] ∧ Keeps (fun _ => False) w w' := by
  have HB := hide (Blk.new w c.cells 33)
  have HK := hide ((Keeps.refl (fun _ => False) w).alloc (.cells c.cells.toArray 33))
  have hex : ∃ W, W = w.alloc (.cells c.cells.toArray 33) := ⟨_, rfl⟩
  unfold Cfg.val
  go_enter Tryz.func90, Tryz.ntmps90
  go_wp2_with fail
  obtain ⟨W, hW⟩ := hex
  have e0 : w.alloc (.cells #[.int .i64 c.kind, .int .i64 c.lag, .int .i64 c.skew, .int .i64 c.cap, .int .i64 c.k, .int .i64 c.window, .int .i64 c.bits, .int .i64 c.rows, .int .i64 c.width, .int .i64 c.panes, .int .i64 c.size, .int .i64 c.degree, .int .i64 c.half, .int .i64 c.mark, .int .i64 c.s00, .int .i64 c.s01, .int .i64 c.s10, .int .i64 c.s11, .int .i64 c.s20, .int .i64 c.s21] 33) = W := hW.symm
  rw [e0]
  rw [← hW] at HB HK
  clear e0 hW
  generalize hcb : w.heap.size = cb at *
  have HCB := hide hcb
  clear hcb
  have hsz0 : cb < W.heap.size := (unhide HB).lt
  obtain ⟨hv, hh⟩ := bigVal_Blk (unhide HB) 20 rfl
  go_region_held3 (fun w' => bigVal w' cb 0 20 = .agg c.cells.toArray ∧ hasBig w' cb 0 20 = true)
    (first | (simp [*, bigVal_drew, hasBig_drew, bigVal_alloc, hasBig_alloc]; done) | (go_split_ands; exact ⟨(bigVal_keep hk1 (by simpa using hsz0)).1.trans (by assumption), (bigVal_keep hk1 (by simpa using hsz0)).2.trans (by assumption)⟩))
    (first | (go_at_call 105; refine (rowNew_any _).mono ?_; rintro e W1 ⟨rfl, hr1, hk1, hz1⟩))
  go_wp2
  go_ret
  have hk1' : Keeps (fun _ => False) W W1 := ((Keeps.refl _ _).drew).then hk1
  have hka : ∀ O, Keeps (fun _ => False) W1 (W1.alloc O) := fun O => (Keeps.refl (fun _ => False) W1).alloc O
  have h2 := (unhide HK).size
  have h3 := unhide HCB
  have hz2 : W1.heap.size = W.heap.size + 1 := by simpa using hz1
  exact ⟨W.heap.size + 1, W.heap.size, rfl, by omega, by omega, ⟨Blk.newAt hz2 (cntCells c W.heap.size) 146, hr1.still (hka _), by omega, fun g hg => by cases hg⟩, ((unhide HK).then hk1').alloc _⟩

set_option maxRecDepth 100000 in
set_option maxHeartbeats 2000000 in
theorem startCount_any (c : Cfg) (w : World) :
    Calls Tryz.prog 74 #[c.val] w fun e w' => ∃ d r, e = .returned (.agg #[cntRelV d, cntQryV d, cntSwpV d]) ∧ w.heap.size ≤ d ∧ w.heap.size ≤ r ∧ CRep w' d r none c [] ∧ Keeps (fun _ => False) w w' := by
  have HB := hide (show Blk ((w.alloc (.cells c.cells.toArray 33)).alloc (.cells #[.nilFunc, .nilFunc, .nilFunc] 72)) w.heap.size c.cells 33 from (Blk.new w c.cells 33).alloc _)
  have HT := hide (show Blk ((w.alloc (.cells c.cells.toArray 33)).alloc (.cells #[.nilFunc, .nilFunc, .nilFunc] 72)) (w.heap.size + 1) [.nilFunc, .nilFunc, .nilFunc] 72 from Blk.newAt (by simp) _ _)
  have HK := hide (((Keeps.refl (fun _ => False) w).alloc (.cells c.cells.toArray 33)).alloc (.cells #[.nilFunc, .nilFunc, .nilFunc] 72))
  have hex : ∃ W, W = (w.alloc (.cells c.cells.toArray 33)).alloc (.cells #[.nilFunc, .nilFunc, .nilFunc] 72) := ⟨_, rfl⟩
  unfold Cfg.val
  go_enter Tryz.func74, Tryz.ntmps74
  go_wp2_with fail
  obtain ⟨W, hW⟩ := hex
  have e0 : (w.alloc (.cells #[.int .i64 c.kind, .int .i64 c.lag, .int .i64 c.skew, .int .i64 c.cap, .int .i64 c.k, .int .i64 c.window, .int .i64 c.bits, .int .i64 c.rows, .int .i64 c.width, .int .i64 c.panes, .int .i64 c.size, .int .i64 c.degree, .int .i64 c.half, .int .i64 c.mark, .int .i64 c.s00, .int .i64 c.s01, .int .i64 c.s10, .int .i64 c.s11, .int .i64 c.s20, .int .i64 c.s21] 33)).alloc (.cells #[.nilFunc, .nilFunc, .nilFunc] 72) = W := hW.symm
  rw [e0]
  rw [← hW] at HT HK
  clear e0 hW HB
  generalize hcb : w.heap.size = cb at *
  have HCB := hide hcb
  clear hcb
  refine (newCount_any c W).mono ?_
  rintro e w2 ⟨d, r, rfl, hd, hr, hc2, hk2⟩
  have HC2 := hide hc2
  have HT2 := hide ((unhide HT).keeps hk2 (fun h => h))
  have HK2 := hide ((unhide HK).then hk2)
  have HSZ := hide (unhide HK).size
  have HLT := hide (unhide HT).lt
  clear hc2 hk2 HT HK
  have f0 := (unhide HT2).frozen
  have q0 : w2.cell? ⟨cb + 1, 0, none⟩ = some .nilFunc := (unhide HT2).cell rfl
  have q1 : w2.cell? ⟨cb + 1, 1, none⟩ = some .nilFunc := (unhide HT2).cell rfl
  have q2 : w2.cell? ⟨cb + 1, 2, none⟩ = some .nilFunc := (unhide HT2).cell rfl
  go_wp2
  have hcb := unhide HCB
  have hsz := unhide HSZ
  have hkf : Keeps (fun i => i = cb + 1) w2 (((w2.setCell ⟨cb + 1, 0, none⟩ (cntRelV d)).setCell ⟨cb + 1, 1, none⟩ (cntQryV d)).setCell ⟨cb + 1, 2, none⟩ (cntSwpV d)) := (((Keeps.refl (fun i => i = cb + 1) w2).setCell (p := ⟨cb + 1, 0, none⟩) (Or.inl rfl) _).setCell (p := ⟨cb + 1, 1, none⟩) (Or.inl rfl) _).setCell (p := ⟨cb + 1, 2, none⟩) (Or.inl rfl) _
  have hbf := (((unhide HT2).setCell 0 (cntRelV d)).setCell 1 (cntQryV d)).setCell 2 (cntSwpV d)
  refine bodyPost_ret (v := .agg #[cntRelV d, cntQryV d, cntSwpV d]) (by simp [results, Tryz.results74, go_sem, q0, q1, q2, cntRelV, cntQryV, cntSwpV]) rfl ⟨d, r, rfl, by omega, by omega, ?_, ?_⟩
  · exact (unhide HC2).keeps hkf (fun h => by have := unhide HLT; omega) (fun h => by have := unhide HLT; omega) (fun g hg => by cases hg)
  · exact (unhide HK2).trans hkf (fun i hi hlt => by omega)

end Go.Proofs.YtjhaihbjhikhlaaGreat
