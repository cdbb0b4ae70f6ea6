import Derived.Test.YtjhaihbjhikhlaaGreatRows
import Derived.WalkKit
import Derived.WalkSpells
import Derived.WalkLawsBesides
import Derived.BigQuiet
import Derived.BigRegion
import Derived.Deep.RegionHeld3
import Derived.Deep.QuietTactic
namespace Go.Proofs.YtjhaihbjhikhlaaGreat
open Go.RowKit

def inB (n lo hi : Int) : Bool := decide (lo ≤ n) && decide (n ≤ hi)

theorem ret_bool {a b : Bool} (h : a = b) : Ending.returned (.bool a) = .returned (.bool b) := by rw [h]
theorem ret_int {k : IntKind} {a b : Int} (h : a = b) : Ending.returned (.int k a) = .returned (.int k b) := by rw [h]

set_option maxHeartbeats 400000 in
theorem within_any (n lo hi : Int) (w : World) :
    Calls Tryz.prog 30 #[.int .i64 n, .int .i64 lo, .int .i64 hi] w fun e w' => e = .returned (.bool (inB n lo hi)) ∧ w' = w := by
  by_cases h : lo ≤ n
  · go_enter Tryz.func30, Tryz.ntmps30
    go_wp2
    go_ret
    exact ⟨by simp [inB, h], rfl⟩
  · have hd : decide (lo ≤ n) = false := by simpa using h
    have HI : Hid (false = inB n lo hi) := by simp [Hid, inB, h]
    go_enter Tryz.func30, Tryz.ntmps30
    go_wp2
    go_ret
    exact ⟨ret_bool HI.out, rfl⟩

set_option maxHeartbeats 400000 in
theorem time_any (n : Int) (w : World) :
    Calls Tryz.prog 36 #[.int .i64 n] w fun e w' => e = .returned (.bool (inB n 0 4611686018427387904)) ∧ w' = w := by
  go_enter Tryz.func36, Tryz.ntmps36
  go_wp2_with (go_at_call 30; refine (within_any _ _ _ _).mono ?_; rintro e w' ⟨rfl, rfl⟩)
  go_ret
  exact ⟨rfl, rfl⟩

structure It where
  t : Int
  k : Int
  d : Int
  n : Int

def It.cells (x : It) : Array Value := #[.int .i64 x.t, .int .i64 x.k, .int .i64 x.d, .int .i64 x.n]
def It.val (x : It) : Value := .agg #[.int .i64 x.t, .int .i64 x.k, .int .i64 x.d, .int .i64 x.n]

def aheadB (a b : It) : Bool := if a.t = b.t then decide (a.n < b.n) else decide (a.t < b.t)

set_option maxHeartbeats 400000 in
theorem ahead_any (a b : It) (w : World) :
    Calls Tryz.prog 56 #[a.val, b.val] w fun e w' => e = .returned (.bool (aheadB a b)) ∧ w' = (w.alloc (.cells a.cells 66)).alloc (.cells b.cells 66) := by
  unfold It.val It.cells
  by_cases h : a.t = b.t
  · have H1 : Hid (decide (a.n < b.n) = aheadB a b) := by simp [Hid, aheadB, h]
    have hb : (a.t != b.t) = false := by simp [h]
    clear h
    go_enter Tryz.func56, Tryz.ntmps56
    go_wp2
    go_ret
    exact ⟨ret_bool H1.out, rfl⟩
  · have H1 : Hid (decide (a.t < b.t) = aheadB a b) := by simp [Hid, aheadB, h]
    have hb : (a.t != b.t) = true := by simp [h]
    clear h
    go_enter Tryz.func56, Tryz.ntmps56
    go_wp2
    go_ret
    exact ⟨ret_bool H1.out, rfl⟩

/-- `weight.power`: none stands for `0, false`. -/
def powGo (base : Int) : Nat → Int → Option Int
  | 0, p => some p
  | n + 1, p => if 2305843009213693952 / base < p then none else powGo base n (p * base)

def optInt : Option Int → Int | some x => x | none => 0
def optVal (o : Option Int) : Value := .tuple #[.int .i64 (optInt o), .bool o.isSome]

theorem mul_ok (p b : Int) (hp : 1 ≤ p) (hb : 1 ≤ b) (h : ¬ 2305843009213693952 / b < p) : 1 ≤ p * b ∧ p * b ≤ 2305843009213693952 := by
  constructor
  · have := Int.mul_le_mul hp hb (by omega) (by omega); simpa using this
  · have h1 : p ≤ 2305843009213693952 / b := by omega
    exact (Int.le_ediv_iff_mul_le (by omega)).1 h1

set_option maxHeartbeats 400000 in
theorem power_any (b : Int) (n : Nat) (w : World) (hb : 1 ≤ b) (hb' : b ≤ 4611686018427387905) (hn : n ≤ 3) :
    Calls Tryz.prog 112 #[.int .i64 b, .int .i64 n] w fun e w' => e = .returned (optVal (powGo b n 1)) ∧ w' = w := by
  go_enter Tryz.func112, Tryz.ntmps112
  go_wp2
  go_loop [6, 8] (fun p i => ∃ k : Nat, ∃ q : Int, k ≤ n ∧ i = .int .i64 k ∧ p = .int .i64 q ∧ 1 ≤ q ∧ q ≤ 2305843009213693952 ∧ powGo b n 1 = powGo b (n - k) q) (fun _ i => n - (intOf i).toNat)
  case atStart => exact ⟨0, 1, Nat.zero_le _, rfl, rfl, by omega, by omega, rfl⟩
  case round =>
    obtain ⟨k, q, hk, rfl, rfl, hq1, hq2, he⟩ := hrel
    have HE : Hid (powGo b n 1 = powGo b (n - k) q) := he
    clear he
    by_cases hlt : k < n
    · obtain ⟨m, hm⟩ : ∃ m, n - k = m + 1 := ⟨n - k - 1, by omega⟩
      have HM : Hid (n - k = m + 1) := hm
      clear hm
      by_cases hc : 2305843009213693952 / b < q
      · go_wp2
        go_ret2
        refine ⟨?_, rfl⟩
        rw [HE.out, HM.out]; simp [powGo, hc, optVal, optInt]
      · have hmo := mul_ok q b hq1 hb hc
        obtain ⟨hm1, hm2⟩ := hmo
        go_wp2
        go_round
        case rel => exact ⟨k + 1, q * b, by omega, by go_num, by go_num, hm1, hm2, by rw [HE.out, HM.out]; rw [show n - (k + 1) = m from by have := HM.out; omega]; simp [powGo, hc]⟩
        case measure => simp [intOf]; omega
    · go_wp2
      go_ret2
      refine ⟨?_, rfl⟩
      rw [HE.out, show n - k = 0 from by omega]; simp [powGo, optVal, optInt]

end Go.Proofs.YtjhaihbjhikhlaaGreat

namespace Go.Proofs.YtjhaihbjhikhlaaGreat
open Go.RowKit

/-- The blocks that were there stay as they were, but for those in M. -/
structure Keeps (M : Nat → Prop) (w w' : World) : Prop where
  os : w'.os = w.os
  tape : w'.tape = w.tape
  output : w'.output = w.output
  size : w.heap.size ≤ w'.heap.size
  block : ∀ k, k < w.heap.size → ¬ M k → w'.heap[k]? = w.heap[k]?

theorem Keeps.refl (M : Nat → Prop) (w : World) : Keeps M w w := ⟨rfl, rfl, rfl, Nat.le_refl _, fun _ _ _ => rfl⟩
theorem Keeps.trans {M M' : Nat → Prop} {a b c : World} (h : Keeps M a b) (k : Keeps M' b c) (hm : ∀ i, M' i → i < a.heap.size → M i) : Keeps M a c :=
  ⟨k.os.trans h.os, k.tape.trans h.tape, k.output.trans h.output, Nat.le_trans h.size k.size,
   fun i hi hn => (k.block i (Nat.lt_of_lt_of_le hi h.size) (fun hM => hn (hm i hM hi))).trans (h.block i hi hn)⟩
theorem Keeps.then {M : Nat → Prop} {a b c : World} (h : Keeps M a b) (k : Keeps M b c) : Keeps M a c := h.trans k (fun _ hM _ => hM)
theorem Keeps.mono {M M' : Nat → Prop} {a b : World} (h : Keeps M a b) (hm : ∀ i, i < a.heap.size → M i → M' i) : Keeps M' a b :=
  ⟨h.os, h.tape, h.output, h.size, fun i hi hn => h.block i hi (fun hM => hn (hm i hi hM))⟩
theorem Keeps.drew {M : Nat → Prop} {a w : World} (h : Keeps M a w) : Keeps M a w.drew := ⟨h.os, h.tape, h.output, h.size, h.block⟩
theorem Keeps.drewN (M : Nat → Prop) (w : World) (n : Nat) : Keeps M w (w.drewN n) := ⟨rfl, rfl, rfl, Nat.le_refl _, fun _ _ _ => rfl⟩
theorem Keeps.alloc {M : Nat → Prop} {a w : World} (h : Keeps M a w) (o : Obj) : Keeps M a (w.alloc o) :=
  h.trans (M' := fun _ => False) ⟨rfl, rfl, rfl, by simp, fun k hk _ => Below.heap_alloc _ _ _ hk⟩ (fun _ hf _ => hf.elim)
theorem Keeps.setCell {M : Nat → Prop} {a w : World} (h : Keeps M a w) {p : Addr} (hp : M p.block ∨ a.heap.size ≤ p.block) (v : Value) : Keeps M a (w.setCell p v) :=
  h.trans (M' := fun k => k = p.block) ⟨rfl, rfl, rfl, by simp, fun k _ hk => Below.heap_setCell _ _ _ _ hk⟩ (fun i hi hlt => by subst hi; rcases hp with hp | hp; exact hp; omega)
theorem Keeps.grown {M : Nat → Prop} {a w w' : World} {row : Option Nat} (h : Keeps M a w) (hg : w.grownBy w' row) (hr : ∀ k, row = some k → M k ∨ a.heap.size ≤ k) : Keeps M a w' :=
  h.trans (M' := fun k => row = some k) ⟨hg.os, hg.tape, hg.output, hg.size, fun k hk hn => hg.block k hk (fun e => hn e.symm)⟩
    (fun i hi hlt => by rcases hr i hi with h | h; exact h; omega)
theorem Keeps.of_below {w w' : World} (h : Below w.heap.size w w') : Keeps (fun _ => False) w w' := ⟨h.os, h.tape, h.output, h.size, fun k hk _ => h.block k hk⟩
theorem Keeps.cell {M : Nat → Prop} {w w' : World} (h : Keeps M w w') {p : Addr} {v : Value} (hc : w.cell? p = some v) (hn : ¬ M p.block) : w'.cell? p = some v :=
  (World.cell?_of_block (h.block p.block (World.block_lt_of_cell? w p hc) hn)).trans hc
theorem Keeps.frozen {M : Nat → Prop} {w w' : World} (h : Keeps M w w') {p : Addr} (hlt : p.block < w.heap.size) (hn : ¬ M p.block) : w'.frozen? p = w.frozen? p :=
  World.frozen?_of_block (h.block p.block hlt hn)

/-- Block b holds just these cells; none is frozen. -/
def Blk (w : World) (b : Nat) (cs : List Value) (T : TypeId) : Prop := w.heap[b]? = some (.cells cs.toArray T (0, 0))

theorem Blk.lt {w : World} {b : Nat} {cs : List Value} {T : TypeId} (h : Blk w b cs T) : b < w.heap.size := (Array.getElem?_eq_some_iff.1 h).1
theorem Blk.cell {w : World} {b : Nat} {cs : List Value} {T : TypeId} (h : Blk w b cs T) {i : Nat} {v : Value} (hi : cs[i]? = some v) : w.cell? ⟨b, i, none⟩ = some v := by
  unfold Blk at h; simp [World.cell?, h, hi]
theorem Blk.frozen {w : World} {b : Nat} {cs : List Value} {T : TypeId} (h : Blk w b cs T) (i : Nat) : w.frozen? ⟨b, i, none⟩ = false := by
  unfold Blk at h; simp [World.frozen?, h]
theorem Blk.keeps {M : Nat → Prop} {w w' : World} {b : Nat} {cs : List Value} {T : TypeId} (h : Blk w b cs T) (k : Keeps M w w') (hn : ¬ M b) : Blk w' b cs T := by
  unfold Blk at h ⊢; rw [k.block b (Blk.lt h) hn]; exact h
theorem Blk.setCell {w : World} {b : Nat} {cs : List Value} {T : TypeId} (h : Blk w b cs T) (i : Nat) (v : Value) : Blk (w.setCell ⟨b, i, none⟩ v) b (cs.set i v) T := by
  unfold Blk at h ⊢; simp [World.setCell, Array.getElem?_modify, h]
theorem Blk.setCell_far {w : World} {b : Nat} {cs : List Value} {T : TypeId} (h : Blk w b cs T) {p : Addr} (hp : p.block ≠ b) (v : Value) : Blk (w.setCell p v) b cs T := by
  unfold Blk at h ⊢; rw [Below.heap_setCell _ _ _ _ (Ne.symm hp)]; exact h
theorem Blk.drew {w : World} {b : Nat} {cs : List Value} {T : TypeId} (h : Blk w b cs T) : Blk w.drew b cs T := h
theorem Blk.alloc {w : World} {b : Nat} {cs : List Value} {T : TypeId} (h : Blk w b cs T) (o : Obj) : Blk (w.alloc o) b cs T := by
  unfold Blk at h ⊢; rw [Below.heap_alloc _ _ _ (Blk.lt h)]; exact h
theorem Blk.new (w : World) (cs : List Value) (T : TypeId) : Blk (w.alloc (.cells cs.toArray T)) w.heap.size cs T := heap_alloc_new w _

/-! ### a row of items -/
def itAt (l : List It) (i : Nat) : It := l.getD i ⟨0, 0, 0, 0⟩
def flat : List It → List Value
  | [] => []
  | x :: l => .int .i64 x.t :: .int .i64 x.k :: .int .i64 x.d :: .int .i64 x.n :: flat l

theorem flat_length (l : List It) : (flat l).length = l.length * 4 := by
  induction l with
  | nil => rfl
  | cons x l ih => simp [flat, ih]; omega
theorem flat_append (a b : List It) : flat (a ++ b) = flat a ++ flat b := by
  induction a with
  | nil => rfl
  | cons x l ih => simp [flat, ih]
theorem flat_get (l : List It) (i : Nat) (h : i < l.length) : (flat l)[i * 4]? = some (.int .i64 (itAt l i).t) ∧ (flat l)[i * 4 + 1]? = some (.int .i64 (itAt l i).k) ∧ (flat l)[i * 4 + 2]? = some (.int .i64 (itAt l i).d) ∧ (flat l)[i * 4 + 3]? = some (.int .i64 (itAt l i).n) := by
  induction l generalizing i with
  | nil => simp at h
  | cons x l ih =>
    cases i with
    | zero => simp [flat, itAt]
    | succ i =>
      have := ih i (by simpa using h)
      rw [show (i + 1) * 4 = i * 4 + 4 by omega]
      simpa [flat, itAt] using this
theorem flat_set (l : List It) (i : Nat) (x : It) : flat (l.set i x) = ((((flat l).set (i * 4) (.int .i64 x.t)).set (i * 4 + 1) (.int .i64 x.k)).set (i * 4 + 2) (.int .i64 x.d)).set (i * 4 + 3) (.int .i64 x.n) := by
  induction l generalizing i with
  | nil => simp [flat]
  | cons y l ih =>
    cases i with
    | zero => simp [flat]
    | succ i => rw [show (i + 1) * 4 = i * 4 + 4 by omega]; simp [flat, ih]

/-- In block g there is room for cap items; the first ones are these. -/
structure IRow (w : World) (g cap : Nat) (l : List It) : Prop where
  ex : ∃ cur : List Value, Blk w g cur 66 ∧ cur.length = cap * 4 ∧ cur.take (l.length * 4) = flat l
  le : l.length ≤ cap
  max : cap ≤ maxLen

theorem IRow.lt {w : World} {g cap : Nat} {l : List It} (h : IRow w g cap l) : g < w.heap.size := by obtain ⟨cur, hb, _⟩ := h.ex; exact hb.lt
theorem IRow.frozen {w : World} {g cap : Nat} {l : List It} (h : IRow w g cap l) (o : Nat) : w.frozen? ⟨g, o, none⟩ = false := by obtain ⟨cur, hb, _⟩ := h.ex; exact hb.frozen o
theorem IRow.cells {w : World} {g cap : Nat} {l : List It} (h : IRow w g cap l) (i : Nat) (hi : i < l.length) :
    w.cell? ⟨g, i * 4, none⟩ = some (.int .i64 (itAt l i).t) ∧ w.cell? ⟨g, i * 4 + 1, none⟩ = some (.int .i64 (itAt l i).k) ∧ w.cell? ⟨g, i * 4 + 2, none⟩ = some (.int .i64 (itAt l i).d) ∧ w.cell? ⟨g, i * 4 + 3, none⟩ = some (.int .i64 (itAt l i).n) := by
  obtain ⟨cur, hb, hl, ht⟩ := h.ex
  have hg : ∀ k, k < l.length * 4 → cur[k]? = (flat l)[k]? := fun k hk => by rw [← ht, List.getElem?_take, if_pos hk]
  obtain ⟨a, b, c, d⟩ := flat_get l i hi
  exact ⟨hb.cell (by rw [hg _ (by omega)]; exact a), hb.cell (by rw [hg _ (by omega)]; exact b), hb.cell (by rw [hg _ (by omega)]; exact c), hb.cell (by rw [hg _ (by omega)]; exact d)⟩
theorem IRow.keeps {M : Nat → Prop} {w w' : World} {g cap : Nat} {l : List It} (h : IRow w g cap l) (k : Keeps M w w') (hn : ¬ M g) : IRow w' g cap l := by
  obtain ⟨cur, hb, r⟩ := h.ex; exact ⟨⟨cur, hb.keeps k hn, r⟩, h.le, h.max⟩
theorem IRow.drew {w : World} {g cap : Nat} {l : List It} (h : IRow w g cap l) : IRow w.drew g cap l := by
  obtain ⟨cur, hb, r⟩ := h.ex; exact ⟨⟨cur, hb.drew, r⟩, h.le, h.max⟩

def putIt (w : World) (g i : Nat) (x : It) : World :=
  (((w.setCell ⟨g, i * 4, none⟩ (.int .i64 x.t)).setCell ⟨g, i * 4 + 1, none⟩ (.int .i64 x.k)).setCell ⟨g, i * 4 + 2, none⟩ (.int .i64 x.d)).setCell ⟨g, i * 4 + 3, none⟩ (.int .i64 x.n)
theorem IRow.put {w : World} {g cap : Nat} {l : List It} (h : IRow w g cap l) (i : Nat) (x : It) : IRow (putIt w g i x) g cap (l.set i x) := by
  obtain ⟨cur, hb, hl, ht⟩ := h.ex
  refine ⟨⟨_, (((hb.setCell _ _).setCell _ _).setCell _ _).setCell _ _, by simp [hl], ?_⟩, by simpa using h.le, h.max⟩
  rw [flat_set, ← ht, List.length_set]
  simp only [List.take_set]
theorem Keeps.putIt {M : Nat → Prop} {a w : World} (h : Keeps M a w) {g : Nat} (hp : M g ∨ a.heap.size ≤ g) (i : Nat) (x : It) : Keeps M a (putIt w g i x) :=
  (((h.setCell hp _).setCell hp _).setCell hp _).setCell hp _

end Go.Proofs.YtjhaihbjhikhlaaGreat

namespace Go.Proofs.YtjhaihbjhikhlaaGreat
open Go.RowKit

def aheadV : Value := .func (.func 56) #[] #[]
/-- The queue's own block. -/
structure QB (w : World) (q : Nat) (v : Value) : Prop where
  b : Blk w q [aheadV, v] 125

def swapL (l : List It) (i j : Nat) : List It := (l.set i (itAt l j)).set j (itAt l i)

set_option maxHeartbeats 1000000 in
theorem swap_any (q g i j cap n : Nat) (w : World) (l : List It) (hn : l.length = n)
    (hq : QB w q (.slice (some ⟨g, 0, none⟩) n cap)) (hr : IRow w g cap l) (hi : i < n) (hj : j < n) (hij : i ≠ j) (hqg : q ≠ g) :
    Calls Tryz.prog 103 #[.pointer (some ⟨q, 0, none⟩), .int .i64 i, .int .i64 j] w fun e w' => e = .returned (.tuple #[]) ∧ Keeps (· = g) w w' ∧ IRow w' g cap (swapL l i j) := by
  have hq1 : w.cell? ⟨q, 1, none⟩ = some (.slice (some ⟨g, 0, none⟩) n cap) := hq.b.cell rfl
  have hi0 : (0 : Int) ≤ (i : Int) := by omega
  have hin : (i : Int) < (n : Int) := by omega
  have hj0 : (0 : Int) ≤ (j : Int) := by omega
  have hjn : (j : Int) < (n : Int) := by omega
  obtain ⟨x0, x1, x2, x3⟩ := hr.cells i (by omega)
  obtain ⟨y0, y1, y2, y3⟩ := hr.cells j (by omega)
  have hf := hr.frozen
  have hne : i * 4 ≠ j * 4 := by omega
  have HR : Hid (IRow w g cap l) := hr
  clear hr hq hn
  have HS : Hid (swapL l i j = (l.set i (itAt l j)).set j (itAt l i)) := rfl
  generalize itAt l i = x at *
  generalize itAt l j = y at *
  go_enter Tryz.func103, Tryz.ntmps103
  go_region
  go_end0
  refine ⟨rfl, ?_, ?_⟩
  · exact (((Keeps.refl (fun k => k = g) w).putIt (Or.inl rfl) i y).putIt (Or.inl rfl) j x).drew
  · rw [HS.out]; exact ((HR.out.put i y).put j x).drew


/-- 'rise' on lists, with fuel. -/
def riseL : Nat → List It → Nat → List It
  | 0, l, _ => l
  | f + 1, l, i => if i = 0 then l else if aheadB (itAt l i) (itAt l ((i - 1) / 2)) then riseL f (swapL l i ((i - 1) / 2)) ((i - 1) / 2) else l

theorem swapL_length (l : List It) (i j : Nat) : (swapL l i j).length = l.length := by simp [swapL]

set_option maxHeartbeats 1000000 in
theorem rise_any (q g i cap n : Nat) (w : World) (l : List It) (hn : l.length = n) (hn8 : n ≤ 1000)
    (hq : QB w q (.slice (some ⟨g, 0, none⟩) n cap)) (hr : IRow w g cap l) (hi : i < n) (hqg : q ≠ g) :
    Calls Tryz.prog 84 #[.pointer (some ⟨q, 0, none⟩), .int .i64 i] w fun e w' => e = .returned (.tuple #[]) ∧ Keeps (· = g) w w' ∧ IRow w' g cap (riseL (i + 1) l i) := by
  have HQ : Hid (QB w q (.slice (some ⟨g, 0, none⟩) n cap)) := hq
  have HR : Hid (IRow w g cap l) := hr
  have HN : Hid (l.length = n) := hn
  clear hq hr hn
  go_enter Tryz.func84, Tryz.ntmps84
  go_wp2
  go_loopw [1] (fun s wr => ∃ (k f : Nat) (m : List It), s = .int .i64 k ∧ k < n ∧ k ≤ f ∧ Hid (m.length = n) ∧ Hid (Keeps (· = g) w wr) ∧ Hid (IRow wr g cap m) ∧ Hid (riseL (i + 1) l i = riseL (f + 1) m k)) (fun s _ => (intOf s).toNat)
  case atStart => exact ⟨i, i, l, rfl, hi, Nat.le_refl _, HN, Keeps.refl _ _, HR, rfl⟩
  case round =>
    obtain ⟨k, f, m, rfl, hk, hf, HL, HK, HI, HE⟩ := hrel
    by_cases h0 : 0 < k
    · have hq1 : wr.cell? ⟨q, 1, none⟩ = some (.slice (some ⟨g, 0, none⟩) n cap) := HK.out.cell (HQ.out.b.cell rfl) hqg
      have hq0 : wr.cell? ⟨q, 0, none⟩ = some aheadV := HK.out.cell (HQ.out.b.cell rfl) hqg
      unfold aheadV at hq0
      obtain ⟨p, hp⟩ : ∃ p, p = (k - 1) / 2 := ⟨_, rfl⟩
      have hpk : p < k := by omega
      have hpi : ((k : Int) - 1) / 2 = (p : Int) := by omega
      have HP : Hid (p = (k - 1) / 2) := hp
      clear hp
      obtain ⟨x0, x1, x2, x3⟩ := HI.out.cells k (by rw [HL.out]; exact hk)
      obtain ⟨y0, y1, y2, y3⟩ := HI.out.cells p (by rw [HL.out]; omega)
      have hk0 : (0 : Int) ≤ (k : Int) := by omega
      have hkn : (k : Int) < (n : Int) := by omega
      have hp0 : (0 : Int) ≤ (p : Int) := by omega
      have hpn : (p : Int) < (n : Int) := by omega
      generalize hx : itAt m k = x at *
      generalize hy : itAt m p = y at *
      have HX : Hid (itAt m k = x) := hx
      have HY : Hid (itAt m p = y) := hy
      clear hx hy
      cases hab : aheadB x y
      all_goals
        go_wp2
        go_region_held3 (fun w' => w'.cell? ⟨q, 0, none⟩ = some (.func (.func 56) #[] #[]) ∧ w'.cell? ⟨q, 1, none⟩ = some (.slice (some ⟨g, 0, none⟩) n cap) ∧
          w'.cell? ⟨g, k * 4, none⟩ = some (.int .i64 x.t) ∧ w'.cell? ⟨g, k * 4 + 1, none⟩ = some (.int .i64 x.k) ∧ w'.cell? ⟨g, k * 4 + 2, none⟩ = some (.int .i64 x.d) ∧ w'.cell? ⟨g, k * 4 + 3, none⟩ = some (.int .i64 x.n) ∧
          w'.cell? ⟨g, p * 4, none⟩ = some (.int .i64 y.t) ∧ w'.cell? ⟨g, p * 4 + 1, none⟩ = some (.int .i64 y.k) ∧ w'.cell? ⟨g, p * 4 + 2, none⟩ = some (.int .i64 y.d) ∧ w'.cell? ⟨g, p * 4 + 3, none⟩ = some (.int .i64 y.n)) (go_keep)
          (first | (go_at_call 56; refine (ahead_any x y _).mono ?_; rintro e w' ⟨rfl, rfl⟩))
        have hk1 : Keeps (fun _ => False) wr ((wr.alloc (.cells x.cells 66)).alloc (.cells y.cells 66)).drew := (((Keeps.refl _ _).alloc _).alloc _).drew
        generalize ((wr.alloc (.cells x.cells 66)).alloc (.cells y.cells 66)).drew = W1 at *
        have HK1 : Hid (Keeps (fun _ => False) wr W1) := hk1
        clear hk1
      · go_wp2
        refine bodyPost_ret (results_none rfl _ _ _) rfl ?_
        refine ⟨rfl, HK.out.trans HK1.out (fun _ h => h.elim), ?_⟩
        have hab' := hab
        rw [← HX.out, ← HY.out, HP.out] at hab'
        rw [HE.out]
        simp only [riseL, if_neg (show ¬ k = 0 by omega), hab']
        exact HI.out.keeps HK1.out (fun h => h)
      · go_wp2_with fail
        refine (swap_any q g k p cap n W1 m HL.out ⟨(HQ.out.b.keeps HK.out hqg).keeps HK1.out (fun h => h)⟩ (HI.out.keeps HK1.out (fun h => h)) hk (by omega) (by omega) hqg).mono ?_
        rintro e w2 ⟨rfl, hk2, hr2⟩
        have HK2 : Hid (Keeps (· = g) W1 w2) := hk2
        have HR2 : Hid (IRow w2 g cap (swapL m k p)) := hr2
        clear hk2 hr2
        go_wp2
        go_roundw
        case rel =>
          obtain ⟨f', rfl⟩ : ∃ f', f = f' + 1 := ⟨f - 1, by omega⟩
          refine ⟨p, f', swapL m k p, rfl, by omega, by omega, (swapL_length _ _ _).trans HL.out, (HK.out.trans HK1.out (fun _ h => h.elim)).then HK2.out, HR2, ?_⟩
          show _ = _
          have hab' := hab
          rw [← HX.out, ← HY.out, HP.out] at hab'
          rw [HE.out, HP.out]
          conv => lhs; unfold riseL
          rw [if_neg (by omega), if_pos hab']
        case measure => simp [intOf]; omega
    · go_wp2
      go_end0
      refine ⟨rfl, HK.out, ?_⟩
      rw [HE.out, show k = 0 by omega]
      simpa [riseL] using HI.out

end Go.Proofs.YtjhaihbjhikhlaaGreat

namespace Go.Proofs.YtjhaihbjhikhlaaGreat
open Go.RowKit

/-- 'firstChild': the place of the child that goes ahead, -1 if there is none. -/
def childL (l : List It) (i : Nat) : Int :=
  if 2 * i + 1 < l.length then
    if 2 * i + 2 < l.length then (if aheadB (itAt l (2 * i + 2)) (itAt l (2 * i + 1)) then (2 * i + 2 : Nat) else (2 * i + 1 : Nat)) else (2 * i + 1 : Nat)
  else -1

set_option maxHeartbeats 1000000 in
theorem child_any (q g i cap n : Nat) (w : World) (l : List It) (hn : l.length = n) (hn8 : n ≤ 1000) (hi8 : i ≤ 1000)
    (hq : QB w q (.slice (some ⟨g, 0, none⟩) n cap)) (hr : IRow w g cap l) :
    Calls Tryz.prog 104 #[.pointer (some ⟨q, 0, none⟩), .int .i64 i] w fun e w' => e = .returned (.int .i64 (childL l i)) ∧ Keeps (fun _ => False) w w' := by
  have hq1 : w.cell? ⟨q, 1, none⟩ = some (.slice (some ⟨g, 0, none⟩) n cap) := hq.b.cell rfl
  have hq0 : w.cell? ⟨q, 0, none⟩ = some (.func (.func 56) #[] #[]) := hq.b.cell rfl
  obtain ⟨a, ha⟩ : ∃ a, a = 2 * i + 1 := ⟨_, rfl⟩
  obtain ⟨b, hb⟩ : ∃ b, b = 2 * i + 2 := ⟨_, rfl⟩
  have e1 : 2 * (i : Int) + 1 = (a : Int) := by omega
  have e2 : (a : Int) + 1 = (b : Int) := by omega
  have hdef : childL l i = if a < n then (if b < n then (if aheadB (itAt l b) (itAt l a) then (b : Int) else (a : Int)) else (a : Int)) else -1 := by
    subst ha hb hn; rfl
  have ha8 : a ≤ 2001 := by omega
  have hb8 : b ≤ 2002 := by omega
  have ha0 : (0 : Int) ≤ (a : Int) := by omega
  have hb0 : (0 : Int) ≤ (b : Int) := by omega
  by_cases hL : a < n
  · have hL' : (a : Int) < (n : Int) := by omega
    by_cases hR : b < n
    · have hR' : (b : Int) < (n : Int) := by omega
      obtain ⟨x0, x1, x2, x3⟩ := hr.cells b (by omega)
      obtain ⟨y0, y1, y2, y3⟩ := hr.cells a (by omega)
      generalize itAt l b = x at *
      generalize itAt l a = y at *
      cases hab : aheadB x y
      · have HC : Hid (childL l i = (a : Int)) := by show _ = _; rw [hdef, if_pos hL, if_pos hR, hab]; rfl
        clear hr hq hn ha hb hdef
        go_enter Tryz.func104, Tryz.ntmps104
        go_wp2
        go_region_held3 (fun w' => w'.cell? ⟨q, 0, none⟩ = some (.func (.func 56) #[] #[]) ∧ w'.cell? ⟨q, 1, none⟩ = some (.slice (some ⟨g, 0, none⟩) n cap) ∧
          w'.cell? ⟨g, b * 4, none⟩ = some (.int .i64 x.t) ∧ w'.cell? ⟨g, b * 4 + 1, none⟩ = some (.int .i64 x.k) ∧ w'.cell? ⟨g, b * 4 + 2, none⟩ = some (.int .i64 x.d) ∧ w'.cell? ⟨g, b * 4 + 3, none⟩ = some (.int .i64 x.n) ∧
          w'.cell? ⟨g, a * 4, none⟩ = some (.int .i64 y.t) ∧ w'.cell? ⟨g, a * 4 + 1, none⟩ = some (.int .i64 y.k) ∧ w'.cell? ⟨g, a * 4 + 2, none⟩ = some (.int .i64 y.d) ∧ w'.cell? ⟨g, a * 4 + 3, none⟩ = some (.int .i64 y.n)) (go_keep)
          (first | (go_at_call 56; refine (ahead_any x y _).mono ?_; rintro e w' ⟨rfl, rfl⟩))
        go_wp2
        go_ret
        exact ⟨ret_int HC.out.symm, (((Keeps.refl _ _).alloc _).alloc _).drew⟩
      · have HC : Hid (childL l i = (b : Int)) := by show _ = _; rw [hdef, if_pos hL, if_pos hR, hab]; rfl
        clear hr hq hn ha hb hdef
        go_enter Tryz.func104, Tryz.ntmps104
        go_wp2
        go_region_held3 (fun w' => w'.cell? ⟨q, 0, none⟩ = some (.func (.func 56) #[] #[]) ∧ w'.cell? ⟨q, 1, none⟩ = some (.slice (some ⟨g, 0, none⟩) n cap) ∧
          w'.cell? ⟨g, b * 4, none⟩ = some (.int .i64 x.t) ∧ w'.cell? ⟨g, b * 4 + 1, none⟩ = some (.int .i64 x.k) ∧ w'.cell? ⟨g, b * 4 + 2, none⟩ = some (.int .i64 x.d) ∧ w'.cell? ⟨g, b * 4 + 3, none⟩ = some (.int .i64 x.n) ∧
          w'.cell? ⟨g, a * 4, none⟩ = some (.int .i64 y.t) ∧ w'.cell? ⟨g, a * 4 + 1, none⟩ = some (.int .i64 y.k) ∧ w'.cell? ⟨g, a * 4 + 2, none⟩ = some (.int .i64 y.d) ∧ w'.cell? ⟨g, a * 4 + 3, none⟩ = some (.int .i64 y.n)) (go_keep)
          (first | (go_at_call 56; refine (ahead_any x y _).mono ?_; rintro e w' ⟨rfl, rfl⟩))
        go_wp2
        go_ret
        exact ⟨ret_int HC.out.symm, (((Keeps.refl _ _).alloc _).alloc _).drew⟩
    · have hR' : decide ((b : Int) < (n : Int)) = false := by simp; omega
      have HC : Hid (childL l i = (a : Int)) := by show _ = _; rw [hdef, if_pos hL, if_neg hR]
      clear hr hq hn ha hb hdef
      go_enter Tryz.func104, Tryz.ntmps104
      go_wp2
      go_quiet (fail)
      go_wp2
      go_ret
      exact ⟨ret_int HC.out.symm, ⟨rfl, rfl, rfl, Nat.le_refl _, fun _ _ _ => rfl⟩⟩
  · have hL' : decide ((a : Int) < (n : Int)) = false := by simp; omega
    have HC : Hid (childL l i = -1) := by show _ = _; rw [hdef, if_neg hL]
    have hLn : (n : Int) ≤ (a : Int) := by omega
    clear hr hq hn ha hb hdef
    go_enter Tryz.func104, Tryz.ntmps104
    go_wp2
    go_ret
    exact ⟨ret_int HC.out.symm, Keeps.refl _ _⟩

end Go.Proofs.YtjhaihbjhikhlaaGreat

namespace Go.Proofs.YtjhaihbjhikhlaaGreat
open Go.RowKit

/-- 'sink' on lists, with fuel. -/
def sinkL : Nat → List It → Nat → List It
  | 0, l, _ => l
  | f + 1, l, i => if childL l i < 0 then l else if aheadB (itAt l (childL l i).toNat) (itAt l i) then sinkL f (swapL l i (childL l i).toNat) (childL l i).toNat else l

theorem childL_range (l : List It) (i : Nat) : childL l i = -1 ∨ ∃ c : Nat, childL l i = c ∧ i < c ∧ c < l.length := by
  unfold childL
  split
  · split
    · split
      · exact .inr ⟨_, rfl, by omega, by omega⟩
      · exact .inr ⟨_, rfl, by omega, by omega⟩
    · exact .inr ⟨_, rfl, by omega, by omega⟩
  · exact .inl rfl

set_option maxHeartbeats 1000000 in
theorem sink_any (q g i cap n : Nat) (w : World) (l : List It) (hn : l.length = n) (hn8 : n ≤ 1000) (hi8 : i ≤ 1000)
    (hq : QB w q (.slice (some ⟨g, 0, none⟩) n cap)) (hr : IRow w g cap l) (hi : i < n ∨ n = 0) (hqg : q ≠ g) :
    Calls Tryz.prog 85 #[.pointer (some ⟨q, 0, none⟩), .int .i64 i] w fun e w' => e = .returned (.tuple #[]) ∧ Keeps (· = g) w w' ∧ IRow w' g cap (sinkL (n + 1) l i) := by
  have HQ : Hid (QB w q (.slice (some ⟨g, 0, none⟩) n cap)) := hq
  have HR : Hid (IRow w g cap l) := hr
  have HN : Hid (l.length = n) := hn
  have HI0 : Hid (i < n ∨ n = 0) := hi
  clear hq hr hn hi
  go_enter Tryz.func85, Tryz.ntmps85
  go_wp2
  go_loopw [1] (fun s wr => ∃ (k f : Nat) (m : List It), s = .int .i64 k ∧ Hid (k < n ∨ n = 0) ∧ k ≤ 1000 ∧ n ≤ k + f ∧ Hid (m.length = n) ∧ Hid (Keeps (· = g) w wr) ∧ Hid (IRow wr g cap m) ∧ Hid (sinkL (n + 1) l i = sinkL (f + 1) m k)) (fun s _ => 2000 - (intOf s).toNat)
  case atStart => exact ⟨i, n, l, rfl, HI0, hi8, by omega, HN, Keeps.refl _ _, HR, rfl⟩
  case round =>
    obtain ⟨k, f, m, rfl, HKN, hk8, hf, HL, HK, HI, HE⟩ := hrel
    go_wp2_with fail
    refine (child_any q g k cap n wr m HL.out hn8 hk8 ⟨HQ.out.b.keeps HK.out hqg⟩ HI.out).mono ?_
    rintro e W1 ⟨rfl, hk1⟩
    have HK1 : Hid (Keeps (fun _ => False) wr W1) := hk1
    have HI1 : Hid (IRow W1 g cap m) := HI.out.keeps hk1 (fun h => h)
    have HQ1 : Hid (QB W1 q (.slice (some ⟨g, 0, none⟩) n cap)) := ⟨(HQ.out.b.keeps HK.out hqg).keeps hk1 (fun h => h)⟩
    clear hk1
    have hq1 : W1.cell? ⟨q, 1, none⟩ = some (.slice (some ⟨g, 0, none⟩) n cap) := HQ1.out.b.cell rfl
    have hq0 : W1.cell? ⟨q, 0, none⟩ = some (.func (.func 56) #[] #[]) := HQ1.out.b.cell rfl
    rcases childL_range m k with hc | ⟨c, hc, hkc, hcn⟩
    · have HC : Hid (childL m k = -1) := hc
      rw [hc]
      clear hc
      go_wp2
      go_quiet (fail)
      go_wp2
      refine bodyPost_ret (results_none rfl _ _ _) rfl ?_
      refine ⟨rfl, (HK.out.trans HK1.out (fun _ h => h.elim)).trans (Keeps.drewN (fun _ => False) W1 _) (fun _ h => h.elim), ?_⟩
      rw [HE.out]
      simp only [sinkL, HC.out]
      exact HI1.out.keeps (Keeps.drewN (fun _ => False) W1 _) (fun h => h)
    · have HC : Hid (childL m k = (c : Int)) := hc
      rw [hc]
      clear hc
      have hcn' : c < n := by rw [HL.out] at hcn; exact hcn
      clear hcn
      have hkn : k < n := by omega
      obtain ⟨x0, x1, x2, x3⟩ := HI1.out.cells c (by rw [HL.out]; exact hcn')
      obtain ⟨y0, y1, y2, y3⟩ := HI1.out.cells k (by rw [HL.out]; exact hkn)
      have hk0 : (0 : Int) ≤ (k : Int) := by omega
      have hkn' : (k : Int) < (n : Int) := by omega
      have hc0 : (0 : Int) ≤ (c : Int) := by omega
      have hcn2 : (c : Int) < (n : Int) := by omega
      have hcneg : decide ((c : Int) < 0) = false := by simp
      generalize hx : itAt m c = x at *
      generalize hy : itAt m k = y at *
      have HX : Hid (itAt m c = x) := hx
      have HY : Hid (itAt m k = y) := hy
      clear hx hy
      cases hab : aheadB x y
      all_goals
        go_wp2
        go_region_held3 (fun w' => w'.cell? ⟨q, 0, none⟩ = some (.func (.func 56) #[] #[]) ∧ w'.cell? ⟨q, 1, none⟩ = some (.slice (some ⟨g, 0, none⟩) n cap) ∧
          w'.cell? ⟨g, c * 4, none⟩ = some (.int .i64 x.t) ∧ w'.cell? ⟨g, c * 4 + 1, none⟩ = some (.int .i64 x.k) ∧ w'.cell? ⟨g, c * 4 + 2, none⟩ = some (.int .i64 x.d) ∧ w'.cell? ⟨g, c * 4 + 3, none⟩ = some (.int .i64 x.n) ∧
          w'.cell? ⟨g, k * 4, none⟩ = some (.int .i64 y.t) ∧ w'.cell? ⟨g, k * 4 + 1, none⟩ = some (.int .i64 y.k) ∧ w'.cell? ⟨g, k * 4 + 2, none⟩ = some (.int .i64 y.d) ∧ w'.cell? ⟨g, k * 4 + 3, none⟩ = some (.int .i64 y.n)) (go_keep)
          (first | (go_at_call 56; refine (ahead_any x y _).mono ?_; rintro e w' ⟨rfl, rfl⟩))
        have hk2 : Keeps (fun _ => False) W1 ((W1.alloc (.cells x.cells 66)).alloc (.cells y.cells 66)).drew := (((Keeps.refl _ _).alloc _).alloc _).drew
        generalize ((W1.alloc (.cells x.cells 66)).alloc (.cells y.cells 66)).drew = W2 at *
        have HK2 : Hid (Keeps (fun _ => False) W1 W2) := hk2
        clear hk2
      · go_wp2
        refine bodyPost_ret (results_none rfl _ _ _) rfl ?_
        refine ⟨rfl, (HK.out.trans HK1.out (fun _ h => h.elim)).trans HK2.out (fun _ h => h.elim), ?_⟩
        rw [HE.out]
        simp only [sinkL, HC.out, Int.toNat_natCast, HX.out, HY.out, hab, if_neg (show ¬ ((c : Int) < 0) by omega)]
        exact HI1.out.keeps HK2.out (fun h => h)
      · go_wp2_with fail
        refine (swap_any q g k c cap n W2 m HL.out ⟨HQ1.out.b.keeps HK2.out (fun h => h)⟩ (HI1.out.keeps HK2.out (fun h => h)) hkn (by omega) (by omega) hqg).mono ?_
        rintro e w3 ⟨rfl, hk3, hr3⟩
        have HK3 : Hid (Keeps (· = g) W2 w3) := hk3
        have HR3 : Hid (IRow w3 g cap (swapL m k c)) := hr3
        clear hk3 hr3
        go_wp2
        go_roundw
        case rel =>
          obtain ⟨f', rfl⟩ : ∃ f', f = f' + 1 := ⟨f - 1, by omega⟩
          refine ⟨c, f', swapL m k c, rfl, .inl hcn', by omega, by omega, (swapL_length _ _ _).trans HL.out, ((HK.out.trans HK1.out (fun _ h => h.elim)).trans HK2.out (fun _ h => h.elim)).then HK3.out, HR3, ?_⟩
          show _ = _
          rw [HE.out]
          conv => lhs; unfold sinkL
          simp only [HC.out, Int.toNat_natCast, HX.out, HY.out, hab, if_neg (show ¬ ((c : Int) < 0) by omega), if_true]
        case measure => simp [intOf]; omega

end Go.Proofs.YtjhaihbjhikhlaaGreat
