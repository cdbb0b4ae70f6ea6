import Derived.Test.YtjhaihbjhikhlaaGreatXB
import Derived.Laws.IdiomCopy
import Derived.Laws.CopyOwn
import Derived.Deep.RegionLaw
import Derived.Deep.RegionHeld3
import Derived.Deep.AppendLies
import Derived.BigRegion
namespace Go.Proofs.YtjhaihbjhikhlaaGreat
open Go.RowKit

/-! ### Rows of cells that are written over -/
def over (L : List Value) (o : Nat) (vs : List Value) : List Value := L.take o ++ vs ++ L.drop (o + vs.length)

theorem over_length {L : List Value} {o : Nat} {vs : List Value} (h : o + vs.length ≤ L.length) : (over L o vs).length = L.length := by
  simp [over]; omega
theorem over_cons (L : List Value) (o : Nat) (v : Value) (vs : List Value) (h : o + (vs.length + 1) ≤ L.length) : over (L.set o v) (o + 1) vs = over L o (v :: vs) := by
  unfold over
  have ho : o < L.length := by omega
  have h1 : (L.set o v).take (o + 1) = L.take o ++ [v] := by
    rw [List.take_add_one, List.take_set_of_le (Nat.le_refl _)]
    simp [ho]
  have h2 : (L.set o v).drop (o + 1 + vs.length) = L.drop (o + (vs.length + 1)) := by
    rw [List.drop_set_of_lt (by omega), show o + 1 + vs.length = o + (vs.length + 1) by omega]
  rw [h1, h2]; simp

theorem Blk.setCells {b : Nat} {T : TypeId} : ∀ (vs : List Value) (o : Nat) (w : World) (cs : List Value), Blk w b cs T → o + vs.length ≤ cs.length → Blk (w.setCells b o vs) b (over cs o vs) T
  | [], o, _, cs, h, _ => by simpa [World.setCells, over] using h
  | v :: vs, o, _, cs, h, hl => by
    rw [World.setCells, ← over_cons cs o v vs (by simpa using hl)]
    exact Blk.setCells vs (o + 1) _ _ (h.setCell o v) (by simp at hl ⊢; omega)
theorem Keeps.setCells {M : Nat → Prop} {a : World} {b : Nat} (hp : M b ∨ a.heap.size ≤ b) : ∀ (vs : List Value) (o : Nat) (w : World), Keeps M a w → Keeps M a (w.setCells b o vs)
  | [], _, _, h => h
  | v :: vs, o, _, h => Keeps.setCells hp vs (o + 1) _ (h.setCell (p := ⟨b, o, none⟩) hp v)
theorem Blk.some {w : World} {b : Nat} {cs : List Value} {T : TypeId} (h : Blk w b cs T) {i : Nat} (hi : i < cs.length) : (w.cell? ⟨b, i, none⟩).isSome = true := by
  rw [h.cell (List.getElem?_eq_getElem hi)]; rfl

/-! ### Buckets -/
structure Bk where
  sz : Int
  t : Int
def Bk.val (x : Bk) : Value := .agg #[.int .i64 x.sz, .int .i64 x.t]
def bkAt (l : List Bk) (i : Nat) : Bk := l.getD i ⟨0, 0⟩
def flatB : List Bk → List Value
  | [] => []
  | x :: l => .int .i64 x.sz :: .int .i64 x.t :: flatB l
def zerosB : Nat → List Value
  | 0 => []
  | n + 1 => .int .i64 0 :: .int .i64 0 :: zerosB n

theorem flatB_length (l : List Bk) : (flatB l).length = l.length * 2 := by
  induction l with
  | nil => rfl
  | cons x l ih => simp [flatB, ih]; omega
theorem flatB_append (a b : List Bk) : flatB (a ++ b) = flatB a ++ flatB b := by
  induction a with
  | nil => rfl
  | cons x l ih => simp [flatB, ih]
theorem flatB_drop (l : List Bk) (i : Nat) : flatB (l.drop i) = (flatB l).drop (i * 2) := by
  induction l generalizing i with
  | nil => simp [flatB]
  | cons x l ih =>
    cases i with
    | zero => simp
    | succ i => rw [show (i + 1) * 2 = i * 2 + 2 by omega]; simp [flatB, ih]
theorem flatB_take (l : List Bk) (i : Nat) : flatB (l.take i) = (flatB l).take (i * 2) := by
  induction l generalizing i with
  | nil => simp [flatB]
  | cons x l ih =>
    cases i with
    | zero => simp [flatB]
    | succ i => rw [show (i + 1) * 2 = i * 2 + 2 by omega]; simp [flatB, ih]
theorem flatB_get (l : List Bk) (i : Nat) (h : i < l.length) : (flatB l)[i * 2]? = some (.int .i64 (bkAt l i).sz) ∧ (flatB l)[i * 2 + 1]? = some (.int .i64 (bkAt l i).t) := by
  induction l generalizing i with
  | nil => simp at h
  | cons x l ih =>
    cases i with
    | zero => simp [flatB, bkAt]
    | succ i =>
      have := ih i (by simpa using h)
      rw [show (i + 1) * 2 = i * 2 + 2 by omega]
      simpa [flatB, bkAt] using this
theorem flatB_one (l : List Bk) : ∀ u ∈ flatB l, u.oneCell' = true := by
  induction l with
  | nil => simp [flatB]
  | cons x l ih =>
    intro u hu
    simp only [flatB, List.mem_cons] at hu
    rcases hu with rfl | rfl | hu
    · rfl
    · rfl
    · exact ih u hu
theorem zerosB_length (n : Nat) : (zerosB n).length = n * 2 := by
  induction n with
  | zero => rfl
  | succ n ih => simp [zerosB, ih]; omega
theorem zerosB_one (n : Nat) : ∀ u ∈ zerosB n, u.oneCell' = true := by
  induction n with
  | zero => simp [zerosB]
  | succ n ih =>
    intro u hu
    simp only [zerosB, List.mem_cons] at hu
    rcases hu with rfl | rfl | hu
    · rfl
    · rfl
    · exact ih u hu
theorem zerosB_get (n j : Nat) (h : j < n * 2) : (zerosB n)[j]? = some (.int .i64 0) := by
  induction n generalizing j with
  | zero => omega
  | succ n ih =>
    match j with
    | 0 => rfl
    | 1 => rfl
    | j + 2 => simp only [zerosB, List.getElem?_cons_succ]; exact ih j (by omega)

/-- In block g there is room for cap buckets; the first ones are these. -/
structure BRow (w : World) (g cap : Nat) (l : List Bk) : Prop where
  ex : ∃ cur : List Value, Blk w g cur 143 ∧ cur.length = cap * 2 ∧ cur.take (l.length * 2) = flatB l
  le : l.length ≤ cap
  max : cap ≤ maxLen

theorem BRow.lt {w : World} {g cap : Nat} {l : List Bk} (h : BRow w g cap l) : g < w.heap.size := by obtain ⟨cur, hb, _⟩ := h.ex; exact hb.lt
theorem BRow.frozen {w : World} {g cap : Nat} {l : List Bk} (h : BRow w g cap l) (o : Nat) : w.frozen? ⟨g, o, none⟩ = false := by obtain ⟨cur, hb, _⟩ := h.ex; exact hb.frozen o
theorem BRow.keeps {M : Nat → Prop} {w w' : World} {g cap : Nat} {l : List Bk} (h : BRow w g cap l) (k : Keeps M w w') (hn : ¬ M g) : BRow w' g cap l := by
  obtain ⟨cur, hb, r⟩ := h.ex; exact ⟨⟨cur, hb.keeps k hn, r⟩, h.le, h.max⟩
theorem BRow.cells {w : World} {g cap : Nat} {l : List Bk} (h : BRow w g cap l) (i : Nat) (hi : i < l.length) :
    w.cell? ⟨g, i * 2, none⟩ = some (.int .i64 (bkAt l i).sz) ∧ w.cell? ⟨g, i * 2 + 1, none⟩ = some (.int .i64 (bkAt l i).t) := by
  obtain ⟨cur, hb, hl, ht⟩ := h.ex
  have hg : ∀ k, k < l.length * 2 → cur[k]? = (flatB l)[k]? := fun k hk => by rw [← ht, List.getElem?_take, if_pos hk]
  obtain ⟨a, b⟩ := flatB_get l i hi
  exact ⟨hb.cell (by rw [hg _ (by omega)]; exact a), hb.cell (by rw [hg _ (by omega)]; exact b)⟩
theorem BRow.owns {w : World} {g cap : Nat} {l : List Bk} (h : BRow w g cap l) : w.ownsRow 0 143 2 (.slice (some ⟨g, 0, none⟩) l.length cap) l.length (flatB l) := by
  obtain ⟨cur, hc, hl, ht⟩ := h.ex
  exact ⟨flatB_length l, .inr ⟨g, cap, cur.toArray, rfl, Nat.zero_le _, hc, h.le, h.max, by simp [hl], by simpa using ht⟩⟩
theorem brow_of_owns {w : World} {g n cap : Nat} {l : List Bk} (hn : l.length = n) (h : w.ownsRow 0 143 2 (.slice (some ⟨g, 0, none⟩) n cap) n (flatB l)) : BRow w g cap l := by
  rcases h.2 with ⟨h1, _⟩ | ⟨g', cap', cur, h1, _, h3, h4, h5, h6, h7⟩
  · cases h1
  · cases h1
    subst hn
    exact ⟨⟨cur.toList, by unfold Blk; simpa using h3, by simpa using h6, h7⟩, h4, h5⟩

/-! ### The builtins on such rows -/
theorem infoBk : (Tryz.prog.info? 143).map (fun i => (i.zero, i.size, i.bytes)) = some (some (.agg #[.int .i64 0, .int .i64 0]), 2, 16) := by kernel_rfl
theorem zeroBk (w : World) : (zeroValue 143).run Tryz.prog w = .ok (.agg #[.int .i64 0, .int .i64 0]) w := by kernel_rfl

theorem zeroCells_two (n : Nat) : (Builtin.zeroCells (Value.agg #[.int .i64 0, .int .i64 0]).cells n).toList = zerosB n := by
  have hz : (Value.agg #[.int .i64 0, .int .i64 0]).cells = #[.int .i64 0, .int .i64 0] := rfl
  rw [hz]
  apply List.ext_getElem?
  intro j
  by_cases hj : j < n * 2
  · rw [zerosB_get n j hj]
    have : j % 2 = 0 ∨ j % 2 = 1 := by omega
    rcases this with h | h <;> simp [Builtin.zeroCells, hj, h]
  · rw [List.getElem?_eq_none (by simp [Builtin.zeroCells]; omega), List.getElem?_eq_none (by rw [zerosB_length]; omega)]

theorem run_clear_row (w : World) (ty : TypeId) (b o n c : Nat) (cs : List Value) (h : Blk w b cs 143) (hn : 0 < n) (hl : o + n * 2 ≤ cs.length) :
    (Builtin.clear_ #[150] ty #[.slice (some ⟨b, o, none⟩) n c]).run Tryz.prog w = .ok (.tuple #[]) (w.setCells b o (zerosB n)) := by
  have hst := run_storeCells_cells (P := Tryz.prog) b o (zerosB n) 0 w (fun j hj => h.some (by rw [zerosB_length] at hj; omega)) (fun j _ => h.frozen _) (zerosB_one n)
  simp only [Nat.add_zero] at hst
  obtain ⟨m, rfl⟩ : ∃ m, n = m + 1 := ⟨n - 1, by omega⟩
  simp [Builtin.clear_, run_underlying Tryz.underlying150, zeroCells_two, hst]

theorem run_copy_row2 (w : World) (ty : TypeId) (b o dLen dCap : Nat) (a : Addr) (sLen sCap : Nat) (cs news : List Value) (h : Blk w b cs 143) (hn : news.length = Nat.min sLen dLen * 2)
    (hsrc : ∀ j v, news[j]? = some v → w.cell? (a.add j) = some v) (hfit : o + news.length ≤ cs.length) (h1 : ∀ v ∈ news, v.oneCell' = true) :
    (Builtin.copy_ #[150, 150] ty #[.slice (some ⟨b, o, none⟩) dLen dCap, .slice (some a) sLen sCap]).run Tryz.prog w = .ok (goInt (Nat.min sLen dLen)) (w.setCells b o news) := by
  have hl := run_loadCells_list (P := Tryz.prog) w a news hsrc
  have hst := run_storeCells_cells (P := Tryz.prog) b o news 0 w (fun j hj => h.some (by omega)) (fun j _ => h.frozen _) h1
  simp only [Nat.add_zero] at hst
  obtain ⟨i0, hi0, hz0, hz1, hz2⟩ := info_parts infoBk
  simp [Builtin.copy_, run_underlying Tryz.underlying150, Builtin.lenOf, Builtin.firstCells, sizeOf, typeInfo, hi0, hz1, ← hn, hl, hst]

end Go.Proofs.YtjhaihbjhikhlaaGreat

namespace Go.Proofs.YtjhaihbjhikhlaaGreat
open Go.RowKit

/-- What Delete leaves. -/
theorem delete_row {w : World} {g cap n j : Nat} {l : List Bk} {cur : List Value} (hn : l.length = n) (hb : Blk w g cur 143) (hl : cur.length = cap * 2) (hle : n ≤ cap) (hmax : cap ≤ maxLen) (hj : j ≤ n) :
    BRow ((w.setCells g 0 (flatB (l.drop j))).setCells g ((n - j) * 2) (zerosB j)) g cap (l.drop j) := by
  have h1 : (flatB (l.drop j)).length = (n - j) * 2 := by rw [flatB_length]; simp [hn]
  have hb1 := Blk.setCells (flatB (l.drop j)) 0 w cur hb (by rw [h1]; omega)
  have hl1 : (over cur 0 (flatB (l.drop j))).length = cap * 2 := by rw [over_length (by rw [h1]; omega), hl]
  have hb2 := Blk.setCells (zerosB j) ((n - j) * 2) _ _ hb1 (by rw [hl1, zerosB_length]; omega)
  refine ⟨⟨_, hb2, by rw [over_length (by rw [hl1, zerosB_length]; omega), hl1], ?_⟩, by simp [hn]; omega, hmax⟩
  have hlen : (l.drop j).length * 2 = (n - j) * 2 := by simp [hn]
  rw [hlen]
  unfold over
  rw [List.append_assoc, List.take_append_of_le_length (by simp [h1])]
  rw [List.take_take, Nat.min_self]
  simp only [List.take_zero, List.nil_append]
  rw [List.take_append_of_le_length (by omega), List.take_of_length_le (by omega)]

set_option maxRecDepth 100000 in
set_option maxHeartbeats 1000000 in
theorem deleteNil_any (w : World) :
    Calls Tryz.prog 115 #[.slice none 0 0, .int .i64 0, .int .i64 0] w fun e w' => e = .returned (.slice none 0 0) ∧ w' = w := by
  go_enter Tryz.func115, Tryz.ntmps115
  go_wp2
  go_ret
  exact ⟨rfl, rfl⟩

set_option maxRecDepth 100000 in
set_option maxHeartbeats 1000000 in
theorem deleteZero_any (g cap n : Nat) (w : World) (hle : n ≤ cap) :
    Calls Tryz.prog 115 #[.slice (some ⟨g, 0, none⟩) n cap, .int .i64 0, .int .i64 0] w fun e w' => e = .returned (.slice (some ⟨g, 0, none⟩) n cap) ∧ w' = w := by

  have h0 : (0 : Int) ≤ (n : Int) := by omega
  have h1 : (n : Int) ≤ (cap : Int) := by omega
  go_enter Tryz.func115, Tryz.ntmps115
  go_wp2
  go_ret
  exact ⟨rfl, rfl⟩

set_option maxRecDepth 100000 in
set_option maxHeartbeats 4000000 in
theorem delete_any (g cap n j : Nat) (l : List Bk) (w : World) (hn : l.length = n) (hr : BRow w g cap l) (hj0 : 0 < j) (hj : j ≤ n) :
    Calls Tryz.prog 115 #[.slice (some ⟨g, 0, none⟩) n cap, .int .i64 0, .int .i64 j] w fun e w' => e = .returned (.slice (some ⟨g, 0, none⟩) (n - j) cap) ∧ BRow w' g cap (l.drop j) ∧ Keeps (· = g) w w' := by
  obtain ⟨cur, hb, hl, ht⟩ := hr.ex
  have hle := hr.le
  rw [hn] at hle
  have hmax := hr.max
  have hcap : cap ≤ 9223372036854775807 := by unfold maxLen at hmax; omega
  have HFIN := hide (delete_row (w := w.drew) hn (by exact hb.drew) hl hle hmax hj)
  obtain ⟨news, hnews⟩ : ∃ news, news = flatB (l.drop j) := ⟨_, rfl⟩
  rw [← hnews] at HFIN
  have hlen : news.length = (n - j) * 2 := by rw [hnews, flatB_length]; simp [hn]
  have hget : ∀ t u, news[t]? = some u → w.cell? ⟨g, j * 2 + t, none⟩ = some u := by
    intro t u hu
    refine hb.cell ?_
    have htl : t < (n - j) * 2 := by have := (List.getElem?_eq_some_iff.1 hu).1; omega
    rw [hnews, flatB_drop, List.getElem?_drop, ← ht, List.getElem?_take, if_pos (by omega)] at hu
    exact hu
  obtain ⟨A, hA, hsrc⟩ : ∃ A : Addr, (if cap = j then some (⟨g, 0, none⟩ : Addr) else some ⟨g, j * 2, none⟩) = some A ∧ Hid (∀ t u, news[t]? = some u → w.drew.cell? (A.add t) = some u) := by
    by_cases h : cap = j
    · refine ⟨⟨g, 0, none⟩, by simp [h], fun t u hu => ?_⟩
      have h0 : news.length = 0 := by omega
      rw [List.length_eq_zero_iff.1 h0] at hu
      simp at hu
    · refine ⟨⟨g, j * 2, none⟩, by simp [h], fun t u hu => ?_⟩
      rw [Addr.add_lit]
      exact hget t u hu
  have s1 : Hid (news.length = (n - j) * 2) := hlen
  have s2 : Hid (∀ u ∈ news, u.oneCell' = true) := by rw [hnews]; exact flatB_one _
  have s3 : Hid (∀ t, t < news.length → (w.drew.cell? ⟨g, 0 + 0 * 2 + t, none⟩).isSome = true ∧ w.drew.frozen? ⟨g, 0 + 0 * 2 + t, none⟩ = false) := by
    intro t ht'
    exact ⟨hb.some (by omega), hb.frozen _⟩
  obtain ⟨W1, hW1⟩ : ∃ W1, W1 = w.drew.setCells g 0 news := ⟨_, rfl⟩
  have hbW : Blk W1 g (over cur 0 news) 143 := by rw [hW1]; exact Blk.setCells _ _ _ _ hb.drew (by omega)
  have hcl : ∀ ty, (Builtin.clear_ #[150] ty #[.slice (some ⟨g, (n - j) * 2, none⟩) (n - (n - j)) (cap - (n - j))]).run Tryz.prog W1 = .ok (.tuple #[]) (W1.setCells g ((n - j) * 2) (zerosB (n - (n - j)))) :=
    fun ty => run_clear_row W1 ty g _ _ _ _ hbW (by omega) (by rw [over_length (by omega)]; omega)
  have hW : Hid (W1 = w.drew.setCells g (0 + 0 * 2) news) := hW1
  have HK := hide (show Keeps (· = g) w W1 by rw [hW1]; exact Keeps.setCells (M := fun x => x = g) (Or.inl rfl) _ _ _ (Keeps.refl _ _).drew)
  rw [← hW1] at HFIN
  obtain ⟨i0, hi0, hz0, hz1, hz2⟩ := info_parts infoBk
  have hjc : j ≤ cap := by omega
  have HNJ := hide (show n - (n - j) = j by omega)
  clear hW1 hbW hget hnews hlen hb ht hl hr hn hmax hz0 hz2
  go_enter Tryz.func115, Tryz.ntmps115
  go_wp2_with fail
  go_region_law (refine step_append_room rfl (.tmp 22) (.tmp 25) 150 rfl 143 i0 2 Tryz.underlying150 hi0 hz1 g 0 0 cap (by simp [Act.eval, Act.put]) A (n - j) (cap - j) news (by simp [Act.eval, Act.put]) s1.out hsrc.out s2.out (by omega) s3.out ?_; rw [← hW.out])
  go_wp2
  go_ret
  refine ⟨by simp, ?_, ?_⟩
  · have := unhide HFIN; rw [unhide HNJ]; exact this
  · exact Keeps.setCells (M := fun x => x = g) (Or.inl rfl) _ _ _ (unhide HK)

end Go.Proofs.YtjhaihbjhikhlaaGreat

namespace Go.Proofs.YtjhaihbjhikhlaaGreat
open Go.RowKit

def joinAt (l : List Bk) (i : Nat) (x : Bk) : List Bk := l.take i ++ [x] ++ l.drop (i + 2)
theorem joinAt_length {l : List Bk} {i : Nat} (x : Bk) (h : i + 2 ≤ l.length) : (joinAt l i x).length = l.length - 1 := by simp [joinAt]; omega

theorem take_over {L vs : List Value} {o k : Nat} (h : k ≤ o) (ho : o ≤ L.length) : (over L o vs).take k = L.take k := by
  unfold over
  rw [List.append_assoc, List.take_append_of_le_length (by simp; omega), List.take_take, Nat.min_eq_left h]
theorem take_over_in {L vs : List Value} {o : Nat} (ho : o ≤ L.length) : (over L o vs).take (o + vs.length) = L.take o ++ vs := by
  unfold over
  rw [List.take_append_of_le_length (by simp; omega), List.take_of_length_le (by simp; omega)]

/-- What Replace leaves where the two stand at the end. -/
theorem replaceEnd_row {w : World} {g cap n i : Nat} {l : List Bk} {x : Bk} {cur : List Value} (hn : l.length = n) (hb : Blk w g cur 143) (hl : cur.length = cap * 2) (ht : cur.take (l.length * 2) = flatB l) (hle : n ≤ cap) (hmax : cap ≤ maxLen) (hi : i + 2 = n) :
    BRow ((w.setCells g (i * 2) [.int .i64 x.sz, .int .i64 x.t]).setCells g ((i + 1) * 2) (zerosB 1)) g cap (joinAt l i x) := by
  have hb1 := Blk.setCells [.int .i64 x.sz, .int .i64 x.t] (i * 2) w cur hb (by simp; omega)
  have hl1 : (over cur (i * 2) [.int .i64 x.sz, .int .i64 x.t]).length = cap * 2 := by rw [over_length (by simp; omega), hl]
  have hb2 := Blk.setCells (zerosB 1) ((i + 1) * 2) _ _ hb1 (by rw [hl1, zerosB_length]; omega)
  have hjl := joinAt_length x (l := l) (i := i) (by omega)
  refine ⟨⟨_, hb2, by rw [over_length (by rw [hl1, zerosB_length]; omega), hl1], ?_⟩, by omega, hmax⟩
  rw [hjl, take_over (by omega) (by omega), show (l.length - 1) * 2 = i * 2 + [Value.int .i64 x.sz, .int .i64 x.t].length by simp; omega, take_over_in (by omega)]
  have hd : l.drop (i + 2) = [] := List.drop_eq_nil_of_le (by omega)
  have h3 : cur.take (i * 2) = (flatB l).take (i * 2) := by rw [← ht, List.take_take, Nat.min_eq_left (by omega)]
  unfold joinAt
  rw [hd, List.append_nil, flatB_append, flatB_take, h3]; rfl

/-- What it leaves where others stand behind them. -/
theorem replaceMid_row {w : World} {g cap n i : Nat} {l : List Bk} {x : Bk} {cur : List Value} (hn : l.length = n) (hb : Blk w g cur 143) (hl : cur.length = cap * 2) (ht : cur.take (l.length * 2) = flatB l) (hle : n ≤ cap) (hmax : cap ≤ maxLen) (hi : i + 2 < n) :
    BRow (((w.setCells g (i * 2) [.int .i64 x.sz, .int .i64 x.t]).setCells g ((i + 1) * 2) (flatB (l.drop (i + 2)))).setCells g ((n - 1) * 2) (zerosB 1)) g cap (joinAt l i x) := by
  have hb1 := Blk.setCells [.int .i64 x.sz, .int .i64 x.t] (i * 2) w cur hb (by simp; omega)
  have hl1 : (over cur (i * 2) [.int .i64 x.sz, .int .i64 x.t]).length = cap * 2 := by rw [over_length (by simp; omega), hl]
  have hfl : (flatB (l.drop (i + 2))).length = (n - (i + 2)) * 2 := by rw [flatB_length]; simp [hn]
  have hb2 := Blk.setCells (flatB (l.drop (i + 2))) ((i + 1) * 2) _ _ hb1 (by rw [hl1, hfl]; omega)
  have hl2 : (over (over cur (i * 2) [.int .i64 x.sz, .int .i64 x.t]) ((i + 1) * 2) (flatB (l.drop (i + 2)))).length = cap * 2 := by rw [over_length (by rw [hl1, hfl]; omega), hl1]
  have hb3 := Blk.setCells (zerosB 1) ((n - 1) * 2) _ _ hb2 (by rw [hl2, zerosB_length]; omega)
  have hjl := joinAt_length x (l := l) (i := i) (by omega)
  refine ⟨⟨_, hb3, by rw [over_length (by rw [hl2, zerosB_length]; omega), hl2], ?_⟩, by omega, hmax⟩
  rw [hjl, take_over (by omega) (by rw [hl2]; omega), show (l.length - 1) * 2 = (i + 1) * 2 + (flatB (l.drop (i + 2))).length by rw [hfl]; omega, take_over_in (by rw [hl1]; omega)]
  rw [show (i + 1) * 2 = i * 2 + [Value.int .i64 x.sz, .int .i64 x.t].length by simp; omega, take_over_in (by omega)]
  have h3 : cur.take (i * 2) = (flatB l).take (i * 2) := by rw [← ht, List.take_take, Nat.min_eq_left (by omega)]
  unfold joinAt
  rw [flatB_append, flatB_append, flatB_take, h3]; rfl

theorem wpList_append_here {w : World} {ops : Array Oper} {rest : List Oper} {o : Oper} {a : Act} {Q : Exit → Act → World → Prop} (hgd : o.guard = none) (s x : Operand)
    (ho : o.op = .call { callee := .builtin .append, args := #[s, x], argTypes := #[150, 150] })
    (g off n cap : Nat) (hs : a.eval s = .slice (some ⟨g, off, none⟩) n cap) (ad : Addr) (m c : Nat) (hx : a.eval x = .slice (some ad) m c) (cs news : List Value) (hb : Blk w g cs 143) (hn : news.length = m * 2)
    (hc : ∀ j u, news[j]? = some u → w.cell? (ad.add j) = some u) (h1 : ∀ u ∈ news, u.oneCell' = true) (hroom : n + m ≤ cap) (hfit : off + n * 2 + news.length ≤ cs.length)
    (h : wpList Tryz.prog ops Q rest (a.put o.dst (.slice (some ⟨g, off, none⟩) (n + m) cap)) (w.setCells g (off + n * 2) news)) : wpList Tryz.prog ops Q (o :: rest) a w := by
  refine wpList_plain hgd fun K hK => ?_
  obtain ⟨i0, hi0, hz0, hz1, hz2⟩ := info_parts infoBk
  have hrun := run_append_room_cells (P := Tryz.prog) w 150 o.type 143 i0 Tryz.underlying150 hi0 g off n cap ad m c news (by rw [hz1]; exact hn) hc h1 hroom (fun j hj => hb.some (by rw [hz1]; omega)) (fun j _ => hb.frozen _)
  rw [hz1] at hrun
  unfold Oper.wp
  simp [execOp, ho, resolve, invoke, builtin, hs, hx, hrun, Result.andThen]
  exact hK _ _ h
theorem wpList_copy_here {w : World} {ops : Array Oper} {rest : List Oper} {o : Oper} {a : Act} {Q : Exit → Act → World → Prop} (hgd : o.guard = none) (s x : Operand)
    (ho : o.op = .call { callee := .builtin .copy, args := #[s, x], argTypes := #[150, 150] })
    (g off n cap : Nat) (hs : a.eval s = .slice (some ⟨g, off, none⟩) n cap) (ad : Addr) (m c : Nat) (hx : a.eval x = .slice (some ad) m c) (cs news : List Value) (hb : Blk w g cs 143) (hn : news.length = Nat.min m n * 2)
    (hc : ∀ j u, news[j]? = some u → w.cell? (ad.add j) = some u) (h1 : ∀ u ∈ news, u.oneCell' = true) (hfit : off + news.length ≤ cs.length)
    (h : wpList Tryz.prog ops Q rest (a.put o.dst (goInt (Nat.min m n))) (w.setCells g off news)) : wpList Tryz.prog ops Q (o :: rest) a w := by
  refine wpList_plain hgd fun K hK => ?_
  have hrun := run_copy_row2 w o.type g off n cap ad m c cs news hb hn hc hfit h1
  unfold Oper.wp
  simp [execOp, ho, resolve, invoke, builtin, hs, hx, hrun, Result.andThen]
  exact hK _ _ h
theorem step_copy_here {w : World} {ops : Array Oper} {o : Oper} {a : Act} {K : Act → World → Prop} {Q : Exit → Act → World → Prop} {E : Prop} (hgd : o.guard = none) (s x : Operand)
    (ho : o.op = .call { callee := .builtin .copy, args := #[s, x], argTypes := #[150, 150] })
    (g off n cap : Nat) (hs : a.eval s = .slice (some ⟨g, off, none⟩) n cap) (ad : Addr) (m c : Nat) (hx : a.eval x = .slice (some ad) m c) (cs news : List Value) (hb : Blk w g cs 143) (hn : news.length = Nat.min m n * 2)
    (hc : ∀ j u, news[j]? = some u → w.cell? (ad.add j) = some u) (h1 : ∀ u ∈ news, u.oneCell' = true) (hfit : off + news.length ≤ cs.length)
    (h : K (a.put o.dst (goInt (Nat.min m n))) (w.setCells g off news)) : if Region.wanted o (yielded ops a.tmps) = true then Oper.wp Tryz.prog o a w K Q else E := by
  have hw : Region.wanted o (yielded ops a.tmps) = true := by simp [Region.wanted, hgd]
  rw [if_pos hw]
  have hrun := run_copy_row2 w o.type g off n cap ad m c cs news hb hn hc hfit h1
  unfold Oper.wp
  simp [execOp, ho, resolve, invoke, builtin, hs, hx, hrun, Result.andThen]
  exact h

set_option maxRecDepth 100000 in
set_option maxHeartbeats 4000000 in
theorem replaceEnd_any (g cap n i sb : Nat) (l : List Bk) (x : Bk) (w : World) (hn : l.length = n) (hr : BRow w g cap l) (hi : i + 2 = n) (hx0 : w.cell? ⟨sb, 0, none⟩ = some (.int .i64 x.sz)) (hx1 : w.cell? ⟨sb, 1, none⟩ = some (.int .i64 x.t)) :
    Calls Tryz.prog 121 #[.slice (some ⟨g, 0, none⟩) n cap, .int .i64 i, .int .i64 ((i : Int) + 2), .slice (some ⟨sb, 0, none⟩) 1 1] w fun e w' => e = .returned (.slice (some ⟨g, 0, none⟩) (n - 1) cap) ∧ BRow w' g cap (joinAt l i x) ∧ Keeps (· = g) w w' := by
  obtain ⟨cur, hb, hl, ht⟩ := hr.ex
  have hle := hr.le
  rw [hn] at hle
  have hmax := hr.max
  have hcap : cap ≤ 9223372036854775807 := by unfold maxLen at hmax; omega
  have HFIN := hide (replaceEnd_row (x := x) hn hb hl ht hle hmax hi)
  have HB := hide hb
  have HL := hide hl
  have HX := hide (show ∀ j u, [Value.int .i64 x.sz, .int .i64 x.t][j]? = some u → w.cell? ((⟨sb, 0, none⟩ : Addr).add j) = some u from fun j u hu => by
    rw [Addr.add_lit]
    match j, hu with
    | 0, hu => injection hu with hu; rw [← hu]; exact hx0
    | 1, hu => injection hu with hu; rw [← hu]; exact hx1)
  obtain ⟨W1, hW1⟩ : ∃ W1, W1 = w.setCells g (i * 2) [.int .i64 x.sz, .int .i64 x.t] := ⟨_, rfl⟩
  have hbW : Blk W1 g (over cur (i * 2) [.int .i64 x.sz, .int .i64 x.t]) 143 := by rw [hW1]; exact Blk.setCells _ _ _ _ hb (by simp; omega)
  have hcl : ∀ ty, (Builtin.clear_ #[150] ty #[.slice (some ⟨g, (i + 1) * 2, none⟩) (n - (i + 1)) (cap - (i + 1))]).run Tryz.prog W1 = .ok (.tuple #[]) (W1.setCells g ((i + 1) * 2) (zerosB (n - (i + 1)))) :=
    fun ty => run_clear_row W1 ty g _ _ _ _ hbW (by omega) (by rw [over_length (by simp; omega)]; omega)
  have HW := hide (show w.setCells g (0 + i * 2) [.int .i64 x.sz, .int .i64 x.t] = W1 by rw [hW1, Nat.zero_add])
  have HK := hide (show Keeps (fun k => k = g) w W1 by rw [hW1]; exact Keeps.setCells (M := fun x => x = g) (Or.inl rfl) _ _ _ (Keeps.refl _ _))
  rw [← hW1] at HFIN
  have HNJ := hide (show n - (i + 1) = 1 by omega)
  have HN1 := hide (show n - 1 = i + 1 by omega)
  clear hW1 hbW hb ht hl hr hn hmax hx0 hx1
  have hic : i ≤ cap := by omega
  have hi0 : (0 : Int) ≤ (i : Int) := by omega
  have hin : (i : Int) + 2 = (n : Int) := by omega
  rw [hin]
  have hne : ((i : Int) == (n : Int)) = false := by simp; omega
  have hlt : decide ((i : Int) + 1 < (n : Int)) = true := by simp; omega
  clear hin
  go_enter Tryz.func121, Tryz.ntmps121
  go_wp2_with (at_builtin; refine wpList_append_here rfl _ _ rfl g 0 i cap rfl ⟨sb, 0, none⟩ 1 1 rfl cur [.int .i64 x.sz, .int .i64 x.t] (unhide HB) rfl (unhide HX) (by simp [Value.oneCell']) (by omega) (by have := unhide HL; simp; omega) ?_; rw [unhide HW])
  go_ret
  refine ⟨by rw [unhide HN1]; rfl, ?_, ?_⟩
  · rw [unhide HNJ]; exact unhide HFIN
  · exact Keeps.setCells (M := fun x => x = g) (Or.inl rfl) _ _ _ (unhide HK)

theorem setCells_drew (b : Nat) : ∀ (vs : List Value) (o : Nat) (w : World), (w.setCells b o vs).drew = w.drew.setCells b o vs
  | [], _, _ => rfl
  | v :: vs, o, w => setCells_drew b vs (o + 1) (w.setCell ⟨b, o, none⟩ v)

set_option maxRecDepth 100000 in
set_option maxHeartbeats 4000000 in
theorem replaceMid_any (g cap n i sb : Nat) (l : List Bk) (x : Bk) (w : World) (hn : l.length = n) (hr : BRow w g cap l) (hi : i + 2 < n) (hx0 : w.cell? ⟨sb, 0, none⟩ = some (.int .i64 x.sz)) (hx1 : w.cell? ⟨sb, 1, none⟩ = some (.int .i64 x.t)) :
    Calls Tryz.prog 121 #[.slice (some ⟨g, 0, none⟩) n cap, .int .i64 i, .int .i64 ((i : Int) + 2), .slice (some ⟨sb, 0, none⟩) 1 1] w fun e w' => e = .returned (.slice (some ⟨g, 0, none⟩) (n - 1) cap) ∧ BRow w' g cap (joinAt l i x) ∧ Keeps (· = g) w w' := by
  obtain ⟨cur, hb, hl, ht⟩ := hr.ex
  have hle := hr.le
  rw [hn] at hle
  have hmax := hr.max
  have hcap : cap ≤ 9223372036854775807 := by unfold maxLen at hmax; omega
  have HFIN := hide (replaceMid_row (w := w.drew.drew) (x := x) hn (by exact hb.drew.drew) hl ht hle hmax hi)
  obtain ⟨j, hj⟩ : ∃ j, j = i + 2 := ⟨_, rfl⟩
  obtain ⟨W1, hW1⟩ : ∃ W1, W1 = w.drew.setCells g (i * 2) [.int .i64 x.sz, .int .i64 x.t] := ⟨_, rfl⟩
  have hb1 : Blk W1 g (over cur (i * 2) [.int .i64 x.sz, .int .i64 x.t]) 143 := by rw [hW1]; exact Blk.setCells _ _ _ _ hb.drew (by simp; omega)
  have hl1 : (over cur (i * 2) [.int .i64 x.sz, .int .i64 x.t]).length = cap * 2 := by rw [over_length (by simp; omega), hl]
  obtain ⟨news, hnews⟩ : ∃ news, news = flatB (l.drop (i + 2)) := ⟨_, rfl⟩
  have hlen : news.length = (n - j) * 2 := by rw [hnews, flatB_length]; simp [hn, hj]
  have hsrc : ∀ t u, news[t]? = some u → W1.drew.cell? ((⟨g, j * 2, none⟩ : Addr).add t) = some u := by
    intro t u hu
    have htl : t < (n - j) * 2 := by have := (List.getElem?_eq_some_iff.1 hu).1; omega
    rw [Addr.add_lit]
    refine hb1.cell ?_
    rw [hnews, flatB_drop, List.getElem?_drop, ← ht, List.getElem?_take, if_pos (by omega)] at hu
    unfold over
    rw [List.getElem?_append_right (by simp; omega), List.getElem?_drop]
    rw [← hu]
    congr 1
    simp
    omega
  obtain ⟨W2, hW2⟩ : ∃ W2, W2 = W1.drew.setCells g ((i + 1) * 2) news := ⟨_, rfl⟩
  have hb2 : Blk W2 g (over (over cur (i * 2) [.int .i64 x.sz, .int .i64 x.t]) ((i + 1) * 2) news) 143 := by rw [hW2]; exact Blk.setCells _ _ _ _ hb1.drew (by rw [hl1]; omega)
  have hcl : ∀ ty, (Builtin.clear_ #[150] ty #[.slice (some ⟨g, (i + 1 + (n - j)) * 2, none⟩) (n - (i + 1 + (n - j))) (cap - (i + 1 + (n - j)))]).run Tryz.prog W2 = .ok (.tuple #[]) (W2.setCells g ((i + 1 + (n - j)) * 2) (zerosB (n - (i + 1 + (n - j))))) :=
    fun ty => run_clear_row W2 ty g _ _ _ _ hb2 (by omega) (by rw [over_length (by rw [hl1]; omega), hl1]; omega)
  have HK := hide (show Keeps (fun k => k = g) w W2 by
    rw [hW2, hW1]
    exact Keeps.setCells (M := fun x => x = g) (Or.inl rfl) _ _ _ (Keeps.setCells (M := fun x => x = g) (Or.inl rfl) _ _ _ (Keeps.refl _ _).drew).drew)
  have HFIN2 := hide (show BRow (W2.setCells g ((i + 1 + (n - j)) * 2) (zerosB (n - (i + 1 + (n - j))))) g cap (joinAt l i x) by
    have := unhide HFIN
    rw [hW2, hW1, setCells_drew, hnews, show i + 1 + (n - j) = n - 1 by omega, show n - (n - 1) = 1 by omega]
    exact this)
  have HB := hide hb.drew
  have HB1 := hide hb1.drew
  have HX := hide (show ∀ j u, [Value.int .i64 x.sz, .int .i64 x.t][j]? = some u → w.drew.cell? ((⟨sb, 0, none⟩ : Addr).add j) = some u from fun j u hu => by
    rw [Addr.add_lit]
    match j, hu with
    | 0, hu => injection hu with hu; rw [← hu]; exact hx0
    | 1, hu => injection hu with hu; rw [← hu]; exact hx1)
  have hcp : ∀ ty, (Builtin.copy_ #[150, 150] ty #[.slice (some ⟨g, i * 2, none⟩) (i + 1 + (n - j) - i) (cap - i), .slice (some ⟨sb, 0, none⟩) 1 1]).run Tryz.prog w.drew = .ok (goInt (Nat.min 1 (i + 1 + (n - j) - i))) W1 :=
    fun ty => by rw [hW1]; exact run_copy_row2 w.drew ty g (i * 2) _ _ ⟨sb, 0, none⟩ 1 1 cur [.int .i64 x.sz, .int .i64 x.t] (unhide HB) (by have h1 : Nat.min 1 (i + 1 + (n - j) - i) = 1 := Nat.min_eq_left (by omega); rw [h1]; rfl) (unhide HX) (by simp; omega) (by simp [Value.oneCell'])
  have HL1 := hide hl1
  have HSRC := hide hsrc
  have HLEN := hide hlen
  have HONE := hide (show ∀ u ∈ news, u.oneCell' = true by rw [hnews]; exact flatB_one _)
  have HW2 := hide hW2.symm
  have hic : i ≤ cap := by omega
  have hi0 : (0 : Int) ≤ (i : Int) := by omega
  have hin : (i : Int) + 2 = (j : Int) := by omega
  rw [hin]
  have hjn : j < n := by omega
  have hij : i < j := by omega
  have hjc : j ≤ cap := by omega
  have hic1 : ¬ cap = i + 1 := by omega
  have hcj : ¬ cap = j := by omega
  have hjn2 : j ≤ n := by omega
  have hct : ¬ cap = i + 1 + (n - j) := by omega
  have hw1 : IntKind.i64.wrap ((i : Int) + 1) = (i : Int) + 1 := by rw [IntKind.wrap_i64]; omega
  have hp1 : 0 ≤ (i : Int) + 1 := by omega
  have hp2 : (i : Int) + 1 ≤ (i : Int) + 1 + ((n - j : Nat) : Int) := by omega
  have hne : ((i : Int) == (j : Int)) = false := by simp; omega
  have hne2 : ((j : Int) == (n : Int)) = false := by simp; omega
  have hle2 : decide ((i : Int) + 1 ≤ (j : Int)) = true := by simp; omega
  have HN1 := hide (show n - 1 = i + 1 + (n - j) by omega)
  clear hin hj hW1 hW2 hb hb1 hb2 hl hl1 ht hnews hlen hsrc HFIN hr hn hmax hx0 hx1
  go_enter Tryz.func121, Tryz.ntmps121
  go_wp2_with fail
  go_region
  go_wp2_with fail
  go_region_law (refine step_copy_here rfl _ _ rfl g ((i + 1) * 2) (i + 1 + (n - j) - (i + 1)) (cap - (i + 1)) (by simp [Act.eval, Act.put]) ⟨g, j * 2, none⟩ (n - j) (cap - j) (by simp [Act.eval, Act.put]) _ news (unhide HB1) (by have h1 : Nat.min (n - j) (i + 1 + (n - j) - (i + 1)) = n - j := Nat.min_eq_left (by omega); rw [h1]; exact unhide HLEN) (unhide HSRC) (unhide HONE) (by rw [unhide HL1, unhide HLEN]; omega) ?_; rw [unhide HW2])
  go_wp2

  go_ret
  exact ⟨by rw [unhide HN1]; rfl, unhide HFIN2, Keeps.setCells (M := fun x => x = g) (Or.inl rfl) _ _ _ (unhide HK)⟩

end Go.Proofs.YtjhaihbjhikhlaaGreat

namespace Go.Proofs.YtjhaihbjhikhlaaGreat
open Go.RowKit

def timeV : Value := .func (.func 106) #[] #[]

/-- A row at block r, its list at og, holds these buckets. -/
def RowRep (w : World) (r : Nat) (og : Option Nat) (l : List Bk) : Prop :=
  match og with
  | none => l = [] ∧ Blk w r [timeV, .slice none 0 0] 152
  | some g => r ≠ g ∧ ∃ cap, Blk w r [timeV, .slice (some ⟨g, 0, none⟩) l.length cap] 152 ∧ BRow w g cap l

theorem RowRep.lt {w : World} {r : Nat} {og : Option Nat} {l : List Bk} (h : RowRep w r og l) : r < w.heap.size ∧ ∀ g, og = some g → g < w.heap.size ∧ r ≠ g := by
  cases og with
  | none => exact ⟨h.2.lt, fun _ h => by cases h⟩
  | some g => obtain ⟨hne, cap, hb, hr⟩ := h; exact ⟨hb.lt, fun g' h => by cases h; exact ⟨hr.lt, hne⟩⟩
theorem RowRep.keeps {M : Nat → Prop} {w w' : World} {r : Nat} {og : Option Nat} {l : List Bk} (h : RowRep w r og l) (k : Keeps M w w') (hq : ¬ M r) (hg : ∀ g, og = some g → ¬ M g) : RowRep w' r og l := by
  cases og with
  | none => exact ⟨h.1, h.2.keeps k hq⟩
  | some g => obtain ⟨hne, cap, hb, hr⟩ := h; exact ⟨hne, cap, hb.keeps k hq, hr.keeps k (hg g rfl)⟩
theorem RowRep.still {w w' : World} {r : Nat} {og : Option Nat} {l : List Bk} (h : RowRep w r og l) (k : Keeps (fun _ => False) w w') : RowRep w' r og l := h.keeps k (fun h => h) (fun _ _ h => h)

set_option maxHeartbeats 400000 in
theorem rowLen_any (q : Nat) (og : Option Nat) (l : List Bk) (w : World) (h : RowRep w q og l) :
    Calls Tryz.prog 117 #[.pointer (some ⟨q, 0, none⟩)] w fun e w' => e = .returned (.int .i64 l.length) ∧ w' = w := by
  cases og with
  | none =>
    obtain ⟨hl, hb⟩ := h
    have hq1 : w.cell? ⟨q, 1, none⟩ = some (.slice none 0 0) := hb.cell rfl
    subst hl
    clear hb
    go_enter Tryz.func117, Tryz.ntmps117
    go_wp2
    go_ret
    exact ⟨rfl, rfl⟩
  | some g =>
    obtain ⟨hne, cap, hb, hr⟩ := h
    have hq1 : w.cell? ⟨q, 1, none⟩ = some (.slice (some ⟨g, 0, none⟩) l.length cap) := hb.cell rfl
    clear hb hr
    go_enter Tryz.func117, Tryz.ntmps117
    go_wp2
    go_ret
    exact ⟨rfl, rfl⟩

set_option maxRecDepth 100000 in
set_option maxHeartbeats 1000000 in
theorem rowAt_any (q : Nat) (og : Option Nat) (l : List Bk) (i : Nat) (w : World) (h : RowRep w q og l) (hi : i < l.length) :
    Calls Tryz.prog 119 #[.pointer (some ⟨q, 0, none⟩), .int .i64 i] w fun e w' => e = .returned (bkAt l i).val ∧ Keeps (fun _ => False) w w' := by
  cases og with
  | none => obtain ⟨hl, hb⟩ := h; subst hl; simp at hi
  | some g =>
    obtain ⟨hne, cap, hb, hr⟩ := h
    have hq1 : w.cell? ⟨q, 1, none⟩ = some (.slice (some ⟨g, 0, none⟩) l.length cap) := hb.cell rfl
    have hlq := hb.lt
    have hlg := hr.lt
    obtain ⟨x0, x1⟩ := hr.cells i hi
    generalize bkAt l i = x at *
    generalize l.length = n at *
    have hi0 : (0 : Int) ≤ (i : Int) := by omega
    have hin : (i : Int) < (n : Int) := by omega
    clear hb hr
    go_enter Tryz.func119, Tryz.ntmps119
    go_wp2
    refine bodyPost_ret (v := x.val) (by simp [results, Tryz.results119, go_sem, Bk.val]) rfl ⟨rfl, (Keeps.refl _ _).alloc _⟩

set_option maxHeartbeats 400000 in
theorem time_bk (x : Bk) (w : World) :
    Calls Tryz.prog 106 #[x.val] w fun e w' => e = .returned (.int .i64 x.t) ∧ w' = w.alloc (.cells #[.int .i64 x.sz, .int .i64 x.t] 143) := by
  unfold Bk.val
  go_enter Tryz.func106, Tryz.ntmps106
  go_wp2
  go_ret
  exact ⟨rfl, rfl⟩

/-- How many of the oldest have times up to t. -/
def pastN (l : List Bk) (t : Int) : Nat := (l.takeWhile (fun b => decide (b.t ≤ t))).length
theorem pastN_le (l : List Bk) (t : Int) : pastN l t ≤ l.length := (List.takeWhile_prefix _).length_le
theorem bkAt_drop (l : List Bk) (k : Nat) (h : k < l.length) : l.drop k = bkAt l k :: l.drop (k + 1) := by
  rw [List.drop_eq_getElem_cons h]
  congr 1
  simp [bkAt, List.getD_eq_getElem?_getD, List.getElem?_eq_getElem h]

set_option maxRecDepth 100000 in
set_option maxHeartbeats 2000000 in
theorem past_any (q : Nat) (og : Option Nat) (l : List Bk) (t : Int) (w : World) (h : RowRep w q og l) (hl : l.length ≤ 4398046511104) :
    Calls Tryz.prog 116 #[.pointer (some ⟨q, 0, none⟩), .int .i64 t] w fun e w' => e = .returned (.int .i64 (pastN l t)) ∧ Keeps (fun _ => False) w w' := by
  cases og with
  | none =>
    obtain ⟨hl, hb⟩ := h
    have hq1 : w.cell? ⟨q, 1, none⟩ = some (.slice none 0 0) := hb.cell rfl
    subst hl
    clear hb
    go_enter Tryz.func116, Tryz.ntmps116
    go_wp2
    go_loopw [5] (fun i wr => i = .int .i64 0 ∧ wr = w) (fun _ _ => 0)
    case atStart => exact ⟨rfl, rfl⟩
    case round =>
      obtain ⟨rfl, rfl⟩ := hrel
      go_wp2
      go_quiet (fail)
      go_wp2
      go_ret
      exact ⟨rfl, Keeps.drewN _ _ _⟩
  | some g =>
    obtain ⟨hne, cap, hb, hr⟩ := h
    have HB := hide hb
    have HR := hide hr
    clear hb hr
    generalize hn : l.length = n at *
    have HN := hide hn
    clear hn
    go_enter Tryz.func116, Tryz.ntmps116
    go_wp2
    go_loopw [5] (fun i wr => ∃ k : Nat, i = .int .i64 k ∧ k ≤ n ∧ Hid (Keeps (fun _ => False) w wr) ∧ Hid (pastN l t = k + pastN (l.drop k) t)) (fun i _ => n - (intOf i).toNat)
    case atStart => exact ⟨0, rfl, Nat.zero_le _, Keeps.refl _ _, by show _ = _; simp⟩
    case round =>
      obtain ⟨k, rfl, hk, HK, HE⟩ := hrel
      have hq1 : wr.cell? ⟨q, 1, none⟩ = some (.slice (some ⟨g, 0, none⟩) n cap) := (unhide HK).cell ((unhide HB).cell rfl) (fun h => h)
      have hq0 : wr.cell? ⟨q, 0, none⟩ = some (.func (.func 106) #[] #[]) := (unhide HK).cell ((unhide HB).cell rfl) (fun h => h)
      by_cases hlt : k < n
      · have hcs := (unhide HR).cells k (by rw [unhide HN]; exact hlt)
        have x0 := (unhide HK).cell hcs.1 (fun h => h)
        have x1 := (unhide HK).cell hcs.2 (fun h => h)
        clear hcs
        have hk0 : (0 : Int) ≤ (k : Int) := by omega
        have hkn : (k : Int) < (n : Int) := by omega
        have HD := hide (bkAt_drop l k (by rw [unhide HN]; exact hlt))
        generalize bkAt l k = x at *
        by_cases ht : x.t ≤ t
        all_goals
          have HT := hide ht
          go_wp2
          go_region_held3 (fun w' => w'.cell? ⟨q, 0, none⟩ = some (.func (.func 106) #[] #[]) ∧ w'.cell? ⟨q, 1, none⟩ = some (.slice (some ⟨g, 0, none⟩) n cap) ∧
            w'.cell? ⟨g, k * 2, none⟩ = some (.int .i64 x.sz) ∧ w'.cell? ⟨g, k * 2 + 1, none⟩ = some (.int .i64 x.t)) (go_keep)
            (first | (go_at_call 106; refine (time_bk x _).mono ?_; rintro e w' ⟨rfl, rfl⟩))
          have hk1 : Keeps (fun _ => False) wr (wr.alloc (.cells #[.int .i64 x.sz, .int .i64 x.t] 143)).drew := ((Keeps.refl _ _).alloc _).drew
          generalize (wr.alloc (.cells #[.int .i64 x.sz, .int .i64 x.t] 143)).drew = W1 at *
          have HK1 := hide hk1
          clear hk1
        · go_wp2
          go_roundw
          case rel =>
            refine ⟨k + 1, by go_num, by omega, (unhide HK).then (unhide HK1), ?_⟩
            show _ = _
            rw [unhide HE, unhide HD]
            unfold pastN
            rw [List.takeWhile_cons, if_pos (by simpa using unhide HT)]
            simp; omega
          case measure => simp [intOf]; omega
        · go_wp2
          go_ret
          refine ⟨?_, (unhide HK).then (unhide HK1)⟩
          rw [unhide HE, unhide HD]
          unfold pastN
          rw [List.takeWhile_cons, if_neg (by simpa using unhide HT)]
          simp
      · have hd : decide ((k : Int) < (n : Int)) = false := by simp; omega
        go_wp2
        go_quiet (fail)
        go_wp2
        go_ret
        refine ⟨?_, (unhide HK).then (Keeps.drewN _ _ _)⟩
        rw [unhide HE, List.drop_eq_nil_of_le (by rw [unhide HN]; omega)]
        simp [pastN]

end Go.Proofs.YtjhaihbjhikhlaaGreat

namespace Go.Proofs.YtjhaihbjhikhlaaGreat
open Go.RowKit

set_option maxRecDepth 100000 in
set_option maxHeartbeats 2000000 in
theorem lose_any (q : Nat) (og : Option Nat) (l : List Bk) (k : Nat) (w : World) (h : RowRep w q og l) (hk : k ≤ l.length) :
    Calls Tryz.prog 107 #[.pointer (some ⟨q, 0, none⟩), .int .i64 k] w fun e w' => e = .returned (.tuple #[]) ∧ RowRep w' q og (l.drop k) ∧ Keeps (fun i => i = q ∨ og = some i) w w' := by
  cases og with
  | none =>
    obtain ⟨hl, hb⟩ := h
    subst hl
    have hk0 : k = 0 := by simpa using hk
    subst hk0
    have hq1 : w.cell? ⟨q, 1, none⟩ = some (.slice none 0 0) := hb.cell rfl
    have hf := hb.frozen
    have HB := hide hb
    clear hb hk
    go_enter Tryz.func107, Tryz.ntmps107
    go_wp2_with fail
    refine (deleteNil_any _).mono ?_
    rintro e w' ⟨rfl, rfl⟩
    go_wp2
    go_end0
    refine ⟨rfl, ⟨rfl, ?_⟩, (Keeps.refl (fun i => i = q ∨ none = some i) _).setCell (p := ⟨q, 1, none⟩) (Or.inl (Or.inl rfl)) _⟩
    exact (unhide HB).setCell 1 _
  | some g =>
    obtain ⟨hne, cap, hb, hr⟩ := h
    have hq1 : w.cell? ⟨q, 1, none⟩ = some (.slice (some ⟨g, 0, none⟩) l.length cap) := hb.cell rfl
    have hlq := hb.lt
    have HB := hide hb
    have HR := hide hr
    clear hb hr
    have HC : Hid (Calls Tryz.prog 115 #[.slice (some ⟨g, 0, none⟩) l.length cap, .int .i64 0, .int .i64 k] w fun e w' => e = .returned (.slice (some ⟨g, 0, none⟩) (l.length - k) cap) ∧ BRow w' g cap (l.drop k) ∧ Keeps (fun i => i = g) w w') := by
      rcases Nat.eq_zero_or_pos k with h0 | h0
      · subst h0
        refine (deleteZero_any g cap l.length w (unhide HR).le).mono ?_
        rintro e w' ⟨rfl, rfl⟩
        exact ⟨rfl, unhide HR, Keeps.refl _ _⟩
      · exact delete_any g cap l.length k l w rfl (unhide HR) h0 hk
    generalize hn : l.length = n at *
    have HN := hide hn
    clear hn
    go_enter Tryz.func107, Tryz.ntmps107
    go_wp2_with fail
    refine (unhide HC).mono ?_
    rintro e w1 ⟨rfl, hr1, hk1⟩
    have HB1 := hide ((unhide HB).keeps hk1 hne)
    have HR1 := hide hr1
    have HK1 := hide hk1
    clear hr1 hk1 HC HB HR hq1
    have hq1 : w1.cell? ⟨q, 1, none⟩ = some (.slice (some ⟨g, 0, none⟩) n cap) := (unhide HB1).cell rfl
    have hf := (unhide HB1).frozen
    go_wp2
    go_end0
    refine ⟨rfl, ⟨hne, cap, ?_, ?_⟩, ?_⟩
    · rw [List.length_drop, unhide HN]; exact (unhide HB1).setCell 1 _
    · exact (unhide HR1).keeps (M := fun i => i = q) ((Keeps.refl (fun i => i = q) _).setCell (p := ⟨q, 1, none⟩) (Or.inl rfl) _) (fun h => hne h.symm)
    · exact ((unhide HK1).mono (M' := fun i => i = q ∨ some g = some i) (fun i _ h => .inr (by rw [h]))).setCell (p := ⟨q, 1, none⟩) (Or.inl (Or.inl rfl)) _

/-- The slice of a row as the append's law has it. -/
theorem RowRep.owns {w : World} {q : Nat} {og : Option Nat} {l : List Bk} (h : RowRep w q og l) :
    ∃ cap, Blk w q [timeV, slV og l.length cap] 152 ∧ w.ownsRow 0 143 2 (slV og l.length cap) l.length (flatB l) := by
  cases og with
  | none => obtain ⟨rfl, hb⟩ := h; exact ⟨0, hb, World.ownsRow_nil _ _ _ _⟩
  | some g =>
    obtain ⟨hne, cap, hb, hr⟩ := h
    exact ⟨cap, hb, hr.owns⟩

/-- What stands behind 'r.list = append(r.list, x)'. -/
theorem rowPut_end {w w1 : World} {A B : Obj} {q gg n cap cap' : Nat} {og : Option Nat} {l : List Bk} {x : Bk} {v : Value} (hn : l.length = n) (hv : slV og n cap = v) (hlq : q < w.heap.size)
    (hb : Blk w q [timeV, v] 152) (hqv : some q ≠ v.ownBlock)
    (hown1 : w1.ownsRow 0 143 2 (.slice (some ⟨gg, 0, none⟩) (n + 1) cap') (n + 1) (flatB l ++ [.int .i64 x.sz, .int .i64 x.t]))
    (hgrow : ((w.alloc A).alloc B).drew.grownBy w1 v.ownBlock) (hat : v.ownBlock = some gg ∨ gg = w.heap.size + 2) :
    RowRep (w1.setCell ⟨q, 1, none⟩ (.slice (some ⟨gg, 0, none⟩) (n + 1) cap')) q (some gg) (l ++ [x]) ∧
    Keeps (fun k => k = q ∨ og = some k) w (w1.setCell ⟨q, 1, none⟩ (.slice (some ⟨gg, 0, none⟩) (n + 1) cap')) ∧ (og = some gg ∨ w.heap.size ≤ gg) := by
  have hob : ∀ k, v.ownBlock = some k → og = some k := by
    intro k hk
    rw [← hv] at hk
    cases og with
    | none => simp [slV, Value.ownBlock] at hk
    | some g => simpa [slV, Value.ownBlock] using hk
  have hqg : q ≠ gg := by
    rcases hat with h | h
    · intro e; apply hqv; rw [h, e]
    · omega
  have hk1 : Keeps (fun k => k = q ∨ og = some k) w w1 := (((Keeps.refl _ w).alloc A).alloc B).drew.grown hgrow (fun k hk => Or.inl (Or.inr (hob k hk)))
  have hb1 : Blk w1 q [timeV, v] 152 := by
    unfold Blk
    rw [hgrow.block q (by simp; omega) hqv]
    exact (hb.alloc A).alloc B
  refine ⟨⟨hqg, cap', ?_, ?_⟩, hk1.setCell (Or.inl (Or.inl rfl)) _, ?_⟩
  · have : (l ++ [x]).length = n + 1 := by simp [hn]
    rw [this]
    exact hb1.setCell 1 _
  · have hfl : flatB l ++ [.int .i64 x.sz, .int .i64 x.t] = flatB (l ++ [x]) := by rw [flatB_append]; rfl
    rw [hfl] at hown1
    exact (brow_of_owns (by simp [hn]) hown1).keeps (M := fun k => k = q) ((Keeps.refl (fun k => k = q) _).setCell (Or.inl rfl) _) (fun h => hqg h.symm)
  · rcases hat with h | h
    · exact .inl (hob gg h)
    · exact .inr (by omega)

set_option maxRecDepth 100000 in
set_option maxHeartbeats 1000000 in
theorem rowPut_any (q : Nat) (og : Option Nat) (l : List Bk) (x : Bk) (w : World) (h : RowRep w q og l) (hl : l.length ≤ 4398046511104) :
    Calls Tryz.prog 109 #[.pointer (some ⟨q, 0, none⟩), x.val] w fun e w' => e = .returned (.tuple #[]) ∧ ∃ og', RowRep w' q og' (l ++ [x]) ∧ Keeps (fun k => k = q ∨ og = some k) w w' ∧ (og' = og ∨ ∃ k, og' = some k ∧ w.heap.size ≤ k) := by
  obtain ⟨hlq, hlg⟩ := h.lt
  obtain ⟨cap, hb, hown⟩ := h.owns
  have hq1 : w.cell? ⟨q, 1, none⟩ = some (slV og l.length cap) := hb.cell rfl
  have hfz := hb.frozen 1
  obtain ⟨i0, hi0, hz0, hz1, hz2⟩ := info_parts infoBk
  generalize hn : l.length = n at *
  generalize hv : slV og n cap = v at *
  unfold Bk.val
  have HB : Hid (Blk w q [timeV, v] 152) := hb
  have HV : Hid (slV og n cap = v) := hv
  have HN : Hid (l.length = n) := hn
  have hqv : some q ≠ v.ownBlock := by
    rw [← hv]
    cases og with
    | none => simp [slV, Value.ownBlock]
    | some g => simp [slV, Value.ownBlock]; exact (hlg g rfl).2
  have HF : Hid (∀ A B w1, ((w.alloc A).alloc B).drew.grownBy w1 v.ownBlock → w1.cell? ⟨q, 1, none⟩ = some v ∧ w1.frozen? ⟨q, 1, none⟩ = false) := fun A B w1 hg => by
    have hb1 : w1.heap[q]? = w.heap[q]? := by
      rw [hg.block q (by simp; omega) hqv]
      show ((w.alloc A).alloc B).heap[q]? = _
      rw [Below.heap_alloc _ _ _ (by simp; omega), Below.heap_alloc _ _ _ hlq]
    exact ⟨(World.cell?_of_block (a := ⟨q, 1, none⟩) hb1).trans hq1, (World.frozen?_of_block (a := ⟨q, 1, none⟩) hb1).trans hfz⟩
  have hnew : Hid (∀ A B, ((w.alloc A).alloc B).drew.heap[w.heap.size + 1]? = some B) := fun A B => by
    have := heap_alloc_new (w.alloc A) B
    rwa [World.size_alloc] at this
  clear hb h hv hn hlg
  go_enter Tryz.func109, Tryz.ntmps109
  go_wp2_with fail
  go_region_law
    ((refine step_append_lies _ (by rfl) _ _ _ (by rfl) 0 143 i0 _ 2 16 Tryz.underlying150 hi0 hz0 hz1 hz2 rfl (by omega) v n (flatB l) (by rfl) (((hown.alloc _).alloc _).drew)
        ⟨w.heap.size + 1, 0, none⟩ 1 1 [.int .i64 x.sz, .int .i64 x.t] (by rfl) (by rfl) (World.news_of_block (cs := #[.int .i64 x.sz, .int .i64 x.t]) (t := 143) (fr := (0, 0)) (hnew.out _ _)) (by simp [Value.oneCell'])
        (by omega) (by unfold maxLen; omega) (by omega) (by omega) (w.heap.size + 2) (by simp) ?_; intro gg cap' w1 hown1 hgrow hat hlt; have hcq := (HF.out _ _ _ hgrow).1; have hfq := (HF.out _ _ _ hgrow).2))
  all_goals
    have HE := rowPut_end HN.out HV.out hlq HB.out hqv hown1 hgrow hat
    obtain ⟨hQ2, hK2, hog⟩ := HE
    go_wp2
    go_end0
    refine ⟨rfl, some gg, hQ2, hK2, ?_⟩
    rcases hog with h | h
    · exact .inl h.symm
    · exact .inr ⟨gg, rfl, h⟩

set_option maxRecDepth 100000 in
set_option maxHeartbeats 2000000 in
theorem rowJoin_any (q : Nat) (og : Option Nat) (l : List Bk) (i : Nat) (x : Bk) (w : World) (h : RowRep w q og l) (hi : i + 2 ≤ l.length) (hl : l.length ≤ 4398046511104) :
    Calls Tryz.prog 120 #[.pointer (some ⟨q, 0, none⟩), .int .i64 i, x.val] w fun e w' => e = .returned (.tuple #[]) ∧ RowRep w' q og (joinAt l i x) ∧ Keeps (fun k => k = q ∨ og = some k) w w' := by
  cases og with
  | none => obtain ⟨hl, hb⟩ := h; subst hl; simp at hi
  | some g =>
    obtain ⟨hne, cap, hb, hr⟩ := h
    have hq1 : w.cell? ⟨q, 1, none⟩ = some (.slice (some ⟨g, 0, none⟩) l.length cap) := hb.cell rfl
    have hf := hb.frozen
    have hlq := hb.lt
    have hlg := hr.lt
    have HB := hide hb
    have HR := hide hr
    clear hb hr
    have HC : Hid (∀ (sb : Nat) (W : World), BRow W g cap l → W.cell? ⟨sb, 0, none⟩ = some (.int .i64 x.sz) → W.cell? ⟨sb, 1, none⟩ = some (.int .i64 x.t) → Calls Tryz.prog 121 #[.slice (some ⟨g, 0, none⟩) l.length cap, .int .i64 i, .int .i64 ((i : Int) + 2), .slice (some ⟨sb, 0, none⟩) 1 1] W fun e w' => e = .returned (.slice (some ⟨g, 0, none⟩) (l.length - 1) cap) ∧ BRow w' g cap (joinAt l i x) ∧ Keeps (fun k => k = g) W w') := by
      intro sb W hW h0 h1
      rcases Nat.lt_or_ge (i + 2) l.length with h2 | h2
      · exact replaceMid_any g cap l.length i sb l x W rfl hW h2 h0 h1
      · exact replaceEnd_any g cap l.length i sb l x W rfl hW (by omega) h0 h1
    have HJL := hide (joinAt_length x (l := l) (i := i) hi)
    generalize hn : l.length = n at *
    have HN := hide hn
    clear hn
    unfold Bk.val
    go_enter Tryz.func120, Tryz.ntmps120
    go_wp2_with fail
    have hw2 : IntKind.i64.wrap ((i : Int) + 2) = (i : Int) + 2 := by rw [IntKind.wrap_i64]; omega
    have HS := hide (show ∀ A w1, Keeps (fun k => k = g) ((w.alloc (.cells #[.int .i64 x.sz, .int .i64 x.t] 143)).alloc A).drew w1 → Blk w1 q [timeV, .slice (some ⟨g, 0, none⟩) n cap] 152 from fun A w1 hk => ((((unhide HB).alloc _).alloc A).drew).keeps hk hne)
    go_region_with (go_at_call 121; refine (unhide HC (w.heap.size + 1) _ ((unhide HR).keeps (M := fun _ => False) (((Keeps.refl _ _).alloc _).alloc _).drew (fun h => h)) (by simp) (by simp)).mono ?_; rintro e w1 ⟨rfl, hr1, hk1⟩; have hq2 := (unhide HS _ _ hk1).cell (i := 1) rfl; have hf2 := (unhide HS _ _ hk1).frozen)
    all_goals
      have hb2 := unhide HS _ _ hk1
      go_wp2
      go_end0
      refine ⟨rfl, ⟨hne, cap, ?_, ?_⟩, ?_⟩
      · rw [unhide HJL]; exact hb2.setCell 1 _
      · exact hr1.keeps (M := fun i => i = q) ((Keeps.refl (fun i => i = q) _).setCell (p := ⟨q, 1, none⟩) (Or.inl rfl) _) (fun h => hne h.symm)
      · exact (((((Keeps.refl (fun k => k = q ∨ some g = some k) w).alloc _).alloc _).drew).trans hk1 (fun i hi _ => .inr (by rw [hi]))).setCell (p := ⟨q, 1, none⟩) (Or.inl (Or.inl rfl)) _

set_option maxHeartbeats 400000 in
theorem rowNew_any (w : World) :
    Calls Tryz.prog 105 #[timeV] w fun e w' => e = .returned (.pointer (some ⟨w.heap.size, 0, none⟩)) ∧ RowRep w' w.heap.size none [] ∧ Keeps (fun _ => False) w w' ∧ w'.heap.size = w.heap.size + 1 := by
  unfold timeV
  go_enter Tryz.func105, Tryz.ntmps105
  go_wp2
  go_ret
  exact ⟨rfl, ⟨rfl, Blk.new w [timeV, .slice none 0 0] 152⟩, (Keeps.refl _ _).alloc _, by simp⟩

end Go.Proofs.YtjhaihbjhikhlaaGreat
