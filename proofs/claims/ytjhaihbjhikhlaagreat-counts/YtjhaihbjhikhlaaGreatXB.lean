import Derived.Test.YtjhaihbjhikhlaaGreatXA
import Derived.Deep.AppendLies
import Derived.Deep.RegionLaw
import Derived.Laws.EntriesVeiled
namespace Go.Proofs.YtjhaihbjhikhlaaGreat
open Go.RowKit

theorem hide {p : Prop} (h : p) : Hid p := h
theorem unhide {p : Prop} (h : Hid p) : p := h

/-- A queue at block q, its row at og, holds these items. -/
def QRep (w : World) (q : Nat) (og : Option Nat) (l : List It) : Prop :=
  match og with
  | none => l = [] ∧ Blk w q [aheadV, .slice none 0 0] 125
  | some g => q ≠ g ∧ ∃ cap, Blk w q [aheadV, .slice (some ⟨g, 0, none⟩) l.length cap] 125 ∧ IRow w g cap l

theorem QRep.lt {w : World} {q : Nat} {og : Option Nat} {l : List It} (h : QRep w q og l) : q < w.heap.size ∧ ∀ g, og = some g → g < w.heap.size ∧ q ≠ g := by
  cases og with
  | none => exact ⟨h.2.lt, fun _ h => by cases h⟩
  | some g => obtain ⟨hne, cap, hb, hr⟩ := h; exact ⟨hb.lt, fun g' h => by cases h; exact ⟨hr.lt, hne⟩⟩
theorem QRep.keeps {M : Nat → Prop} {w w' : World} {q : Nat} {og : Option Nat} {l : List It} (h : QRep w q og l) (k : Keeps M w w') (hq : ¬ M q) (hg : ∀ g, og = some g → ¬ M g) : QRep w' q og l := by
  cases og with
  | none => exact ⟨h.1, h.2.keeps k hq⟩
  | some g => obtain ⟨hne, cap, hb, hr⟩ := h; exact ⟨hne, cap, hb.keeps k hq, hr.keeps k (hg g rfl)⟩

set_option maxHeartbeats 400000 in
theorem len_any (q : Nat) (og : Option Nat) (l : List It) (w : World) (h : QRep w q og l) :
    Calls Tryz.prog 57 #[.pointer (some ⟨q, 0, none⟩)] w fun e w' => e = .returned (.int .i64 l.length) ∧ w' = w := by
  cases og with
  | none =>
    obtain ⟨hl, hb⟩ := h
    have hq1 : w.cell? ⟨q, 1, none⟩ = some (.slice none 0 0) := hb.cell rfl
    subst hl
    clear hb
    go_enter Tryz.func57, Tryz.ntmps57
    go_wp2
    go_ret
    exact ⟨rfl, rfl⟩
  | some g =>
    obtain ⟨hne, cap, hb, hr⟩ := h
    have hq1 : w.cell? ⟨q, 1, none⟩ = some (.slice (some ⟨g, 0, none⟩) l.length cap) := hb.cell rfl
    clear hb hr
    go_enter Tryz.func57, Tryz.ntmps57
    go_wp2
    go_ret
    exact ⟨rfl, rfl⟩

set_option maxHeartbeats 400000 in
theorem first_any (q : Nat) (og : Option Nat) (l : List It) (w : World) (h : QRep w q og l) :
    Calls Tryz.prog 59 #[.pointer (some ⟨q, 0, none⟩)] w fun e w' => e = .returned (.tuple #[(itAt l 0).val, .bool (!l.isEmpty)]) ∧ Keeps (fun _ => False) w w' := by
  have hlt := h.lt
  cases og with
  | none =>
    obtain ⟨hl, hb⟩ := h
    have hq1 : w.cell? ⟨q, 1, none⟩ = some (.slice none 0 0) := hb.cell rfl
    subst hl
    have hlq := hb.lt
    clear hb hlt
    go_enter Tryz.func59, Tryz.ntmps59
    go_wp2
    exact bodyPost_ret (v := .tuple #[.agg #[.int .i64 0, .int .i64 0, .int .i64 0, .int .i64 0], .bool false]) (by simp [results, Tryz.results59, go_sem]) rfl ⟨rfl, by repeat (first | exact Keeps.refl _ _ | apply Keeps.drew | apply Keeps.alloc)⟩
  | some g =>
    obtain ⟨hne, cap, hb, hr⟩ := h
    have hq1 : w.cell? ⟨q, 1, none⟩ = some (.slice (some ⟨g, 0, none⟩) l.length cap) := hb.cell rfl
    have hlq := hb.lt
    have hlg := hr.lt
    cases l with
    | nil =>
      clear hb hr hlt
      go_enter Tryz.func59, Tryz.ntmps59
      go_wp2
      exact bodyPost_ret (v := .tuple #[.agg #[.int .i64 0, .int .i64 0, .int .i64 0, .int .i64 0], .bool false]) (by simp [results, Tryz.results59, go_sem]) rfl ⟨rfl, by repeat (first | exact Keeps.refl _ _ | apply Keeps.drew | apply Keeps.alloc)⟩
    | cons x r =>
      obtain ⟨x0, x1, x2, x3⟩ := hr.cells 0 (by simp)
      have hx : itAt (x :: r) 0 = x := rfl
      rw [hx] at x0 x1 x2 x3 ⊢
      simp only [Nat.zero_mul, Nat.zero_add] at x0 x1 x2 x3
      have hn : ((x :: r).length : Int) = (r.length : Int) + 1 := by simp
      have hn0 : (((x :: r).length : Int) == 0) = false := by simp; omega
      have hn1 : (0 : Int) < ((x :: r).length : Int) := by simp
      generalize (x :: r).length = n at *
      clear hb hr hlt hn hx
      go_enter Tryz.func59, Tryz.ntmps59
      go_wp2
      exact bodyPost_ret (v := .tuple #[.agg #[.int .i64 x.t, .int .i64 x.k, .int .i64 x.d, .int .i64 x.n], .bool true]) (by simp [results, Tryz.results59, go_sem]) rfl ⟨rfl, by repeat (first | exact Keeps.refl _ _ | apply Keeps.drew | apply Keeps.alloc)⟩

end Go.Proofs.YtjhaihbjhikhlaaGreat

namespace Go.Proofs.YtjhaihbjhikhlaaGreat
open Go.RowKit

theorem info72 : (Tryz.prog.info? 66).map (fun i => (i.zero, i.size, i.bytes)) = some (some (.agg #[.int .i64 0, .int .i64 0, .int .i64 0, .int .i64 0]), 4, 32) := by kernel_rfl

theorem riseL_length (f : Nat) (l : List It) (i : Nat) : (riseL f l i).length = l.length := by
  induction f generalizing l i with
  | zero => rfl
  | succ f ih =>
    unfold riseL
    split
    · rfl
    · split
      · rw [ih, swapL_length]
      · rfl
theorem sinkL_length (f : Nat) (l : List It) (i : Nat) : (sinkL f l i).length = l.length := by
  induction f generalizing l i with
  | zero => rfl
  | succ f ih =>
    unfold sinkL
    split
    · rfl
    · split
      · rw [ih, swapL_length]
      · rfl

/-- The slice of a queue as the append's law has it. -/
def slV (og : Option Nat) (n cap : Nat) : Value := match og with | none => .slice none 0 0 | some g => .slice (some ⟨g, 0, none⟩) n cap
theorem QRep.owns {w : World} {q : Nat} {og : Option Nat} {l : List It} (h : QRep w q og l) :
    ∃ cap, Blk w q [aheadV, slV og l.length cap] 125 ∧ w.ownsRow 0 66 4 (slV og l.length cap) l.length (flat l) := by
  cases og with
  | none => obtain ⟨rfl, hb⟩ := h; exact ⟨0, hb, World.ownsRow_nil _ _ _ _⟩
  | some g =>
    obtain ⟨hne, cap, hb, hr⟩ := h
    obtain ⟨cur, hc, hl, ht⟩ := hr.ex
    exact ⟨cap, hb, flat_length l, .inr ⟨g, cap, cur.toArray, rfl, Nat.zero_le _, hc, hr.le, hr.max, by simp [hl], by simpa using ht⟩⟩
theorem irow_of_owns {w : World} {g n cap : Nat} {l : List It} (hn : l.length = n) (h : w.ownsRow 0 66 4 (.slice (some ⟨g, 0, none⟩) n cap) n (flat l)) : IRow w g cap l := by
  rcases h.2 with ⟨h1, _⟩ | ⟨g', cap', cur, h1, _, h3, h4, h5, h6, h7⟩
  · cases h1
  · cases h1
    subst hn
    exact ⟨⟨cur.toList, by unfold Blk; simpa using h3, by simpa using h6, h7⟩, h4, h5⟩

/-- What stands behind 'q.heap = append(q.heap, x)'. -/
theorem put_end {w w1 : World} {A B : Obj} {q gg n cap cap' : Nat} {og : Option Nat} {l : List It} {x : It} {v : Value} (hn : l.length = n) (hv : slV og n cap = v) (hlq : q < w.heap.size)
    (hlg : ∀ g, og = some g → g < w.heap.size ∧ q ≠ g) (hb : Blk w q [aheadV, v] 125) (hqv : some q ≠ v.ownBlock)
    (hown1 : w1.ownsRow 0 66 4 (.slice (some ⟨gg, 0, none⟩) (n + 1) cap') (n + 1) (flat l ++ [.int .i64 x.t, .int .i64 x.k, .int .i64 x.d, .int .i64 x.n]))
    (hgrow : ((w.alloc A).alloc B).drew.grownBy w1 v.ownBlock) (hat : v.ownBlock = some gg ∨ gg = w.heap.size + 2) :
    QB (w1.setCell ⟨q, 1, none⟩ (.slice (some ⟨gg, 0, none⟩) (n + 1) cap')) q (.slice (some ⟨gg, 0, none⟩) (n + 1) cap') ∧
    IRow (w1.setCell ⟨q, 1, none⟩ (.slice (some ⟨gg, 0, none⟩) (n + 1) cap')) gg cap' (l ++ [x]) ∧
    Keeps (fun k => k = q ∨ og = some k) w (w1.setCell ⟨q, 1, none⟩ (.slice (some ⟨gg, 0, none⟩) (n + 1) cap')) ∧ q ≠ gg ∧ (og = some gg ∨ w.heap.size ≤ gg) := by
  have hob : ∀ k, v.ownBlock = some k → og = some k := by
    intro k hk
    rw [← hv] at hk
    cases og with
    | none => simp [slV, Value.ownBlock] at hk
    | some g => simpa [slV, Value.ownBlock] using hk
  have hqg : q ≠ gg := by
    rcases hat with h | h
    · intro e; apply hqv; rw [h, e]
    · omega
  have hk1 : Keeps (fun k => k = q ∨ og = some k) w w1 := (((Keeps.refl _ w).alloc A).alloc B).drew.grown hgrow (fun k hk => Or.inl (Or.inr (hob k hk)))
  have hb1 : Blk w1 q [aheadV, v] 125 := by
    unfold Blk
    rw [hgrow.block q (by simp; omega) hqv]
    exact (hb.alloc A).alloc B
  refine ⟨⟨hb1.setCell 1 _⟩, ?_, hk1.setCell (Or.inl (Or.inl rfl)) _, hqg, ?_⟩
  · have hfl : flat l ++ [.int .i64 x.t, .int .i64 x.k, .int .i64 x.d, .int .i64 x.n] = flat (l ++ [x]) := by rw [flat_append]; rfl
    rw [hfl] at hown1
    exact (irow_of_owns (by simp [hn]) hown1).keeps (M := fun k => k = q) ((Keeps.refl (fun k => k = q) _).setCell (Or.inl rfl) _) (fun h => hqg h.symm)
  · rcases hat with h | h
    · exact .inl (hob gg h)
    · exact .inr (by omega)

set_option maxRecDepth 100000 in
set_option maxHeartbeats 1000000 in
theorem put_any (q : Nat) (og : Option Nat) (l : List It) (x : It) (w : World) (h : QRep w q og l) (hl : l.length ≤ 900) :
    Calls Tryz.prog 58 #[.pointer (some ⟨q, 0, none⟩), x.val] w fun e w' => e = .returned (.tuple #[]) ∧ ∃ og', QRep w' q og' (riseL (l.length + 1) (l ++ [x]) l.length) ∧ Keeps (fun k => k = q ∨ og = some k) w w' ∧ (og' = og ∨ ∃ k, og' = some k ∧ w.heap.size ≤ k) := by
  obtain ⟨hlq, hlg⟩ := h.lt
  obtain ⟨cap, hb, hown⟩ := h.owns
  have hq1 : w.cell? ⟨q, 1, none⟩ = some (slV og l.length cap) := hb.cell rfl
  have hfz := hb.frozen 1
  obtain ⟨i0, hi0, hz0, hz1, hz2⟩ := info_parts info72
  generalize hn : l.length = n at *
  generalize hv : slV og n cap = v at *
  unfold It.val
  have HB : Hid (Blk w q [aheadV, v] 125) := hb
  have HV : Hid (slV og n cap = v) := hv
  have HN : Hid (l.length = n) := hn
  have hqv : some q ≠ v.ownBlock := by
    rw [← hv]
    cases og with
    | none => simp [slV, Value.ownBlock]
    | some g => simp [slV, Value.ownBlock]; exact (hlg g rfl).2
  have HF : Hid (∀ A B w1, ((w.alloc A).alloc B).drew.grownBy w1 v.ownBlock → w1.cell? ⟨q, 1, none⟩ = some v ∧ w1.frozen? ⟨q, 1, none⟩ = false) := fun A B w1 hg => by
    have hb1 : w1.heap[q]? = w.heap[q]? := by
      rw [hg.block q (by simp; omega) hqv]
      show ((w.alloc A).alloc B).heap[q]? = _
      rw [Below.heap_alloc _ _ _ (by simp; omega), Below.heap_alloc _ _ _ hlq]
    exact ⟨(World.cell?_of_block (a := ⟨q, 1, none⟩) hb1).trans hq1, (World.frozen?_of_block (a := ⟨q, 1, none⟩) hb1).trans hfz⟩
  have hnew : Hid (∀ A B, ((w.alloc A).alloc B).drew.heap[w.heap.size + 1]? = some B) := fun A B => by
    have := heap_alloc_new (w.alloc A) B
    rwa [World.size_alloc] at this
  have HLG : Hid (∀ g, og = some g → g < w.heap.size ∧ q ≠ g) := hlg
  clear hb h hv hn hlg
  go_enter Tryz.func58, Tryz.ntmps58
  go_wp2_with fail
  go_region_law
    ((refine step_append_lies _ (by rfl) _ _ _ (by rfl) 0 66 i0 _ 4 32 Tryz.underlying123 hi0 hz0 hz1 hz2 rfl (by omega) v n (flat l) (by rfl) (((hown.alloc _).alloc _).drew)
        ⟨w.heap.size + 1, 0, none⟩ 1 1 [.int .i64 x.t, .int .i64 x.k, .int .i64 x.d, .int .i64 x.n] (by rfl) (by rfl) (World.news_of_block (cs := #[.int .i64 x.t, .int .i64 x.k, .int .i64 x.d, .int .i64 x.n]) (t := 66) (fr := (0, 0)) (hnew.out _ _)) (by simp [Value.oneCell'])
        (by omega) (by unfold maxLen; omega) (by omega) (by omega) (w.heap.size + 2) (by simp) ?_; intro gg cap' w1 hown1 hgrow hat hlt; have hcq := (HF.out _ _ _ hgrow).1; have hfq := (HF.out _ _ _ hgrow).2))
  all_goals
    have HE := put_end HN.out HV.out hlq HLG.out HB.out hqv hown1 hgrow hat
    obtain ⟨hQ2, hI2, hK2, hqg, hog⟩ := HE
    have HQ2 := hide hQ2
    have HI2 := hide hI2
    have HK2 := hide hK2
    clear hQ2 hI2 hK2 hown1 hgrow hat hlt hcq hfq
    generalize w1.setCell ⟨q, 1, none⟩ (.slice (some ⟨gg, 0, none⟩) (n + 1) cap') = w2 at *
    have hq2 : w2.cell? ⟨q, 1, none⟩ = some (.slice (some ⟨gg, 0, none⟩) (n + 1) cap') := (unhide HQ2).b.cell rfl
    go_wp2_with fail
    refine (rise_any q gg n cap' (n + 1) w2 (l ++ [x]) (by simp [HN.out]) (by omega) (unhide HQ2) (unhide HI2) (by omega) hqg).mono ?_
    rintro e w3 ⟨rfl, hk3, hr3⟩
    go_wp2
    go_end0
    refine ⟨rfl, some gg, ⟨hqg, cap', ?_, hr3⟩, (unhide HK2).trans hk3 (fun i hi hlt => ?_), ?_⟩
    · have : (riseL (n + 1) (l ++ [x]) n).length = n + 1 := by rw [riseL_length]; simp [HN.out]
      rw [this]
      exact (unhide HQ2).b.keeps hk3 hqg
    · subst hi
      rcases hog with h | h
      · exact .inr h
      · omega
    · rcases hog with h | h
      · exact .inl h.symm
      · exact .inr ⟨gg, rfl, h⟩

end Go.Proofs.YtjhaihbjhikhlaaGreat

namespace Go.Proofs.YtjhaihbjhikhlaaGreat
open Go.RowKit

set_option maxHeartbeats 400000 in
theorem new_any (w : World) :
    Calls Tryz.prog 55 #[aheadV] w fun e w' => e = .returned (.pointer (some ⟨w.heap.size, 0, none⟩)) ∧ QRep w' w.heap.size none [] ∧ Keeps (fun _ => False) w w' ∧ w'.heap.size = w.heap.size + 1 := by
  unfold aheadV
  go_enter Tryz.func55, Tryz.ntmps55
  go_wp2
  go_ret
  exact ⟨rfl, ⟨rfl, Blk.new _ [_, _] _⟩, (Keeps.refl _ _).alloc _, by simp⟩

/-- 'Take' on lists: what is left. -/
def takeL (l : List It) : List It := sinkL l.length ((l.set 0 (itAt l (l.length - 1))).take (l.length - 1)) 0

theorem IRow.take {w : World} {g cap : Nat} {l : List It} (h : IRow w g cap l) (m : Nat) : IRow w g cap (l.take m) := by
  obtain ⟨cur, hb, hl, ht⟩ := h.ex
  have hf : ∀ (l : List It) (m : Nat), flat (l.take m) = (flat l).take (m * 4) := by
    intro l
    induction l with
    | nil => intro m; simp [flat]
    | cons x l ih =>
      intro m
      cases m with
      | zero => simp [flat]
      | succ m => rw [show (m + 1) * 4 = m * 4 + 4 by omega]; simp [flat, ih]
  refine ⟨⟨cur, hb, hl, ?_⟩, Nat.le_trans (List.length_take_le' _ _) h.le, h.max⟩
  rw [hf, ← ht, List.take_take]
  congr 1
  simp [List.length_take]

set_option maxRecDepth 100000 in
set_option maxHeartbeats 1000000 in
theorem take_any (q g : Nat) (l : List It) (w : World) (h : QRep w q (some g) l) (hl : l.length ≤ 900) (hl0 : 0 < l.length) :
    Calls Tryz.prog 60 #[.pointer (some ⟨q, 0, none⟩)] w fun e w' => (∃ v, e = .returned v) ∧ QRep w' q (some g) (takeL l) ∧ Keeps (fun k => k = q ∨ k = g) w w' := by
  obtain ⟨hlq, hlg⟩ := h.lt
  obtain ⟨hlg, hqg⟩ := hlg g rfl
  have H := hide h
  clear h
  have hemp : (!l.isEmpty) = true := by cases l with | nil => simp at hl0 | cons => rfl
  obtain ⟨n, hn⟩ : ∃ n, n = l.length := ⟨_, rfl⟩
  have hn0 : 0 < n := by omega
  have hn9 : n ≤ 900 := by omega
  have HN := hide hn
  clear hn hl hl0
  go_enter Tryz.func60, Tryz.ntmps60
  go_wp2_with fail
  refine (first_any q (some g) l _ ((unhide H).keeps ((Keeps.refl (fun _ => False) _).alloc _) (fun h => h) (fun _ _ h => h))).mono ?_
  rintro e w1 ⟨rfl, hk1⟩
  rw [hemp]
  unfold It.val
  have hB1 : Blk w1 w.heap.size [.int .i64 0, .int .i64 0, .int .i64 0, .int .i64 0] 66 := (Blk.new w _ 66).keeps hk1 (fun h => h)
  have hkk : Keeps (fun _ => False) w w1 := ((Keeps.refl (fun _ => False) w).alloc _).then hk1
  have hz1 : w.heap.size < w1.heap.size := hB1.lt
  obtain ⟨_, cap, hqb, hir⟩ := (unhide H).keeps hkk (fun h => h) (fun _ _ h => h)
  rw [← unhide HN] at hqb
  have hzq : q < w1.heap.size := hqb.lt
  have hzg : g < w1.heap.size := hir.lt
  have hqne : q ≠ w.heap.size := by omega
  have hgne : g ≠ w.heap.size := by omega
  have HB1 := hide hB1
  have HKK := hide hkk
  have HQB := hide hqb
  have HIR := hide hir
  clear hk1 hB1 hkk hqb hir
  generalize hx : itAt l 0 = x
  have HX := hide hx
  clear hx
  obtain ⟨m, hm⟩ : ∃ m, n = m + 1 := ⟨n - 1, by omega⟩
  subst hm
  have hq1 : w1.cell? ⟨q, 1, none⟩ = some (.slice (some ⟨g, 0, none⟩) (m + 1) cap) := (unhide HQB).cell rfl
  go_wp2_with fail
  have hk2 : Keeps (fun _ => False) w1 (w1.alloc (.cells #[.int .i64 x.t, .int .i64 x.k, .int .i64 x.d, .int .i64 x.n] 66)) := (Keeps.refl _ _).alloc _
  have hx2 : Blk (w1.alloc (.cells #[.int .i64 x.t, .int .i64 x.k, .int .i64 x.d, .int .i64 x.n] 66)) w1.heap.size [.int .i64 x.t, .int .i64 x.k, .int .i64 x.d, .int .i64 x.n] 66 := Blk.new _ _ _
  generalize w1.alloc (.cells #[.int .i64 x.t, .int .i64 x.k, .int .i64 x.d, .int .i64 x.n] 66) = W2 at *
  have HX2 := hide hx2
  have HR2 := hide ((unhide HB1).keeps hk2 (fun h => h))
  have HQ2 := hide ((unhide HQB).keeps hk2 (fun h => h))
  have HI2 := hide ((unhide HIR).keeps hk2 (fun h => h))
  have HK2 := hide (Keeps.then (unhide HKK) hk2)
  clear hk2 hx2 HB1 HQB HIR HKK hq1
  generalize hxb : w1.heap.size = xb at *
  generalize hrb : w.heap.size = rb at *
  have HRB := hide hrb
  clear hxb hrb
  have hq1 : W2.cell? ⟨q, 1, none⟩ = some (.slice (some ⟨g, 0, none⟩) (m + 1) cap) := (unhide HQ2).cell rfl
  have hqf : W2.frozen? ⟨q, 1, none⟩ = false := (unhide HQ2).frozen 1
  obtain ⟨x0, x1, x2, x3⟩ := (unhide HI2).cells 0 (by rw [← unhide HN]; omega)
  obtain ⟨y0, y1, y2, y3⟩ := (unhide HI2).cells m (by rw [← unhide HN]; omega)
  simp only [Nat.zero_mul, Nat.zero_add] at x0 x1 x2 x3
  have hgf := (unhide HI2).frozen
  generalize hy : itAt l m = y at *
  have HY := hide hy
  clear hy
  have hm0 : (0 : Int) ≤ (m : Int) := by omega
  have hm1 : (m : Int) < (m : Int) + 1 := by omega
  have hcap := (unhide HI2).le
  rw [← unhide HN] at hcap
  have hmc : (m : Int) ≤ (cap : Int) := by omega
  have HI3 := hide ((unhide HI2).put 0 y)
  have HQ3 := hide (((unhide HQ2).keeps ((Keeps.refl (fun k => k = g) W2).putIt (Or.inl rfl) 0 y) hqg).setCell 1 (.slice (some ⟨g, 0, none⟩) m cap))
  have HK3 := hide ((((Keeps.refl (fun k => k = q ∨ k = g) W2).putIt (Or.inl (Or.inr rfl)) 0 y).setCell (p := ⟨q, 1, none⟩) (Or.inl (Or.inl rfl)) (.slice (some ⟨g, 0, none⟩) m cap)).drew)
  have HI3' := hide (((unhide HI3).keeps (M := fun k => k = q) ((Keeps.refl (fun k => k = q) _).setCell (p := ⟨q, 1, none⟩) (Or.inl rfl) (.slice (some ⟨g, 0, none⟩) m cap)) (fun h => hqg h.symm)).drew)
  go_region
  go_wp2_with fail
  have e3 : (((((W2.setCell ⟨g, 0, none⟩ (.int .i64 y.t)).setCell ⟨g, 1, none⟩ (.int .i64 y.k)).setCell ⟨g, 2, none⟩ (.int .i64 y.d)).setCell ⟨g, 3, none⟩ (.int .i64 y.n)).setCell ⟨q, 1, none⟩ (.slice (some ⟨g, 0, none⟩) m cap)).drew = ((putIt W2 g 0 y).setCell ⟨q, 1, none⟩ (.slice (some ⟨g, 0, none⟩) m cap)).drew := by
    unfold putIt; rfl
  rw [e3]
  clear e3 hq1 hqf x0 x1 x2 x3 y0 y1 y2 y3 hgf
  have HQ4 : Hid (QB ((putIt W2 g 0 y).setCell ⟨q, 1, none⟩ (.slice (some ⟨g, 0, none⟩) m cap)).drew q (.slice (some ⟨g, 0, none⟩) m cap)) := ⟨unhide HQ3⟩
  have hlen : ((l.set 0 y).take m).length = m := by have := unhide HN; simp; omega
  have HL4 := hide hlen
  have HT := hide (show takeL l = sinkL (m + 1) ((l.set 0 y).take m) 0 by unfold takeL; rw [← unhide HN, ← unhide HY]; rfl)
  clear hlen HI3 HQ3
  generalize ((putIt W2 g 0 y).setCell ⟨q, 1, none⟩ (.slice (some ⟨g, 0, none⟩) m cap)).drew = W3 at *
  refine (sink_any q g 0 cap m W3 ((l.set 0 y).take m) (unhide HL4) (by omega) (by omega) (unhide HQ4) ((unhide HI3').take m) (by omega) hqg).mono ?_
  rintro e w4 ⟨rfl, hk4, hr4⟩
  have hrne : ¬ (rb = q ∨ rb = g) := by omega
  have hxne : ¬ (xb = q ∨ xb = g) := by omega
  have HX4 := hide (((unhide HX2).keeps (unhide HK3) hxne).keeps hk4 (fun h => hxne (Or.inr h)))
  have HR4 := hide (((unhide HR2).keeps (unhide HK3) hrne).keeps hk4 (fun h => hrne (Or.inr h)))
  have HE1 := hide ((unhide HQ4).b.keeps hk4 hqg)
  have HE2 := hide hr4
  have HE3 := hide ((((unhide HK2).mono (M' := fun k => k = q ∨ k = g) (fun _ _ h => h.elim)).then (unhide HK3)).trans hk4 (fun _ h _ => Or.inr h))
  clear hk4 hr4 HQ4 HI3' HK3 HK2 HX2 HR2 HI2 HQ2
  have a0 : w4.cell? ⟨xb, 0, none⟩ = some (.int .i64 x.t) := (unhide HX4).cell rfl
  have a1 : w4.cell? ⟨xb, 1, none⟩ = some (.int .i64 x.k) := (unhide HX4).cell rfl
  have a2 : w4.cell? ⟨xb, 2, none⟩ = some (.int .i64 x.d) := (unhide HX4).cell rfl
  have a3 : w4.cell? ⟨xb, 3, none⟩ = some (.int .i64 x.n) := (unhide HX4).cell rfl
  have b0 : w4.cell? ⟨rb, 0, none⟩ = some (.int .i64 0) := (unhide HR4).cell rfl
  have b1 : w4.cell? ⟨rb, 1, none⟩ = some (.int .i64 0) := (unhide HR4).cell rfl
  have b2 : w4.cell? ⟨rb, 2, none⟩ = some (.int .i64 0) := (unhide HR4).cell rfl
  have b3 : w4.cell? ⟨rb, 3, none⟩ = some (.int .i64 0) := (unhide HR4).cell rfl
  have bf := (unhide HR4).frozen
  have HFIN := hide (show Keeps (fun k => k = rb) w4 ((((w4.setCell ⟨rb, 0, none⟩ (.int .i64 x.t)).setCell ⟨rb, 1, none⟩ (.int .i64 x.k)).setCell ⟨rb, 2, none⟩ (.int .i64 x.d)).setCell ⟨rb, 3, none⟩ (.int .i64 x.n)) from
    ((((Keeps.refl (fun k => k = rb) w4).setCell (p := ⟨rb, 0, none⟩) (Or.inl rfl) _).setCell (p := ⟨rb, 1, none⟩) (Or.inl rfl) _).setCell (p := ⟨rb, 2, none⟩) (Or.inl rfl) _).setCell (p := ⟨rb, 3, none⟩) (Or.inl rfl) _)
  have HB5 := hide (((((unhide HR4).setCell 0 (.int .i64 x.t)).setCell 1 (.int .i64 x.k)).setCell 2 (.int .i64 x.d)).setCell 3 (.int .i64 x.n))
  go_wp2
  generalize ((((w4.setCell ⟨rb, 0, none⟩ (.int .i64 x.t)).setCell ⟨rb, 1, none⟩ (.int .i64 x.k)).setCell ⟨rb, 2, none⟩ (.int .i64 x.d)).setCell ⟨rb, 3, none⟩ (.int .i64 x.n)) = w5 at *
  have c0 : w5.cell? ⟨rb, 0, none⟩ = some (.int .i64 x.t) := (unhide HB5).cell rfl
  have c1 : w5.cell? ⟨rb, 1, none⟩ = some (.int .i64 x.k) := (unhide HB5).cell rfl
  have c2 : w5.cell? ⟨rb, 2, none⟩ = some (.int .i64 x.d) := (unhide HB5).cell rfl
  have c3 : w5.cell? ⟨rb, 3, none⟩ = some (.int .i64 x.n) := (unhide HB5).cell rfl
  refine bodyPost_ret (v := .tuple #[.agg #[.int .i64 x.t, .int .i64 x.k, .int .i64 x.d, .int .i64 x.n], .bool true]) (by simp [results, Tryz.results60, go_sem, c0, c1, c2, c3]) rfl ⟨⟨_, rfl⟩, ⟨hqg, cap, ?_, ?_⟩, ?_⟩
  · have hl : (takeL l).length = m := by rw [unhide HT, sinkL_length]; exact unhide HL4
    rw [hl]
    exact (unhide HE1).keeps (unhide HFIN) (fun h => hqne h)
  · rw [unhide HT]
    exact (unhide HE2).keeps (unhide HFIN) (fun h => hgne h)
  · exact (unhide HE3).trans (unhide HFIN) (fun i hi hlt => by have := unhide HRB; omega)

end Go.Proofs.YtjhaihbjhikhlaaGreat
