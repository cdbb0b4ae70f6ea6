import Derived.Test.YtahnliehdjncdaaGreatDoorXAG
set_option maxRecDepth 100000
set_option maxHeartbeats 16000000
namespace Go.Proofs.YtahnliehdjncdaaGreatDoor
open Go.RowKit
theorem info72 : (Tryz.prog.info? 87).map (fun i => (i.zero, i.size, i.bytes)) = some (some (.agg #[.int .i64 0, .int .i64 0, .int .i64 0, .int .i64 0]), 4, 32) := by kernel_rfl
theorem riseL_length (f : Nat) (l : List It) (i : Nat) : (riseL f l i).length = l.length := by
 induction f generalizing l i with
 | zero => rfl
 | succ f ih =>
  unfold riseL
  split
  ·rfl
  ·split
   ·rw [ih, swapL_length]
   ·rfl
theorem sinkL_length (f : Nat) (l : List It) (i : Nat) : (sinkL f l i).length = l.length := by
 induction f generalizing l i with
 | zero => rfl
 | succ f ih =>
  unfold sinkL
  split
  ·rfl
  ·split
   ·rw [ih, swapL_length]
   ·rfl
def slV (og : Option Nat) (n cap : Nat) : Value := match og with | none => .slice none 0 0 | some g => .slice (some ⟨g, 0, none⟩) n cap
theorem QRep.owns {w : World} {q : Nat} {og : Option Nat} {l : List It} (h : QRep w q og l) :
  ∃ cap, Blk w q [aheadV, slV og l.length cap] 163 ∧ w.ownsRow 0 87 4 (slV og l.length cap) l.length (flat l) := by
 cases og with
 | none => obtain ⟨rfl, hb⟩ := h; exact ⟨0, hb, World.ownsRow_nil _ _ _ _⟩
 | some g =>
  obtain ⟨hne, cap, hb, hr⟩ := h
  obtain ⟨cur, hc, hl, ht⟩ := hr.ex
  exact ⟨cap, hb, flat_length l, .inr ⟨g, cap, cur.toArray, rfl, Nat.zero_le _, hc, hr.le, hr.max, by simp [hl], by simpa using ht⟩⟩
theorem irow_of_owns {w : World} {g n cap : Nat} {l : List It} (hn : l.length = n) (h : w.ownsRow 0 87 4 (.slice (some ⟨g, 0, none⟩) n cap) n (flat l)) : IRow w g cap l := by
 rcases h.2 with ⟨h1, _⟩ | ⟨g', cap', cur, h1, _, h3, h4, h5, h6, h7⟩
 ·cases h1
 ·cases h1
  subst hn
  exact ⟨⟨cur.toList, by unfold Blk; simpa using h3, by simpa using h6, h7⟩, h4, h5⟩
theorem put_end {w w1 : World} {A B : Obj} {q gg n cap cap' : Nat} {og : Option Nat} {l : List It} {x : It} {v : Value} (hn : l.length = n) (hv : slV og n cap = v) (hlq : q < w.heap.size)
  (hlg : ∀ g, og = some g → g < w.heap.size ∧ q ≠ g) (hb : Blk w q [aheadV, v] 163) (hqv : some q ≠ v.ownBlock)
  (hown1 : w1.ownsRow 0 87 4 (.slice (some ⟨gg, 0, none⟩) (n + 1) cap') (n + 1) (flat l ++ [.int .i64 x.t, .int .i64 x.k, .int .i64 x.d, .int .i64 x.n]))
  (hgrow : ((w.alloc A).alloc B).drew.grownBy w1 v.ownBlock) (hat : v.ownBlock = some gg ∨ gg = w.heap.size + 2) :
  QB (w1.setCell ⟨q, 1, none⟩ (.slice (some ⟨gg, 0, none⟩) (n + 1) cap')) q (.slice (some ⟨gg, 0, none⟩) (n + 1) cap') ∧
  IRow (w1.setCell ⟨q, 1, none⟩ (.slice (some ⟨gg, 0, none⟩) (n + 1) cap')) gg cap' (l ++ [x]) ∧
  Keeps (fun k => k = q ∨ og = some k) w (w1.setCell ⟨q, 1, none⟩ (.slice (some ⟨gg, 0, none⟩) (n + 1) cap')) ∧ q ≠ gg ∧ (og = some gg ∨ w.heap.size ≤ gg) := by
 have hob : ∀ k, v.ownBlock = some k → og = some k := by
  intro k hk
  rw [← hv] at hk
  cases og with
  | none => simp [slV, Value.ownBlock] at hk
  | some g => simpa [slV, Value.ownBlock] using hk
 have hqg : q ≠ gg := by
  rcases hat with h | h
  ·intro e; apply hqv; rw [h, e]
  ·omega
 have hk1 : Keeps (fun k => k = q ∨ og = some k) w w1 := (((Keeps.refl _ w).alloc A).alloc B).drew.grown hgrow (fun k hk => Or.inl (Or.inr (hob k hk)))
 have hb1 : Blk w1 q [aheadV, v] 163 := by
  unfold Blk
  rw [hgrow.block q (by simp; omega) hqv]
  exact (hb.alloc A).alloc B
 refine ⟨⟨hb1.setCell 1 _⟩, ?_, hk1.setCell (Or.inl (Or.inl rfl)) _, hqg, ?_⟩
 ·have hfl : flat l ++ [.int .i64 x.t, .int .i64 x.k, .int .i64 x.d, .int .i64 x.n] = flat (l ++ [x]) := by rw [flat_append]; rfl
  rw [hfl] at hown1
  exact (irow_of_owns (by simp [hn]) hown1).keeps (M := fun k => k = q) ((Keeps.refl (fun k => k = q) _).setCell (Or.inl rfl) _) (fun h => hqg h.symm)
 ·rcases hat with h | h
  ·exact .inl (hob gg h)
  ·exact .inr (by omega)
theorem put_any (q : Nat) (og : Option Nat) (l : List It) (x : It) (w : World) (h : QRep w q og l) (hl : l.length ≤ 900) :
  Calls Tryz.prog 92 #[.pointer (some ⟨q, 0, none⟩), x.val] w fun e w' => e = .returned (.tuple #[]) ∧ ∃ og', QRep w' q og' (riseL (l.length + 1) (l ++ [x]) l.length) ∧ Keeps (fun k => k = q ∨ og = some k) w w' ∧ (og' = og ∨ ∃ k, og' = some k ∧ w.heap.size ≤ k) := by
 obtain ⟨hlq, hlg⟩ := h.lt
 obtain ⟨cap, hb, hown⟩ := h.owns
 have hq1 : w.cell? ⟨q, 1, none⟩ = some (slV og l.length cap) := hb.cell rfl
 have hfz := hb.frozen 1
 obtain ⟨i0, hi0, hz0, hz1, hz2⟩ := info_parts info72
 generalize hn : l.length = n at *
 generalize hv : slV og n cap = v at *
 unfold It.val
 have HB : Hid (Blk w q [aheadV, v] 163) := hb
 have HV : Hid (slV og n cap = v) := hv
 have HN : Hid (l.length = n) := hn
 have hqv : some q ≠ v.ownBlock := by
  rw [← hv]
  cases og with
  | none => simp [slV, Value.ownBlock]
  | some g => simp [slV, Value.ownBlock]; exact (hlg g rfl).2
 have HF : Hid (∀ A B w1, ((w.alloc A).alloc B).drew.grownBy w1 v.ownBlock → w1.cell? ⟨q, 1, none⟩ = some v ∧ w1.frozen? ⟨q, 1, none⟩ = false) := fun A B w1 hg => by
  have hb1 : w1.heap[q]? = w.heap[q]? := by
   rw [hg.block q (by simp; omega) hqv]
   show ((w.alloc A).alloc B).heap[q]? = _
   rw [Below.heap_alloc _ _ _ (by simp; omega), Below.heap_alloc _ _ _ hlq]
  exact ⟨(World.cell?_of_block (a := ⟨q, 1, none⟩) hb1).trans hq1, (World.frozen?_of_block (a := ⟨q, 1, none⟩) hb1).trans hfz⟩
 have hnew : Hid (∀ A B, ((w.alloc A).alloc B).drew.heap[w.heap.size + 1]? = some B) := fun A B => by
  have := heap_alloc_new (w.alloc A) B
  rwa [World.size_alloc] at this
 have HLG : Hid (∀ g, og = some g → g < w.heap.size ∧ q ≠ g) := hlg
 clear hb h hv hn hlg
 go_enter Tryz.func92, Tryz.ntmps92
 go_wp2_with fail
 go_region_law
  ((refine step_append_lies _ (by rfl) _ _ _ (by rfl) 0 87 i0 _ 4 32 Tryz.underlying139 hi0 hz0 hz1 hz2 rfl (by omega) v n (flat l) (by rfl) (((hown.alloc _).alloc _).drew)
        ⟨w.heap.size + 1, 0, none⟩ 1 1 [.int .i64 x.t, .int .i64 x.k, .int .i64 x.d, .int .i64 x.n] (by rfl) (by rfl) (World.news_of_block (cs := #[.int .i64 x.t, .int .i64 x.k, .int .i64 x.d, .int .i64 x.n]) (t := 87) (fr := (0, 0)) (hnew.out _ _)) (by simp [Value.oneCell'])
        (by omega) (by unfold maxLen; omega) (by omega) (by omega) (w.heap.size + 2) (by simp) ?_; intro gg cap' w1 hown1 hgrow hat hlt; have hcq := (HF.out _ _ _ hgrow).1; have hfq := (HF.out _ _ _ hgrow).2))
 all_goals
  have HE := put_end HN.out HV.out hlq HLG.out HB.out hqv hown1 hgrow hat
  obtain ⟨hQ2, hI2, hK2, hqg, hog⟩ := HE
  have HQ2 := hide hQ2
  have HI2 := hide hI2
  have HK2 := hide hK2
  clear hQ2 hI2 hK2 hown1 hgrow hat hlt hcq hfq
  generalize w1.setCell ⟨q, 1, none⟩ (.slice (some ⟨gg, 0, none⟩) (n + 1) cap') = w2 at *
  have hq2 : w2.cell? ⟨q, 1, none⟩ = some (.slice (some ⟨gg, 0, none⟩) (n + 1) cap') := (uh HQ2).b.cell rfl
  go_wp2_with fail
  refine (rise_any q gg n cap' (n + 1) w2 (l ++ [x]) (by simp [HN.out]) (by omega) (uh HQ2) (uh HI2) (by omega) hqg).mono ?_
  rintro e w3 ⟨rfl, hk3, hr3⟩
  go_wp2
  go_end0
  refine ⟨rfl, some gg, ⟨hqg, cap', ?_, hr3⟩, (uh HK2).trans hk3 (fun i hi hlt => ?_), ?_⟩
  ·have : (riseL (n + 1) (l ++ [x]) n).length = n + 1 := by rw [riseL_length]; simp [HN.out]
   rw [this]
   exact (uh HQ2).b.keeps hk3 hqg
  ·subst hi
   rcases hog with h | h
   ·exact .inr h
   ·omega
  ·rcases hog with h | h
   ·exact .inl h.symm
   ·exact .inr ⟨gg, rfl, h⟩
end Go.Proofs.YtahnliehdjncdaaGreatDoor
