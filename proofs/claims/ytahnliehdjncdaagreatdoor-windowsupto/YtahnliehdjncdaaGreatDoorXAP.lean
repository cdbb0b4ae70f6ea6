import Derived.Test.YtahnliehdjncdaaGreatDoorXAO
set_option maxRecDepth 100000
set_option maxHeartbeats 16000000
namespace Go.Proofs.YtahnliehdjncdaaGreatDoor.Mk
open Go.RowKit
def timeV : Value := .func (.func 205) #[] #[]
def RowRep (w : World) (r : Nat) (og : Option Nat) (l : List Bk) : Prop :=
 match og with
 | none => l = [] ∧ Blk w r [timeV, .slice none 0 0] 272
 | some g => r ≠ g ∧ ∃ cap, Blk w r [timeV, .slice (some ⟨g, 0, none⟩) l.length cap] 272 ∧ BRow w g cap l
theorem RowRep.lt {w : World} {r : Nat} {og : Option Nat} {l : List Bk} (h : RowRep w r og l) : r < w.heap.size ∧ ∀ g, og = some g → g < w.heap.size ∧ r ≠ g := by
 cases og with
 | none => exact ⟨h.2.lt, fun _ h => by cases h⟩
 | some g => obtain ⟨hne, cap, hb, hr⟩ := h; exact ⟨hb.lt, fun g' h => by cases h; exact ⟨hr.lt, hne⟩⟩
theorem RowRep.keeps {M : Nat → Prop} {w w' : World} {r : Nat} {og : Option Nat} {l : List Bk} (h : RowRep w r og l) (k : Keeps M w w') (hq : ¬ M r) (hg : ∀ g, og = some g → ¬ M g) : RowRep w' r og l := by
 cases og with
 | none => exact ⟨h.1, h.2.keeps k hq⟩
 | some g => obtain ⟨hne, cap, hb, hr⟩ := h; exact ⟨hne, cap, hb.keeps k hq, hr.keeps k (hg g rfl)⟩
theorem RowRep.still {w w' : World} {r : Nat} {og : Option Nat} {l : List Bk} (h : RowRep w r og l) (k : Keeps (fun _ => False) w w') : RowRep w' r og l := h.keeps k (fun h => h) (fun _ _ h => h)
theorem rowLen_any (q : Nat) (og : Option Nat) (l : List Bk) (w : World) (h : RowRep w q og l) :
  Calls Tryz.prog 211 #[.pointer (some ⟨q, 0, none⟩)] w fun e w' => e = .returned (.int .i64 l.length) ∧ w' = w := by
 cases og with
 | none =>
  obtain ⟨hl, hb⟩ := h
  have hq1 : w.cell? ⟨q, 1, none⟩ = some (.slice none 0 0) := hb.cell rfl
  subst hl
  clear hb
  go_enter Tryz.func211, Tryz.ntmps211
  go_wp2
  go_ret
  exact ⟨rfl, rfl⟩
 | some g =>
  obtain ⟨hne, cap, hb, hr⟩ := h
  have hq1 : w.cell? ⟨q, 1, none⟩ = some (.slice (some ⟨g, 0, none⟩) l.length cap) := hb.cell rfl
  clear hb hr
  go_enter Tryz.func211, Tryz.ntmps211
  go_wp2
  go_ret
  exact ⟨rfl, rfl⟩
theorem rowAt_any (q : Nat) (og : Option Nat) (l : List Bk) (i : Nat) (w : World) (h : RowRep w q og l) (hi : i < l.length) :
  Calls Tryz.prog 212 #[.pointer (some ⟨q, 0, none⟩), .int .i64 i] w fun e w' => e = .returned (bkAt l i).val ∧ Keeps (fun _ => False) w w' := by
 cases og with
 | none => obtain ⟨hl, hb⟩ := h; subst hl; simp at hi
 | some g =>
  obtain ⟨hne, cap, hb, hr⟩ := h
  have hq1 : w.cell? ⟨q, 1, none⟩ = some (.slice (some ⟨g, 0, none⟩) l.length cap) := hb.cell rfl
  have hlq := hb.lt
  have hlg := hr.lt
  obtain ⟨x0, x1⟩ := hr.cells i hi
  generalize bkAt l i = x at *
  generalize l.length = n at *
  have hi0 : (0 : Int) ≤ (i : Int) := by omega
  have hin : (i : Int) < (n : Int) := by omega
  clear hb hr
  go_enter Tryz.func212, Tryz.ntmps212
  go_wp2
  refine bodyPost_ret (v := x.val) (by simp [results, Tryz.results212, go_sem, Bk.val]) rfl ⟨rfl, (Keeps.refl _ _).alloc _⟩
theorem time_bk (x : Bk) (w : World) :
  Calls Tryz.prog 205 #[x.val] w fun e w' => e = .returned (.int .i64 x.sz) ∧ w' = w.alloc (.cells #[.int .i64 x.sz, .int .i64 x.t] 222) := by
 unfold Bk.val
 go_enter Tryz.func205, Tryz.ntmps205
 go_wp2
 go_ret
 exact ⟨rfl, rfl⟩
def pastN (l : List Bk) (t : Int) : Nat := (l.takeWhile (fun b => decide (b.sz ≤ t))).length
theorem pastN_le (l : List Bk) (t : Int) : pastN l t ≤ l.length := (List.takeWhile_prefix _).length_le
theorem past_any (q : Nat) (og : Option Nat) (l : List Bk) (t : Int) (w : World) (h : RowRep w q og l) (hl : l.length ≤ 4398046511104) :
  Calls Tryz.prog 207 #[.pointer (some ⟨q, 0, none⟩), .int .i64 t] w fun e w' => e = .returned (.int .i64 (pastN l t)) ∧ Keeps (fun _ => False) w w' := by
 cases og with
 | none =>
  obtain ⟨hl, hb⟩ := h
  have hq1 : w.cell? ⟨q, 1, none⟩ = some (.slice none 0 0) := hb.cell rfl
  subst hl
  clear hb
  go_enter Tryz.func207, Tryz.ntmps207
  go_wp2
  go_loopw [5] (fun i wr => i = .int .i64 0 ∧ wr = w) (fun _ _ => 0)
  case atStart => exact ⟨rfl, rfl⟩
  case round =>
   obtain ⟨rfl, rfl⟩ := hrel
   go_wp2
   go_quiet (fail)
   go_wp2
   go_ret
   exact ⟨rfl, Keeps.drewN _ _ _⟩
 | some g =>
  obtain ⟨hne, cap, hb, hr⟩ := h
  have HB := hide hb
  have HR := hide hr
  clear hb hr
  generalize hn : l.length = n at *
  have HN := hide hn
  clear hn
  go_enter Tryz.func207, Tryz.ntmps207
  go_wp2
  go_loopw [5] (fun i wr => ∃ k : Nat, i = .int .i64 k ∧ k ≤ n ∧ Hid (Keeps (fun _ => False) w wr) ∧ Hid (pastN l t = k + pastN (l.drop k) t)) (fun i _ => n - (intOf i).toNat)
  case atStart => exact ⟨0, rfl, Nat.zero_le _, Keeps.refl _ _, by show _ = _; simp⟩
  case round =>
   obtain ⟨k, rfl, hk, HK, HE⟩ := hrel
   have hq1 : wr.cell? ⟨q, 1, none⟩ = some (.slice (some ⟨g, 0, none⟩) n cap) := (uh HK).cell ((uh HB).cell rfl) (fun h => h)
   have hq0 : wr.cell? ⟨q, 0, none⟩ = some (.func (.func 205) #[] #[]) := (uh HK).cell ((uh HB).cell rfl) (fun h => h)
   by_cases hlt : k < n
   ·have hcs := (uh HR).cells k (by rw [uh HN]; exact hlt)
    have x0 := (uh HK).cell hcs.1 (fun h => h)
    have x1 := (uh HK).cell hcs.2 (fun h => h)
    clear hcs
    have hk0 : (0 : Int) ≤ (k : Int) := by omega
    have hkn : (k : Int) < (n : Int) := by omega
    have HD := hide (bkAt_drop l k (by rw [uh HN]; exact hlt))
    generalize bkAt l k = x at *
    by_cases ht : x.sz ≤ t
    all_goals
     have HT := hide ht
     go_wp2
     go_region_held3 (fun w' => w'.cell? ⟨q, 0, none⟩ = some (.func (.func 205) #[] #[]) ∧ w'.cell? ⟨q, 1, none⟩ = some (.slice (some ⟨g, 0, none⟩) n cap) ∧
        w'.cell? ⟨g, k * 2, none⟩ = some (.int .i64 x.sz) ∧ w'.cell? ⟨g, k * 2 + 1, none⟩ = some (.int .i64 x.t)) (go_keep)
      (first | (go_at_call 205; refine (time_bk x _).mono ?_; rintro e w' ⟨rfl, rfl⟩))
     have hk1 : Keeps (fun _ => False) wr (wr.alloc (.cells #[.int .i64 x.sz, .int .i64 x.t] 222)).drew := ((Keeps.refl _ _).alloc _).drew
     generalize (wr.alloc (.cells #[.int .i64 x.sz, .int .i64 x.t] 222)).drew = W1 at *
     have HK1 := hide hk1
     clear hk1
    ·go_wp2
     go_roundw
     case rel =>
      refine ⟨k + 1, by go_num, by omega, (uh HK).then (uh HK1), ?_⟩
      show _ = _
      rw [uh HE, uh HD]
      unfold pastN
      rw [List.takeWhile_cons, if_pos (by simpa using uh HT)]
      simp; omega
     case measure => simp [intOf]; omega
    ·go_wp2
     go_ret
     refine ⟨?_, (uh HK).then (uh HK1)⟩
     rw [uh HE, uh HD]
     unfold pastN
     rw [List.takeWhile_cons, if_neg (by simpa using uh HT)]
     simp
   ·have hd : decide ((k : Int) < (n : Int)) = false := by simp; omega
    go_wp2
    go_quiet (fail)
    go_wp2
    go_ret
    refine ⟨?_, (uh HK).then (Keeps.drewN _ _ _)⟩
    rw [uh HE, List.drop_eq_nil_of_le (by rw [uh HN]; omega)]
    simp [pastN]
end Go.Proofs.YtahnliehdjncdaaGreatDoor.Mk
namespace Go.Proofs.YtahnliehdjncdaaGreatDoor.Mk
open Go.RowKit
theorem lose_any (q : Nat) (og : Option Nat) (l : List Bk) (k : Nat) (w : World) (h : RowRep w q og l) (hk : k ≤ l.length) :
  Calls Tryz.prog 206 #[.pointer (some ⟨q, 0, none⟩), .int .i64 k] w fun e w' => e = .returned (.tuple #[]) ∧ RowRep w' q og (l.drop k) ∧ Keeps (fun i => i = q ∨ og = some i) w w' := by
 cases og with
 | none =>
  obtain ⟨hl, hb⟩ := h
  subst hl
  have hk0 : k = 0 := by simpa using hk
  subst hk0
  have hq1 : w.cell? ⟨q, 1, none⟩ = some (.slice none 0 0) := hb.cell rfl
  have hf := hb.frozen
  have HB := hide hb
  clear hb hk
  go_enter Tryz.func206, Tryz.ntmps206
  go_wp2_with fail
  refine (deleteNil_any _).mono ?_
  rintro e w' ⟨rfl, rfl⟩
  go_wp2
  go_end0
  refine ⟨rfl, ⟨rfl, ?_⟩, (Keeps.refl (fun i => i = q ∨ none = some i) _).setCell (p := ⟨q, 1, none⟩) (Or.inl (Or.inl rfl)) _⟩
  exact (uh HB).setCell 1 _
 | some g =>
  obtain ⟨hne, cap, hb, hr⟩ := h
  have hq1 : w.cell? ⟨q, 1, none⟩ = some (.slice (some ⟨g, 0, none⟩) l.length cap) := hb.cell rfl
  have hlq := hb.lt
  have HB := hide hb
  have HR := hide hr
  clear hb hr
  have HC : Hid (Calls Tryz.prog 242 #[.slice (some ⟨g, 0, none⟩) l.length cap, .int .i64 0, .int .i64 k] w fun e w' => e = .returned (.slice (some ⟨g, 0, none⟩) (l.length - k) cap) ∧ BRow w' g cap (l.drop k) ∧ Keeps (fun i => i = g) w w') := by
   rcases Nat.eq_zero_or_pos k with h0 | h0
   ·subst h0
    refine (deleteZero_any g cap l.length w (uh HR).le).mono ?_
    rintro e w' ⟨rfl, rfl⟩
    exact ⟨rfl, uh HR, Keeps.refl _ _⟩
   ·exact delete_any g cap l.length k l w rfl (uh HR) h0 hk
  generalize hn : l.length = n at *
  have HN := hide hn
  clear hn
  go_enter Tryz.func206, Tryz.ntmps206
  go_wp2_with fail
  refine (uh HC).mono ?_
  rintro e w1 ⟨rfl, hr1, hk1⟩
  have HB1 := hide ((uh HB).keeps hk1 hne)
  have HR1 := hide hr1
  have HK1 := hide hk1
  clear hr1 hk1 HC HB HR hq1
  have hq1 : w1.cell? ⟨q, 1, none⟩ = some (.slice (some ⟨g, 0, none⟩) n cap) := (uh HB1).cell rfl
  have hf := (uh HB1).frozen
  go_wp2
  go_end0
  refine ⟨rfl, ⟨hne, cap, ?_, ?_⟩, ?_⟩
  ·rw [List.length_drop, uh HN]; exact (uh HB1).setCell 1 _
  ·exact (uh HR1).keeps (M := fun i => i = q) ((Keeps.refl (fun i => i = q) _).setCell (p := ⟨q, 1, none⟩) (Or.inl rfl) _) (fun h => hne h.symm)
  ·exact ((uh HK1).mono (M' := fun i => i = q ∨ some g = some i) (fun i _ h => .inr (by rw [h]))).setCell (p := ⟨q, 1, none⟩) (Or.inl (Or.inl rfl)) _
theorem RowRep.owns {w : World} {q : Nat} {og : Option Nat} {l : List Bk} (h : RowRep w q og l) :
  ∃ cap, Blk w q [timeV, slV og l.length cap] 272 ∧ w.ownsRow 0 222 2 (slV og l.length cap) l.length (flatB l) := by
 cases og with
 | none => obtain ⟨rfl, hb⟩ := h; exact ⟨0, hb, World.ownsRow_nil _ _ _ _⟩
 | some g =>
  obtain ⟨hne, cap, hb, hr⟩ := h
  exact ⟨cap, hb, hr.owns⟩
theorem rowPut_end {w w1 : World} {A B : Obj} {q gg n cap cap' : Nat} {og : Option Nat} {l : List Bk} {x : Bk} {v : Value} (hn : l.length = n) (hv : slV og n cap = v) (hlq : q < w.heap.size)
  (hb : Blk w q [timeV, v] 272) (hqv : some q ≠ v.ownBlock)
  (hown1 : w1.ownsRow 0 222 2 (.slice (some ⟨gg, 0, none⟩) (n + 1) cap') (n + 1) (flatB l ++ [.int .i64 x.sz, .int .i64 x.t]))
  (hgrow : ((w.alloc A).alloc B).drew.grownBy w1 v.ownBlock) (hat : v.ownBlock = some gg ∨ gg = w.heap.size + 2) :
  RowRep (w1.setCell ⟨q, 1, none⟩ (.slice (some ⟨gg, 0, none⟩) (n + 1) cap')) q (some gg) (l ++ [x]) ∧
  Keeps (fun k => k = q ∨ og = some k) w (w1.setCell ⟨q, 1, none⟩ (.slice (some ⟨gg, 0, none⟩) (n + 1) cap')) ∧ (og = some gg ∨ w.heap.size ≤ gg) := by
 have hob : ∀ k, v.ownBlock = some k → og = some k := by
  intro k hk
  rw [← hv] at hk
  cases og with
  | none => simp [slV, Value.ownBlock] at hk
  | some g => simpa [slV, Value.ownBlock] using hk
 have hqg : q ≠ gg := by
  rcases hat with h | h
  ·intro e; apply hqv; rw [h, e]
  ·omega
 have hk1 : Keeps (fun k => k = q ∨ og = some k) w w1 := (((Keeps.refl _ w).alloc A).alloc B).drew.grown hgrow (fun k hk => Or.inl (Or.inr (hob k hk)))
 have hb1 : Blk w1 q [timeV, v] 272 := by
  unfold Blk
  rw [hgrow.block q (by simp; omega) hqv]
  exact (hb.alloc A).alloc B
 refine ⟨⟨hqg, cap', ?_, ?_⟩, hk1.setCell (Or.inl (Or.inl rfl)) _, ?_⟩
 ·have : (l ++ [x]).length = n + 1 := by simp [hn]
  rw [this]
  exact hb1.setCell 1 _
 ·have hfl : flatB l ++ [.int .i64 x.sz, .int .i64 x.t] = flatB (l ++ [x]) := by rw [flatB_append]; rfl
  rw [hfl] at hown1
  exact (brow_of_owns (by simp [hn]) hown1).keeps (M := fun k => k = q) ((Keeps.refl (fun k => k = q) _).setCell (Or.inl rfl) _) (fun h => hqg h.symm)
 ·rcases hat with h | h
  ·exact .inl (hob gg h)
  ·exact .inr (by omega)
theorem rowPut_any (q : Nat) (og : Option Nat) (l : List Bk) (x : Bk) (w : World) (h : RowRep w q og l) (hl : l.length ≤ 4398046511104) :
  Calls Tryz.prog 213 #[.pointer (some ⟨q, 0, none⟩), x.val] w fun e w' => e = .returned (.tuple #[]) ∧ ∃ og', RowRep w' q og' (l ++ [x]) ∧ Keeps (fun k => k = q ∨ og = some k) w w' ∧ (og' = og ∨ ∃ k, og' = some k ∧ w.heap.size ≤ k) := by
 obtain ⟨hlq, hlg⟩ := h.lt
 obtain ⟨cap, hb, hown⟩ := h.owns
 have hq1 : w.cell? ⟨q, 1, none⟩ = some (slV og l.length cap) := hb.cell rfl
 have hfz := hb.frozen 1
 obtain ⟨i0, hi0, hz0, hz1, hz2⟩ := info_parts infoBk
 generalize hn : l.length = n at *
 generalize hv : slV og n cap = v at *
 unfold Bk.val
 have HB : Hid (Blk w q [timeV, v] 272) := hb
 have HV : Hid (slV og n cap = v) := hv
 have HN : Hid (l.length = n) := hn
 have hqv : some q ≠ v.ownBlock := by
  rw [← hv]
  cases og with
  | none => simp [slV, Value.ownBlock]
  | some g => simp [slV, Value.ownBlock]; exact (hlg g rfl).2
 have HF : Hid (∀ A B w1, ((w.alloc A).alloc B).drew.grownBy w1 v.ownBlock → w1.cell? ⟨q, 1, none⟩ = some v ∧ w1.frozen? ⟨q, 1, none⟩ = false) := fun A B w1 hg => by
  have hb1 : w1.heap[q]? = w.heap[q]? := by
   rw [hg.block q (by simp; omega) hqv]
   show ((w.alloc A).alloc B).heap[q]? = _
   rw [Below.heap_alloc _ _ _ (by simp; omega), Below.heap_alloc _ _ _ hlq]
  exact ⟨(World.cell?_of_block (a := ⟨q, 1, none⟩) hb1).trans hq1, (World.frozen?_of_block (a := ⟨q, 1, none⟩) hb1).trans hfz⟩
 have hnew : Hid (∀ A B, ((w.alloc A).alloc B).drew.heap[w.heap.size + 1]? = some B) := fun A B => by
  have := heap_alloc_new (w.alloc A) B
  rwa [World.size_alloc] at this
 clear hb h hv hn hlg
 go_enter Tryz.func213, Tryz.ntmps213
 go_wp2_with fail
 go_region_law
  ((refine step_append_lies _ (by rfl) _ _ _ (by rfl) 0 222 i0 _ 2 16 Tryz.underlying270 hi0 hz0 hz1 hz2 rfl (by omega) v n (flatB l) (by rfl) (((hown.alloc _).alloc _).drew)
        ⟨w.heap.size + 1, 0, none⟩ 1 1 [.int .i64 x.sz, .int .i64 x.t] (by rfl) (by rfl) (World.news_of_block (cs := #[.int .i64 x.sz, .int .i64 x.t]) (t := 222) (fr := (0, 0)) (hnew.out _ _)) (by simp [Value.oneCell'])
        (by omega) (by unfold maxLen; omega) (by omega) (by omega) (w.heap.size + 2) (by simp) ?_; intro gg cap' w1 hown1 hgrow hat hlt; have hcq := (HF.out _ _ _ hgrow).1; have hfq := (HF.out _ _ _ hgrow).2))
 all_goals
  have HE := rowPut_end HN.out HV.out hlq HB.out hqv hown1 hgrow hat
  obtain ⟨hQ2, hK2, hog⟩ := HE
  go_wp2
  go_end0
  refine ⟨rfl, some gg, hQ2, hK2, ?_⟩
  rcases hog with h | h
  ·exact .inl h.symm
  ·exact .inr ⟨gg, rfl, h⟩
theorem rowNew_any (w : World) :
  Calls Tryz.prog 204 #[timeV] w fun e w' => e = .returned (.pointer (some ⟨w.heap.size, 0, none⟩)) ∧ RowRep w' w.heap.size none [] ∧ Keeps (fun _ => False) w w' ∧ w'.heap.size = w.heap.size + 1 := by
 unfold timeV
 go_enter Tryz.func204, Tryz.ntmps204
 go_wp2
 go_ret
 exact ⟨rfl, ⟨rfl, Blk.new w [timeV, .slice none 0 0] 272⟩, (Keeps.refl _ _).alloc _, by simp⟩
end Go.Proofs.YtahnliehdjncdaaGreatDoor.Mk
