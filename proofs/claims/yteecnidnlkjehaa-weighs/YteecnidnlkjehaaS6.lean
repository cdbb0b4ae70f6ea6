import Derived.Test.YteecnidnlkjehaaS5
namespace Go.Proofs.Yteecnidnlkjehaa
open Go.RowKit
attribute [local go_sem ↓] execOp_load38 execOp_load40
attribute [local go_sem] run_load38 run_load40 bigVal_drew hasBig_drew bigVal_ne hasBig_ne bigVal_alloc hasBig_alloc bigVal_new hasBig_newB

def refAt (l : List Int) (j : Nat) : Int := l.getD j 0
theorem ser_ref (b : SB) (x : Ser) (hl : x.ref.length = 12) (j : Nat) (hj : j < 12) : (serCells b x)[29 + j]? = some (.int .i64 (refAt x.ref j)) := by
  have h1 : (serCells b x)[29 + j]? = (x.ref.map (fun v => Value.int .i64 v))[j]? := by
    rw [Nat.add_comm]; rfl
  rw [h1, List.getElem?_map]
  have hj' : j < x.ref.length := by omega
  simp [refAt, hj']
def ints (l : List Int) : List Value := l.map (fun v => Value.int .i64 v)
def toldL : List Nat := [5, 6, 7, 8, 10, 9, 11]
def statsL (x : Ser) : List Int := x.acc :: x.rel :: toldL.map (refAt x.ref)

theorem info3 : (Try.prog.info? 3).map (fun i => (i.zero, i.size, i.bytes)) = some (some (.int .i64 0), 1, 8) := by kernel_rfl

theorem ix0 (w : World) : (Instr.index 110 (.agg #[.int .i64 5, .int .i64 6, .int .i64 7, .int .i64 8, .int .i64 10, .int .i64 9, .int .i64 11]) (.int .i64 0)).run Try.prog w = .ok (.int .i64 5) w := by kernel_rfl
theorem ix1 (w : World) : (Instr.index 110 (.agg #[.int .i64 5, .int .i64 6, .int .i64 7, .int .i64 8, .int .i64 10, .int .i64 9, .int .i64 11]) (.int .i64 1)).run Try.prog w = .ok (.int .i64 6) w := by kernel_rfl
theorem ix2 (w : World) : (Instr.index 110 (.agg #[.int .i64 5, .int .i64 6, .int .i64 7, .int .i64 8, .int .i64 10, .int .i64 9, .int .i64 11]) (.int .i64 2)).run Try.prog w = .ok (.int .i64 7) w := by kernel_rfl
theorem ix3 (w : World) : (Instr.index 110 (.agg #[.int .i64 5, .int .i64 6, .int .i64 7, .int .i64 8, .int .i64 10, .int .i64 9, .int .i64 11]) (.int .i64 3)).run Try.prog w = .ok (.int .i64 8) w := by kernel_rfl
theorem ix4 (w : World) : (Instr.index 110 (.agg #[.int .i64 5, .int .i64 6, .int .i64 7, .int .i64 8, .int .i64 10, .int .i64 9, .int .i64 11]) (.int .i64 4)).run Try.prog w = .ok (.int .i64 10) w := by kernel_rfl
theorem ix5 (w : World) : (Instr.index 110 (.agg #[.int .i64 5, .int .i64 6, .int .i64 7, .int .i64 8, .int .i64 10, .int .i64 9, .int .i64 11]) (.int .i64 5)).run Try.prog w = .ok (.int .i64 9) w := by kernel_rfl
theorem ix6 (w : World) : (Instr.index 110 (.agg #[.int .i64 5, .int .i64 6, .int .i64 7, .int .i64 8, .int .i64 10, .int .i64 9, .int .i64 11]) (.int .i64 6)).run Try.prog w = .ok (.int .i64 11) w := by kernel_rfl
attribute [local go_sem] ix0 ix1 ix2 ix3 ix4 ix5 ix6

set_option maxRecDepth 100000 in
set_option maxHeartbeats 4000000 in
theorem serStats_any (n : Int) (b : SB) (x : Ser) (w : World) (hs : SRep w b x) (hi : SInv n x) :
    Calls Try.prog 47 #[.pointer (some ⟨b.s, 0, none⟩)] w fun e w' => ∃ v, e = .returned v ∧ w'.ownsRow w.heap.size 3 1 v 9 (ints (statsL x)) ∧ Keeps (fun _ => False) w w' := by
  have HB := hide hs.blk
  have HI := hide hi
  have hlt := hs.blk.lt
  have hc27 : w.cell? ⟨b.s, 27, none⟩ = some (.int .i64 x.acc) := hs.blk.cell rfl
  have hc28 : w.cell? ⟨b.s, 28, none⟩ = some (.int .i64 x.rel) := hs.blk.cell rfl
  clear hs hi
  obtain ⟨i0, hi0, hz0, hz1, hz2⟩ := info_parts info3
  go_enter Try.func47, Try.ntmps47
  go_wp2_with fail
  go_region
  go_wp2_with fail
  have hk1 : Keeps (fun _ => False) w ((w.alloc (.cells #[.int .i64 5, .int .i64 6, .int .i64 7, .int .i64 8, .int .i64 10, .int .i64 9, .int .i64 11] 110)).alloc (.cells #[.int .i64 x.acc, .int .i64 x.rel] 3)).drew := (((Keeps.refl _ w).alloc _).alloc _).drew
  have hO1 : ((w.alloc (.cells #[.int .i64 5, .int .i64 6, .int .i64 7, .int .i64 8, .int .i64 10, .int .i64 9, .int .i64 11] 110)).alloc (.cells #[.int .i64 x.acc, .int .i64 x.rel] 3)).drew.ownsRow w.heap.size 3 1 (.slice (some ⟨w.heap.size + 1, 0, none⟩) 2 2) 2 (ints ((statsL x).take 2)) :=
    ⟨rfl, .inr ⟨w.heap.size + 1, 2, #[.int .i64 x.acc, .int .i64 x.rel], rfl, by omega, by
      have := heap_alloc_new (w.alloc (.cells #[.int .i64 5, .int .i64 6, .int .i64 7, .int .i64 8, .int .i64 10, .int .i64 9, .int .i64 11] 110)) (.cells #[.int .i64 x.acc, .int .i64 x.rel] 3)
      rwa [World.size_alloc] at this, by omega, by unfold maxLen; omega, rfl, rfl⟩⟩
  go_loopw [4, 18] (fun v i wr => ∃ k : Nat, k ≤ 7 ∧ i = .int .i64 k ∧ Hid (wr.ownsRow w.heap.size 3 1 v (2 + k) (ints ((statsL x).take (2 + k)))) ∧ Hid (Keeps (fun _ => False) w wr)) (fun _ i _ => 7 - (intOf i).toNat)
  case atStart => exact ⟨0, by omega, rfl, hO1, hk1⟩
  case round =>
    obtain ⟨k, hk, rfl, HO, HK⟩ := hrel
    clear hk1 hO1 hc27 hc28
    have HBr := hide ((unhide HB).keeps (unhide HK) (fun h => h))
    have hltr := (unhide HBr).lt
    generalize u4 = v at *
    by_cases hlt7 : k < 7
    · have hk7 : k = 0 ∨ k = 1 ∨ k = 2 ∨ k = 3 ∨ k = 4 ∨ k = 5 ∨ k = 6 := by omega
      rcases hk7 with hk7 | hk7 | hk7 | hk7 | hk7 | hk7 | hk7
      all_goals subst hk7
      · have hc : wr.cell? ⟨b.s, 34, none⟩ = some (.int .i64 (refAt x.ref 5)) := (unhide HBr).cell (ser_ref b x (unhide HI).reflen 5 (by omega))
        have HNEW := hide (show ints ((statsL x).take (2 + 0)) ++ [.int .i64 (refAt x.ref 5)] = ints ((statsL x).take (2 + 1)) from rfl)
        go_wp2_with (at_builtin; refine wpList_append_lies _ rfl _ _ _ rfl w.heap.size 3 i0 _ 1 8 Try.underlying31 hi0 hz0 hz1 hz2 rfl (by omega) v (2 + 0) (ints ((statsL x).take (2 + 0))) rfl ((unhide HO).alloc _) ⟨wr.heap.size, 0, none⟩ 1 1 [.int .i64 (refAt x.ref 5)] rfl rfl (World.news_of_block (cs := #[.int .i64 (refAt x.ref 5)]) (t := 3) (fr := (0, 0)) (heap_alloc_new wr _)) (by simp [Value.oneCell']) (by omega) (by unfold maxLen; omega) (by omega) (by have := (unhide HK).size; simp; omega) (wr.heap.size + 1) (by simp) ?_; intro gg cap' w1 hown1 hgrow hat hl)
        rw [unhide HNEW] at hown1
        go_roundw
        case rel =>
          refine ⟨1, by omega, rfl, hown1, ((unhide HK).alloc _).grown hgrow (fun j hj => Or.inr ((unhide HO).lt j hj).1)⟩
        case measure => simp [intOf]
      · have hc : wr.cell? ⟨b.s, 35, none⟩ = some (.int .i64 (refAt x.ref 6)) := (unhide HBr).cell (ser_ref b x (unhide HI).reflen 6 (by omega))
        have HNEW := hide (show ints ((statsL x).take (2 + 1)) ++ [.int .i64 (refAt x.ref 6)] = ints ((statsL x).take (2 + 2)) from rfl)
        go_wp2_with (at_builtin; refine wpList_append_lies _ rfl _ _ _ rfl w.heap.size 3 i0 _ 1 8 Try.underlying31 hi0 hz0 hz1 hz2 rfl (by omega) v (2 + 1) (ints ((statsL x).take (2 + 1))) rfl ((unhide HO).alloc _) ⟨wr.heap.size, 0, none⟩ 1 1 [.int .i64 (refAt x.ref 6)] rfl rfl (World.news_of_block (cs := #[.int .i64 (refAt x.ref 6)]) (t := 3) (fr := (0, 0)) (heap_alloc_new wr _)) (by simp [Value.oneCell']) (by omega) (by unfold maxLen; omega) (by omega) (by have := (unhide HK).size; simp; omega) (wr.heap.size + 1) (by simp) ?_; intro gg cap' w1 hown1 hgrow hat hl)
        rw [unhide HNEW] at hown1
        go_roundw
        case rel =>
          refine ⟨2, by omega, rfl, hown1, ((unhide HK).alloc _).grown hgrow (fun j hj => Or.inr ((unhide HO).lt j hj).1)⟩
        case measure => simp [intOf]
      · have hc : wr.cell? ⟨b.s, 36, none⟩ = some (.int .i64 (refAt x.ref 7)) := (unhide HBr).cell (ser_ref b x (unhide HI).reflen 7 (by omega))
        have HNEW := hide (show ints ((statsL x).take (2 + 2)) ++ [.int .i64 (refAt x.ref 7)] = ints ((statsL x).take (2 + 3)) from rfl)
        go_wp2_with (at_builtin; refine wpList_append_lies _ rfl _ _ _ rfl w.heap.size 3 i0 _ 1 8 Try.underlying31 hi0 hz0 hz1 hz2 rfl (by omega) v (2 + 2) (ints ((statsL x).take (2 + 2))) rfl ((unhide HO).alloc _) ⟨wr.heap.size, 0, none⟩ 1 1 [.int .i64 (refAt x.ref 7)] rfl rfl (World.news_of_block (cs := #[.int .i64 (refAt x.ref 7)]) (t := 3) (fr := (0, 0)) (heap_alloc_new wr _)) (by simp [Value.oneCell']) (by omega) (by unfold maxLen; omega) (by omega) (by have := (unhide HK).size; simp; omega) (wr.heap.size + 1) (by simp) ?_; intro gg cap' w1 hown1 hgrow hat hl)
        rw [unhide HNEW] at hown1
        go_roundw
        case rel =>
          refine ⟨3, by omega, rfl, hown1, ((unhide HK).alloc _).grown hgrow (fun j hj => Or.inr ((unhide HO).lt j hj).1)⟩
        case measure => simp [intOf]
      · have hc : wr.cell? ⟨b.s, 37, none⟩ = some (.int .i64 (refAt x.ref 8)) := (unhide HBr).cell (ser_ref b x (unhide HI).reflen 8 (by omega))
        have HNEW := hide (show ints ((statsL x).take (2 + 3)) ++ [.int .i64 (refAt x.ref 8)] = ints ((statsL x).take (2 + 4)) from rfl)
        go_wp2_with (at_builtin; refine wpList_append_lies _ rfl _ _ _ rfl w.heap.size 3 i0 _ 1 8 Try.underlying31 hi0 hz0 hz1 hz2 rfl (by omega) v (2 + 3) (ints ((statsL x).take (2 + 3))) rfl ((unhide HO).alloc _) ⟨wr.heap.size, 0, none⟩ 1 1 [.int .i64 (refAt x.ref 8)] rfl rfl (World.news_of_block (cs := #[.int .i64 (refAt x.ref 8)]) (t := 3) (fr := (0, 0)) (heap_alloc_new wr _)) (by simp [Value.oneCell']) (by omega) (by unfold maxLen; omega) (by omega) (by have := (unhide HK).size; simp; omega) (wr.heap.size + 1) (by simp) ?_; intro gg cap' w1 hown1 hgrow hat hl)
        rw [unhide HNEW] at hown1
        go_roundw
        case rel =>
          refine ⟨4, by omega, rfl, hown1, ((unhide HK).alloc _).grown hgrow (fun j hj => Or.inr ((unhide HO).lt j hj).1)⟩
        case measure => simp [intOf]
      · have hc : wr.cell? ⟨b.s, 39, none⟩ = some (.int .i64 (refAt x.ref 10)) := (unhide HBr).cell (ser_ref b x (unhide HI).reflen 10 (by omega))
        have HNEW := hide (show ints ((statsL x).take (2 + 4)) ++ [.int .i64 (refAt x.ref 10)] = ints ((statsL x).take (2 + 5)) from rfl)
        go_wp2_with (at_builtin; refine wpList_append_lies _ rfl _ _ _ rfl w.heap.size 3 i0 _ 1 8 Try.underlying31 hi0 hz0 hz1 hz2 rfl (by omega) v (2 + 4) (ints ((statsL x).take (2 + 4))) rfl ((unhide HO).alloc _) ⟨wr.heap.size, 0, none⟩ 1 1 [.int .i64 (refAt x.ref 10)] rfl rfl (World.news_of_block (cs := #[.int .i64 (refAt x.ref 10)]) (t := 3) (fr := (0, 0)) (heap_alloc_new wr _)) (by simp [Value.oneCell']) (by omega) (by unfold maxLen; omega) (by omega) (by have := (unhide HK).size; simp; omega) (wr.heap.size + 1) (by simp) ?_; intro gg cap' w1 hown1 hgrow hat hl)
        rw [unhide HNEW] at hown1
        go_roundw
        case rel =>
          refine ⟨5, by omega, rfl, hown1, ((unhide HK).alloc _).grown hgrow (fun j hj => Or.inr ((unhide HO).lt j hj).1)⟩
        case measure => simp [intOf]
      · have hc : wr.cell? ⟨b.s, 38, none⟩ = some (.int .i64 (refAt x.ref 9)) := (unhide HBr).cell (ser_ref b x (unhide HI).reflen 9 (by omega))
        have HNEW := hide (show ints ((statsL x).take (2 + 5)) ++ [.int .i64 (refAt x.ref 9)] = ints ((statsL x).take (2 + 6)) from rfl)
        go_wp2_with (at_builtin; refine wpList_append_lies _ rfl _ _ _ rfl w.heap.size 3 i0 _ 1 8 Try.underlying31 hi0 hz0 hz1 hz2 rfl (by omega) v (2 + 5) (ints ((statsL x).take (2 + 5))) rfl ((unhide HO).alloc _) ⟨wr.heap.size, 0, none⟩ 1 1 [.int .i64 (refAt x.ref 9)] rfl rfl (World.news_of_block (cs := #[.int .i64 (refAt x.ref 9)]) (t := 3) (fr := (0, 0)) (heap_alloc_new wr _)) (by simp [Value.oneCell']) (by omega) (by unfold maxLen; omega) (by omega) (by have := (unhide HK).size; simp; omega) (wr.heap.size + 1) (by simp) ?_; intro gg cap' w1 hown1 hgrow hat hl)
        rw [unhide HNEW] at hown1
        go_roundw
        case rel =>
          refine ⟨6, by omega, rfl, hown1, ((unhide HK).alloc _).grown hgrow (fun j hj => Or.inr ((unhide HO).lt j hj).1)⟩
        case measure => simp [intOf]
      · have hc : wr.cell? ⟨b.s, 40, none⟩ = some (.int .i64 (refAt x.ref 11)) := (unhide HBr).cell (ser_ref b x (unhide HI).reflen 11 (by omega))
        have HNEW := hide (show ints ((statsL x).take (2 + 6)) ++ [.int .i64 (refAt x.ref 11)] = ints ((statsL x).take (2 + 7)) from rfl)
        go_wp2_with (at_builtin; refine wpList_append_lies _ rfl _ _ _ rfl w.heap.size 3 i0 _ 1 8 Try.underlying31 hi0 hz0 hz1 hz2 rfl (by omega) v (2 + 6) (ints ((statsL x).take (2 + 6))) rfl ((unhide HO).alloc _) ⟨wr.heap.size, 0, none⟩ 1 1 [.int .i64 (refAt x.ref 11)] rfl rfl (World.news_of_block (cs := #[.int .i64 (refAt x.ref 11)]) (t := 3) (fr := (0, 0)) (heap_alloc_new wr _)) (by simp [Value.oneCell']) (by omega) (by unfold maxLen; omega) (by omega) (by have := (unhide HK).size; simp; omega) (wr.heap.size + 1) (by simp) ?_; intro gg cap' w1 hown1 hgrow hat hl)
        rw [unhide HNEW] at hown1
        go_roundw
        case rel =>
          refine ⟨7, by omega, rfl, hown1, ((unhide HK).alloc _).grown hgrow (fun j hj => Or.inr ((unhide HO).lt j hj).1)⟩
        case measure => simp [intOf]
    · have hk7 : k = 7 := by omega
      subst hk7
      go_wp2
      go_ret
      exact ⟨_, rfl, unhide HO, unhide HK⟩

end Go.Proofs.Yteecnidnlkjehaa
