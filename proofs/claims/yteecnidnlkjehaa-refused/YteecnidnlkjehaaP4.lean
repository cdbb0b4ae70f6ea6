import Derived.Test.YteecnidnlkjehaaP3
namespace Go.Proofs.Yteecnidnlkjehaa
open Go.RowKit
attribute [local go_sem ↓] execOp_load38 execOp_load40 execOp_store40
attribute [local go_sem] run_load38 run_load40 bigVal_drew hasBig_drew bigVal_ne hasBig_ne bigVal_alloc hasBig_alloc

theorem step_nums (s : WS) (o : OpM) : (stepM s o).2.2.length ≤ 9 := by
  unfold stepM
  split
  · unfold createM; (repeat' split) <;> simp
  split
  · unfold addM; (repeat' split) <;> simp
  split
  · unfold tickM; (repeat' split) <;> simp
  split
  · unfold queryM; (repeat' split) <;> simp
  split
  · unfold statsM; (repeat' split) <;> simp [statsL, toldL]
  · simp
theorem runM_nums (s : WS) (ops : List OpM) (x : Int × List Int) (h : x ∈ runM s ops) : x.2.length ≤ 9 := by
  induction ops generalizing s with
  | nil => simp [runM] at h
  | cons o r ih =>
    rcases List.mem_cons.1 h with h | h
    · subst h; exact step_nums s o
    · exact ih _ h

set_option maxRecDepth 100000 in
set_option maxHeartbeats 4000000 in
theorem run_nil (a : Option Addr) (cap : Nat) (w : World) :
    Calls Try.prog 13 #[.slice a 0 cap] w fun r w' => ∃ v l, r = .returned v ∧ ARep w' w.heap.size v l ∧ l.map (fun x => (x.code, x.nums)) = runM ws0 [] ∧ Keeps (fun _ => False) w w' := by
  obtain ⟨i0, hi0, hz0, hz1, hz2⟩ := info_parts info33
  go_enter Try.func13, Try.ntmps13
  go_wp2_with (at_make; refine wpList_make_own _ rfl _ _ _ rfl w.heap.size 33 i0 _ 3 Try.underlying27 hi0 hz0 hz1 _ _ _ 0 rfl rfl rfl (by rw [hz2]; omega) (by unfold maxLen; omega) (by simp) ?_; intro w1 ho1 hg1)
  rw [World.size_alloc] at ho1
  have hkw1 : Keeps (fun _ => False) w w1 := ((Keeps.refl (fun _ => False) w).alloc _).grown hg1 (fun k hk => by cases hk)
  have HA1 := hide (show ARep w1 w.heap.size (.slice (some ⟨w.heap.size + 1, 0, none⟩) 0 0) [] from ⟨ho1, fun x hx => by simp at hx, fun x hx => by simp at hx⟩)
  have HK1 := hide hkw1
  clear hg1 ho1 hkw1
  go_loopw [4, 12] (fun av i wr => i = .int .i64 0 ∧ av = .slice (some ⟨w.heap.size + 1, 0, none⟩) 0 0 ∧ wr = w1) (fun _ _ _ => 0)
  case atStart => exact ⟨rfl, rfl, rfl⟩
  case round =>
    obtain ⟨rfl, rfl, rfl⟩ := hrel
    go_wp2
    go_ret
    exact ⟨_, [], rfl, unhide HA1, rfl, unhide HK1⟩

/-- A script as a value. -/
def ScriptV (w : World) (v : Value) (ops : List OpM) : Prop := (v = .slice none 0 0 ∧ ops = []) ∨ ∃ sb so cap, v = .slice (some ⟨sb, so, none⟩) ops.length cap ∧ ops.length ≤ cap ∧ ScriptAt w sb so ops ∧ sb < w.heap.size
theorem ScriptV.keeps {w w' : World} {v : Value} {ops : List OpM} (h : ScriptV w v ops) (hk : Keeps (fun _ => False) w w') : ScriptV w' v ops := by
  rcases h with h | ⟨sb, so, cap, h1, h2, h3, h4⟩
  · exact .inl h
  · refine .inr ⟨sb, so, cap, h1, h2, ?_, by have := hk.size; omega⟩
    intro i o ho j u hu
    exact hk.cell (h3 i o ho j u hu) (fun h => h)
theorem run_script (v : Value) (ops : List OpM) (w : World) (h : ScriptV w v ops) (hlen : ops.length ≤ 651562446090) :
    Calls Try.prog 13 #[v] w fun r w' => ∃ v l, r = .returned v ∧ ARep w' w.heap.size v l ∧ l.map (fun x => (x.code, x.nums)) = runM ws0 ops ∧ Keeps (fun _ => False) w w' := by
  rcases h with ⟨rfl, rfl⟩ | ⟨sb, so, cap, rfl, h2, h3, h4⟩
  · exact run_nil none 0 w
  · exact run_all sb so cap ops w h3 h4 hlen

end Go.Proofs.Yteecnidnlkjehaa
