import Derived.Test.YtahnliehdjncdaaGreatDoorXAW
import Derived.Test.YtahnliehdjncdaaGreatDoorXBA
import Derived.Deep.DrawnRows
import Derived.Test.YtahnliehdjncdaaGreatDoorXAD
import Derived.Test.YtahnliehdjncdaaGreatDoorXAV
set_option maxRecDepth 100000
set_option maxHeartbeats 16000000
namespace Go.Proofs.YtahnliehdjncdaaGreatDoor
open Go.RowKit
theorem decSave_any (d b : Nat) (c : Cfg) (q r m : Int) (v : Value) (bs : List Nat) (w : World) (hb : Blk w d (decCells c q r) 198) (h : WRep w b v bs) (hd : ¬ WFoot b v d) (q0 : 0 ≤ q) (q1 : q ≤ 9223372036854775807) (r0 : 0 ≤ r) (r1 : r ≤ 9223372036854775807) (hl : bs.length ≤ 140737488355000) :
  Calls Tryz.prog 179 #[.pointer (some ⟨d, 0, none⟩), .pointer (some ⟨b, 0, none⟩), .int .i64 m] w fun e w' => e = .returned (.tuple #[]) ∧ Wrote w b v (bs ++ encL [q, r]) w' := by
 have hd20 : w.cell? ⟨d, 20, none⟩ = some (.int .i64 q) := hb.cell rfl
 have HB := hide hb
 have HW := hide h
 have HD := hide hd
 have HN := hide (number_any b v bs q w h q0 q1 (by omega))
 clear hb h hd
 go_enter Tryz.func179, Tryz.ntmps179
 go_wp2_with fail
 refine (uh HN).mono ?_
 rintro e w1 ⟨rfl, v1, hw1, hv1, hk1⟩
 have hd21 : w1.cell? ⟨d, 21, none⟩ = some (.int .i64 r) := hk1.cell ((uh HB).cell rfl) (uh HD)
 have HV1 := hide hv1
 have HK1 := hide hk1
 have HN1 := hide (number_any b v1 (bs ++ enc q) r w1 hw1 r0 r1 (by have := enc_length q; rw [List.length_append]; omega))
 clear hd20 hw1 hv1 hk1 HN
 go_wp2_with fail
 refine (uh HN1).mono ?_
 rintro e w2 ⟨rfl, hw2⟩
 have HF := hide (Wrote.then (uh HV1) (uh HK1) hw2)
 clear hw2 HN1
 go_wp2
 go_end0
 refine ⟨rfl, ?_⟩
 have h := uh HF
 rw [List.append_assoc] at h
 rw [encL_cons, encL_one]
 exact h
end Go.Proofs.YtahnliehdjncdaaGreatDoor
namespace Go.Proofs.YtahnliehdjncdaaGreatDoor
open Go.RowKit
attribute [local go_sem ↓] execOp_load38 execOp_load40
attribute [local go_sem] run_load38 run_load40 bigVal_drew hasBig_drew bigVal_ne hasBig_ne bigVal_new hasBig_newB
def Cfg.nums (c : Cfg) : List Int := [c.kind, c.lag, c.skew, c.cap, c.k, c.window, c.bits, c.rows, c.width, c.panes, c.size, c.degree, c.half, c.mark, c.s00, c.s01, c.s10, c.s11, c.s20, c.s21]
theorem Cfg.cells_nums (c : Cfg) : c.cells = c.nums.map (.int .i64 ·) := rfl
def Cfg.num (c : Cfg) (o : Nat) : Int := c.nums.getD o 0
def namedL : Nat → List Nat | 1 => [4, 5] | 2 => [6, 5] | 3 => [7, 8, 9, 5] | 4 => [11, 12, 13] | _ => [11, 12, 13, 10]
def at' (b : Nat) (l : List Nat) : List (Nat × Nat) := l.map fun o => (b, o)
theorem info167 : (Tryz.prog.info? 167).map (fun i => (i.zero, i.size, i.bytes)) = some (some (.pointer none), 1, 8) := by kernel_rfl
theorem new_parts {w w' : World} {ps : List (Nat × Nat)} {n : Nat} (hn : ps.length = n) (hm : n ≤ 100) (h : w'.heap[w.heap.size]? = some (.cells (partsV ps).toArray 167)) : w'.ownsRow w.heap.size 167 1 (.slice (some ⟨w.heap.size, 0, none⟩) n n) ps.length (partsV ps) := by
 subst hn
 exact ⟨by simp [partsV], .inr ⟨w.heap.size, ps.length, (partsV ps).toArray, rfl, Nat.le_refl _, h, Nat.le_refl _, by unfold maxLen; omega, by simp [partsV], by rw [List.toList_toArray, List.take_of_length_le (by simp [partsV])]⟩⟩
def NamedPost (w : World) (b : Nat) (l : List Nat) (e : Ending) (w' : World) : Prop := ∃ v, e = .returned v ∧ w'.ownsRow w.heap.size 167 1 v (at' b l).length (partsV (at' b l)) ∧ Keeps (fun _ => False) w w'
theorem common_named (b : Nat) (w : World) : Calls Tryz.prog 142 #[.pointer (some ⟨b, 0, none⟩)] w (NamedPost w b [1, 2, 3]) := by
 go_enter Tryz.func142, Tryz.ntmps142
 go_wp2_with fail
 go_region
 go_wp2
 go_ret
 exact ⟨_, rfl, new_parts rfl (by omega) (heap_alloc_new w _), ((Keeps.refl _ _).alloc _).drew⟩
theorem count_named (b : Nat) (w : World) : Calls Tryz.prog 116 #[.pointer (some ⟨b, 0, none⟩)] w (NamedPost w b [4, 5]) := by
 go_enter Tryz.func116, Tryz.ntmps116
 go_wp2_with fail
 go_region
 go_wp2
 go_ret
 exact ⟨_, rfl, new_parts rfl (by omega) (heap_alloc_new w _), ((Keeps.refl _ _).alloc _).drew⟩
theorem distinct_named (b : Nat) (w : World) : Calls Tryz.prog 122 #[.pointer (some ⟨b, 0, none⟩)] w (NamedPost w b [6, 5]) := by
 go_enter Tryz.func122, Tryz.ntmps122
 go_wp2_with fail
 go_region
 go_wp2
 go_ret
 exact ⟨_, rfl, new_parts rfl (by omega) (heap_alloc_new w _), ((Keeps.refl _ _).alloc _).drew⟩
theorem often_named (b : Nat) (w : World) : Calls Tryz.prog 128 #[.pointer (some ⟨b, 0, none⟩)] w (NamedPost w b [7, 8, 9, 5]) := by
 go_enter Tryz.func128, Tryz.ntmps128
 go_wp2_with fail
 go_region
 go_wp2
 go_ret
 exact ⟨_, rfl, new_parts rfl (by omega) (heap_alloc_new w _), ((Keeps.refl _ _).alloc _).drew⟩
theorem decay_named (b : Nat) (w : World) : Calls Tryz.prog 132 #[.pointer (some ⟨b, 0, none⟩)] w (NamedPost w b [11, 12, 13]) := by
 go_enter Tryz.func132, Tryz.ntmps132
 go_wp2_with fail
 go_region
 go_wp2
 go_ret
 exact ⟨_, rfl, new_parts rfl (by omega) (heap_alloc_new w _), ((Keeps.refl _ _).alloc _).drew⟩
theorem owns_le {w : World} {base base' : Nat} {t size : Nat} {v : Value} {n : Nat} {xs : List Value} (h : w.ownsRow base t size v n xs) (hb : base' ≤ base) : w.ownsRow base' t size v n xs := by
 refine ⟨h.1, ?_⟩
 rcases h.2 with h2 | ⟨g, cap, cur, rfl, hbb, r⟩
 ·exact .inl h2
 ·exact .inr ⟨g, cap, cur, rfl, Nat.le_trans hb hbb, r⟩
def appP (t : TypeId) (x y : Value) : Sem Next := do pure (.value (← Builtin.append_ #[142, 142] t #[x, y]))
theorem execOp_appP (ρ : Operand → Value) (dst : Option Tmp) (x y : Operand) (ty : TypeId) (pos : String) (after : Array Edge) (guard : Option (Nat × Bool)) :
  execOp ρ { dst, op := .call { callee := .builtin .append, args := #[x, y], argTypes := #[142, 142] }, type := ty, pos, after, guard } = appP ty (ρ x) (ρ y) := by
 rw [BigFrame.execOp_builtin, BigFrame.builtin_append]
 simp [appP]
theorem run_appP (w : World) (base : Nat) (v : Value) (m g0 : Nat) (xs us : List Value) (hown : w.ownsRow base 167 1 v m xs) (hu : w.heap[g0]? = some (.cells us.toArray 167)) (h1 : ∀ u ∈ us, u.oneCell' = true) (hl : 0 < us.length) (hm : m + us.length ≤ 100) (hb : base ≤ w.heap.size) :
  ∃ gg cap' w3, (∀ t, (appP t v (.slice (some ⟨g0, 0, none⟩) us.length us.length)).run Tryz.prog w = .ok (.value (.slice (some ⟨gg, 0, none⟩) (m + us.length) cap')) w3) ∧
   w3.ownsRow base 167 1 (.slice (some ⟨gg, 0, none⟩) (m + us.length) cap') (m + us.length) (xs ++ us) ∧ w.grownBy w3 v.ownBlock := by
 obtain ⟨i0, hi0, hz0, hz1, hz2⟩ := info_parts info167
 obtain ⟨gg, cap', w3, e1, e2, e3, _, _⟩ := run_append_lies (P := Tryz.prog) w 142 142 base 167 i0 _ 1 8 Tryz.underlying142 hi0 hz0 hz1 hz2 rfl (by omega) v m xs hown ⟨g0, 0, none⟩ us.length us.length us (by simp) (World.news_of_block hu) h1 hl (by unfold maxLen; omega) (by omega) hb w.heap.size rfl
 refine ⟨gg, cap', w3, fun t => ?_, e2, e3⟩
 unfold appP
 rw [Sem.run_bind]
 have ht : Builtin.append_ #[142, 142] t #[v, .slice (some ⟨g0, 0, none⟩) us.length us.length] = Builtin.append_ #[142, 142] 142 #[v, .slice (some ⟨g0, 0, none⟩) us.length us.length] := rfl
 rw [ht, e1]
 rfl
theorem decay_named_app (b : Nat) (w : World) : Calls Tryz.prog 132 #[.pointer (some ⟨b, 0, none⟩)] w fun e w1 => ∃ va vcap, e = .returned (.slice va 3 vcap) ∧ Keeps (fun _ => False) w w1 ∧
  (∃ gg cap' w3, (∀ t, (appP t (.slice va 3 vcap) (.slice (some ⟨w1.heap.size, 0, none⟩) 1 1)).run Tryz.prog (w1.alloc (.cells #[.pointer (some ⟨b, 10, none⟩)] 167)) = .ok (.value (.slice (some ⟨gg, 0, none⟩) 4 cap')) w3) ∧
     w3.ownsRow w.heap.size 167 1 (.slice (some ⟨gg, 0, none⟩) 4 cap') 4 (partsV (at' b [11, 12, 13, 10])) ∧ Keeps (fun _ => False) w w3) ∧
  (∀ g0, w.heap[g0]? = some (.cells #[.pointer (some ⟨b, 10, none⟩)] 167) → ∃ gg cap' w3, (∀ t, (appP t (.slice va 3 vcap) (.slice (some ⟨g0, 0, none⟩) 1 1)).run Tryz.prog w1 = .ok (.value (.slice (some ⟨gg, 0, none⟩) 4 cap')) w3) ∧
     w3.ownsRow w.heap.size 167 1 (.slice (some ⟨gg, 0, none⟩) 4 cap') 4 (partsV (at' b [11, 12, 13, 10])) ∧ Keeps (fun _ => False) w w3) := by
 refine (decay_named b w).mono ?_
 rintro e w1 ⟨v, rfl, hown, hk⟩
 obtain ⟨va, vcap, hv, _⟩ := row_form hown
 subst hv
 have hsz := hk.size
 refine ⟨va, vcap, rfl, hk, ?_, fun g0 hg0 => ?_⟩
 ·obtain ⟨gg, cap', w3, h1, h2, h3⟩ := run_appP (w1.alloc (.cells #[.pointer (some ⟨b, 10, none⟩)] 167)) w.heap.size _ 3 w1.heap.size _ [.pointer (some ⟨b, 10, none⟩)] (hown.alloc _) (heap_alloc_new w1 _) (by simp [Value.oneCell']) (by simp) (by simp) (by simp; omega)
  exact ⟨gg, cap', w3, h1, h2, (hk.alloc _).grown h3 (fun k hk' => .inr (hown.lt k hk').1)⟩
 ·obtain ⟨gg, cap', w3, h1, h2, h3⟩ := run_appP w1 w.heap.size _ 3 g0 _ [.pointer (some ⟨b, 10, none⟩)] hown (by rw [hk.block g0 (Array.getElem?_eq_some_iff.1 hg0).1 (fun h => h)]; exact hg0) (by simp [Value.oneCell']) (by simp) (by simp) hsz
  exact ⟨gg, cap', w3, h1, h2, hk.grown h3 (fun k hk' => .inr (hown.lt k hk').1)⟩
attribute [local go_sem ↓ 2000] execOp_appP
attribute [local go_sem ↓] Go.wp_at_zero Go.wp_at_succ
theorem drawn_named (b : Nat) (w : World) : Calls Tryz.prog 136 #[.pointer (some ⟨b, 0, none⟩)] w (NamedPost w b [11, 12, 13, 10]) := by
 go_enter Tryz.func136, Tryz.ntmps136
 go_wp2_with fail
 have hnew1 : (w.alloc (.cells #[.pointer (some ⟨b, 10, none⟩)] 167)).drew.heap[w.heap.size]? = some (.cells #[.pointer (some ⟨b, 10, none⟩)] 167) := heap_alloc_new w _
 go_region_with (first | (go_at_call 132; refine (decay_named_app b _).mono ?_; rintro e w1 ⟨va, vcap, rfl, hk1, ⟨gg, cap', w3, hrun, hown, hk3⟩, hB⟩; try (have hB1 := hB w.heap.size hnew1; obtain ⟨gg2, cap2, w4, hrun2, hown2, hk4⟩ := hB1)))
 ·go_wp2
  go_ret
  exact ⟨.slice (some ⟨gg, 0, none⟩) 4 cap', rfl, hown, ((Keeps.refl (fun _ => False) w).drew).then hk3⟩
 all_goals
  go_wp2
  go_ret
  refine ⟨.slice (some ⟨gg2, 0, none⟩) 4 cap2, rfl, owns_le hown2 (by show w.heap.size ≤ (w.alloc _).heap.size; simp), ?_⟩
  first
   | exact (((Keeps.refl (fun _ => False) w).alloc _).drew).then hk4
   | exact (((Keeps.refl (fun _ => False) w).drew).alloc _).then hk4
theorem ask_time (b : Nat) (w : World) : Calls Tryz.prog 119 #[.pointer (some ⟨b, 0, none⟩)] w (NamedPost w b [0]) := by
 go_enter Tryz.func119, Tryz.ntmps119
 go_wp2
 go_ret
 exact ⟨_, rfl, new_parts rfl (by omega) (heap_alloc_new w _), (Keeps.refl _ _).alloc _⟩
theorem ask_key (b : Nat) (w : World) : Calls Tryz.prog 125 #[.pointer (some ⟨b, 0, none⟩)] w (NamedPost w b [0, 1]) := by
 go_enter Tryz.func125, Tryz.ntmps125
 go_wp2_with fail
 go_region
 go_wp2
 go_ret
 exact ⟨_, rfl, new_parts rfl (by omega) (heap_alloc_new w _), ((Keeps.refl _ _).alloc _).drew⟩
theorem ask_draw (b : Nat) (w : World) : Calls Tryz.prog 138 #[.pointer (some ⟨b, 0, none⟩)] w (NamedPost w b [0, 1, 2]) := by
 go_enter Tryz.func138, Tryz.ntmps138
 go_wp2_with fail
 go_region
 go_wp2
 go_ret
 exact ⟨_, rfl, new_parts rfl (by omega) (heap_alloc_new w _), ((Keeps.refl _ _).alloc _).drew⟩
end Go.Proofs.YtahnliehdjncdaaGreatDoor
namespace Go.Proofs.YtahnliehdjncdaaGreatDoor
open Go.RowKit
attribute [local go_sem ↓] execOp_load38 execOp_load40
attribute [local go_sem] run_load38 run_load40 bigVal_drew hasBig_drew bigVal_ne hasBig_ne bigVal_new hasBig_newB
theorem named_any (k b : Nat) (w : World) (h1 : 1 ≤ k) (h5 : k ≤ 5) : Calls Tryz.prog (namedF k) #[.pointer (some ⟨b, 0, none⟩)] w (NamedPost w b (namedL k)) := by
 have hk : k = 1 ∨ k = 2 ∨ k = 3 ∨ k = 4 ∨ k = 5 := by omega
 rcases hk with hk | hk | hk | hk | hk <;> subst hk
 ·exact count_named b w
 ·exact distinct_named b w
 ·exact often_named b w
 ·exact decay_named b w
 ·exact drawn_named b w
def askedL : Nat → List Nat | 1 => [0] | 2 => [0, 1] | 3 => [0, 1] | 4 => [0] | _ => [0, 1, 2]
theorem asked_any (k b : Nat) (w : World) (h1 : 1 ≤ k) (h5 : k ≤ 5) : Calls Tryz.prog (askedF k) #[.pointer (some ⟨b, 0, none⟩)] w (NamedPost w b (askedL k)) := by
 have hk : k = 1 ∨ k = 2 ∨ k = 3 ∨ k = 4 ∨ k = 5 := by omega
 rcases hk with hk | hk | hk | hk | hk <;> subst hk
 ·exact ask_time b w
 ·exact ask_key b w
 ·exact ask_key b w
 ·exact ask_time b w
 ·exact ask_draw b w
def pairsN (k : Nat) (c : Cfg) : Int := match k with | 2 => 1 | 3 => c.rows | _ => 0
theorem noPairs_any (c : Cfg) (w : World) : Calls Tryz.prog 117 #[c.val] w fun e w' => e = .returned (.int .i64 0) ∧ Keeps (fun _ => False) w w' := by
 unfold Cfg.val
 go_enter Tryz.func117, Tryz.ntmps117
 go_wp2
 go_ret
 exact ⟨rfl, by first | exact Keeps.refl _ _ | exact (Keeps.refl _ _).alloc _⟩
theorem onePair_any (c : Cfg) (w : World) : Calls Tryz.prog 123 #[c.val] w fun e w' => e = .returned (.int .i64 1) ∧ Keeps (fun _ => False) w w' := by
 unfold Cfg.val
 go_enter Tryz.func123, Tryz.ntmps123
 go_wp2
 go_ret
 exact ⟨rfl, by first | exact Keeps.refl _ _ | exact (Keeps.refl _ _).alloc _⟩
theorem rowPairs_any (c : Cfg) (w : World) : Calls Tryz.prog 129 #[c.val] w fun e w' => e = .returned (.int .i64 c.rows) ∧ Keeps (fun _ => False) w w' := by
 unfold Cfg.val
 go_enter Tryz.func129, Tryz.ntmps129
 go_wp2
 go_ret
 exact ⟨rfl, (Keeps.refl _ _).alloc _⟩
theorem pairs_any (k : Nat) (c : Cfg) (w : World) (h1 : 1 ≤ k) (h5 : k ≤ 5) : Calls Tryz.prog (pairsF k) #[c.val] w fun e w' => e = .returned (.int .i64 (pairsN k c)) ∧ Keeps (fun _ => False) w w' := by
 have hk : k = 1 ∨ k = 2 ∨ k = 3 ∨ k = 4 ∨ k = 5 := by omega
 rcases hk with hk | hk | hk | hk | hk <;> subst hk
 ·exact noPairs_any c w
 ·exact onePair_any c w
 ·exact rowPairs_any c w
 ·exact noPairs_any c w
 ·exact noPairs_any c w
def seedsL (n : Nat) : List Nat := (List.range (2 * n)).map (14 + ·)
theorem seedsL_succ (n : Nat) : seedsL (n + 1) = seedsL n ++ [14 + 2 * n, 15 + 2 * n] := by
 unfold seedsL
 rw [show 2 * (n + 1) = 2 * n + 1 + 1 by omega, List.range_succ, List.range_succ]
 simp
 omega
theorem partsV_append (a b : List (Nat × Nat)) : partsV (a ++ b) = partsV a ++ partsV b := by simp [partsV]
attribute [local go_sem ↓ 2000] execOp_appP
attribute [local go_sem ↓] Go.wp_at_zero Go.wp_at_succ
theorem seeds_any (b n : Nat) (w : World) (hn : n ≤ 3) :
  Calls Tryz.prog 143 #[.pointer (some ⟨b, 0, none⟩), .int .i64 n] w (NamedPost w b (seedsL n)) := by
 go_enter Tryz.func143, Tryz.ntmps143
 go_wp2
 go_loopw [5, 8] (fun v i wr => ∃ k : Nat, i = .int .i64 k ∧ k ≤ n ∧ Hid (wr.ownsRow w.heap.size 167 1 v (2 * k) (partsV (at' b (seedsL k)))) ∧ Hid (Keeps (fun _ => False) w wr)) (fun _ i _ => n - (intOf i).toNat)
 case atStart => exact ⟨0, rfl, Nat.zero_le _, World.ownsRow_nil _ _ _ _, Keeps.refl _ _⟩
 case round =>
  obtain ⟨k, rfl, hk, HO, HK⟩ := hrel
  generalize u5 = v at *
  by_cases hlk : k < n
  ·obtain ⟨va, vcap, hv, _⟩ := row_form (uh HO)
   subst hv
   have hsz : w.heap.size ≤ wr.heap.size := (uh HK).size
   have HO1 := hide (show (wr.alloc (.cells #[.pointer (some ⟨b, 14 + k * 2, none⟩), .pointer (some ⟨b, 14 + k * 2 + 1, none⟩)] 167)).drew.ownsRow w.heap.size 167 1 (.slice va (2 * k) vcap) (2 * k) (partsV (at' b (seedsL k))) from (uh HO).alloc _)
   obtain ⟨gg, cap', w3, hrun, hown, hgr⟩ := run_appP (wr.alloc (.cells #[.pointer (some ⟨b, 14 + k * 2, none⟩), .pointer (some ⟨b, 14 + k * 2 + 1, none⟩)] 167)).drew w.heap.size _ (2 * k) wr.heap.size _ [.pointer (some ⟨b, 14 + k * 2, none⟩), .pointer (some ⟨b, 14 + k * 2 + 1, none⟩)] (uh HO1) (heap_alloc_new wr _) (by simp [Value.oneCell']) (by simp) (by simp; omega) (by show w.heap.size ≤ (wr.alloc _).heap.size; simp; omega)
   have hrun' : ∀ t, (appP t (.slice va (2 * k) vcap) (.slice (some ⟨wr.heap.size, 0, none⟩) 2 2)).run Tryz.prog (wr.alloc (.cells #[.pointer (some ⟨b, 14 + k * 2, none⟩), .pointer (some ⟨b, 14 + k * 2 + 1, none⟩)] 167)).drew = .ok (.value (.slice (some ⟨gg, 0, none⟩) (2 * k + 2) cap')) w3 := hrun
   clear hrun
   have HOW := hide hown
   have HGR := hide hgr
   clear hown hgr HO1
   have hk0 : (0 : Int) ≤ (k : Int) := by omega
   have hkn : (k : Int) < (n : Int) := by omega
   have hk3 : (k : Int) < 3 := by omega
   go_wp2_with fail
   go_region
   go_wp2
   go_roundw
   case rel =>
    refine ⟨k + 1, by go_num, by omega, ?_, ?_⟩
    ·show World.ownsRow _ _ _ _ _ _ _
     rw [seedsL_succ]
     have e1 : at' b (seedsL k ++ [14 + 2 * k, 15 + 2 * k]) = at' b (seedsL k) ++ [(b, 14 + 2 * k), (b, 15 + 2 * k)] := by simp [at']
     rw [e1, partsV_append, show 2 * (k + 1) = 2 * k + 2 by omega]
     have h := uh HOW
     rw [show 14 + k * 2 = 14 + 2 * k by omega, show 14 + 2 * k + 1 = 15 + 2 * k by omega] at h
     exact h
    ·exact (((uh HK).alloc _).drew).grown (uh HGR) (fun j hj => Or.inr ((uh HO).lt j hj).1)
   case measure => simp [intOf]; omega
  ·have hkn : k = n := by omega
   subst hkn
   go_wp2
   go_ret
   refine ⟨v, rfl, ?_, uh HK⟩
   have : (at' b (seedsL k)).length = 2 * k := by simp [at', seedsL]
   rw [this]
   exact uh HO
end Go.Proofs.YtahnliehdjncdaaGreatDoor
namespace Go.Proofs.YtahnliehdjncdaaGreatDoor
open Go.RowKit
attribute [local go_sem ↓] execOp_load38 execOp_load40
attribute [local go_sem] run_load38 run_load40 bigVal_drew hasBig_drew bigVal_ne hasBig_ne bigVal_new hasBig_newB
def cfgNums (k : Nat) (c : Cfg) : List Int := c.kind :: ([1, 2, 3].map c.num ++ ((namedL k).map c.num ++ (seedsL (pairsN k c).toNat).map c.num))
theorem parts_cfg {w : World} {cb : Nat} {c : Cfg} {l : List Nat} (h : Blk w cb c.cells 38) (hl : ∀ o, o ∈ l → o < 20) : PartsAt w (at' cb l) (l.map c.num) := by
 refine ⟨by simp [at'], fun i p n hp hn => ?_⟩
 unfold at' at hp
 rw [List.getElem?_map] at hp hn
 cases ho : l[i]? with
 | none => rw [ho] at hp; cases hp
 | some o =>
  rw [ho] at hp hn
  simp only [Option.map_some, Option.some.injEq] at hp hn
  subst hp hn
  have h20 := hl o (List.mem_of_getElem? ho)
  refine h.cell ?_
  rw [Cfg.cells_nums, List.getElem?_map]
  unfold Cfg.num
  rw [List.getD_eq_getElem?_getD, List.getElem?_eq_getElem (by simpa [Cfg.nums] using h20)]
  rfl
theorem namedL_lt (k : Nat) : ∀ o, o ∈ namedL k → o < 20 := by
 unfold namedL
 split <;> simp
theorem seedsL_lt (n : Nat) (hn : n ≤ 3) : ∀ o, o ∈ seedsL n → o < 20 := by
 unfold seedsL
 intro o ho
 simp at ho
 obtain ⟨i, hi, rfl⟩ := ho
 omega
theorem write_parts (b : Nat) (v : Value) (bs : List Nat) (pv : Value) (base cb : Nat) (l : List Nat) (ns : List Int) (w : World) (h : WRep w b v bs) (hp : w.ownsRow base 167 1 pv (at' cb l).length (partsV (at' cb l))) (ha : PartsAt w (at' cb l) ns)
  (hd : ¬ WFoot b v cb) (hbase : ∀ i, base ≤ i → ¬ WFoot b v i) (hn : ∀ n, n ∈ ns → 0 ≤ n ∧ n ≤ 9223372036854775807) (hl : bs.length + 10 * ns.length ≤ 140737488355300) (hl2 : ns.length ≤ 1000) :
  Calls Tryz.prog 98 #[.pointer (some ⟨b, 0, none⟩), pv] w fun e w' => e = .returned (.tuple #[]) ∧ Wrote w b v (bs ++ encL ns) w' :=
 parts_any b v bs pv base (at' cb l) ns w h hp ha (fun p hp h => hd (by
      unfold at' at hp
      obtain ⟨o, _, rfl⟩ := List.mem_map.1 hp
      exact h)) (fun i hi => hbase i (hp.lt i hi).1) hn hl hl2
structure SC (w : World) (cb kb b : Nat) (v : Value) (c : Cfg) (k : Nat) (w' : World) (v' : Value) (bs : List Nat) : Prop where
 blk : Blk w' cb c.cells 38
 knd : Blk w' kb [.func (.func (fitsF k)) #[] #[], .func (.func (namedF k)) #[] #[], .func (.func (pairsF k)) #[] #[], .func (.func (refuseF k)) #[] #[], .func (.func (askedF k)) #[] #[], .func (.func (startF k)) #[] #[]] 82
 wr : WRep w' b v' bs
 ft : ∀ i, WFoot b v' i → i < cb ∨ kb < i
 vv : ∀ i, v'.ownBlock = some i → v.ownBlock = some i ∨ w.heap.size ≤ i
 kp : Keeps (WFoot b v) w w'
 le : cb ≤ kb
theorem SC.still {w : World} {cb kb b : Nat} {v : Value} {c : Cfg} {k : Nat} {w' w'' : World} {v' : Value} {bs : List Nat} (h : SC w cb kb b v c k w' v' bs) (hk : Keeps (fun _ => False) w' w'') : SC w cb kb b v c k w'' v' bs :=
 ⟨h.blk.keeps hk (fun h => h), h.knd.keeps hk (fun h => h), h.wr.still hk, h.ft, h.vv, h.kp.trans hk (fun _ h => h.elim), h.le⟩
theorem SC.not {w : World} {cb kb b : Nat} {v : Value} {c : Cfg} {k : Nat} {w' : World} {v' : Value} {bs : List Nat} (h : SC w cb kb b v c k w' v' bs) (i : Nat) (h1 : cb ≤ i) (h2 : i ≤ kb) : ¬ WFoot b v' i := fun hf => by
 rcases h.ft i hf with h | h <;> omega
theorem SC.wrote {w : World} {cb kb b : Nat} {v : Value} {c : Cfg} {k : Nat} {w' w'' : World} {v' : Value} {bs bs2 : List Nat} (h : SC w cb kb b v c k w' v' bs) (hw : Wrote w' b v' bs2 w'') : ∃ v'', SC w cb kb b v c k w'' v'' bs2 := by
 obtain ⟨v2, hw2, hv2, hk2⟩ := hw
 have hl := h.knd.lt
 have hs := h.kp.size
 refine ⟨v2, h.blk.keeps hk2 (h.not cb (Nat.le_refl _) h.le), h.knd.keeps hk2 (h.not kb h.le (Nat.le_refl _)), hw2, fun i hi => ?_, fun i hi => ?_, h.kp.trans hk2 (fun i hi hlt => ?_), h.le⟩
 ·rcases hi with hi | hi
  ·exact h.ft i (.inl hi)
  ·rcases hv2 i hi with h1 | h1
   ·exact h.ft i (.inr h1)
   ·exact .inr (by omega)
 ·rcases hv2 i hi with h1 | h1
  ·exact h.vv i h1
  ·exact .inr (by omega)
 ·rcases hi with hi | hi
  ·exact .inl hi
  ·rcases h.vv i hi with h1 | h1
   ·exact .inr h1
   ·omega
theorem enc_more (bs : List Nat) (a b : List Int) : bs ++ encL a ++ encL b = bs ++ encL (a ++ b) := by rw [List.append_assoc, encL_append]
theorem saveConfig_any (b : Nat) (v : Value) (bs : List Nat) (c : Cfg) (k : Nat) (w : World) (h : WRep w b v bs) (hkd : c.kind = k) (h1 : 1 ≤ k) (h5 : k ≤ 5) (p0 : 0 ≤ pairsN k c) (p3 : pairsN k c ≤ 3) (hn : ∀ n, n ∈ cfgNums k c → 0 ≤ n ∧ n ≤ 9223372036854775807) (hl : bs.length ≤ 140737488354000) :
  Calls Tryz.prog 96 #[.pointer (some ⟨b, 0, none⟩), c.val] w fun e w' => e = .returned (.tuple #[]) ∧ Wrote w b v (bs ++ encL (cfgNums k c)) w' := by
 obtain ⟨W, hW⟩ : ∃ W, W = w.alloc (.cells c.cells.toArray 38) := ⟨_, rfl⟩
 have HB := hide (show Blk W w.heap.size c.cells 38 by rw [hW]; exact Blk.new w _ _)
 have HK := hide (show Keeps (fun _ => False) w W by rw [hW]; exact (Keeps.refl _ _).alloc _)
 have HW0 := hide (show w.alloc (.cells #[.int .i64 c.kind, .int .i64 c.lag, .int .i64 c.skew, .int .i64 c.cap, .int .i64 c.k, .int .i64 c.window, .int .i64 c.bits, .int .i64 c.rows, .int .i64 c.width, .int .i64 c.panes, .int .i64 c.size, .int .i64 c.degree, .int .i64 c.half, .int .i64 c.mark, .int .i64 c.s00, .int .i64 c.s01, .int .i64 c.s10, .int .i64 c.s11, .int .i64 c.s20, .int .i64 c.s21] 38) = W from hW.symm)
 have HW := hide (h.still (uh HK))
 have HLT := hide (show ∀ i, WFoot b v i → i < w.heap.size from h.lt)
 have HN := hide hn
 have HKD := hide hkd
 have HP := hide (show ∃ n : Nat, pairsN k c = n ∧ n ≤ 3 from ⟨(pairsN k c).toNat, by omega, by omega⟩)
 have HF := hide (find_yesI c.kind k W hkd h1 h5)
 have HCN := hide (show cfgNums k c = c.kind :: ([1, 2, 3].map c.num ++ ((namedL k).map c.num ++ (seedsL (pairsN k c).toNat).map c.num)) from rfl)
 have c0 : W.cell? ⟨w.heap.size, 0, none⟩ = some (.int .i64 c.kind) := (uh HB).cell rfl
 clear hW h hn hkd p0 p3
 unfold Cfg.val
 go_enter Tryz.func96, Tryz.ntmps96
 go_wp2_with fail
 rw [uh HW0]
 refine (uh HF).mono ?_
 rintro e w1 ⟨rfl, hk1⟩
 unfold kindCells fn
 have HT1 := hide (Blk.new w1 [.func (.func (fitsF k)) #[] #[], .func (.func (namedF k)) #[] #[], .func (.func (pairsF k)) #[] #[], .func (.func (refuseF k)) #[] #[], .func (.func (askedF k)) #[] #[], .func (.func (startF k)) #[] #[]] 82)
 have hka := hk1.alloc (.cells #[.func (.func (fitsF k)) #[] #[], .func (.func (namedF k)) #[] #[], .func (.func (pairsF k)) #[] #[], .func (.func (refuseF k)) #[] #[], .func (.func (askedF k)) #[] #[], .func (.func (startF k)) #[] #[]] 82)
 have HB1 := hide ((uh HB).keeps hka (fun h => h))
 have HW1 := hide ((uh HW).still hka)
 have HK1 := hide ((uh HK).then hka)
 have hc1 : w1.cell? ⟨w.heap.size, 0, none⟩ = some (.int .i64 c.kind) := ((uh HB).keeps hk1 (fun h => h)).cell rfl
 have hlt1 : w.heap.size < w1.heap.size := ((uh HB).keeps hk1 (fun h => h)).lt
 clear hk1 hka c0 HW0 HF HB HW HK
 go_wp2_with fail
 clear hc1
 generalize hkb : w1.heap.size = kb at *
 generalize w1.alloc (.cells #[.func (.func (fitsF k)) #[] #[], .func (.func (namedF k)) #[] #[], .func (.func (pairsF k)) #[] #[], .func (.func (refuseF k)) #[] #[], .func (.func (askedF k)) #[] #[], .func (.func (startF k)) #[] #[]] 82) = w2 at *
 clear hkb w1
 generalize hcb : w.heap.size = cb at *
 have HCB := hide hcb
 clear hcb
 have HSZ2 := hide (show kb + 1 ≤ w2.heap.size from (uh HT1).lt)
 have hb1 := uh HN c.kind (by rw [uh HCN]; simp)
 -- the kind
 have HS2 := hide (show SC w cb kb b v c k w2 v bs from ⟨uh HB1, uh HT1, uh HW1, fun i hi => .inl (uh HLT i hi), fun i hi => .inl hi, (uh HK1).mono (fun _ _ h => h.elim), by omega⟩)
 clear HB1 HT1 HW1 HK1 HSZ2
 have HLK := hide (show (namedL k).length ≤ 4 by unfold namedL; split <;> simp)
 obtain ⟨pn, hpn, hpn3⟩ := uh HP
 have HPN := hide hpn
 have HLS := hide (show (seedsL pn).length ≤ 6 by simp [seedsL]; omega)
 have HC2 := hide (show cfgNums k c = [c.kind] ++ [1, 2, 3].map c.num ++ (namedL k).map c.num ++ (seedsL pn).map c.num by rw [uh HCN, hpn, Int.toNat_natCast]; simp)
 clear hpn HCN
 refine (number_any b v bs c.kind w2 (uh HS2).wr hb1.1 hb1.2 (by omega)).mono ?_
 rintro e w3 ⟨rfl, hw3⟩
 obtain ⟨v3, hs3⟩ := (uh HS2).wrote hw3
 rw [← encL_one] at hs3
 have HS3 := hide hs3
 clear hw3 hs3 HS2
 go_wp2_with fail
 refine (common_named cb w3).mono ?_
 rintro e w4 ⟨pv, rfl, hown4, hk4⟩
 obtain ⟨pa, pcap, hpv, _⟩ := row_form hown4
 subst hpv
 have HL3 := hide (uh HS3).wr.lt
 have HS4 := hide ((uh HS3).still hk4)
 have HO4 := hide hown4
 clear hown4 hk4 HS3
 go_wp2_with fail
 refine (write_parts b v3 _ _ w3.heap.size cb [1, 2, 3] ([1, 2, 3].map c.num) w4 (uh HS4).wr (uh HO4) (parts_cfg (uh HS4).blk (by simp)) ((uh HS4).not cb (Nat.le_refl _) (uh HS4).le) (fun i hi h => by have := uh HL3 i h; omega) (fun n hn => uh HN n (by rw [uh HC2]; simp only [List.mem_append]; exact .inl (.inl (.inr hn)))) (by have := encL_length [c.kind]; simp [encL_one] at this ⊢; have h2 := encL_length [c.kind]; simp at h2; omega) (by simp)).mono ?_
 rintro e w5 ⟨rfl, hw5⟩
 obtain ⟨v5, hs5⟩ := (uh HS4).wrote hw5
 rw [enc_more] at hs5
 have HS5 := hide hs5
 clear hw5 hs5 HS4 HO4 HL3
 have k1 : w5.cell? ⟨kb, 1, none⟩ = some (.func (.func (namedF k)) #[] #[]) := (uh HS5).knd.cell rfl
 have hown1 := own_named k h1 h5
 go_wp2_with fail
 refine (named_any k cb w5 h1 h5).mono ?_
 rintro e w6 ⟨pv, rfl, hown6, hk6⟩
 obtain ⟨pa6, pcap6, hpv, _⟩ := row_form hown6
 subst hpv
 have HL5 := hide (uh HS5).wr.lt
 have HS6 := hide ((uh HS5).still hk6)
 have HO6 := hide hown6
 clear hown6 hk6 HS5 k1 hown1
 go_wp2_with fail
 refine (write_parts b v5 _ _ w5.heap.size cb (namedL k) ((namedL k).map c.num) w6 (uh HS6).wr (by have := uh HO6; exact this) (parts_cfg (uh HS6).blk (namedL_lt k)) ((uh HS6).not cb (Nat.le_refl _) (uh HS6).le) (fun i hi h => by have := uh HL5 i h; omega) (fun n hn => uh HN n (by rw [uh HC2]; simp only [List.mem_append]; exact .inl (.inr hn))) (by have h2 := encL_length ([c.kind] ++ [1, 2, 3].map c.num); have h3 := uh HLK; simp at h2 ⊢; omega) (by have h3 := uh HLK; simp; omega)).mono ?_
 rintro e w7 ⟨rfl, hw7⟩
 obtain ⟨v7, hs7⟩ := (uh HS6).wrote hw7
 rw [enc_more] at hs7
 have HS7 := hide hs7
 clear hw7 hs7 HS6 HO6 HL5
 have k2 : w7.cell? ⟨kb, 2, none⟩ = some (.func (.func (pairsF k)) #[] #[]) := (uh HS7).knd.cell rfl
 obtain ⟨hv7, hh7⟩ := bigVal_Blk (uh HS7).blk 20 rfl
 have hown2 := own_pairs k h1 h5
 go_wp2_with fail
 refine (pairs_any k c w7 h1 h5).mono ?_
 rintro e w8 ⟨rfl, hk8⟩
 rw [uh HPN]
 have HS8 := hide ((uh HS7).still hk8)
 clear hk8 HS7 k2 hown2 hv7 hh7
 go_wp2_with fail
 refine (seeds_any cb pn w8 hpn3).mono ?_
 rintro e w9 ⟨pv, rfl, hown9, hk9⟩
 obtain ⟨pa9, pcap9, hpv, _⟩ := row_form hown9
 subst hpv
 have HL8 := hide (uh HS8).wr.lt
 have HS9 := hide ((uh HS8).still hk9)
 have HO9 := hide hown9
 clear hown9 hk9 HS8
 go_wp2_with fail
 refine (write_parts b v7 _ _ w8.heap.size cb (seedsL pn) ((seedsL pn).map c.num) w9 (uh HS9).wr (by have := uh HO9; exact this) (parts_cfg (uh HS9).blk (seedsL_lt pn hpn3)) ((uh HS9).not cb (Nat.le_refl _) (uh HS9).le) (fun i hi h => by have := uh HL8 i h; omega) (fun n hn => uh HN n (by rw [uh HC2]; simp only [List.mem_append]; exact .inr hn)) (by have h2 := encL_length ([c.kind] ++ [1, 2, 3].map c.num ++ (namedL k).map c.num); have h3 := uh HLK; have h4 := uh HLS; simp at h2 ⊢; omega) (by have h4 := uh HLS; simp; omega)).mono ?_
 rintro e wa ⟨rfl, hwa⟩
 obtain ⟨va, hsa⟩ := (uh HS9).wrote hwa
 rw [enc_more, ← uh HC2] at hsa
 have HSA := hide hsa
 clear hwa hsa HS9 HO9 HL8
 go_wp2
 go_end0
 exact ⟨rfl, va, (uh HSA).wr, (uh HSA).vv, (uh HSA).kp⟩
end Go.Proofs.YtahnliehdjncdaaGreatDoor
namespace Go.Proofs.YtahnliehdjncdaaGreatDoor
open Go.RowKit
theorem wfoot_not {b : Nat} {v v1 : Value} {s cb : Nat} (h0 : ¬ WFoot b v cb) (hv : ∀ i, v1.ownBlock = some i → v.ownBlock = some i ∨ s ≤ i) (hc : cb < s) : ¬ WFoot b v1 cb := by
 rintro (h | h)
 ·exact h0 (.inl h)
 ·rcases hv cb h with h | h
  ·exact h0 (.inr h)
  ·omega
theorem Wrote.pre {w w1 w2 : World} {b : Nat} {v : Value} {bs : List Nat} (hk : Keeps (fun _ => False) w w1) (h : Wrote w1 b v bs w2) : Wrote w b v bs w2 :=
 Wrote.then (fun _ hi => .inl hi) (hk.mono (fun _ _ h => h.elim)) h
def savT (l : List Dr.It) : List Int := l.flatMap fun x => [x.n, x.t, x.k, x.d]
theorem savT_append (a b : List Dr.It) : savT (a ++ b) = savT a ++ savT b := by simp [savT]
theorem savT_length (l : List Dr.It) : (savT l).length = 4 * l.length := by
 induction l with
 | nil => rfl
 | cons x l ih => simp [savT] at ih ⊢; omega
theorem savT_take (r : List Dr.It) (k : Nat) (hk : k < r.length) : savT (r.take (k + 1)) = savT (r.take k) ++ [(Dr.itAt r k).n, (Dr.itAt r k).t, (Dr.itAt r k).k, (Dr.itAt r k).d] := by
 rw [List.take_add_one, savT_append, List.getElem?_eq_getElem hk]
 simp [savT, Dr.itAt, List.getD_eq_getElem?_getD, List.getElem?_eq_getElem hk]
theorem parts_tick {w : World} {cb : Nat} {t k d : Int} {l : List Value} {T : Nat} (h : Blk w cb (.int .i64 t :: .int .i64 k :: .int .i64 d :: l) T) : PartsAt w (at' cb [0, 1, 2]) [t, k, d] := by
 refine ⟨by simp [at'], fun i p n hp hn => ?_⟩
 match i with
 | 0 => simp [at'] at hp hn; subst hp hn; exact h.cell rfl
 | 1 => simp [at'] at hp hn; subst hp hn; exact h.cell rfl
 | 2 => simp [at'] at hp hn; subst hp hn; exact h.cell rfl
 | i + 3 => simp [at'] at hp
theorem drwSave_any (d q : Nat) (og : Option Nat) (c : Cfg) (l : List Dr.It) (b : Nat) (v : Value) (bs : List Nat) (m : Int) (w : World) (h : TRep w d q og c l) (hw : WRep w b v bs) (hl : l.length ≤ 6) (hn : ∀ n, n ∈ savT (Dr.allL (l.length + 1) l) → 0 ≤ n ∧ n ≤ 9223372036854775807) (hbl : bs.length ≤ 140737488354000) :
  Calls Tryz.prog 185 #[.pointer (some ⟨d, 0, none⟩), .pointer (some ⟨b, 0, none⟩), .int .i64 m] w fun e w' => e = .returned (.tuple #[]) ∧ Wrote w b v (bs ++ encL (savT (Dr.allL (l.length + 1) l))) w' := by
 have c20 : w.cell? ⟨d, 20, none⟩ = some (.pointer (some ⟨q, 0, none⟩)) := h.blk.cell rfl
 have hA := all_any q og l w h.que (by omega)
 clear h
 generalize Dr.allL (l.length + 1) l = r at *
 generalize l.length = n at *
 have HA := hide hA
 have HW := hide hw
 have HNR := hide hn
 clear hw hn hA
 go_enter Tryz.func185, Tryz.ntmps185
 go_wp2_with fail
 refine (uh HA).mono ?_
 rintro e W1 ⟨g, cp, rfl, hg, hr1, hlen, hk1⟩
 have HR := hide hr1
 have HLN := hide hlen
 have HK1 := hide hk1
 have HG := hide (show ¬ WFoot b v g from fun hf => by have := (uh HW).lt g hf; omega)
 have HW1 := hide ((uh HW).still hk1)
 have hn6 : n ≤ 6 := by omega
 clear hr1 hlen hk1 hg c20 HA
 go_wp2_with fail
 go_loopw [14] (fun i wr => ∃ (k : Nat), i = .int .i64 k ∧ k ≤ n ∧ Hid (Wrote W1 b v (bs ++ encL (savT (r.take k))) wr)) (fun i _ => n - (intOf i).toNat)
 case atStart => exact ⟨0, rfl, Nat.zero_le _, by show Wrote _ _ _ _ _; simp only [List.take_zero, savT, List.flatMap_nil, encL_nil, List.append_nil]; exact Wrote.refl (uh HW1)⟩
 case round =>
  obtain ⟨k, rfl, hk, HO⟩ := hrel
  by_cases hlk : k < n
  ·obtain ⟨v', hwr, hvr, hkr⟩ := uh HO
   have hkn : k < r.length := by rw [uh HLN]; exact hlk
   obtain ⟨x0, x1, x2, x3, x4⟩ := ((uh HR).keeps hkr (uh HG)).cells k hkn
   have HTK := hide (savT_take r k hkn)
   have HNX := hide (show ∀ n, n ∈ [(Dr.itAt r k).n, (Dr.itAt r k).t, (Dr.itAt r k).k, (Dr.itAt r k).d] → 0 ≤ n ∧ n ≤ 9223372036854775807 from fun n hn => uh HNR n (by
        have e : savT (r.take (k + 1) ++ r.drop (k + 1)) = savT r := by rw [List.take_append_drop]
        rw [← e, savT_append, savT_take r k hkn]
        simp only [List.mem_append]
        exact .inl (.inr hn)))
   have HLT := hide hwr.lt
   have HWr := hide hwr
   have HVr := hide hvr
   have HKr := hide hkr
   have hk0 : (0 : Int) ≤ (k : Int) := by omega
   have hkE : (k : Int) < (n : Int) := by omega
   generalize Dr.itAt r k = x at *
   have hlb : (bs ++ encL (savT (r.take k))).length ≤ 140737488354240 := by
    have h1 := encL_length (savT (r.take k))
    rw [savT_length, List.length_take] at h1
    rw [List.length_append]; omega
   clear hwr hvr hkr HO
   obtain ⟨wa, hwa⟩ : ∃ wa, wa = wr.alloc (.cells #[.int .i64 x.t, .int .i64 x.k, .int .i64 x.d, .int .i64 x.n, .int .i64 x.v] 251) := ⟨_, rfl⟩
   have HBa := hide (show Blk wa wr.heap.size [.int .i64 x.t, .int .i64 x.k, .int .i64 x.d, .int .i64 x.n, .int .i64 x.v] 251 by rw [hwa]; exact Blk.new wr _ _)
   have HKa := hide (show Keeps (fun _ => False) wr wa by rw [hwa]; exact (Keeps.refl _ _).alloc _)
   have HWa := hide ((uh HWr).still (uh HKa))
   have HNF := hide (show ¬ WFoot b v' wr.heap.size from fun hf => by have := uh HLT _ hf; omega)
   obtain ⟨n0, n1⟩ := uh HNX x.n (by simp)
   have hc3 : wa.cell? ⟨wr.heap.size, 3, none⟩ = some (.int .i64 x.n) := (uh HBa).cell rfl
   have HEQ := hide hwa.symm
   clear hwa
   go_wp2_with fail
   rw [uh HEQ]
   refine (number_any b v' _ x.n wa (uh HWa) n0 n1 (by omega)).mono ?_
   rintro e w2 ⟨rfl, v2, hw2, hv2, hk2⟩
   have hlt2 : wr.heap.size < wa.heap.size := (uh HBa).lt
   have HB2 := hide ((uh HBa).keeps hk2 (uh HNF))
   have HNF2 := hide (wfoot_not (uh HNF) hv2 hlt2)
   have HW2 := hide hw2
   have HV2 := hide hv2
   have HK2 := hide hk2
   have HL2 := hide hw2.lt
   clear hw2 hv2 hk2 hc3 HBa
   go_wp2_with fail
   refine (ask_draw wr.heap.size w2).mono ?_
   rintro e w3 ⟨pv, rfl, hown3, hk3⟩
   obtain ⟨pa, pcap, hpv, _⟩ := row_form hown3
   subst hpv
   have HW3 := hide ((uh HW2).still hk3)
   have HB3 := hide ((uh HB2).keeps hk3 (fun h => h))
   have HO3 := hide hown3
   have HK3 := hide hk3
   clear hown3 hk3
   go_wp2_with fail
   refine (write_parts b v2 _ _ w2.heap.size wr.heap.size [0, 1, 2] [x.t, x.k, x.d] w3 (uh HW3) (uh HO3) (parts_tick (uh HB3)) (uh HNF2) (fun i hi h => by have := uh HL2 i h; omega) (fun n hn => uh HNX n (by simp at hn ⊢; exact .inr hn)) (by have := enc_length x.n; rw [List.length_append]; show _ + 10 * 3 ≤ _; omega) (by simp)).mono ?_
   rintro e w4 ⟨rfl, hw4⟩
   have HF := hide (show Wrote W1 b v (bs ++ encL (savT (r.take (k + 1)))) w4 by
      have hA := Wrote.then (uh HVr) (uh HKr) (Wrote.pre (uh HKa) (Wrote.then (uh HV2) (uh HK2) (Wrote.pre (uh HK3) hw4)))
      rw [uh HTK, encL_append]
      have e : encL [x.n, x.t, x.k, x.d] = enc x.n ++ encL [x.t, x.k, x.d] := encL_cons _ _
      rw [e]
      simp only [List.append_assoc] at hA ⊢
      exact hA)
   clear hw4
   go_wp2
   go_roundw
   case rel => exact ⟨k + 1, by go_num, by omega, HF⟩
   case measure => simp [intOf]; omega
  ·have hkE : k = n := by omega
   subst hkE
   go_wp2
   go_end0
   refine ⟨rfl, ?_⟩
   have h := uh HO
   rw [← uh HLN, List.take_length] at h
   exact Wrote.pre (uh HK1) h
end Go.Proofs.YtahnliehdjncdaaGreatDoor
namespace Go.Proofs.YtahnliehdjncdaaGreatDoor
open Go.RowKit
attribute [local go_sem ↓] Mk.execOp_fieldMk
attribute [local go_sem] Mk.run_fieldMk0 Mk.run_fieldMk1
theorem Wrote.kp {w w1 : World} {b : Nat} {v : Value} {bs : List Nat} (h : Wrote w b v bs w1) : Keeps (WFoot b v) w w1 := by obtain ⟨_, _, _, hk⟩ := h; exact hk
theorem Wrote.still {w w1 w2 : World} {b : Nat} {v : Value} {bs : List Nat} (h : Wrote w b v bs w1) (hk : Keeps (fun _ => False) w1 w2) : Wrote w b v bs w2 := by
 obtain ⟨v', a, c, d⟩ := h
 exact ⟨v', a.still hk, c, d.trans hk (fun _ h => h.elim)⟩
theorem number_w (b : Nat) (v : Value) (bs : List Nat) (n : Int) (w w1 : World) (h : Wrote w b v bs w1) (n0 : 0 ≤ n) (n1 : n ≤ 9223372036854775807) (hl : bs.length ≤ 140737488355300) :
  Calls Tryz.prog 71 #[.pointer (some ⟨b, 0, none⟩), .int .i64 n] w1 fun e w' => e = .returned (.tuple #[]) ∧ Wrote w b v (bs ++ enc n) w' := by
 obtain ⟨v', a, c, d⟩ := h
 exact (number_any b v' bs n w1 a n0 n1 hl).mono fun e w' ⟨he, hw⟩ => ⟨he, Wrote.then c d hw⟩
def marksN (l : List Bk) : List Int := l.flatMap fun b => [b.sz, b.t]
theorem marksN_append (a b : List Bk) : marksN (a ++ b) = marksN a ++ marksN b := by simp [marksN]
theorem marksN_length (l : List Bk) : (marksN l).length = 2 * l.length := by
 induction l with
 | nil => rfl
 | cons x l ih => simp [marksN] at ih ⊢; omega
def savR (l : List Bk) (t : Int) : List Int := ((l.length - Mk.pastN l t : Nat) : Int) :: marksN (l.drop (Mk.pastN l t))
theorem savR_length (l : List Bk) (t : Int) : (savR l t).length ≤ 1 + 2 * l.length := by
 unfold savR
 rw [List.length_cons, marksN_length, List.length_drop]; omega
def savD (ls : Nat → List Bk) (n : Nat) (t : Int) : List Int := (List.range n).flatMap fun i => savR (ls i) t
theorem savD_succ (ls : Nat → List Bk) (n : Nat) (t : Int) : savD ls (n + 1) t = savD ls n t ++ savR (ls n) t := by
 simp [savD, List.range_succ]
theorem savD_length (ls : Nat → List Bk) (n : Nat) (t : Int) (h : ∀ i, (ls i).length ≤ 40) : (savD ls n t).length ≤ 81 * n := by
 induction n with
 | zero => simp [savD]
 | succ n ih => have h1 := savR_length (ls n) t; have h2 := h n; rw [savD_succ, List.length_append]; omega
theorem marks_next (l : List Bk) (p j : Nat) (x : Bk) (h : p + j < l.length) (hx : bkAt l (p + j) = x) : marksN ((l.drop p).take (j + 1)) = marksN ((l.drop p).take j) ++ [x.sz, x.t] := by
 have hj : j < (l.drop p).length := by rw [List.length_drop]; omega
 rw [List.take_add_one, marksN_append, List.getElem?_eq_getElem hj]
 subst hx
 simp [marksN, bkAt, List.getD_eq_getElem?_getD, List.getElem?_eq_getElem h]
theorem mkAt_mem {l : List Bk} {i : Nat} (h : i < l.length) : bkAt l i ∈ l := by
 have : bkAt l i = l[i] := by simp [bkAt, List.getD_eq_getElem?_getD, List.getElem?_eq_getElem h]
 rw [this]; exact List.getElem_mem h
theorem disSave_any (d rg : Nat) (qs : List (Nat × Option Nat)) (c : Cfg) (ls : Nat → List Bk) (b : Nat) (v : Value) (bs : List Nat) (m : Int) (w : World) (h : DRep w d rg qs c ls) (hw : WRep w b v bs) (hf : ∀ i, WFoot b v i → i ≠ d ∧ i ≠ rg ∧ ∀ j, j < qs.length → ¬ qf (qAt qs j) i)
  (hq2 : qs.length ≤ 16) (w0 : 0 ≤ c.window) (w1 : c.window ≤ 1000) (m0 : -100 ≤ m) (m1 : m ≤ 4611686018427387904)
  (hl : ∀ i, (ls i).length ≤ 40) (hr : ∀ i, ∀ b ∈ ls i, 0 ≤ b.sz ∧ b.sz ≤ 4611686018427387904 ∧ 1 ≤ b.t ∧ b.t ≤ 40) (hbl : bs.length ≤ 140737488300000) :
  Calls Tryz.prog 169 #[.pointer (some ⟨d, 0, none⟩), .pointer (some ⟨b, 0, none⟩), .int .i64 m] w fun e w' => e = .returned (.tuple #[]) ∧ Wrote w b v (bs ++ encL (savD ls qs.length (m - c.window))) w' := by
 obtain ⟨n, hn⟩ : ∃ n, n = qs.length := ⟨_, rfl⟩
 have c20 : w.cell? ⟨d, 20, none⟩ = some (.slice (some ⟨rg, 0, none⟩) n n) := by rw [hn]; exact h.blk.cell rfl
 have HD := hide (show ∀ w', Keeps (WFoot b v) w w' → DRep w' d rg qs c ls from fun w' hk => h.keeps hk (fun hi => (hf d hi).1 rfl) (fun hi => (hf rg hi).2.1 rfl) (fun j a hj hq hi => (hf a hi).2.2 j hj hq))
 have HW := hide hw
 have HL := hide hl
 have HR := hide hr
 have HN := hide hn
 rw [← hn] at hq2 ⊢
 obtain ⟨t, ht⟩ : ∃ t, m - c.window = t := ⟨_, rfl⟩
 rw [ht]
 have hsub : IntKind.i64.wrap (m - c.window) = t := by rw [IntKind.wrap_i64]; omega
 clear h hw hf hl hr hn
 have hn0 : (0 : Int) ≤ (n : Int) := by omega
 go_enter Tryz.func169, Tryz.ntmps169
 go_wp2_with fail
 clear c20
 go_loopw [15] (fun i wr => ∃ (k : Nat), i = .int .i64 k ∧ k ≤ n ∧ Hid (Wrote w b v (bs ++ encL (savD ls k t)) wr)) (fun i _ => n - (intOf i).toNat)
 case atStart => exact ⟨0, rfl, Nat.zero_le _, by show Wrote _ _ _ _ _; simp only [savD, List.range_zero, List.flatMap_nil, encL_nil, List.append_nil]; exact Wrote.refl (uh HW)⟩
 case round =>
  obtain ⟨k, rfl, hk, HO⟩ := hrel
  have hk0 : (0 : Int) ≤ (k : Int) := by omega
  by_cases hlt : k < n
  ·have hkn : (k : Int) < (n : Int) := by omega
   have hkq : k < qs.length := by have := uh HN; omega
   have HDr := hide (uh HD wr (uh HO).kp)
   obtain ⟨q, hq'⟩ : ∃ q, qAt qs k = q := ⟨_, rfl⟩
   have cr : wr.cell? ⟨rg, k, none⟩ = some (.pointer (some ⟨q.1, 0, none⟩)) := by rw [← hq']; exact (uh HDr).reg.cell (ptrsQ_get hkq)
   have c5 : wr.cell? ⟨d, 5, none⟩ = some (.int .i64 c.window) := (uh HDr).blk.cell rfl
   have HRow := hide (show ∀ w', Keeps (WFoot b v) w w' → Mk.RowRep w' q.1 q.2 (ls k) from fun w' hk' => by rw [← hq']; exact (uh HD w' hk').row k hkq)
   have HP := hide (Mk.past_any q.1 q.2 (ls k) t wr (uh HRow wr (uh HO).kp) (by have := uh HL k; omega))
   have HLk := hide (savD_succ ls k t)
   have HLN := hide (savD_length ls k t (uh HL))
   obtain ⟨l, hl⟩ : ∃ l, ls k = l := ⟨_, rfl⟩
   have HRl := hide (uh HR k)
   have hlk := uh HL k
   rw [hl] at HRl HP HRow HLk hlk
   have hple := Mk.pastN_le l t
   obtain ⟨len, hlen⟩ : ∃ len, l.length = len := ⟨_, rfl⟩
   obtain ⟨p, hp⟩ : ∃ p, Mk.pastN l t = p := ⟨_, rfl⟩
   have HSR := hide (show savR l t = ((len - p : Nat) : Int) :: marksN (l.drop p) by unfold savR; rw [hp, hlen])
   rw [hp] at HP hple
   rw [hlen] at hple hlk
   have HLE := hide hlen
   obtain ⟨r, hr⟩ : ∃ r : Nat, len - p = r := ⟨_, rfl⟩
   have hrI : (len : Int) - (p : Int) = (r : Int) := by omega
   have hwr1 : IntKind.i64.wrap ((len : Int) - (p : Int)) = (r : Int) := by rw [IntKind.wrap_i64]; omega
   rw [hr] at HSR
   clear hl hlen hp hq' hkq HDr
   go_wp2_with fail
   refine (uh HP).mono ?_
   rintro e W1 ⟨rfl, hk1⟩
   have HO1 := hide ((uh HO).still hk1)
   clear hk1 cr c5 HP
   go_wp2_with (go_at_call 211; refine (Mk.rowLen_int q.1 q.2 l len _ (uh HRow _ (uh HO1).kp) (by rw [uh HLE])).mono ?_; rintro e w' ⟨rfl, hw'⟩; rw [hw']; clear hw' w')
   have hlb : (bs ++ encL (savD ls k t)).length ≤ 140737488320000 := by
    have h1 := encL_length (savD ls k t)
    have h2 := uh HLN
    rw [List.length_append]; omega
   refine (number_w b v _ r w W1 (uh HO1) (by omega) (by omega) (by omega)).mono ?_
   rintro e W2 ⟨rfl, hw2⟩
   have HO2 := hide hw2
   clear hw2 HO1 HO
   go_wp2_with fail
   go_loopw [9] (fun i wr => ∃ (j : Nat), i = .int .i64 ((p + j : Nat) : Int) ∧ j ≤ r ∧ Hid (Wrote w b v (bs ++ encL (savD ls k t) ++ enc r ++ encL (marksN ((l.drop p).take j))) wr)) (fun i _ => len - (intOf i).toNat)
   case atStart => exact ⟨0, rfl, Nat.zero_le _, by show Wrote _ _ _ _ _; simp only [List.take_zero, marksN, List.flatMap_nil, encL_nil, List.append_nil]; exact uh HO2⟩
   case round =>
    obtain ⟨j, rfl, hj, HOr⟩ := hrel
    obtain ⟨pj, hpj⟩ : ∃ pj, p + j = pj := ⟨_, rfl⟩
    rw [hpj]
    by_cases hjr : j < r
    ·have hpl : pj < len := by omega
     have hplI : (pj : Int) < (len : Int) := by omega
     have hpl2 : pj < l.length := by rw [uh HLE]; exact hpl
     obtain ⟨x, hx⟩ : ∃ x, bkAt l pj = x := ⟨_, rfl⟩
     have HX := hide hx
     have HNX := hide (marks_next l p j x (by rw [hpj]; exact hpl2) (by rw [hpj]; exact hx))
     obtain ⟨x0, x1, x2, x3⟩ := uh HRl x (by rw [← hx]; exact mkAt_mem hpl2)
     have HPL := hide hpl2
     have hlb2 : (bs ++ encL (savD ls k t) ++ enc r ++ encL (marksN ((l.drop p).take j))).length ≤ 140737488330000 := by
      have h1 := encL_length (marksN ((l.drop p).take j))
      have h2 := enc_length r
      rw [marksN_length, List.length_take, List.length_drop, uh HLE] at h1
      rw [List.length_append, List.length_append]
      omega
     clear hx hpl2
     go_wp2_with (first
        | (go_at_call 211; refine (Mk.rowLen_int q.1 q.2 l len _ (uh HRow _ (uh HOr).kp) (by rw [uh HLE])).mono ?_; rintro e w' ⟨rfl, hw'⟩; rw [hw']; clear hw' w')
        | (go_at_call 212; fail))
     refine (Mk.rowAt_is q.1 q.2 l pj x _ (uh HRow _ (uh HOr).kp) (uh HPL) (uh HX)).mono ?_
     rintro e W3 ⟨rfl, hk3⟩
     have HO3 := hide ((uh HOr).still hk3)
     clear hk3
     go_wp2_with fail
     refine (number_w b v _ x.sz w W3 (uh HO3) (by omega) (by omega) (by omega)).mono ?_
     rintro e W4 ⟨rfl, hw4⟩
     have HO4 := hide hw4
     clear hw4 HO3
     go_wp2_with fail
     refine (Mk.rowAt_is q.1 q.2 l pj x _ (uh HRow _ (uh HO4).kp) (uh HPL) (uh HX)).mono ?_
     rintro e W5 ⟨rfl, hk5⟩
     have HO5 := hide ((uh HO4).still hk5)
     clear hk5 HO4
     go_wp2_with fail
     refine (number_w b v _ x.t w W5 (uh HO5) (by omega) (by omega) (by have := enc_length x.sz; rw [List.length_append]; omega)).mono ?_
     rintro e W6 ⟨rfl, hw6⟩
     have HO6 := hide hw6
     clear hw6 HO5
     go_wp2
     go_roundw
     case rel =>
      refine ⟨j + 1, by go_num, by omega, ?_⟩
      show Wrote _ _ _ _ _
      have := uh HO6
      rw [uh HNX, encL_append, encL_cons, encL_one]
      simp only [List.append_assoc] at this ⊢
      exact this
     case measure => simp [intOf]; omega
    ·have hjE : j = r := by omega
     have hpl : pj = len := by omega
     clear hpj
     subst hpl
     have hf : decide ((pj : Int) < (pj : Int)) = false := by simp
     go_wp2_with (go_at_call 211; refine (Mk.rowLen_int q.1 q.2 l pj _ (uh HRow _ (uh HOr).kp) (by rw [uh HLE])).mono ?_; rintro e w' ⟨rfl, hw'⟩; rw [hw']; clear hw' w')
     go_roundw
     case rel =>
      refine ⟨k + 1, by go_num, by omega, ?_⟩
      show Wrote _ _ _ _ _
      have := uh HOr
      rw [uh HLk, uh HSR, encL_append, encL_cons]
      rw [List.take_of_length_le (by rw [List.length_drop, uh HLE]; omega)] at this
      simp only [List.append_assoc] at this ⊢
      exact this
     case measure => simp [intOf]; omega
  ·have hkE : k = n := by omega
   subst hkE
   go_wp2
   go_end0
   exact ⟨rfl, uh HO⟩
end Go.Proofs.YtahnliehdjncdaaGreatDoor
namespace Go.Proofs.YtahnliehdjncdaaGreatDoor
open Go.RowKit
attribute [local go_sem ↓] Pa.execOp_loadP Pa.execOp_storeP execOp_loadC execOp_buildK execOp_buildN execOp_storeC
attribute [local go_sem] Pa.run_loadP run_loadC run_buildK run_buildN zeros48_length bigVal_drew hasBig_drew run_fieldC run_storeC
def rowN (wd : Nat) (cs : List Int) (r : Nat) : List Int := (List.range wd).map fun j => cs.getD (r * 16 + j) 0
def cellsN (rs wd : Nat) (cs : List Int) : List Int := (List.range rs).flatMap (rowN wd cs)
def paneN (c : Cfg) (p : Pa.Pn) : List Int := p.no :: cellsN c.rows.toNat c.width.toNat p.cs
def panesN (c : Cfg) (l : List Pa.Pn) : List Int := l.flatMap (paneN c)
def savO (c : Cfg) (o : Pa.Pn) (cl : List Pa.Pn) (t : Int) : List Int := ((panesO c o cl t).length : Int) :: panesN c (panesO c o cl t)
theorem rowN_succ (wd : Nat) (cs : List Int) (r : Nat) : rowN (wd + 1) cs r = rowN wd cs r ++ [cs.getD (r * 16 + wd) 0] := by simp [rowN, List.range_succ]
theorem cellsN_succ (rs wd : Nat) (cs : List Int) : cellsN (rs + 1) wd cs = cellsN rs wd cs ++ rowN wd cs rs := by simp [cellsN, List.range_succ]
theorem rowN_length (wd : Nat) (cs : List Int) (r : Nat) : (rowN wd cs r).length = wd := by simp [rowN]
theorem cellsN_length (rs wd : Nat) (cs : List Int) : (cellsN rs wd cs).length = rs * wd := by
 induction rs with
 | zero => simp [cellsN]
 | succ n ih => rw [cellsN_succ, List.length_append, rowN_length, ih, Nat.succ_mul]
theorem panesN_append (c : Cfg) (a b : List Pa.Pn) : panesN c (a ++ b) = panesN c a ++ panesN c b := by simp [panesN]
theorem paneN_length (c : Cfg) (p : Pa.Pn) (h3 : c.rows.toNat ≤ 3) (h16 : c.width.toNat ≤ 16) : (paneN c p).length ≤ 49 := by
 unfold paneN
 rw [List.length_cons, cellsN_length]
 have := Nat.mul_le_mul h3 h16
 omega
theorem panesN_length (c : Cfg) (l : List Pa.Pn) (h3 : c.rows.toNat ≤ 3) (h16 : c.width.toNat ≤ 16) : (panesN c l).length ≤ 49 * l.length := by
 induction l with
 | nil => simp [panesN]
 | cons p l ih =>
  have h1 := paneN_length c p h3 h16
  have e : panesN c (p :: l) = paneN c p ++ panesN c l := by simp [panesN]
  rw [e, List.length_append, List.length_cons]; omega
theorem panesN_take (c : Cfg) (L : List Pa.Pn) (k : Nat) (h : k < L.length) : panesN c (L.take (k + 1)) = panesN c (L.take k) ++ paneN c (Pa.pnAt L k) := by
 rw [List.take_succ_eq_append_getElem h, panesN_append]
 congr 1
 simp [panesN, Pa.pnAt, List.getD_eq_getElem?_getD, List.getElem?_eq_getElem h]
theorem oftSave_any (d q : Nat) (og : Option Nat) (c : Cfg) (o : Pa.Pn) (cl : List Pa.Pn) (b : Nat) (v : Value) (bs : List Nat) (m : Int) (w : World) (h : ORep w d q og c o cl) (hw : WRep w b v bs) (hfd : ¬ WFoot b v d) (hc : c.paned) (hl : cl.length ≤ 1000) (hp : ∀ p ∈ cl, OkP c p) (ho : OkP c o)
  (hcs : ∀ x ∈ o.cs, 0 ≤ x ∧ x ≤ 4611686018427387904) (hls : ∀ p ∈ cl, ∀ x ∈ p.cs, 0 ≤ x ∧ x ≤ 4611686018427387904) (r0 : 0 ≤ c.rows) (r3 : c.rows ≤ 3) (wd0 : 0 ≤ c.width) (wd1 : c.width ≤ 16) (m0 : -100 ≤ m) (m1 : m ≤ 4611686018427387904) (hbl : bs.length ≤ 140737480000000) :
  Calls Tryz.prog 174 #[.pointer (some ⟨d, 0, none⟩), .pointer (some ⟨b, 0, none⟩), .int .i64 m] w fun e w' => e = .returned (.tuple #[]) ∧ Wrote w b v (bs ++ encL (savO c o cl (m - c.window))) w' := by
 have c5 : w.cell? ⟨d, 5, none⟩ = some (.int .i64 c.window) := h.blk.cell (by rw [oft_get c o q 5 (by omega)]; rfl)
 have c7 : w.cell? ⟨d, 7, none⟩ = some (.int .i64 c.rows) := h.blk.cell (by rw [oft_get c o q 7 (by omega)]; rfl)
 have c8 : w.cell? ⟨d, 8, none⟩ = some (.int .i64 c.width) := h.blk.cell (by rw [oft_get c o q 8 (by omega)]; rfl)
 have hdl := h.blk.lt
 have hw0 := hc.w0
 have hw1 := hc.w1
 obtain ⟨t, ht⟩ : ∃ t, m - c.window = t := ⟨_, rfl⟩
 have hsub : IntKind.i64.wrap (m - c.window) = t := by rw [IntKind.wrap_i64]; omega
 rw [ht]
 have HPN := hide (panes_any d q og c o cl t w h hc hl hp ho)
 have HSO := hide (show savO c o cl t = ((panesO c o cl t).length : Int) :: panesN c (panesO c o cl t) from rfl)
 have HPL := hide (show (panesO c o cl t).length ≤ 1001 by
    unfold panesO
    rw [List.length_append, List.length_drop]
    split <;> simp <;> omega)
 have HLS := hide (show ∀ p ∈ panesO c o cl t, OkP c p ∧ ∀ x ∈ p.cs, 0 ≤ x ∧ x ≤ 4611686018427387904 from fun p hp' => by
    unfold panesO at hp'
    rcases List.mem_append.1 hp' with h1 | h1
    ·exact ⟨hp p (List.mem_of_mem_drop h1), hls p (List.mem_of_mem_drop h1)⟩
    ·split at h1
     ·rw [List.mem_singleton] at h1; rw [h1]; exact ⟨ho, hcs⟩
     ·cases h1)
 generalize panesO c o cl t = L at *
 have HW := hide hw
 have HFD := hide hfd
 have HTN := hide ht
 obtain ⟨rs, hrs⟩ : ∃ rs : Nat, c.rows = rs := ⟨c.rows.toNat, by omega⟩
 obtain ⟨wd, hwd⟩ : ∃ wd : Nat, c.width = wd := ⟨c.width.toNat, by omega⟩
 have HPA := hide (show ∀ p, paneN c p = p.no :: cellsN rs wd p.cs from fun p => by unfold paneN; rw [hrs, hwd]; rfl)
 have HR3 := hide (show c.rows.toNat ≤ 3 ∧ c.width.toNat ≤ 16 by omega)
 rw [hrs] at c7 r3
 rw [hwd] at c8 wd1
 clear hc hp ho hcs hls h hl hw hfd ht hrs hwd r0 wd0
 have hrs3 : rs ≤ 3 := by omega
 have hwd16 : wd ≤ 16 := by omega
 go_enter Tryz.func174, Tryz.ntmps174
 go_wp2_with fail
 refine (uh HPN).mono ?_
 rintro e W1 ⟨pv, rfl, hown1, hk1⟩
 obtain ⟨va, vcap, hv, hva⟩ := row_form hown1
 subst hv
 have HLT := hide (uh HW).lt
 have HW1 := hide (Wrote.refl ((uh HW).still hk1))
 have HK1 := hide hk1
 have HOW := hide hown1
 have HVA := hide hva
 have d7 : W1.cell? ⟨d, 7, none⟩ = some (.int .i64 rs) := hk1.cell c7 (fun h => h)
 have d8 : W1.cell? ⟨d, 8, none⟩ = some (.int .i64 wd) := hk1.cell c8 (fun h => h)
 have hdl1 : d < W1.heap.size := Nat.lt_of_lt_of_le hdl hk1.size
 have HSZ := hide hk1.size
 have HD7 := hide d7
 have HD8 := hide d8
 clear hk1 HPN hown1 hva c5 c7 c8 d7 d8 hdl hsub
 generalize hn : L.length = n at *
 have HN := hide hn
 clear hn
 have hn1 : n ≤ 1001 := uh HPL
 go_wp2_with fail
 refine (number_w b v bs n W1 W1 (uh HW1) (by omega) (by omega) (by omega)).mono ?_
 rintro e W2 ⟨rfl, hw2⟩
 have HO2 := hide hw2
 clear hw2 HW1
 have hlen0 : (bs ++ enc (n : Int)).length ≤ 140737480000010 := by have := enc_length (n : Int); rw [List.length_append]; omega
 obtain ⟨bs0, hbs0⟩ : ∃ bs0, bs ++ enc (n : Int) = bs0 := ⟨_, rfl⟩
 rw [hbs0] at hlen0 HO2
 have HB0 := hide hbs0
 clear hbs0
 go_wp2_with fail
 go_loopw [26] (fun i wr => ∃ k : Nat, i = .int .i64 k ∧ k ≤ n ∧ Hid (Wrote W1 b v (bs0 ++ encL (panesN c (L.take k))) wr)) (fun i _ => n - (intOf i).toNat)
 case atStart => exact ⟨0, rfl, Nat.zero_le _, by show Wrote _ _ _ _ _; simp only [List.take_zero, panesN, List.flatMap_nil, encL_nil, List.append_nil]; exact uh HO2⟩
 case round =>
  obtain ⟨k, rfl, hk2, HO⟩ := hrel
  have hk0 : (0 : Int) ≤ (k : Int) := by omega
  by_cases hlk : k < n
  ·obtain ⟨g, hg, hgb⟩ := uh HVA (by omega)
   subst hg
   have hkl : k < L.length := by rw [uh HN]; exact hlk
   obtain ⟨v', hwr, hvr, hkr⟩ := uh HO
   have HBW := hide (show Pa.BRow wr g vcap L from by
      refine Pa.brow_of_owns (uh HN) (owns_zero (ownsM (uh HOW) hkr (fun i hi h => ?_)))
      have : g = i := by simpa [Value.ownBlock] using hi
      have := uh HLT i h
      omega)
   have hrg := bigCells_of_range ((uh HBW).range k hkl)
   rw [Pa.Pn.cells_length] at hrg
   have hbv : bigVal wr g (k * 49) 49 = .agg (Pa.pnAt L k).cells.toArray := by unfold bigVal; rw [hrg.1]
   have hbh : hasBig wr g (k * 49) 49 = true := hrg.2
   have HTK := hide (panesN_take c L k hkl)
   have HM := hide (uh HLS (Pa.pnAt L k) (by
        have : Pa.pnAt L k = L[k] := by simp [Pa.pnAt, List.getD_eq_getElem?_getD, List.getElem?_eq_getElem hkl]
        rw [this]; exact List.getElem_mem hkl))
   have HLK := hide (show (bs0 ++ encL (panesN c (L.take k))).length ≤ 140737481000000 by
      have h1 := encL_length (panesN c (L.take k))
      have h2 := panesN_length c (L.take k) (uh HR3).1 (uh HR3).2
      rw [List.length_take] at h2
      rw [List.length_append]
      omega)
   obtain ⟨bk, hbk⟩ : ∃ bk, bs0 ++ encL (panesN c (L.take k)) = bk := ⟨_, rfl⟩
   rw [hbk] at HLK hwr
   have HBK := hide hbk
   have HWr := hide hwr
   have HVr := hide hvr
   have HKr := hide hkr
   have HLTr := hide hwr.lt
   clear hrg hkl hbk hwr hvr hkr HO
   generalize Pa.pnAt L k = x at *
   obtain ⟨W2, hst, hb2, hk2w⟩ := store_new x wr
   have HB2 := hide hb2
   have hxl := x.len
   have hxc := x.cells_length
   have HKa := hide hk2w
   have HWa := hide ((uh HWr).still hk2w)
   have HNF := hide (show ¬ WFoot b v' wr.heap.size from fun hf => by have := uh HLTr _ hf; omega)
   have HNFd := hide (wfoot_not (uh HFD) (uh HVr) hdl1)
   have hgs : g ≠ wr.heap.size := by have := (uh HBW).lt; omega
   have hin : (k : Int) < (n : Int) := by omega
   have hno : W2.cell? ⟨wr.heap.size, 0, none⟩ = some (.int .i64 x.no) := hb2.cell rfl
   have HC7 := hide (show ∀ w', Keeps (WFoot b v') W2 w' → w'.cell? ⟨d, 7, none⟩ = some (.int .i64 rs) from fun w' hk' => hk'.cell (hk2w.cell ((uh HKr).cell (uh HD7) (uh HFD)) (fun h => h)) (uh HNFd))
   have HC8 := hide (show ∀ w', Keeps (WFoot b v') W2 w' → w'.cell? ⟨d, 8, none⟩ = some (.int .i64 wd) from fun w' hk' => hk'.cell (hk2w.cell ((uh HKr).cell (uh HD8) (uh HFD)) (fun h => h)) (uh HNFd))
   have hno0 := (uh HM).1.1
   have hno1 := (uh HM).1.2.1
   have HXB := hide (uh HM).2
   have hbk1 := uh HLK
   clear hb2 hk2w
   go_wp2_with fail
   refine (number_any b v' bk x.no W2 (uh HWa) hno0 (by omega) (by omega)).mono ?_
   rintro e W3 ⟨rfl, hw3⟩
   have HO3 := hide hw3
   clear hw3 hno hbv hbh hst
   have e7 : W3.cell? ⟨d, 7, none⟩ = some (.int .i64 rs) := uh HC7 W3 (uh HO3).kp
   go_wp2_with fail
   clear e7
   generalize hxb : wr.heap.size = xb at *
   obtain ⟨wo, hwo⟩ : ∃ wo, wo = wr := ⟨_, rfl⟩
   rw [← hwo] at HKa HKr HBW
   clear hwo hxb HWr HLTr
   go_loopw [39] (fun i wr => ∃ r : Nat, i = .int .i64 r ∧ r ≤ rs ∧ Hid (Wrote W2 b v' (bk ++ enc x.no ++ encL (cellsN r wd x.cs)) wr)) (fun i _ => rs - (intOf i).toNat)
   case atStart => exact ⟨0, rfl, Nat.zero_le _, by show Wrote _ _ _ _ _; simp only [cellsN, List.range_zero, List.flatMap_nil, encL_nil, List.append_nil]; exact uh HO3⟩
   case round =>
    obtain ⟨r, rfl, hr2, HOr⟩ := hrel
    have hr0 : (0 : Int) ≤ (r : Int) := by omega
    by_cases hrl : r < rs
    ·have hrI : (r : Int) < (rs : Int) := by omega
     have hr3 : (r : Int) < 3 := by omega
     have e8 : wr.cell? ⟨d, 8, none⟩ = some (.int .i64 wd) := uh HC8 wr (uh HOr).kp
     obtain ⟨bk2, hbk2⟩ : ∃ bk2, bk ++ enc x.no ++ encL (cellsN r wd x.cs) = bk2 := ⟨_, rfl⟩
     have hbl2 : bk2.length ≤ 140737481001000 := by
      have h1 := encL_length (cellsN r wd x.cs)
      have h2 := enc_length x.no
      rw [cellsN_length] at h1
      have := Nat.mul_le_mul (show r ≤ 3 by omega) hwd16
      rw [← hbk2, List.length_append, List.length_append]; omega
     rw [hbk2] at HOr
     have HBK2 := hide hbk2
     clear hbk2
     go_wp2_with fail
     clear e8
     obtain ⟨wp, hwp⟩ : ∃ wp, wp = wr := ⟨_, rfl⟩
     clear hwp
     go_loopw [47] (fun i wr => ∃ j : Nat, i = .int .i64 j ∧ j ≤ wd ∧ Hid (Wrote W2 b v' (bk2 ++ encL (rowN j x.cs r)) wr)) (fun i _ => wd - (intOf i).toNat)
     case atStart => exact ⟨0, rfl, Nat.zero_le _, by show Wrote _ _ _ _ _; simp only [rowN, List.range_zero, List.map_nil, encL_nil, List.append_nil]; exact uh HOr⟩
     case round =>
      obtain ⟨j, rfl, hj2, HOj⟩ := hrel
      have hj0 : (0 : Int) ≤ (j : Int) := by omega
      by_cases hjl : j < wd
      ·have hjI : (j : Int) < (wd : Int) := by omega
       have hj16 : (j : Int) < 16 := by omega
       have hil : r * 16 + j < x.cs.length := by omega
       obtain ⟨y, hy⟩ : ∃ y, x.cs.getD (r * 16 + j) 0 = y := ⟨_, rfl⟩
       have hy2 : x.cs[r * 16 + j]? = some y := by rw [← hy, List.getD_eq_getElem?_getD, List.getElem?_eq_getElem hil]; rfl
       obtain ⟨y0, y1⟩ := uh HXB y (List.mem_of_getElem? hy2)
       have hcy : wr.cell? ⟨xb, 1 + r * 16 + j, none⟩ = some (.int .i64 y) := (uh HOj).kp.cell ((uh HB2).cell (by
            unfold Pa.Pn.cells
            rw [show 1 + r * 16 + j = (r * 16 + j) + 1 by omega, List.getElem?_cons_succ, List.getElem?_map, hy2]
            rfl)) (uh HNF)
       have HNX := hide (show rowN (j + 1) x.cs r = rowN j x.cs r ++ [y] by rw [rowN_succ, hy])
       have hbl3 : (bk2 ++ encL (rowN j x.cs r)).length ≤ 140737481002000 := by
        have h1 := encL_length (rowN j x.cs r)
        rw [rowN_length] at h1
        rw [List.length_append]; omega
       clear hy hy2 hil
       go_wp2_with fail
       refine (number_w b v' _ y W2 wr (uh HOj) y0 (by omega) (by omega)).mono ?_
       rintro e W5 ⟨rfl, hw5⟩
       have HO5 := hide hw5
       clear hw5 hcy
       go_wp2
       go_roundw
       case rel =>
        refine ⟨j + 1, by go_num, by omega, ?_⟩
        show Wrote _ _ _ _ _
        have := uh HO5
        rw [uh HNX, encL_append, encL_one]
        simp only [List.append_assoc] at this ⊢
        exact this
       case measure => simp [intOf]; omega
      ·have hjE : j = wd := by omega
       subst hjE
       go_wp2
       go_roundw
       case rel =>
        refine ⟨r + 1, by go_num, by omega, ?_⟩
        show Wrote _ _ _ _ _
        have := uh HOj
        rw [← uh HBK2] at this
        rw [cellsN_succ, encL_append]
        simp only [List.append_assoc] at this ⊢
        exact this
       case measure => simp [intOf]; omega
    ·have hrE : r = rs := by omega
     subst hrE
     go_wp2
     go_roundw
     case rel =>
      refine ⟨k + 1, by go_num, by omega, ?_⟩
      show Wrote _ _ _ _ _
      have h5 := Wrote.then (uh HVr) (uh HKr) (Wrote.pre (uh HKa) (uh HOr))
      rw [uh HTK, encL_append, uh HPA, encL_cons]
      rw [← uh HBK] at h5
      simp only [List.append_assoc] at h5 ⊢
      exact h5
     case measure => simp [intOf]; omega
  ·have hkE : k = n := by omega
   subst hkE
   go_wp2
   go_end0
   refine ⟨rfl, Wrote.pre (uh HK1) ?_⟩
   have h5 := uh HO
   rw [List.take_of_length_le (by rw [uh HN]; omega), ← uh HB0] at h5
   rw [uh HSO, encL_cons, ← List.append_assoc]
   exact h5
end Go.Proofs.YtahnliehdjncdaaGreatDoor
