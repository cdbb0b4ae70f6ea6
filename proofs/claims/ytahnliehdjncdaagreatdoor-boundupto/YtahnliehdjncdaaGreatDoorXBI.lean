import Derived.Test.YtahnliehdjncdaaGreatDoorXBH
import Derived.Test.YtahnliehdjncdaaGreatDoorXBC
import Derived.Deep.DrawnRows
import Derived.Test.YtahnliehdjncdaaGreatDoorXAD
set_option maxRecDepth 100000
set_option maxHeartbeats 16000000
namespace Go.Proofs.YtahnliehdjncdaaGreatDoor
open Go.RowKit
def sumH (l : List Nat) : Int := l.foldl (fun a (b : Nat) => hashD 1000003000007 b a) 1
theorem sumH_snoc (l : List Nat) (b : Nat) : sumH (l ++ [b]) = hashD 1000003000007 b (sumH l) := by simp [sumH]
theorem fold_hash_bd (l : List Nat) (a : Int) (h0 : 0 ≤ a) (h1 : a < 2305843009213693951) : 0 ≤ l.foldl (fun a (b : Nat) => hashD 1000003000007 b a) a ∧ l.foldl (fun a (b : Nat) => hashD 1000003000007 b a) a < 2305843009213693951 := by
 induction l generalizing a with
 | nil => exact ⟨h0, h1⟩
 | cons b l ih => have := hashD_bd 1000003000007 b a; exact ih _ this.1 this.2
theorem sumH_bd (l : List Nat) : 0 ≤ sumH l ∧ sumH l < 2305843009213693951 := fold_hash_bd l 1 (by omega) (by omega)
theorem sum_any (v : Value) (bs : List Nat) (w : World) (h : WRow w v bs) (hs : ∀ x ∈ bs, x < 256) (hl : bs.length ≤ 140737488355320) :
  Calls Tryz.prog 99 #[v] w fun e w' => e = .returned (.int .i64 (sumH bs)) ∧ Keeps (fun _ => False) w w' := by
 have HW := hide h
 have HS := hide hs
 obtain ⟨va, vcap, hv⟩ := h.form
 subst hv
 clear h hs
 generalize hn : bs.length = n at *
 have HN := hide hn
 clear hn
 go_enter Tryz.func99, Tryz.ntmps99
 go_wp2
 go_loopw [3, 8] (fun a i wr => ∃ k : Nat, i = .int .i64 k ∧ k ≤ n ∧ a = .int .i64 (sumH (bs.take k)) ∧ Hid (Keeps (fun _ => False) w wr)) (fun _ i _ => n - (intOf i).toNat)
 case atStart => exact ⟨0, rfl, Nat.zero_le _, rfl, Keeps.refl _ _⟩
 case round =>
  obtain ⟨k, rfl, hk, rfl, HK⟩ := hrel
  by_cases hlk : k < n
  ·have hkb : k < bs.length := by rw [uh HN]; exact hlk
   obtain ⟨y, hy⟩ : ∃ y, bs[k]? = some y := ⟨_, List.getElem?_eq_getElem hkb⟩
   have hy6 := uh HS y (List.mem_of_getElem? hy)
   have HNX := hide (show sumH (bs.take (k + 1)) = hashD 1000003000007 y (sumH (bs.take k)) by rw [List.take_add_one, hy]; exact sumH_snoc _ _)
   obtain ⟨g, cap, hv, hc⟩ : ∃ g cap, (Value.slice va n vcap) = .slice (some ⟨g, 0, none⟩) n cap ∧ ∀ (i : Nat) u, (bytesV bs)[i]? = some u → w.cell? ⟨g, i, none⟩ = some u := by
    rcases (uh HW).cells with ⟨h0, _⟩ | ⟨g, cap, hv, hc⟩
    ·omega
    ·exact ⟨g, cap, by rw [hv, uh HN], hc⟩
   injection hv with hv1 _ hv2
   subst hv1 hv2
   have hck : wr.cell? ⟨g, k, none⟩ = some (.int .u8 (y : Int)) := (uh HK).cell (hc k _ (by unfold bytesV; rw [List.getElem?_map, hy]; rfl)) (fun h => h)
   have hwb : IntKind.i64.wrap (y : Int) = (y : Int) := (by rw [IntKind.wrap_i64]; omega)
   have hb := sumH_bd (bs.take k)
   generalize sumH (bs.take k) = S at *
   have hk0 : (0 : Int) ≤ (k : Int) := by omega
   have hkm : (k : Int) < (n : Int) := by omega
   clear hc hy hkb
   go_wp2_with fail
   refine (hash_big 1000003000007 (y : Int) S wr (by omega) (by omega) (by omega) (by omega) hb.1 (by omega)).mono ?_
   rintro e w1 ⟨rfl, hk1⟩
   have HK1 := hide ((uh HK).then hk1)
   clear hk1 hck
   go_wp2
   go_roundw
   case rel => exact ⟨k + 1, by go_num, by omega, by rw [uh HNX], uh HK1⟩
   case measure => simp [intOf]; omega
  ·have hkn : k = n := by omega
   subst hkn
   have HT := hide (show bs.take k = bs from List.take_of_length_le (by rw [uh HN]; omega))
   go_wp2
   go_ret
   exact ⟨by rw [uh HT]; rfl, uh HK⟩
def strB (l : List Nat) : ByteArray := strOfNums (l.map fun (n : Nat) => (n : Int))
theorem bytesV_get (l : List Nat) (i : Nat) (hi : i < l.length) : (bytesV l)[i]? = some (.int .u8 ((l.map fun (n : Nat) => (n : Int)).getD i 0)) := by
 unfold bytesV
 rw [List.getElem?_map, List.getD_eq_getElem?_getD, List.getElem?_map, List.getElem?_eq_getElem hi]
 rfl
theorem close_any (b : Nat) (v : Value) (bs : List Nat) (w : World) (h : WRep w b v bs) (hl : bs.length ≤ 140737488355300) :
  Calls Tryz.prog 73 #[.pointer (some ⟨b, 0, none⟩)] w fun e w' => e = .returned (.string (strB (bs ++ enc (sumH bs)))) ∧ Keeps (WFoot b v) w w' := by
 have hc0 : w.cell? ⟨b, 0, none⟩ = some v := h.blk.cell rfl
 have HS := hide (sum_any v bs w h.row h.small (by omega))
 have HB := hide (sumH_bd bs)
 have HW := hide h
 have hlt := h.blk.lt
 obtain ⟨va, vcap, hv⟩ := h.row.form
 subst hv
 clear h
 go_enter Tryz.func73, Tryz.ntmps73
 go_wp2_with fail
 refine (uh HS).mono ?_
 rintro e w1 ⟨rfl, hk1⟩
 have HK1 := hide hk1
 have HN := hide (number_any b (.slice va bs.length vcap) bs (sumH bs) w1 ((uh HW).still hk1) (uh HB).1 (by have := (uh HB).2; omega) hl)
 clear hk1 hc0 HS
 go_wp2_with fail
 refine (uh HN).mono ?_
 rintro e w2 ⟨rfl, v2, hw2, hv2, hk2⟩
 have HK2 := hide (((uh HK1).mono (M' := WFoot b (.slice va bs.length vcap)) (fun _ _ h => h.elim)).then hk2)
 have hc2 : w2.cell? ⟨b, 0, none⟩ = some v2 := hw2.blk.cell rfl
 have hlt2 := hw2.blk.lt
 obtain ⟨g, cap, hv, hcv⟩ : ∃ g cap, v2 = .slice (some ⟨g, 0, none⟩) (bs ++ enc (sumH bs)).length cap ∧ (convert 134 9 (.slice (some ⟨g, 0, none⟩) (bs ++ enc (sumH bs)).length cap)).run Tryz.prog w2 = .ok (.string (strB (bs ++ enc (sumH bs)))) w2 := by
  rcases hw2.row.cells with ⟨h0, _⟩ | ⟨g, cap, hv, hc⟩
  ·exfalso
   have h1 : 0 < (enc (sumH bs)).length := by
    unfold enc encF
    split <;> simp
   rw [List.length_append] at h0
   omega
  ·refine ⟨g, cap, hv, run_convert_bytes_arg w2 134 5 Tryz.underlying134 u8under g 0 _ cap _ (by simp) (fun i hi => ?_) 9 Tryz.underlying9⟩
   rw [Nat.zero_add]
   exact hc i _ (bytesV_get _ i hi)
 subst hv
 generalize (bs ++ enc (sumH bs)).length = n2 at *
 clear hw2 hv2 hk2 HN
 go_wp2
 go_ret
 exact ⟨rfl, uh HK2⟩
end Go.Proofs.YtahnliehdjncdaaGreatDoor
namespace Go.Proofs.YtahnliehdjncdaaGreatDoor
open Go.RowKit
theorem decSave_any (d b : Nat) (c : Cfg) (q r m : Int) (v : Value) (bs : List Nat) (w : World) (hb : Blk w d (decCells c q r) 198) (h : WRep w b v bs) (hd : ¬ WFoot b v d) (q0 : 0 ≤ q) (q1 : q ≤ 9223372036854775807) (r0 : 0 ≤ r) (r1 : r ≤ 9223372036854775807) (hl : bs.length ≤ 140737488355000) :
  Calls Tryz.prog 179 #[.pointer (some ⟨d, 0, none⟩), .pointer (some ⟨b, 0, none⟩), .int .i64 m] w fun e w' => e = .returned (.tuple #[]) ∧ Wrote w b v (bs ++ encL [q, r]) w' := by
 have hd20 : w.cell? ⟨d, 20, none⟩ = some (.int .i64 q) := hb.cell rfl
 have HB := hide hb
 have HW := hide h
 have HD := hide hd
 have HN := hide (number_any b v bs q w h q0 q1 (by omega))
 clear hb h hd
 go_enter Tryz.func179, Tryz.ntmps179
 go_wp2_with fail
 refine (uh HN).mono ?_
 rintro e w1 ⟨rfl, v1, hw1, hv1, hk1⟩
 have hd21 : w1.cell? ⟨d, 21, none⟩ = some (.int .i64 r) := hk1.cell ((uh HB).cell rfl) (uh HD)
 have HV1 := hide hv1
 have HK1 := hide hk1
 have HN1 := hide (number_any b v1 (bs ++ enc q) r w1 hw1 r0 r1 (by have := enc_length q; rw [List.length_append]; omega))
 clear hd20 hw1 hv1 hk1 HN
 go_wp2_with fail
 refine (uh HN1).mono ?_
 rintro e w2 ⟨rfl, hw2⟩
 have HF := hide (Wrote.then (uh HV1) (uh HK1) hw2)
 clear hw2 HN1
 go_wp2
 go_end0
 refine ⟨rfl, ?_⟩
 have h := uh HF
 rw [List.append_assoc] at h
 rw [encL_cons, encL_one]
 exact h
end Go.Proofs.YtahnliehdjncdaaGreatDoor
namespace Go.Proofs.YtahnliehdjncdaaGreatDoor
open Go.RowKit
attribute [local go_sem ↓] execOp_load38 execOp_load40
attribute [local go_sem] run_load38 run_load40 bigVal_drew hasBig_drew bigVal_ne hasBig_ne bigVal_new hasBig_newB
def Cfg.nums (c : Cfg) : List Int := [c.kind, c.lag, c.skew, c.cap, c.k, c.window, c.bits, c.rows, c.width, c.panes, c.size, c.degree, c.half, c.mark, c.s00, c.s01, c.s10, c.s11, c.s20, c.s21]
theorem Cfg.cells_nums (c : Cfg) : c.cells = c.nums.map (.int .i64 ·) := rfl
def Cfg.num (c : Cfg) (o : Nat) : Int := c.nums.getD o 0
def namedL : Nat → List Nat | 1 => [4, 5] | 2 => [6, 5] | 3 => [7, 8, 9, 5] | 4 => [11, 12, 13] | _ => [11, 12, 13, 10]
def at' (b : Nat) (l : List Nat) : List (Nat × Nat) := l.map fun o => (b, o)
theorem info167 : (Tryz.prog.info? 167).map (fun i => (i.zero, i.size, i.bytes)) = some (some (.pointer none), 1, 8) := by kernel_rfl
theorem new_parts {w w' : World} {ps : List (Nat × Nat)} {n : Nat} (hn : ps.length = n) (hm : n ≤ 100) (h : w'.heap[w.heap.size]? = some (.cells (partsV ps).toArray 167)) : w'.ownsRow w.heap.size 167 1 (.slice (some ⟨w.heap.size, 0, none⟩) n n) ps.length (partsV ps) := by
 subst hn
 exact ⟨by simp [partsV], .inr ⟨w.heap.size, ps.length, (partsV ps).toArray, rfl, Nat.le_refl _, h, Nat.le_refl _, by unfold maxLen; omega, by simp [partsV], by rw [List.toList_toArray, List.take_of_length_le (by simp [partsV])]⟩⟩
def NamedPost (w : World) (b : Nat) (l : List Nat) (e : Ending) (w' : World) : Prop := ∃ v, e = .returned v ∧ w'.ownsRow w.heap.size 167 1 v (at' b l).length (partsV (at' b l)) ∧ Keeps (fun _ => False) w w'
theorem common_named (b : Nat) (w : World) : Calls Tryz.prog 142 #[.pointer (some ⟨b, 0, none⟩)] w (NamedPost w b [1, 2, 3]) := by
 go_enter Tryz.func142, Tryz.ntmps142
 go_wp2_with fail
 go_region
 go_wp2
 go_ret
 exact ⟨_, rfl, new_parts rfl (by omega) (heap_alloc_new w _), ((Keeps.refl _ _).alloc _).drew⟩
theorem count_named (b : Nat) (w : World) : Calls Tryz.prog 116 #[.pointer (some ⟨b, 0, none⟩)] w (NamedPost w b [4, 5]) := by
 go_enter Tryz.func116, Tryz.ntmps116
 go_wp2_with fail
 go_region
 go_wp2
 go_ret
 exact ⟨_, rfl, new_parts rfl (by omega) (heap_alloc_new w _), ((Keeps.refl _ _).alloc _).drew⟩
theorem distinct_named (b : Nat) (w : World) : Calls Tryz.prog 122 #[.pointer (some ⟨b, 0, none⟩)] w (NamedPost w b [6, 5]) := by
 go_enter Tryz.func122, Tryz.ntmps122
 go_wp2_with fail
 go_region
 go_wp2
 go_ret
 exact ⟨_, rfl, new_parts rfl (by omega) (heap_alloc_new w _), ((Keeps.refl _ _).alloc _).drew⟩
theorem often_named (b : Nat) (w : World) : Calls Tryz.prog 128 #[.pointer (some ⟨b, 0, none⟩)] w (NamedPost w b [7, 8, 9, 5]) := by
 go_enter Tryz.func128, Tryz.ntmps128
 go_wp2_with fail
 go_region
 go_wp2
 go_ret
 exact ⟨_, rfl, new_parts rfl (by omega) (heap_alloc_new w _), ((Keeps.refl _ _).alloc _).drew⟩
theorem decay_named (b : Nat) (w : World) : Calls Tryz.prog 132 #[.pointer (some ⟨b, 0, none⟩)] w (NamedPost w b [11, 12, 13]) := by
 go_enter Tryz.func132, Tryz.ntmps132
 go_wp2_with fail
 go_region
 go_wp2
 go_ret
 exact ⟨_, rfl, new_parts rfl (by omega) (heap_alloc_new w _), ((Keeps.refl _ _).alloc _).drew⟩
theorem owns_le {w : World} {base base' : Nat} {t size : Nat} {v : Value} {n : Nat} {xs : List Value} (h : w.ownsRow base t size v n xs) (hb : base' ≤ base) : w.ownsRow base' t size v n xs := by
 refine ⟨h.1, ?_⟩
 rcases h.2 with h2 | ⟨g, cap, cur, rfl, hbb, r⟩
 ·exact .inl h2
 ·exact .inr ⟨g, cap, cur, rfl, Nat.le_trans hb hbb, r⟩
def appP (t : TypeId) (x y : Value) : Sem Next := do pure (.value (← Builtin.append_ #[142, 142] t #[x, y]))
theorem execOp_appP (ρ : Operand → Value) (dst : Option Tmp) (x y : Operand) (ty : TypeId) (pos : String) (after : Array Edge) (guard : Option (Nat × Bool)) :
  execOp ρ { dst, op := .call { callee := .builtin .append, args := #[x, y], argTypes := #[142, 142] }, type := ty, pos, after, guard } = appP ty (ρ x) (ρ y) := by
 rw [BigFrame.execOp_builtin, BigFrame.builtin_append]
 simp [appP]
theorem run_appP (w : World) (base : Nat) (v : Value) (m g0 : Nat) (xs us : List Value) (hown : w.ownsRow base 167 1 v m xs) (hu : w.heap[g0]? = some (.cells us.toArray 167)) (h1 : ∀ u ∈ us, u.oneCell' = true) (hl : 0 < us.length) (hm : m + us.length ≤ 100) (hb : base ≤ w.heap.size) :
  ∃ gg cap' w3, (∀ t, (appP t v (.slice (some ⟨g0, 0, none⟩) us.length us.length)).run Tryz.prog w = .ok (.value (.slice (some ⟨gg, 0, none⟩) (m + us.length) cap')) w3) ∧
   w3.ownsRow base 167 1 (.slice (some ⟨gg, 0, none⟩) (m + us.length) cap') (m + us.length) (xs ++ us) ∧ w.grownBy w3 v.ownBlock := by
 obtain ⟨i0, hi0, hz0, hz1, hz2⟩ := info_parts info167
 obtain ⟨gg, cap', w3, e1, e2, e3, _, _⟩ := run_append_lies (P := Tryz.prog) w 142 142 base 167 i0 _ 1 8 Tryz.underlying142 hi0 hz0 hz1 hz2 rfl (by omega) v m xs hown ⟨g0, 0, none⟩ us.length us.length us (by simp) (World.news_of_block hu) h1 hl (by unfold maxLen; omega) (by omega) hb w.heap.size rfl
 refine ⟨gg, cap', w3, fun t => ?_, e2, e3⟩
 unfold appP
 rw [Sem.run_bind]
 have ht : Builtin.append_ #[142, 142] t #[v, .slice (some ⟨g0, 0, none⟩) us.length us.length] = Builtin.append_ #[142, 142] 142 #[v, .slice (some ⟨g0, 0, none⟩) us.length us.length] := rfl
 rw [ht, e1]
 rfl
theorem decay_named_app (b : Nat) (w : World) : Calls Tryz.prog 132 #[.pointer (some ⟨b, 0, none⟩)] w fun e w1 => ∃ va vcap, e = .returned (.slice va 3 vcap) ∧ Keeps (fun _ => False) w w1 ∧
  (∃ gg cap' w3, (∀ t, (appP t (.slice va 3 vcap) (.slice (some ⟨w1.heap.size, 0, none⟩) 1 1)).run Tryz.prog (w1.alloc (.cells #[.pointer (some ⟨b, 10, none⟩)] 167)) = .ok (.value (.slice (some ⟨gg, 0, none⟩) 4 cap')) w3) ∧
     w3.ownsRow w.heap.size 167 1 (.slice (some ⟨gg, 0, none⟩) 4 cap') 4 (partsV (at' b [11, 12, 13, 10])) ∧ Keeps (fun _ => False) w w3) ∧
  (∀ g0, w.heap[g0]? = some (.cells #[.pointer (some ⟨b, 10, none⟩)] 167) → ∃ gg cap' w3, (∀ t, (appP t (.slice va 3 vcap) (.slice (some ⟨g0, 0, none⟩) 1 1)).run Tryz.prog w1 = .ok (.value (.slice (some ⟨gg, 0, none⟩) 4 cap')) w3) ∧
     w3.ownsRow w.heap.size 167 1 (.slice (some ⟨gg, 0, none⟩) 4 cap') 4 (partsV (at' b [11, 12, 13, 10])) ∧ Keeps (fun _ => False) w w3) := by
 refine (decay_named b w).mono ?_
 rintro e w1 ⟨v, rfl, hown, hk⟩
 obtain ⟨va, vcap, hv, _⟩ := row_form hown
 subst hv
 have hsz := hk.size
 refine ⟨va, vcap, rfl, hk, ?_, fun g0 hg0 => ?_⟩
 ·obtain ⟨gg, cap', w3, h1, h2, h3⟩ := run_appP (w1.alloc (.cells #[.pointer (some ⟨b, 10, none⟩)] 167)) w.heap.size _ 3 w1.heap.size _ [.pointer (some ⟨b, 10, none⟩)] (hown.alloc _) (heap_alloc_new w1 _) (by simp [Value.oneCell']) (by simp) (by simp) (by simp; omega)
  exact ⟨gg, cap', w3, h1, h2, (hk.alloc _).grown h3 (fun k hk' => .inr (hown.lt k hk').1)⟩
 ·obtain ⟨gg, cap', w3, h1, h2, h3⟩ := run_appP w1 w.heap.size _ 3 g0 _ [.pointer (some ⟨b, 10, none⟩)] hown (by rw [hk.block g0 (Array.getElem?_eq_some_iff.1 hg0).1 (fun h => h)]; exact hg0) (by simp [Value.oneCell']) (by simp) (by simp) hsz
  exact ⟨gg, cap', w3, h1, h2, hk.grown h3 (fun k hk' => .inr (hown.lt k hk').1)⟩
attribute [local go_sem ↓ 2000] execOp_appP
attribute [local go_sem ↓] Go.wp_at_zero Go.wp_at_succ
theorem drawn_named (b : Nat) (w : World) : Calls Tryz.prog 136 #[.pointer (some ⟨b, 0, none⟩)] w (NamedPost w b [11, 12, 13, 10]) := by
 go_enter Tryz.func136, Tryz.ntmps136
 go_wp2_with fail
 have hnew1 : (w.alloc (.cells #[.pointer (some ⟨b, 10, none⟩)] 167)).drew.heap[w.heap.size]? = some (.cells #[.pointer (some ⟨b, 10, none⟩)] 167) := heap_alloc_new w _
 go_region_with (first | (go_at_call 132; refine (decay_named_app b _).mono ?_; rintro e w1 ⟨va, vcap, rfl, hk1, ⟨gg, cap', w3, hrun, hown, hk3⟩, hB⟩; try (have hB1 := hB w.heap.size hnew1; obtain ⟨gg2, cap2, w4, hrun2, hown2, hk4⟩ := hB1)))
 ·go_wp2
  go_ret
  exact ⟨.slice (some ⟨gg, 0, none⟩) 4 cap', rfl, hown, ((Keeps.refl (fun _ => False) w).drew).then hk3⟩
 all_goals
  go_wp2
  go_ret
  refine ⟨.slice (some ⟨gg2, 0, none⟩) 4 cap2, rfl, owns_le hown2 (by show w.heap.size ≤ (w.alloc _).heap.size; simp), ?_⟩
  first
   | exact (((Keeps.refl (fun _ => False) w).alloc _).drew).then hk4
   | exact (((Keeps.refl (fun _ => False) w).drew).alloc _).then hk4
theorem ask_time (b : Nat) (w : World) : Calls Tryz.prog 119 #[.pointer (some ⟨b, 0, none⟩)] w (NamedPost w b [0]) := by
 go_enter Tryz.func119, Tryz.ntmps119
 go_wp2
 go_ret
 exact ⟨_, rfl, new_parts rfl (by omega) (heap_alloc_new w _), (Keeps.refl _ _).alloc _⟩
theorem ask_key (b : Nat) (w : World) : Calls Tryz.prog 125 #[.pointer (some ⟨b, 0, none⟩)] w (NamedPost w b [0, 1]) := by
 go_enter Tryz.func125, Tryz.ntmps125
 go_wp2_with fail
 go_region
 go_wp2
 go_ret
 exact ⟨_, rfl, new_parts rfl (by omega) (heap_alloc_new w _), ((Keeps.refl _ _).alloc _).drew⟩
theorem ask_draw (b : Nat) (w : World) : Calls Tryz.prog 138 #[.pointer (some ⟨b, 0, none⟩)] w (NamedPost w b [0, 1, 2]) := by
 go_enter Tryz.func138, Tryz.ntmps138
 go_wp2_with fail
 go_region
 go_wp2
 go_ret
 exact ⟨_, rfl, new_parts rfl (by omega) (heap_alloc_new w _), ((Keeps.refl _ _).alloc _).drew⟩
end Go.Proofs.YtahnliehdjncdaaGreatDoor
namespace Go.Proofs.YtahnliehdjncdaaGreatDoor
open Go.RowKit
attribute [local go_sem ↓] execOp_load38 execOp_load40
attribute [local go_sem] run_load38 run_load40 bigVal_drew hasBig_drew bigVal_ne hasBig_ne bigVal_new hasBig_newB
theorem named_any (k b : Nat) (w : World) (h1 : 1 ≤ k) (h5 : k ≤ 5) : Calls Tryz.prog (namedF k) #[.pointer (some ⟨b, 0, none⟩)] w (NamedPost w b (namedL k)) := by
 have hk : k = 1 ∨ k = 2 ∨ k = 3 ∨ k = 4 ∨ k = 5 := by omega
 rcases hk with hk | hk | hk | hk | hk <;> subst hk
 ·exact count_named b w
 ·exact distinct_named b w
 ·exact often_named b w
 ·exact decay_named b w
 ·exact drawn_named b w
def askedL : Nat → List Nat | 1 => [0] | 2 => [0, 1] | 3 => [0, 1] | 4 => [0] | _ => [0, 1, 2]
theorem asked_any (k b : Nat) (w : World) (h1 : 1 ≤ k) (h5 : k ≤ 5) : Calls Tryz.prog (askedF k) #[.pointer (some ⟨b, 0, none⟩)] w (NamedPost w b (askedL k)) := by
 have hk : k = 1 ∨ k = 2 ∨ k = 3 ∨ k = 4 ∨ k = 5 := by omega
 rcases hk with hk | hk | hk | hk | hk <;> subst hk
 ·exact ask_time b w
 ·exact ask_key b w
 ·exact ask_key b w
 ·exact ask_time b w
 ·exact ask_draw b w
def pairsN (k : Nat) (c : Cfg) : Int := match k with | 2 => 1 | 3 => c.rows | _ => 0
theorem noPairs_any (c : Cfg) (w : World) : Calls Tryz.prog 117 #[c.val] w fun e w' => e = .returned (.int .i64 0) ∧ Keeps (fun _ => False) w w' := by
 unfold Cfg.val
 go_enter Tryz.func117, Tryz.ntmps117
 go_wp2
 go_ret
 exact ⟨rfl, by first | exact Keeps.refl _ _ | exact (Keeps.refl _ _).alloc _⟩
theorem onePair_any (c : Cfg) (w : World) : Calls Tryz.prog 123 #[c.val] w fun e w' => e = .returned (.int .i64 1) ∧ Keeps (fun _ => False) w w' := by
 unfold Cfg.val
 go_enter Tryz.func123, Tryz.ntmps123
 go_wp2
 go_ret
 exact ⟨rfl, by first | exact Keeps.refl _ _ | exact (Keeps.refl _ _).alloc _⟩
theorem rowPairs_any (c : Cfg) (w : World) : Calls Tryz.prog 129 #[c.val] w fun e w' => e = .returned (.int .i64 c.rows) ∧ Keeps (fun _ => False) w w' := by
 unfold Cfg.val
 go_enter Tryz.func129, Tryz.ntmps129
 go_wp2
 go_ret
 exact ⟨rfl, (Keeps.refl _ _).alloc _⟩
theorem pairs_any (k : Nat) (c : Cfg) (w : World) (h1 : 1 ≤ k) (h5 : k ≤ 5) : Calls Tryz.prog (pairsF k) #[c.val] w fun e w' => e = .returned (.int .i64 (pairsN k c)) ∧ Keeps (fun _ => False) w w' := by
 have hk : k = 1 ∨ k = 2 ∨ k = 3 ∨ k = 4 ∨ k = 5 := by omega
 rcases hk with hk | hk | hk | hk | hk <;> subst hk
 ·exact noPairs_any c w
 ·exact onePair_any c w
 ·exact rowPairs_any c w
 ·exact noPairs_any c w
 ·exact noPairs_any c w
def seedsL (n : Nat) : List Nat := (List.range (2 * n)).map (14 + ·)
theorem seedsL_succ (n : Nat) : seedsL (n + 1) = seedsL n ++ [14 + 2 * n, 15 + 2 * n] := by
 unfold seedsL
 rw [show 2 * (n + 1) = 2 * n + 1 + 1 by omega, List.range_succ, List.range_succ]
 simp
 omega
theorem partsV_append (a b : List (Nat × Nat)) : partsV (a ++ b) = partsV a ++ partsV b := by simp [partsV]
attribute [local go_sem ↓ 2000] execOp_appP
attribute [local go_sem ↓] Go.wp_at_zero Go.wp_at_succ
theorem seeds_any (b n : Nat) (w : World) (hn : n ≤ 3) :
  Calls Tryz.prog 143 #[.pointer (some ⟨b, 0, none⟩), .int .i64 n] w (NamedPost w b (seedsL n)) := by
 go_enter Tryz.func143, Tryz.ntmps143
 go_wp2
 go_loopw [5, 8] (fun v i wr => ∃ k : Nat, i = .int .i64 k ∧ k ≤ n ∧ Hid (wr.ownsRow w.heap.size 167 1 v (2 * k) (partsV (at' b (seedsL k)))) ∧ Hid (Keeps (fun _ => False) w wr)) (fun _ i _ => n - (intOf i).toNat)
 case atStart => exact ⟨0, rfl, Nat.zero_le _, World.ownsRow_nil _ _ _ _, Keeps.refl _ _⟩
 case round =>
  obtain ⟨k, rfl, hk, HO, HK⟩ := hrel
  generalize u5 = v at *
  by_cases hlk : k < n
  ·obtain ⟨va, vcap, hv, _⟩ := row_form (uh HO)
   subst hv
   have hsz : w.heap.size ≤ wr.heap.size := (uh HK).size
   have HO1 := hide (show (wr.alloc (.cells #[.pointer (some ⟨b, 14 + k * 2, none⟩), .pointer (some ⟨b, 14 + k * 2 + 1, none⟩)] 167)).drew.ownsRow w.heap.size 167 1 (.slice va (2 * k) vcap) (2 * k) (partsV (at' b (seedsL k))) from (uh HO).alloc _)
   obtain ⟨gg, cap', w3, hrun, hown, hgr⟩ := run_appP (wr.alloc (.cells #[.pointer (some ⟨b, 14 + k * 2, none⟩), .pointer (some ⟨b, 14 + k * 2 + 1, none⟩)] 167)).drew w.heap.size _ (2 * k) wr.heap.size _ [.pointer (some ⟨b, 14 + k * 2, none⟩), .pointer (some ⟨b, 14 + k * 2 + 1, none⟩)] (uh HO1) (heap_alloc_new wr _) (by simp [Value.oneCell']) (by simp) (by simp; omega) (by show w.heap.size ≤ (wr.alloc _).heap.size; simp; omega)
   have hrun' : ∀ t, (appP t (.slice va (2 * k) vcap) (.slice (some ⟨wr.heap.size, 0, none⟩) 2 2)).run Tryz.prog (wr.alloc (.cells #[.pointer (some ⟨b, 14 + k * 2, none⟩), .pointer (some ⟨b, 14 + k * 2 + 1, none⟩)] 167)).drew = .ok (.value (.slice (some ⟨gg, 0, none⟩) (2 * k + 2) cap')) w3 := hrun
   clear hrun
   have HOW := hide hown
   have HGR := hide hgr
   clear hown hgr HO1
   have hk0 : (0 : Int) ≤ (k : Int) := by omega
   have hkn : (k : Int) < (n : Int) := by omega
   have hk3 : (k : Int) < 3 := by omega
   go_wp2_with fail
   go_region
   go_wp2
   go_roundw
   case rel =>
    refine ⟨k + 1, by go_num, by omega, ?_, ?_⟩
    ·show World.ownsRow _ _ _ _ _ _ _
     rw [seedsL_succ]
     have e1 : at' b (seedsL k ++ [14 + 2 * k, 15 + 2 * k]) = at' b (seedsL k) ++ [(b, 14 + 2 * k), (b, 15 + 2 * k)] := by simp [at']
     rw [e1, partsV_append, show 2 * (k + 1) = 2 * k + 2 by omega]
     have h := uh HOW
     rw [show 14 + k * 2 = 14 + 2 * k by omega, show 14 + 2 * k + 1 = 15 + 2 * k by omega] at h
     exact h
    ·exact (((uh HK).alloc _).drew).grown (uh HGR) (fun j hj => Or.inr ((uh HO).lt j hj).1)
   case measure => simp [intOf]; omega
  ·have hkn : k = n := by omega
   subst hkn
   go_wp2
   go_ret
   refine ⟨v, rfl, ?_, uh HK⟩
   have : (at' b (seedsL k)).length = 2 * k := by simp [at', seedsL]
   rw [this]
   exact uh HO
end Go.Proofs.YtahnliehdjncdaaGreatDoor
namespace Go.Proofs.YtahnliehdjncdaaGreatDoor
open Go.RowKit
attribute [local go_sem ↓] execOp_load38 execOp_load40
attribute [local go_sem] run_load38 run_load40 bigVal_drew hasBig_drew bigVal_ne hasBig_ne bigVal_new hasBig_newB
def cfgNums (k : Nat) (c : Cfg) : List Int := c.kind :: ([1, 2, 3].map c.num ++ ((namedL k).map c.num ++ (seedsL (pairsN k c).toNat).map c.num))
theorem parts_cfg {w : World} {cb : Nat} {c : Cfg} {l : List Nat} (h : Blk w cb c.cells 38) (hl : ∀ o, o ∈ l → o < 20) : PartsAt w (at' cb l) (l.map c.num) := by
 refine ⟨by simp [at'], fun i p n hp hn => ?_⟩
 unfold at' at hp
 rw [List.getElem?_map] at hp hn
 cases ho : l[i]? with
 | none => rw [ho] at hp; cases hp
 | some o =>
  rw [ho] at hp hn
  simp only [Option.map_some, Option.some.injEq] at hp hn
  subst hp hn
  have h20 := hl o (List.mem_of_getElem? ho)
  refine h.cell ?_
  rw [Cfg.cells_nums, List.getElem?_map]
  unfold Cfg.num
  rw [List.getD_eq_getElem?_getD, List.getElem?_eq_getElem (by simpa [Cfg.nums] using h20)]
  rfl
theorem namedL_lt (k : Nat) : ∀ o, o ∈ namedL k → o < 20 := by
 unfold namedL
 split <;> simp
theorem seedsL_lt (n : Nat) (hn : n ≤ 3) : ∀ o, o ∈ seedsL n → o < 20 := by
 unfold seedsL
 intro o ho
 simp at ho
 obtain ⟨i, hi, rfl⟩ := ho
 omega
theorem write_parts (b : Nat) (v : Value) (bs : List Nat) (pv : Value) (base cb : Nat) (l : List Nat) (ns : List Int) (w : World) (h : WRep w b v bs) (hp : w.ownsRow base 167 1 pv (at' cb l).length (partsV (at' cb l))) (ha : PartsAt w (at' cb l) ns)
  (hd : ¬ WFoot b v cb) (hbase : ∀ i, base ≤ i → ¬ WFoot b v i) (hn : ∀ n, n ∈ ns → 0 ≤ n ∧ n ≤ 9223372036854775807) (hl : bs.length + 10 * ns.length ≤ 140737488355300) (hl2 : ns.length ≤ 1000) :
  Calls Tryz.prog 98 #[.pointer (some ⟨b, 0, none⟩), pv] w fun e w' => e = .returned (.tuple #[]) ∧ Wrote w b v (bs ++ encL ns) w' :=
 parts_any b v bs pv base (at' cb l) ns w h hp ha (fun p hp h => hd (by
      unfold at' at hp
      obtain ⟨o, _, rfl⟩ := List.mem_map.1 hp
      exact h)) (fun i hi => hbase i (hp.lt i hi).1) hn hl hl2
structure SC (w : World) (cb kb b : Nat) (v : Value) (c : Cfg) (k : Nat) (w' : World) (v' : Value) (bs : List Nat) : Prop where
 blk : Blk w' cb c.cells 38
 knd : Blk w' kb [.func (.func (fitsF k)) #[] #[], .func (.func (namedF k)) #[] #[], .func (.func (pairsF k)) #[] #[], .func (.func (refuseF k)) #[] #[], .func (.func (askedF k)) #[] #[], .func (.func (startF k)) #[] #[]] 82
 wr : WRep w' b v' bs
 ft : ∀ i, WFoot b v' i → i < cb ∨ kb < i
 vv : ∀ i, v'.ownBlock = some i → v.ownBlock = some i ∨ w.heap.size ≤ i
 kp : Keeps (WFoot b v) w w'
 le : cb ≤ kb
theorem SC.still {w : World} {cb kb b : Nat} {v : Value} {c : Cfg} {k : Nat} {w' w'' : World} {v' : Value} {bs : List Nat} (h : SC w cb kb b v c k w' v' bs) (hk : Keeps (fun _ => False) w' w'') : SC w cb kb b v c k w'' v' bs :=
 ⟨h.blk.keeps hk (fun h => h), h.knd.keeps hk (fun h => h), h.wr.still hk, h.ft, h.vv, h.kp.trans hk (fun _ h => h.elim), h.le⟩
theorem SC.not {w : World} {cb kb b : Nat} {v : Value} {c : Cfg} {k : Nat} {w' : World} {v' : Value} {bs : List Nat} (h : SC w cb kb b v c k w' v' bs) (i : Nat) (h1 : cb ≤ i) (h2 : i ≤ kb) : ¬ WFoot b v' i := fun hf => by
 rcases h.ft i hf with h | h <;> omega
theorem SC.wrote {w : World} {cb kb b : Nat} {v : Value} {c : Cfg} {k : Nat} {w' w'' : World} {v' : Value} {bs bs2 : List Nat} (h : SC w cb kb b v c k w' v' bs) (hw : Wrote w' b v' bs2 w'') : ∃ v'', SC w cb kb b v c k w'' v'' bs2 := by
 obtain ⟨v2, hw2, hv2, hk2⟩ := hw
 have hl := h.knd.lt
 have hs := h.kp.size
 refine ⟨v2, h.blk.keeps hk2 (h.not cb (Nat.le_refl _) h.le), h.knd.keeps hk2 (h.not kb h.le (Nat.le_refl _)), hw2, fun i hi => ?_, fun i hi => ?_, h.kp.trans hk2 (fun i hi hlt => ?_), h.le⟩
 ·rcases hi with hi | hi
  ·exact h.ft i (.inl hi)
  ·rcases hv2 i hi with h1 | h1
   ·exact h.ft i (.inr h1)
   ·exact .inr (by omega)
 ·rcases hv2 i hi with h1 | h1
  ·exact h.vv i h1
  ·exact .inr (by omega)
 ·rcases hi with hi | hi
  ·exact .inl hi
  ·rcases h.vv i hi with h1 | h1
   ·exact .inr h1
   ·omega
theorem enc_more (bs : List Nat) (a b : List Int) : bs ++ encL a ++ encL b = bs ++ encL (a ++ b) := by rw [List.append_assoc, encL_append]
theorem saveConfig_any (b : Nat) (v : Value) (bs : List Nat) (c : Cfg) (k : Nat) (w : World) (h : WRep w b v bs) (hkd : c.kind = k) (h1 : 1 ≤ k) (h5 : k ≤ 5) (p0 : 0 ≤ pairsN k c) (p3 : pairsN k c ≤ 3) (hn : ∀ n, n ∈ cfgNums k c → 0 ≤ n ∧ n ≤ 9223372036854775807) (hl : bs.length ≤ 140737488354000) :
  Calls Tryz.prog 96 #[.pointer (some ⟨b, 0, none⟩), c.val] w fun e w' => e = .returned (.tuple #[]) ∧ Wrote w b v (bs ++ encL (cfgNums k c)) w' := by
 obtain ⟨W, hW⟩ : ∃ W, W = w.alloc (.cells c.cells.toArray 38) := ⟨_, rfl⟩
 have HB := hide (show Blk W w.heap.size c.cells 38 by rw [hW]; exact Blk.new w _ _)
 have HK := hide (show Keeps (fun _ => False) w W by rw [hW]; exact (Keeps.refl _ _).alloc _)
 have HW0 := hide (show w.alloc (.cells #[.int .i64 c.kind, .int .i64 c.lag, .int .i64 c.skew, .int .i64 c.cap, .int .i64 c.k, .int .i64 c.window, .int .i64 c.bits, .int .i64 c.rows, .int .i64 c.width, .int .i64 c.panes, .int .i64 c.size, .int .i64 c.degree, .int .i64 c.half, .int .i64 c.mark, .int .i64 c.s00, .int .i64 c.s01, .int .i64 c.s10, .int .i64 c.s11, .int .i64 c.s20, .int .i64 c.s21] 38) = W from hW.symm)
 have HW := hide (h.still (uh HK))
 have HLT := hide (show ∀ i, WFoot b v i → i < w.heap.size from h.lt)
 have HN := hide hn
 have HKD := hide hkd
 have HP := hide (show ∃ n : Nat, pairsN k c = n ∧ n ≤ 3 from ⟨(pairsN k c).toNat, by omega, by omega⟩)
 have HF := hide (find_yesI c.kind k W hkd h1 h5)
 have HCN := hide (show cfgNums k c = c.kind :: ([1, 2, 3].map c.num ++ ((namedL k).map c.num ++ (seedsL (pairsN k c).toNat).map c.num)) from rfl)
 have c0 : W.cell? ⟨w.heap.size, 0, none⟩ = some (.int .i64 c.kind) := (uh HB).cell rfl
 clear hW h hn hkd p0 p3
 unfold Cfg.val
 go_enter Tryz.func96, Tryz.ntmps96
 go_wp2_with fail
 rw [uh HW0]
 refine (uh HF).mono ?_
 rintro e w1 ⟨rfl, hk1⟩
 unfold kindCells fn
 have HT1 := hide (Blk.new w1 [.func (.func (fitsF k)) #[] #[], .func (.func (namedF k)) #[] #[], .func (.func (pairsF k)) #[] #[], .func (.func (refuseF k)) #[] #[], .func (.func (askedF k)) #[] #[], .func (.func (startF k)) #[] #[]] 82)
 have hka := hk1.alloc (.cells #[.func (.func (fitsF k)) #[] #[], .func (.func (namedF k)) #[] #[], .func (.func (pairsF k)) #[] #[], .func (.func (refuseF k)) #[] #[], .func (.func (askedF k)) #[] #[], .func (.func (startF k)) #[] #[]] 82)
 have HB1 := hide ((uh HB).keeps hka (fun h => h))
 have HW1 := hide ((uh HW).still hka)
 have HK1 := hide ((uh HK).then hka)
 have hc1 : w1.cell? ⟨w.heap.size, 0, none⟩ = some (.int .i64 c.kind) := ((uh HB).keeps hk1 (fun h => h)).cell rfl
 have hlt1 : w.heap.size < w1.heap.size := ((uh HB).keeps hk1 (fun h => h)).lt
 clear hk1 hka c0 HW0 HF HB HW HK
 go_wp2_with fail
 clear hc1
 generalize hkb : w1.heap.size = kb at *
 generalize w1.alloc (.cells #[.func (.func (fitsF k)) #[] #[], .func (.func (namedF k)) #[] #[], .func (.func (pairsF k)) #[] #[], .func (.func (refuseF k)) #[] #[], .func (.func (askedF k)) #[] #[], .func (.func (startF k)) #[] #[]] 82) = w2 at *
 clear hkb w1
 generalize hcb : w.heap.size = cb at *
 have HCB := hide hcb
 clear hcb
 have HSZ2 := hide (show kb + 1 ≤ w2.heap.size from (uh HT1).lt)
 have hb1 := uh HN c.kind (by rw [uh HCN]; simp)
 -- the kind
 have HS2 := hide (show SC w cb kb b v c k w2 v bs from ⟨uh HB1, uh HT1, uh HW1, fun i hi => .inl (uh HLT i hi), fun i hi => .inl hi, (uh HK1).mono (fun _ _ h => h.elim), by omega⟩)
 clear HB1 HT1 HW1 HK1 HSZ2
 have HLK := hide (show (namedL k).length ≤ 4 by unfold namedL; split <;> simp)
 obtain ⟨pn, hpn, hpn3⟩ := uh HP
 have HPN := hide hpn
 have HLS := hide (show (seedsL pn).length ≤ 6 by simp [seedsL]; omega)
 have HC2 := hide (show cfgNums k c = [c.kind] ++ [1, 2, 3].map c.num ++ (namedL k).map c.num ++ (seedsL pn).map c.num by rw [uh HCN, hpn, Int.toNat_natCast]; simp)
 clear hpn HCN
 refine (number_any b v bs c.kind w2 (uh HS2).wr hb1.1 hb1.2 (by omega)).mono ?_
 rintro e w3 ⟨rfl, hw3⟩
 obtain ⟨v3, hs3⟩ := (uh HS2).wrote hw3
 rw [← encL_one] at hs3
 have HS3 := hide hs3
 clear hw3 hs3 HS2
 go_wp2_with fail
 refine (common_named cb w3).mono ?_
 rintro e w4 ⟨pv, rfl, hown4, hk4⟩
 obtain ⟨pa, pcap, hpv, _⟩ := row_form hown4
 subst hpv
 have HL3 := hide (uh HS3).wr.lt
 have HS4 := hide ((uh HS3).still hk4)
 have HO4 := hide hown4
 clear hown4 hk4 HS3
 go_wp2_with fail
 refine (write_parts b v3 _ _ w3.heap.size cb [1, 2, 3] ([1, 2, 3].map c.num) w4 (uh HS4).wr (uh HO4) (parts_cfg (uh HS4).blk (by simp)) ((uh HS4).not cb (Nat.le_refl _) (uh HS4).le) (fun i hi h => by have := uh HL3 i h; omega) (fun n hn => uh HN n (by rw [uh HC2]; simp only [List.mem_append]; exact .inl (.inl (.inr hn)))) (by have := encL_length [c.kind]; simp [encL_one] at this ⊢; have h2 := encL_length [c.kind]; simp at h2; omega) (by simp)).mono ?_
 rintro e w5 ⟨rfl, hw5⟩
 obtain ⟨v5, hs5⟩ := (uh HS4).wrote hw5
 rw [enc_more] at hs5
 have HS5 := hide hs5
 clear hw5 hs5 HS4 HO4 HL3
 have k1 : w5.cell? ⟨kb, 1, none⟩ = some (.func (.func (namedF k)) #[] #[]) := (uh HS5).knd.cell rfl
 have hown1 := own_named k h1 h5
 go_wp2_with fail
 refine (named_any k cb w5 h1 h5).mono ?_
 rintro e w6 ⟨pv, rfl, hown6, hk6⟩
 obtain ⟨pa6, pcap6, hpv, _⟩ := row_form hown6
 subst hpv
 have HL5 := hide (uh HS5).wr.lt
 have HS6 := hide ((uh HS5).still hk6)
 have HO6 := hide hown6
 clear hown6 hk6 HS5 k1 hown1
 go_wp2_with fail
 refine (write_parts b v5 _ _ w5.heap.size cb (namedL k) ((namedL k).map c.num) w6 (uh HS6).wr (by have := uh HO6; exact this) (parts_cfg (uh HS6).blk (namedL_lt k)) ((uh HS6).not cb (Nat.le_refl _) (uh HS6).le) (fun i hi h => by have := uh HL5 i h; omega) (fun n hn => uh HN n (by rw [uh HC2]; simp only [List.mem_append]; exact .inl (.inr hn))) (by have h2 := encL_length ([c.kind] ++ [1, 2, 3].map c.num); have h3 := uh HLK; simp at h2 ⊢; omega) (by have h3 := uh HLK; simp; omega)).mono ?_
 rintro e w7 ⟨rfl, hw7⟩
 obtain ⟨v7, hs7⟩ := (uh HS6).wrote hw7
 rw [enc_more] at hs7
 have HS7 := hide hs7
 clear hw7 hs7 HS6 HO6 HL5
 have k2 : w7.cell? ⟨kb, 2, none⟩ = some (.func (.func (pairsF k)) #[] #[]) := (uh HS7).knd.cell rfl
 obtain ⟨hv7, hh7⟩ := bigVal_Blk (uh HS7).blk 20 rfl
 have hown2 := own_pairs k h1 h5
 go_wp2_with fail
 refine (pairs_any k c w7 h1 h5).mono ?_
 rintro e w8 ⟨rfl, hk8⟩
 rw [uh HPN]
 have HS8 := hide ((uh HS7).still hk8)
 clear hk8 HS7 k2 hown2 hv7 hh7
 go_wp2_with fail
 refine (seeds_any cb pn w8 hpn3).mono ?_
 rintro e w9 ⟨pv, rfl, hown9, hk9⟩
 obtain ⟨pa9, pcap9, hpv, _⟩ := row_form hown9
 subst hpv
 have HL8 := hide (uh HS8).wr.lt
 have HS9 := hide ((uh HS8).still hk9)
 have HO9 := hide hown9
 clear hown9 hk9 HS8
 go_wp2_with fail
 refine (write_parts b v7 _ _ w8.heap.size cb (seedsL pn) ((seedsL pn).map c.num) w9 (uh HS9).wr (by have := uh HO9; exact this) (parts_cfg (uh HS9).blk (seedsL_lt pn hpn3)) ((uh HS9).not cb (Nat.le_refl _) (uh HS9).le) (fun i hi h => by have := uh HL8 i h; omega) (fun n hn => uh HN n (by rw [uh HC2]; simp only [List.mem_append]; exact .inr hn)) (by have h2 := encL_length ([c.kind] ++ [1, 2, 3].map c.num ++ (namedL k).map c.num); have h3 := uh HLK; have h4 := uh HLS; simp at h2 ⊢; omega) (by have h4 := uh HLS; simp; omega)).mono ?_
 rintro e wa ⟨rfl, hwa⟩
 obtain ⟨va, hsa⟩ := (uh HS9).wrote hwa
 rw [enc_more, ← uh HC2] at hsa
 have HSA := hide hsa
 clear hwa hsa HS9 HO9 HL8
 go_wp2
 go_end0
 exact ⟨rfl, va, (uh HSA).wr, (uh HSA).vv, (uh HSA).kp⟩
end Go.Proofs.YtahnliehdjncdaaGreatDoor
