import Derived.Test.YtahnliehdjncdaaGreatDoorXAQ
set_option maxRecDepth 100000
set_option maxHeartbeats 16000000
namespace Go.Proofs.YtahnliehdjncdaaGreatDoor
open Go.RowKit
attribute [local go_sem ↓] Pa.execOp_loadP Pa.execOp_storeP Pa.execOp_bsP
attribute [local go_sem] Pa.run_loadP Pa.run_bsP bigVal_drew hasBig_drew bigVal_ne hasBig_ne bigVal_new hasBig_newB
structure Cfg.paned (c : Cfg) : Prop where
 w0 : 1 ≤ c.window
 w1 : c.window ≤ 1000
 p0 : 1 ≤ c.panes
 p1 : c.panes ≤ 8
def OkP (c : Cfg) (p : Pa.Pn) : Prop := 0 ≤ p.no ∧ p.no ≤ 4611686018427387904 ∧ 0 ≤ (p.no + 1) * longO c ∧ (p.no + 1) * longO c ≤ 4611686018427389000
theorem lastTime_any (d : Nat) (c : Cfg) (p : Pa.Pn) (w : World) (h5 : w.cell? ⟨d, 5, none⟩ = some (.int .i64 c.window)) (h9 : w.cell? ⟨d, 9, none⟩ = some (.int .i64 c.panes)) (hc : c.paned) (hp : OkP c p) :
  Calls Tryz.prog 215 #[.pointer (some ⟨d, 0, none⟩), .agg p.cells.toArray] w fun e w' => e = .returned (.int .i64 (lastO c p)) ∧ Keeps (fun _ => False) w w' := by
 obtain ⟨W, hW⟩ : ∃ W, W = w.alloc (.cells p.cells.toArray 234) := ⟨_, rfl⟩
 have HK := hide (show Keeps (fun _ => False) w W by rw [hW]; exact (Keeps.refl _ _).alloc _)
 have hx0 : W.cell? ⟨w.heap.size, 0, none⟩ = some (.int .i64 p.no) := by rw [hW]; exact (Blk.new w p.cells 234).cell rfl
 have g5 : W.cell? ⟨d, 5, none⟩ = some (.int .i64 c.window) := (uh HK).cell h5 (fun h => h)
 have g9 : W.cell? ⟨d, 9, none⟩ = some (.int .i64 c.panes) := (uh HK).cell h9 (fun h => h)
 have HW := hide hW
 obtain ⟨n0, n1, b0, b1⟩ := hp
 have HL := hide (show (p.no + 1) * longO c - 1 = lastO c p from rfl)
 have HLEN := hide (fun W' h5' h9' => length_any d c W' h5' h9' (by have := hc.w0; omega) hc.w1 hc.p0)
 generalize longO c = L at *
 have hw1 : IntKind.i64.wrap (p.no + 1) = p.no + 1 := by rw [IntKind.wrap_i64]; omega
 have hw2 : IntKind.i64.wrap ((p.no + 1) * L) = (p.no + 1) * L := by rw [IntKind.wrap_i64]; omega
 have hw3 : IntKind.i64.wrap ((p.no + 1) * L - 1) = (p.no + 1) * L - 1 := by rw [IntKind.wrap_i64]; omega
 clear hW h5 h9 hc
 go_enter Tryz.func215, Tryz.ntmps215
 go_wp2_with fail
 rw [show w.alloc (.cells p.cells.toArray 234) = W from (uh HW).symm]
 generalize hpb : w.heap.size = pb at *
 go_region_held3 (fun w' => w'.cell? ⟨pb, 0, none⟩ = some (.int .i64 p.no) ∧ w'.cell? ⟨d, 5, none⟩ = some (.int .i64 c.window) ∧ w'.cell? ⟨d, 9, none⟩ = some (.int .i64 c.panes))
  (first | (go_split_ands; exact ⟨by assumption, by assumption, by assumption⟩) | (go_split_ands; exact ⟨hka.cell (by assumption) (fun h => h), hka.cell (by assumption) (fun h => h), hka.cell (by assumption) (fun h => h)⟩))
  (first | (go_at_call 217; refine (uh HLEN _ (by first | assumption | simpa using g5) (by first | assumption | simpa using g9)).mono ?_; rintro e W1 ⟨rfl, hka⟩))
 have HK1 := hide ((uh HK).drew.then hka)
 go_wp2
 go_ret
 exact ⟨ret_int (uh HL), uh HK1⟩
theorem store_new (p : Pa.Pn) (w : World) : ∃ W, (Pa.storeP 234 (.pointer (some ⟨w.heap.size, 0, none⟩)) (.agg p.cells.toArray)).run Tryz.prog (w.alloc (.cells #[.int .i64 0, .int .i64 0, .int .i64 0, .int .i64 0, .int .i64 0, .int .i64 0, .int .i64 0, .int .i64 0, .int .i64 0, .int .i64 0, .int .i64 0, .int .i64 0, .int .i64 0, .int .i64 0, .int .i64 0, .int .i64 0, .int .i64 0, .int .i64 0, .int .i64 0, .int .i64 0, .int .i64 0, .int .i64 0, .int .i64 0, .int .i64 0, .int .i64 0, .int .i64 0, .int .i64 0, .int .i64 0, .int .i64 0, .int .i64 0, .int .i64 0, .int .i64 0, .int .i64 0, .int .i64 0, .int .i64 0, .int .i64 0, .int .i64 0, .int .i64 0, .int .i64 0, .int .i64 0, .int .i64 0, .int .i64 0, .int .i64 0, .int .i64 0, .int .i64 0, .int .i64 0, .int .i64 0, .int .i64 0, .int .i64 0] 234)) = .ok .skip W ∧ Blk W w.heap.size p.cells 234 ∧ Keeps (fun _ => False) w W := by
 have hb : Blk (w.alloc (.cells #[.int .i64 0, .int .i64 0, .int .i64 0, .int .i64 0, .int .i64 0, .int .i64 0, .int .i64 0, .int .i64 0, .int .i64 0, .int .i64 0, .int .i64 0, .int .i64 0, .int .i64 0, .int .i64 0, .int .i64 0, .int .i64 0, .int .i64 0, .int .i64 0, .int .i64 0, .int .i64 0, .int .i64 0, .int .i64 0, .int .i64 0, .int .i64 0, .int .i64 0, .int .i64 0, .int .i64 0, .int .i64 0, .int .i64 0, .int .i64 0, .int .i64 0, .int .i64 0, .int .i64 0, .int .i64 0, .int .i64 0, .int .i64 0, .int .i64 0, .int .i64 0, .int .i64 0, .int .i64 0, .int .i64 0, .int .i64 0, .int .i64 0, .int .i64 0, .int .i64 0, .int .i64 0, .int .i64 0, .int .i64 0, .int .i64 0] 234)) w.heap.size (List.replicate 49 (.int .i64 0)) 234 := Blk.new w (List.replicate 49 (.int .i64 0)) _
 refine ⟨_, Pa.run_storeP _ w.heap.size 0 p.cells p.cells_length (fun j hj => ⟨hb.some (by simpa using hj), hb.frozen _⟩) p.one, ?_, ?_⟩
 ·have := Blk.setCells p.cells 0 _ _ hb (by rw [p.cells_length]; simp)
  have e : over (List.replicate 49 (Value.int .i64 0)) 0 p.cells = p.cells := by
   unfold over
   rw [p.cells_length, List.drop_eq_nil_of_le (by simp)]
   simp
  rw [e] at this
  exact this
 ·exact Keeps.setCells (Or.inr (Nat.le_refl _)) _ _ _ ((Keeps.refl (fun _ => False) w).alloc _)
theorem paneAt_any (d q : Nat) (og : Option Nat) (l : List Pa.Pn) (i : Nat) (w : World) (h : Pa.RowRep w d q og l) (hi : i < l.length) :
  Calls Tryz.prog 251 #[.pointer (some ⟨q, 0, none⟩), .int .i64 i] w fun e w' => e = .returned (.agg (Pa.pnAt l i).cells.toArray) ∧ Keeps (fun _ => False) w w' := by
 cases og with
 | none => obtain ⟨hl, hb⟩ := h; subst hl; simp at hi
 | some g =>
  obtain ⟨hne, cap, hb, hr⟩ := h
  have hq1 : w.cell? ⟨q, 1, none⟩ = some (.slice (some ⟨g, 0, none⟩) l.length cap) := hb.cell rfl
  have hlq := hb.lt
  have hlg := hr.lt
  have hrg := bigCells_of_range (hr.range i hi)
  rw [Pa.Pn.cells_length] at hrg
  have hbv : bigVal w g (i * 49) 49 = .agg (Pa.pnAt l i).cells.toArray := by unfold bigVal; rw [hrg.1]
  have hbh : hasBig w g (i * 49) 49 = true := hrg.2
  obtain ⟨x, hx⟩ : ∃ x, Pa.pnAt l i = x := ⟨_, rfl⟩
  rw [hx] at hbv ⊢
  generalize l.length = n at *
  have hi0 : (0 : Int) ≤ (i : Int) := by omega
  have hin : (i : Int) < (n : Int) := by omega
  have hgne : g ≠ w.heap.size := by omega
  obtain ⟨W2, hst, hb2, hk2⟩ := store_new x w
  have HB2 := hide hb2
  have HK2 := hide hk2
  clear hb hr hrg hx hb2 hk2
  go_enter Tryz.func251, Tryz.ntmps251
  go_wp2
  have hlv : (loadVar 234 ⟨w.heap.size, 0, none⟩).run Tryz.prog W2 = .ok (.agg x.cells.toArray) W2 :=
   run_loadVar_mid W2 w.heap.size 0 234 x.cells _ (fun j v hv => by rw [Nat.zero_add]; exact (uh HB2).cell hv) Tryz.underlying234 rfl (by rw [Pa.sizeP, x.cells_length])
  refine bodyPost_ret (v := .agg x.cells.toArray) ?_ rfl ⟨rfl, uh HK2⟩
  simp [results, Tryz.results251, asAddr, hlv]
def pastP (c : Cfg) (l : List Pa.Pn) (t : Int) : Nat := (l.takeWhile (fun p => decide (lastO c p ≤ t))).length
theorem pastP_le (c : Cfg) (l : List Pa.Pn) (t : Int) : pastP c l t ≤ l.length := (List.takeWhile_prefix _).length_le
theorem panePast_any (d q : Nat) (og : Option Nat) (c : Cfg) (l : List Pa.Pn) (t : Int) (w : World) (h : Pa.RowRep w d q og l) (hl : l.length ≤ 4398046511104) (h5 : w.cell? ⟨d, 5, none⟩ = some (.int .i64 c.window)) (h9 : w.cell? ⟨d, 9, none⟩ = some (.int .i64 c.panes)) (hc : c.paned) (hp : ∀ p ∈ l, OkP c p) :
  Calls Tryz.prog 219 #[.pointer (some ⟨q, 0, none⟩), .int .i64 t] w fun e w' => e = .returned (.int .i64 (pastP c l t)) ∧ Keeps (fun _ => False) w w' := by
 cases og with
 | none =>
  obtain ⟨hl, hb⟩ := h
  have hq1 : w.cell? ⟨q, 1, none⟩ = some (.slice none 0 0) := hb.cell rfl
  subst hl
  clear hb
  go_enter Tryz.func219, Tryz.ntmps219
  go_wp2
  go_loopw [5] (fun i wr => i = .int .i64 0 ∧ wr = w) (fun _ _ => 0)
  case atStart => exact ⟨rfl, rfl⟩
  case round =>
   obtain ⟨rfl, rfl⟩ := hrel
   go_wp2
   go_quiet (fail)
   go_wp2
   go_ret
   exact ⟨rfl, Keeps.drewN _ _ _⟩
 | some g =>
  obtain ⟨hne, cap, hb, hr⟩ := h
  have HB := hide hb
  have HR := hide hr
  have HP := hide hp
  have HC := hide hc
  have hltg := hr.lt
  clear hb hr hp hc
  generalize hn : l.length = n at *
  have HN := hide hn
  clear hn
  go_enter Tryz.func219, Tryz.ntmps219
  go_wp2
  go_loopw [5] (fun i wr => ∃ k : Nat, i = .int .i64 k ∧ k ≤ n ∧ Hid (Keeps (fun _ => False) w wr) ∧ Hid (pastP c l t = k + pastP c (l.drop k) t)) (fun i _ => n - (intOf i).toNat)
  case atStart => exact ⟨0, rfl, Nat.zero_le _, Keeps.refl _ _, by show _ = _; simp⟩
  case round =>
   obtain ⟨k, rfl, hk, HK, HE⟩ := hrel
   have hq1 : wr.cell? ⟨q, 1, none⟩ = some (.slice (some ⟨g, 0, none⟩) n cap) := (uh HK).cell ((uh HB).cell rfl) (fun h => h)
   have hq0 : wr.cell? ⟨q, 0, none⟩ = some (.func (.func 215) #[.pointer (some ⟨d, 0, none⟩)] #[]) := (uh HK).cell ((uh HB).cell rfl) (fun h => h)
   have g5 : wr.cell? ⟨d, 5, none⟩ = some (.int .i64 c.window) := (uh HK).cell h5 (fun h => h)
   have g9 : wr.cell? ⟨d, 9, none⟩ = some (.int .i64 c.panes) := (uh HK).cell h9 (fun h => h)
   by_cases hlt : k < n
   ·have hkl : k < l.length := by rw [uh HN]; exact hlt
    have hrg := bigCells_of_range (((uh HR).keeps (uh HK) (fun h => h)).range k hkl)
    rw [Pa.Pn.cells_length] at hrg
    have hbv : bigVal wr g (k * 49) 49 = .agg (Pa.pnAt l k).cells.toArray := by unfold bigVal; rw [hrg.1]
    have hbh : hasBig wr g (k * 49) 49 = true := hrg.2
    have hgr : g < wr.heap.size := Nat.lt_of_lt_of_le hltg (uh HK).size
    clear hrg
    have hk0 : (0 : Int) ≤ (k : Int) := by omega
    have hkn : (k : Int) < (n : Int) := by omega
    have HD := hide (Pa.pnAt_drop l k hkl)
    have HOK := hide (uh HP (Pa.pnAt l k) (by
         have : Pa.pnAt l k = l[k] := by simp [Pa.pnAt, List.getD_eq_getElem?_getD, List.getElem?_eq_getElem hkl]
         rw [this]; exact List.getElem_mem hkl))
    generalize Pa.pnAt l k = x at *
    clear hkl
    have HLT := hide (fun W h5' h9' => lastTime_any d c x W h5' h9' (uh HC) (uh HOK))
    obtain ⟨lt, hlast⟩ : ∃ lt, lastO c x = lt := ⟨_, rfl⟩
    have HLA := hide hlast
    clear hlast
    by_cases ht : lt ≤ t
    all_goals
     have HT := hide ht
     go_wp2
     go_region_held3 (fun w' => w'.cell? ⟨q, 0, none⟩ = some (.func (.func 215) #[.pointer (some ⟨d, 0, none⟩)] #[]) ∧ w'.cell? ⟨q, 1, none⟩ = some (.slice (some ⟨g, 0, none⟩) n cap) ∧
        bigVal w' g (k * 49) 49 = .agg x.cells.toArray ∧ hasBig w' g (k * 49) 49 = true ∧ w'.cell? ⟨d, 5, none⟩ = some (.int .i64 c.window) ∧ w'.cell? ⟨d, 9, none⟩ = some (.int .i64 c.panes)) (first | (go_split_ands; exact ⟨by assumption, by assumption, by assumption, by assumption, by assumption, by assumption⟩) | (go_split_ands; exact ⟨hka.cell (by assumption) (fun h => h), hka.cell (by assumption) (fun h => h), (bigVal_kp hka (by first | exact hgr | simpa using hgr)).1.trans (by assumption), (bigVal_kp hka (by first | exact hgr | simpa using hgr)).2.trans (by assumption), hka.cell (by assumption) (fun h => h), hka.cell (by assumption) (fun h => h)⟩))
      (first | (go_at_call 215; refine (uh HLT _ (by first | assumption | simpa using g5) (by first | assumption | simpa using g9)).mono ?_; rintro e W1 ⟨rfl, hka⟩; rw [uh HLA]))
     have HK1 := hide (((Keeps.refl (fun _ => False) wr).drew).then hka)
     clear hka
    ·go_wp2
     go_roundw
     case rel =>
      refine ⟨k + 1, by go_num, by omega, (uh HK).then (uh HK1), ?_⟩
      show _ = _
      rw [uh HE, uh HD]
      unfold pastP
      rw [List.takeWhile_cons, if_pos (by simpa [uh HLA] using uh HT)]
      simp; omega
     case measure => simp [intOf]; omega
    ·go_wp2
     go_ret
     refine ⟨?_, (uh HK).then (uh HK1)⟩
     rw [uh HE, uh HD]
     unfold pastP
     rw [List.takeWhile_cons, if_neg (by simpa [uh HLA] using uh HT)]
     simp
   ·have hd : decide ((k : Int) < (n : Int)) = false := by simp; omega
    go_wp2
    go_quiet (fail)
    go_wp2
    go_ret
    refine ⟨?_, (uh HK).then (Keeps.drewN _ _ _)⟩
    rw [uh HE, List.drop_eq_nil_of_le (by rw [uh HN]; omega)]
    simp [pastP]
end Go.Proofs.YtahnliehdjncdaaGreatDoor
namespace Go.Proofs.YtahnliehdjncdaaGreatDoor.Mk
open Go.RowKit
theorem deleteEnd_row {w : World} {g cap n : Nat} {l : List Bk} {cur : List Value} (hn : l.length = n + 1) (hb : Blk w g cur 222) (hl : cur.length = cap * 2) (ht : cur.take (l.length * 2) = flatB l) (hle : n + 1 ≤ cap) (hmax : cap ≤ maxLen) :
  BRow (w.setCells g (n * 2) (zerosB 1)) g cap (l.take n) := by
 have hb1 := Blk.setCells (zerosB 1) (n * 2) w cur hb (by rw [zerosB_length]; omega)
 have hlen : (l.take n).length = n := by simp [hn]
 refine ⟨⟨_, hb1, by rw [over_length (by rw [zerosB_length]; omega), hl], ?_⟩, by omega, hmax⟩
 rw [hlen, take_over (Nat.le_refl _) (by omega), flatB_take, ← ht, List.take_take, hn, Nat.min_eq_left (by omega)]
theorem deleteLast_any (g cap n : Nat) (l : List Bk) (w : World) (hn : l.length = n + 1) (hr : BRow w g cap l) :
  Calls Tryz.prog 242 #[.slice (some ⟨g, 0, none⟩) (n + 1) cap, .int .i64 n, .int .i64 ((n : Int) + 1)] w fun e w' => e = .returned (.slice (some ⟨g, 0, none⟩) n cap) ∧ BRow w' g cap (l.take n) ∧ Keeps (· = g) w w' := by
 obtain ⟨cur, hb, hl, ht⟩ := hr.ex
 have hle := hr.le
 rw [hn] at hle
 have hmax := hr.max
 have hcap : cap ≤ 9223372036854775807 := by unfold maxLen at hmax; omega
 have HFIN := hide (deleteEnd_row (w := w.drew) hn (by exact hb.drew) hl ht hle hmax)
 obtain ⟨A, hA⟩ : ∃ A : Addr, (if cap = n + 1 then some (⟨g, 0, none⟩ : Addr) else some ⟨g, (n + 1) * 2, none⟩) = some A := by
  by_cases h : cap = n + 1
  ·exact ⟨⟨g, 0, none⟩, by simp [h]⟩
  ·exact ⟨⟨g, (n + 1) * 2, none⟩, by simp [h]⟩
 have hcl : ∀ ty, (Builtin.clear_ #[270] ty #[.slice (some ⟨g, n * 2, none⟩) 1 (cap - n)]).run Tryz.prog (w.drew.setCells g (n * 2) []) = .ok (.tuple #[]) (w.drew.setCells g (n * 2) (zerosB 1)) :=
  fun ty => run_clear_row w.drew ty g _ _ _ _ hb.drew (by omega) (by omega)
 obtain ⟨i0, hi0, hz0, hz1, hz2⟩ := info_parts infoBk
 have hw1 : IntKind.i64.wrap ((n : Int) + 1) = (n : Int) + 1 := by rw [IntKind.wrap_i64]; omega
 have hne : ((n : Int) == (n : Int) + 1) = false := by simp; omega
 have hn0 : (0 : Int) ≤ (n : Int) := by omega
 have hn1 : (0 : Int) ≤ (n : Int) + 1 := by omega
 have hnc : n ≤ cap := by omega
 have hcn : ¬ cap = n := by omega
 clear hb ht hl hr hn hmax hz0 hz2
 go_enter Tryz.func242, Tryz.ntmps242
 go_wp2_with fail
 go_region_law (refine step_append_room rfl (.tmp 22) (.tmp 25) 270 rfl 222 i0 2 Tryz.underlying270 hi0 hz1 g 0 n cap (by simp [Act.eval, Act.put]) A 0 (cap - (n + 1)) [] (by simp [Act.eval, Act.put]) rfl (by intro t u hu; simp at hu) (by simp) (by omega) (by intro t ht; simp at ht) ?_)
 go_wp2
 go_ret
 refine ⟨by simp, ?_, ?_⟩
 ·exact uh HFIN
 ·exact Keeps.setCells (M := fun x => x = g) (Or.inl rfl) _ _ _ (Keeps.refl _ _).drew
end Go.Proofs.YtahnliehdjncdaaGreatDoor.Mk
