import Derived.Test.YtjhaihbjhikhlaaGreatXZ
import Derived.Test.YtjhaihbjhikhlaaGreatG
import Derived.Test.YtjhaihbjhikhlaaGreatXP
import Derived.Test.YtjhaihbjhikhlaaGreatXQ
namespace Go.Proofs.YtjhaihbjhikhlaaGreat
open Go.RowKit
attribute [local go_sem ↓] execOp_load38 execOp_load40 execOp_store40 execOp_bs22
attribute [local go_sem] run_load38 run_load40 bigVal_drew hasBig_drew bigVal_ne hasBig_ne bigVal_alloc hasBig_alloc run_bs1

set_option maxRecDepth 100000 in
set_option maxHeartbeats 2000000 in
theorem lsame_any (b1 b2 : Nat) (v1 v2 : Value) (l : List Int) (w : World) (h1 : w.ownsRow b1 3 1 v1 l.length (ints l)) (h2 : w.ownsRow b2 3 1 v2 l.length (ints l)) (hl : l.length ≤ 1000) :
    Calls Tryz.prog 28 #[v1, v2] w fun e w' => e = .returned (.bool true) ∧ Keeps (fun _ => False) w w' := by
  rcases num_cells h1 with ⟨rfl, a1, c1, rfl⟩ | ⟨g1, c1, rfl, hc1⟩
  · rcases num_cells h2 with ⟨_, a2, c2, rfl⟩ | ⟨g2, c2, rfl, hc2⟩
    all_goals
      clear h1 h2
      go_enter Tryz.func28, Tryz.ntmps28
      go_wp2
      go_loopw [5] (fun i wr => i = .int .i64 0 ∧ wr = w) (fun _ _ => 0)
      case atStart => exact ⟨rfl, rfl⟩
      case round =>
        obtain ⟨rfl, rfl⟩ := hrel
        go_wp2
        go_ret
        exact ⟨rfl, Keeps.refl _ _⟩
  · rcases num_cells h2 with ⟨h0, a2, c2, rfl⟩ | ⟨g2, c2, rfl, hc2⟩
    · subst h0
      clear h1 h2 hc1
      go_enter Tryz.func28, Tryz.ntmps28
      go_wp2
      go_loopw [5] (fun i wr => i = .int .i64 0 ∧ wr = w) (fun _ _ => 0)
      case atStart => exact ⟨rfl, rfl⟩
      case round =>
        obtain ⟨rfl, rfl⟩ := hrel
        go_wp2
        go_ret
        exact ⟨rfl, Keeps.refl _ _⟩
    · have HC1 := hide hc1
      have HC2 := hide hc2
      clear h1 h2 hc1 hc2
      generalize hn : l.length = n at *
      clear hn
      go_enter Tryz.func28, Tryz.ntmps28
      go_wp2
      go_loopw [5] (fun i wr => ∃ k : Nat, k ≤ n ∧ i = .int .i64 k ∧ Hid (Keeps (fun _ => False) w wr)) (fun i _ => n - (intOf i).toNat)
      case atStart => exact ⟨0, by omega, rfl, Keeps.refl _ _⟩
      case round =>
        obtain ⟨k, hk, rfl, HK⟩ := hrel
        by_cases hlt : k < n
        · have x1 : wr.cell? ⟨g1, k, none⟩ = some (.int .i64 (l.getD k 0)) := (unhide HK).cell (unhide HC1 k hlt) (fun h => h)
          have x2 : wr.cell? ⟨g2, k, none⟩ = some (.int .i64 (l.getD k 0)) := (unhide HK).cell (unhide HC2 k hlt) (fun h => h)
          generalize l.getD k 0 = y at *
          have hk0 : (0 : Int) ≤ (k : Int) := by omega
          have hkn : (k : Int) < (n : Int) := by omega
          have hne : (y != y) = false := by simp
          go_wp2
          go_quiet (fail)
          go_wp2
          go_roundw
          case rel => exact ⟨k + 1, by omega, by go_num, hide ((unhide HK).then (Keeps.drewN _ _ _))⟩
          case measure => simp [intOf]; omega
        · go_wp2
          go_ret
          exact ⟨rfl, unhide HK⟩


set_option maxRecDepth 100000 in
set_option maxHeartbeats 4000000 in
theorem alike_any (b1 b2 : Nat) (o : OpM) (code : Int) (v1 v2 : Value) (l : List Int) (w : World) (h1 : w.ownsRow b1 3 1 v1 l.length (ints l)) (h2 : w.ownsRow b2 3 1 v2 l.length (ints l)) (hl : l.length ≤ 1000) (hk : o.kind ≠ 6) :
    Calls Tryz.prog 16 #[o.val, ansV code v1, ansV code v2] w fun e w' => e = .returned (.bool true) ∧ Keeps (fun _ => False) w w' := by
  have h0c : o.cells[0]? = some (.int .i64 o.kind) := rfl
  have b6 : (o.kind == 6) = false := by simpa using hk
  obtain ⟨a1, c1, rfl⟩ := nv_form h1
  obtain ⟨a2, c2, rfl⟩ := nv_form h2
  have HK0 := hide ((((Keeps.refl (fun _ => False) w).alloc (.cells o.cells.toArray 35)).alloc (.cells #[.int .i64 code, .slice a1 l.length c1, .string noBytes] 41)).alloc (.cells #[.int .i64 code, .slice a2 l.length c2, .string noBytes] 41))
  have HO := hide (show Blk (((w.alloc (.cells o.cells.toArray 35)).alloc (.cells #[.int .i64 code, .slice a1 l.length c1, .string noBytes] 41)).alloc (.cells #[.int .i64 code, .slice a2 l.length c2, .string noBytes] 41)) w.heap.size o.cells 35 from ((Blk.new w o.cells 35).alloc _).alloc _)
  have HA := hide (show Blk (((w.alloc (.cells o.cells.toArray 35)).alloc (.cells #[.int .i64 code, .slice a1 l.length c1, .string noBytes] 41)).alloc (.cells #[.int .i64 code, .slice a2 l.length c2, .string noBytes] 41)) (w.heap.size + 1) [.int .i64 code, .slice a1 l.length c1, .string noBytes] 41 from (Blk.newAt (by simp) [_, _, _] 41).alloc _)
  have HB := hide (show Blk (((w.alloc (.cells o.cells.toArray 35)).alloc (.cells #[.int .i64 code, .slice a1 l.length c1, .string noBytes] 41)).alloc (.cells #[.int .i64 code, .slice a2 l.length c2, .string noBytes] 41)) (w.heap.size + 2) [.int .i64 code, .slice a2 l.length c2, .string noBytes] 41 from Blk.newAt (by simp) [_, _, _] 41)
  have H1 := hide (owns_keeps h1 (unhide HK0) (fun _ _ h => h))
  have H2 := hide (owns_keeps h2 (unhide HK0) (fun _ _ h => h))
  clear h1 h2
  unfold OpM.val ansV
  go_enter Tryz.func16, Tryz.ntmps16
  go_wp2_with fail
  generalize ((w.alloc (.cells o.cells.toArray 35)).alloc (.cells #[.int .i64 code, .slice a1 l.length c1, .string noBytes] 41)).alloc (.cells #[.int .i64 code, .slice a2 l.length c2, .string noBytes] 41) = w0 at *
  generalize w.heap.size = ob at *
  refine (lsame_any b1 b2 _ _ l w0 (unhide H1) (unhide H2) hl).mono ?_
  rintro r w1 ⟨rfl, hk1⟩
  have HK1 := hide ((unhide HK0).then hk1)
  have p0 : w1.cell? ⟨ob + 1, 0, none⟩ = some (.int .i64 code) := hk1.cell ((unhide HA).cell rfl) (fun h => h)
  have q0 : w1.cell? ⟨ob + 2, 0, none⟩ = some (.int .i64 code) := hk1.cell ((unhide HB).cell rfl) (fun h => h)
  have p2 : w1.cell? ⟨ob + 1, 2, none⟩ = some (.string noBytes) := hk1.cell ((unhide HA).cell rfl) (fun h => h)
  have o0 : w1.cell? ⟨ob, 0, none⟩ = some (.int .i64 o.kind) := hk1.cell ((unhide HO).cell rfl) (fun h => h)
  have hcc : (code != code) = false := by simp
  clear hk1
  go_wp2_with fail
  go_region_held3 (fun w' => w'.cell? ⟨ob + 1, 0, none⟩ = some (.int .i64 code) ∧ w'.cell? ⟨ob + 2, 0, none⟩ = some (.int .i64 code)) (go_keep)
    (first | (go_at_call 29; refine (rnum_any _ _).mono ?_; rintro r w9 ⟨rfl, rfl⟩))
  have hbb : (noBytes != ⟨#[]⟩) = false := by decide
  unfold noBytes at p2 hbb
  go_wp2
  go_ret
  exact ⟨rfl, (unhide HK1).drew⟩

def keptB (most low high : Int) (o : OpM) : Bool := decide (o.kind = 5 ∨ o.kind ≤ most) && decide (o.kind ≠ 1 ∨ (low ≤ o.cfg.kind ∧ o.cfg.kind ≤ high) ∨ o.cfg.kind < 1 ∨ 5 < o.cfg.kind)

set_option maxRecDepth 100000 in
set_option maxHeartbeats 8000000 in
theorem kept_any (v : Value) (ops : List OpM) (most low high : Int) (w : World) (hs : ScriptW w v ops) (hlen : ops.length ≤ 651562446080) :
    Calls Tryz.prog 8 #[v, .int .i64 most, .int .i64 low, .int .i64 high] w fun r w' => ∃ v', r = .returned v' ∧ OwnS w' w.heap.size v' (ops.filter (keptB most low high)) ∧ Keeps (fun _ => False) w w' := by
  obtain ⟨a, cap, rfl, hsv⟩ := script_view hs
  have HSV := hide hsv
  clear hs hsv
  generalize hn : ops.length = n at *
  have HN := hide hn
  clear hn
  go_enter Tryz.func8, Tryz.ntmps8
  go_wp2_with fail
  go_loopw [9, 10] (fun l i wr => ∃ (k m c : Nat) (ad : Option Addr), k ≤ n ∧ i = .int .i64 k ∧ l = .slice ad m c ∧ Hid (OwnS wr w.heap.size l ((ops.take k).filter (keptB most low high))) ∧ Hid (Keeps (fun _ => False) w wr)) (fun _ i _ => n - (intOf i).toNat)
  case atStart => exact ⟨0, 0, 0, none, by omega, rfl, rfl, World.ownsRow_nil _ _ _ _, Keeps.refl _ _⟩
  case round =>
    obtain ⟨k, m, c, ad, hk, rfl, rfl, HO, HK⟩ := hrel
    by_cases hkn : k < n
    · obtain ⟨o, ho⟩ : ∃ o, ops[k]? = some o := ⟨ops[k]'(by rw [unhide HN]; exact hkn), List.getElem?_eq_getElem _⟩
      obtain ⟨sb, so, ha, hlt, hra⟩ := unhide HSV k o ho
      obtain ⟨hv0, hh0⟩ := range_big hra hlt (unhide HK)
      subst ha
      have hst : ∀ zs : List Value, zs.length = 26 → (storeBig 35 (.pointer (some ⟨wr.heap.size, 0, none⟩)) (.agg o.cells.toArray)).run Tryz.prog (wr.alloc (.cells zs.toArray 35)) = .ok .skip (wr.alloc (.cells o.cells.toArray 35)) := fun zs hz => run_store40 wr zs o.cells hz rfl (op_oneCell o)
      have hv1 : bigVal (wr.alloc (.cells o.cells.toArray 35)) wr.heap.size 0 26 = .agg o.cells.toArray := bigVal_new wr o.cells 35 26 rfl
      have hh1 : hasBig (wr.alloc (.cells o.cells.toArray 35)) wr.heap.size 0 26 = true := hasBig_new wr o.cells 35 26 rfl
      have h0c : o.cells[0]? = some (.int .i64 o.kind) := rfl
      have h5c : o.cells[5]? = some (.int .i64 o.cfg.kind) := rfl
      have htk : ops.take (k + 1) = ops.take k ++ [o] := by rw [List.take_add_one, ho]; rfl
      have hk0 : (0 : Int) ≤ (k : Int) := by omega
      have hkn' : (k : Int) < (n : Int) := by omega
      have hl0 : ((ops.take k).filter (keptB most low high)).length ≤ k := by
        have h1 := List.length_filter_le (keptB most low high) (ops.take k)
        rw [List.length_take] at h1
        omega
      have HFL := hide (show (ops.take (k + 1)).filter (keptB most low high) = (ops.take k).filter (keptB most low high) ++ [o].filter (keptB most low high) by rw [htk, List.filter_append])
      have hm : m = ((ops.take k).filter (keptB most low high)).length := by
        obtain ⟨_, _, e⟩ := row_form (unhide HO)
        injection e
      clear hra htk ho
      generalize (ops.take k).filter (keptB most low high) = A at *
      have HKa := hide ((unhide HK).alloc (.cells o.cells.toArray 35))
      by_cases k5 : o.kind = 5
      · have kb5 : (o.kind == 5) = true := by simpa using k5
        have kb1 : (o.kind != 1) = true := by simp [k5]
        have HF1 := hide (show [o].filter (keptB most low high) = [o] from List.filter_cons_of_pos (by unfold keptB; simp; omega))
        go_wp2_with (at_builtin; refine wpList_append_ops rfl _ _ rfl w.heap.size (.slice ad m c) A rfl (by exact owns_keeps (unhide HO) (((Keeps.refl (fun _ => False) wr).alloc _).alloc _) (fun _ _ h => h)) _ [o] rfl (by exact blk_script (Blk.newAt (w := wr.alloc (.cells o.cells.toArray 35)) (by simp) o.cells 35)) (by simp; omega) (by have := (unhide HK).size; simp; omega) ?_; intro ad2 c2 w2 hown2 hk2 hat2)
        go_roundw
        case rel =>
          refine ⟨k + 1, A.length + 1, c2, ad2, by omega, by go_num, rfl, ?_, ?_⟩
          · show OwnS _ _ _ _; rw [unhide HFL, unhide HF1]; exact hown2
          · refine (((unhide HKa).alloc _).trans hk2 (fun i hi hlt => ?_))
            have := ((unhide HO).lt i hi).1
            omega
        case measure => simp [intOf]; omega
      have kb5 : (o.kind == 5) = false := by simpa using k5
      by_cases km : o.kind ≤ most
      · by_cases k1 : o.kind = 1
        · have kb1 : (o.kind != 1) = false := by simp [k1]
          by_cases cl : low ≤ o.cfg.kind
          · by_cases ch : o.cfg.kind ≤ high
            · have HF1 := hide (show [o].filter (keptB most low high) = [o] from List.filter_cons_of_pos (by unfold keptB; simp; omega))
              go_wp2_with (at_builtin; refine wpList_append_ops rfl _ _ rfl w.heap.size (.slice ad m c) A rfl (by exact owns_keeps (unhide HO) (((Keeps.refl (fun _ => False) wr).alloc _).alloc _) (fun _ _ h => h)) _ [o] rfl (by exact blk_script (Blk.newAt (w := wr.alloc (.cells o.cells.toArray 35)) (by simp) o.cells 35)) (by simp; omega) (by have := (unhide HK).size; simp; omega) ?_; intro ad2 c2 w2 hown2 hk2 hat2)
              go_roundw
              case rel =>
                refine ⟨k + 1, A.length + 1, c2, ad2, by omega, by go_num, rfl, ?_, ?_⟩
                · show OwnS _ _ _ _; rw [unhide HFL, unhide HF1]; exact hown2
                · refine (((unhide HKa).alloc _).trans hk2 (fun i hi hlt => ?_))
                  have := ((unhide HO).lt i hi).1
                  omega
              case measure => simp [intOf]; omega
            · by_cases c1' : o.cfg.kind < 1
              · have HF1 := hide (show [o].filter (keptB most low high) = [o] from List.filter_cons_of_pos (by unfold keptB; simp; omega))
                go_wp2_with (at_builtin; refine wpList_append_ops rfl _ _ rfl w.heap.size (.slice ad m c) A rfl (by exact owns_keeps (unhide HO) (((Keeps.refl (fun _ => False) wr).alloc _).alloc _) (fun _ _ h => h)) _ [o] rfl (by exact blk_script (Blk.newAt (w := wr.alloc (.cells o.cells.toArray 35)) (by simp) o.cells 35)) (by simp; omega) (by have := (unhide HK).size; simp; omega) ?_; intro ad2 c2 w2 hown2 hk2 hat2)
                go_roundw
                case rel =>
                  refine ⟨k + 1, A.length + 1, c2, ad2, by omega, by go_num, rfl, ?_, ?_⟩
                  · show OwnS _ _ _ _; rw [unhide HFL, unhide HF1]; exact hown2
                  · refine (((unhide HKa).alloc _).trans hk2 (fun i hi hlt => ?_))
                    have := ((unhide HO).lt i hi).1
                    omega
                case measure => simp [intOf]; omega
              · by_cases c5 : 5 < o.cfg.kind
                · have HF1 := hide (show [o].filter (keptB most low high) = [o] from List.filter_cons_of_pos (by unfold keptB; simp; omega))
                  go_wp2_with (at_builtin; refine wpList_append_ops rfl _ _ rfl w.heap.size (.slice ad m c) A rfl (by exact owns_keeps (unhide HO) (((Keeps.refl (fun _ => False) wr).alloc _).alloc _) (fun _ _ h => h)) _ [o] rfl (by exact blk_script (Blk.newAt (w := wr.alloc (.cells o.cells.toArray 35)) (by simp) o.cells 35)) (by simp; omega) (by have := (unhide HK).size; simp; omega) ?_; intro ad2 c2 w2 hown2 hk2 hat2)
                  go_roundw
                  case rel =>
                    refine ⟨k + 1, A.length + 1, c2, ad2, by omega, by go_num, rfl, ?_, ?_⟩
                    · show OwnS _ _ _ _; rw [unhide HFL, unhide HF1]; exact hown2
                    · refine (((unhide HKa).alloc _).trans hk2 (fun i hi hlt => ?_))
                      have := ((unhide HO).lt i hi).1
                      omega
                  case measure => simp [intOf]; omega
                · have HF1 := hide (show [o].filter (keptB most low high) = [] from List.filter_cons_of_neg (by unfold keptB; simp; omega))
                  go_wp2
                  go_roundw
                  case rel => exact ⟨k + 1, m, c, ad, by omega, by go_num, rfl, by show OwnS _ _ _ _; rw [unhide HFL, unhide HF1, List.append_nil]; exact owns_keeps (unhide HO) ((Keeps.refl (fun _ => False) wr).alloc _) (fun _ _ h => h), HKa⟩
                  case measure => simp [intOf]; omega
          · by_cases c1' : o.cfg.kind < 1
            · have HF1 := hide (show [o].filter (keptB most low high) = [o] from List.filter_cons_of_pos (by unfold keptB; simp; omega))
              go_wp2_with (at_builtin; refine wpList_append_ops rfl _ _ rfl w.heap.size (.slice ad m c) A rfl (by exact owns_keeps (unhide HO) (((Keeps.refl (fun _ => False) wr).alloc _).alloc _) (fun _ _ h => h)) _ [o] rfl (by exact blk_script (Blk.newAt (w := wr.alloc (.cells o.cells.toArray 35)) (by simp) o.cells 35)) (by simp; omega) (by have := (unhide HK).size; simp; omega) ?_; intro ad2 c2 w2 hown2 hk2 hat2)
              go_roundw
              case rel =>
                refine ⟨k + 1, A.length + 1, c2, ad2, by omega, by go_num, rfl, ?_, ?_⟩
                · show OwnS _ _ _ _; rw [unhide HFL, unhide HF1]; exact hown2
                · refine (((unhide HKa).alloc _).trans hk2 (fun i hi hlt => ?_))
                  have := ((unhide HO).lt i hi).1
                  omega
              case measure => simp [intOf]; omega
            · by_cases c5 : 5 < o.cfg.kind
              · have HF1 := hide (show [o].filter (keptB most low high) = [o] from List.filter_cons_of_pos (by unfold keptB; simp; omega))
                go_wp2_with (at_builtin; refine wpList_append_ops rfl _ _ rfl w.heap.size (.slice ad m c) A rfl (by exact owns_keeps (unhide HO) (((Keeps.refl (fun _ => False) wr).alloc _).alloc _) (fun _ _ h => h)) _ [o] rfl (by exact blk_script (Blk.newAt (w := wr.alloc (.cells o.cells.toArray 35)) (by simp) o.cells 35)) (by simp; omega) (by have := (unhide HK).size; simp; omega) ?_; intro ad2 c2 w2 hown2 hk2 hat2)
                go_roundw
                case rel =>
                  refine ⟨k + 1, A.length + 1, c2, ad2, by omega, by go_num, rfl, ?_, ?_⟩
                  · show OwnS _ _ _ _; rw [unhide HFL, unhide HF1]; exact hown2
                  · refine (((unhide HKa).alloc _).trans hk2 (fun i hi hlt => ?_))
                    have := ((unhide HO).lt i hi).1
                    omega
                case measure => simp [intOf]; omega
              · have HF1 := hide (show [o].filter (keptB most low high) = [] from List.filter_cons_of_neg (by unfold keptB; simp; omega))
                go_wp2
                go_roundw
                case rel => exact ⟨k + 1, m, c, ad, by omega, by go_num, rfl, by show OwnS _ _ _ _; rw [unhide HFL, unhide HF1, List.append_nil]; exact owns_keeps (unhide HO) ((Keeps.refl (fun _ => False) wr).alloc _) (fun _ _ h => h), HKa⟩
                case measure => simp [intOf]; omega
        · have kb1 : (o.kind != 1) = true := by simpa using k1
          have HF1 := hide (show [o].filter (keptB most low high) = [o] from List.filter_cons_of_pos (by unfold keptB; simp; omega))
          go_wp2_with (at_builtin; refine wpList_append_ops rfl _ _ rfl w.heap.size (.slice ad m c) A rfl (by exact owns_keeps (unhide HO) (((Keeps.refl (fun _ => False) wr).alloc _).alloc _) (fun _ _ h => h)) _ [o] rfl (by exact blk_script (Blk.newAt (w := wr.alloc (.cells o.cells.toArray 35)) (by simp) o.cells 35)) (by simp; omega) (by have := (unhide HK).size; simp; omega) ?_; intro ad2 c2 w2 hown2 hk2 hat2)
          go_roundw
          case rel =>
            refine ⟨k + 1, A.length + 1, c2, ad2, by omega, by go_num, rfl, ?_, ?_⟩
            · show OwnS _ _ _ _; rw [unhide HFL, unhide HF1]; exact hown2
            · refine (((unhide HKa).alloc _).trans hk2 (fun i hi hlt => ?_))
              have := ((unhide HO).lt i hi).1
              omega
          case measure => simp [intOf]; omega
      · have HF1 := hide (show [o].filter (keptB most low high) = [] from List.filter_cons_of_neg (by unfold keptB; simp; omega))
        go_wp2
        go_roundw
        case rel => exact ⟨k + 1, m, c, ad, by omega, by go_num, rfl, by show OwnS _ _ _ _; rw [unhide HFL, unhide HF1, List.append_nil]; exact owns_keeps (unhide HO) ((Keeps.refl (fun _ => False) wr).alloc _) (fun _ _ h => h), HKa⟩
        case measure => simp [intOf]; omega
    · have hkk : k = n := by omega
      subst hkk
      go_wp2
      go_ret
      have h1 := unhide HO
      rw [List.take_of_length_le (by rw [unhide HN]; omega)] at h1
      exact ⟨_, rfl, h1, unhide HK⟩

end Go.Proofs.YtjhaihbjhikhlaaGreat

namespace Go.Proofs.YtjhaihbjhikhlaaGreat
open Go.RowKit
attribute [local go_sem ↓] execOp_load38 execOp_load40 execOp_store40 execOp_bs22
attribute [local go_sem] run_load38 run_load40 bigVal_drew hasBig_drew bigVal_ne hasBig_ne bigVal_alloc hasBig_alloc run_bs1

set_option maxRecDepth 100000 in
set_option maxHeartbeats 8000000 in
theorem filled_any (v : Value) (ops : List OpM) (w : World) (hs : ScriptW w v ops) (hlen : ops.length ≤ 651562446080) (h7 : ∀ o, o ∈ ops → o.kind ≠ 7) :
    Calls Tryz.prog 9 #[v] w fun r w' => ∃ v1 v2, r = .returned (.tuple #[v1, v2]) ∧ OwnS w' w.heap.size v1 ops ∧ OwnS w' w.heap.size v2 ops ∧ Keeps (fun _ => False) w w' := by
  obtain ⟨a, cap, rfl, hsv⟩ := script_view hs
  have HSV := hide hsv
  have H7 := hide h7
  clear hs hsv h7
  generalize hn : ops.length = n at *
  have HN := hide hn
  clear hn
  go_enter Tryz.func9, Tryz.ntmps9
  go_wp2_with fail
  go_loopw [4, 5, 6] (fun x y i wr => ∃ (k c d : Nat) (ax ay : Option Addr), k ≤ n ∧ i = .int .i64 k ∧ x = .slice ax k c ∧ y = .slice ay k d ∧ Hid (OwnS wr w.heap.size x (ops.take k)) ∧ Hid (OwnS wr w.heap.size y (ops.take k)) ∧ Hid (∀ i, x.ownBlock = some i → y.ownBlock ≠ some i) ∧ Hid (Keeps (fun _ => False) w wr)) (fun _ _ i _ => n - (intOf i).toNat)
  case atStart => exact ⟨0, 0, 0, none, none, by omega, rfl, rfl, rfl, World.ownsRow_nil _ _ _ _, World.ownsRow_nil _ _ _ _, (by intro i hi; cases hi), Keeps.refl _ _⟩
  case round =>
    obtain ⟨k, c, d, ax, ay, hk, rfl, rfl, rfl, HX, HY, HD, HK⟩ := hrel
    by_cases hkn : k < n
    · obtain ⟨o, ho⟩ : ∃ o, ops[k]? = some o := ⟨ops[k]'(by rw [unhide HN]; exact hkn), List.getElem?_eq_getElem _⟩
      have n7 := unhide H7 o (List.mem_of_getElem? ho)
      have b7 : (o.kind == 7) = false := by simpa using n7
      obtain ⟨sb, so, ha, hlt, hra⟩ := unhide HSV k o ho
      obtain ⟨hv0, hh0⟩ := range_big hra hlt (unhide HK)
      subst ha
      have hst : ∀ zs : List Value, zs.length = 26 → (storeBig 35 (.pointer (some ⟨wr.heap.size, 0, none⟩)) (.agg o.cells.toArray)).run Tryz.prog (wr.alloc (.cells zs.toArray 35)) = .ok .skip (wr.alloc (.cells o.cells.toArray 35)) := fun zs hz => run_store40 wr zs o.cells hz rfl (op_oneCell o)
      have hst2 : ∀ zs : List Value, zs.length = 26 → (storeBig 35 (.pointer (some ⟨wr.heap.size + 1, 0, none⟩)) (.agg o.cells.toArray)).run Tryz.prog ((wr.alloc (.cells o.cells.toArray 35)).alloc (.cells zs.toArray 35)) = .ok .skip ((wr.alloc (.cells o.cells.toArray 35)).alloc (.cells o.cells.toArray 35)) := fun zs hz => by
        have := run_store40 (wr.alloc (.cells o.cells.toArray 35)) zs o.cells hz rfl (op_oneCell o)
        rw [World.size_alloc] at this
        exact this
      have hv1 : bigVal (wr.alloc (.cells o.cells.toArray 35)) wr.heap.size 0 26 = .agg o.cells.toArray := bigVal_new wr o.cells 35 26 rfl
      have hh1 : hasBig (wr.alloc (.cells o.cells.toArray 35)) wr.heap.size 0 26 = true := hasBig_new wr o.cells 35 26 rfl
      have h0c : o.cells[0]? = some (.int .i64 o.kind) := rfl
      have htk : ops.take (k + 1) = ops.take k ++ [o] := by rw [List.take_add_one, ho]; rfl
      have HTK := hide htk
      have hk0 : (0 : Int) ≤ (k : Int) := by omega
      have hkn' : (k : Int) < (n : Int) := by omega
      have hAl : (ops.take k).length = k := by rw [List.length_take, unhide HN]; omega
      have HAL := hide hAl
      clear hra htk ho hAl n7
      generalize ops.take k = A at *
      go_upto_region 17 with fail
      have hkb : Keeps (fun _ => False) wr ((wr.alloc (.cells o.cells.toArray 35)).alloc (.cells o.cells.toArray 35)) := ((Keeps.refl (fun _ => False) wr).alloc _).alloc _
      have HO1 := hide (show Blk ((wr.alloc (.cells o.cells.toArray 35)).alloc (.cells o.cells.toArray 35)) wr.heap.size o.cells 35 from (Blk.new wr o.cells 35).alloc _)
      have HO2 := hide (show Blk ((wr.alloc (.cells o.cells.toArray 35)).alloc (.cells o.cells.toArray 35)) (wr.heap.size + 1) o.cells 35 from Blk.newAt (by simp) o.cells 35)
      have HXb := hide (owns_keeps (unhide HX) hkb (fun _ _ h => h))
      have HYb := hide (owns_keeps (unhide HY) hkb (fun _ _ h => h))
      have HKb := hide ((unhide HK).then hkb)
      have HXl := hide (show ∀ i, (Value.slice ax k c).ownBlock = some i → w.heap.size ≤ i ∧ i < wr.heap.size from fun i hi => (unhide HX).lt i hi)
      have HYl := hide (show ∀ i, (Value.slice ay k d).ownBlock = some i → w.heap.size ≤ i ∧ i < wr.heap.size from fun i hi => (unhide HY).lt i hi)
      have hws := (unhide HK).size
      clear hkb hst hst2 hv0 hh0 hv1 hh1 h0c
      generalize (wr.alloc (.cells o.cells.toArray 35)).alloc (.cells o.cells.toArray 35) = wb at *
      generalize hob : wr.heap.size = ob at *
      have hobl : ob + 1 < wb.heap.size := (unhide HO2).lt
      clear hob
      obtain ⟨hv1, hh1⟩ := bigVal_Blk (unhide HO1) 26 rfl
      have hbb : w.heap.size ≤ wb.heap.size := (unhide HKb).size
      go_wp2_with (at_builtin; first | (refine wpList_append_ops rfl _ _ rfl w.heap.size (.slice ax k c) A rfl (by exact owns_keeps (unhide HXb) ((Keeps.refl (fun _ => False) wb).alloc _) (fun _ _ h => h)) _ [o] rfl (by exact blk_script (Blk.new wb o.cells 35)) (by have := unhide HAL; simp; omega) (by simp; omega) ?_; intro ad2 c2 w2 hown2 hk2 hat2; have hk2' := ((Keeps.refl (fun i => (Value.slice ax k c).ownBlock = some i) wb).alloc _).then hk2; have HX2 := hide hown2; have HY2 := hide (owns_keeps (unhide HYb) hk2' (fun i hi hh => unhide HD i hh hi)); have HO2' := hide ((unhide HO2).keeps hk2' (fun h => by have := unhide HXl _ h; omega)); have HK2 := hide ((unhide HKb).trans hk2' (fun i hi hlt => by have := (unhide HXl i hi).1; omega)); have HAT2 := hide hat2; have hs2 : wb.heap.size ≤ w2.heap.size := hk2'.size; have hv2 := (bigVal_Blk (unhide HO2') 26 rfl).1; have hh2 := (bigVal_Blk (unhide HO2') 26 rfl).2; clear hown2 hk2 hk2' hat2) | (refine wpList_append_ops rfl _ _ rfl w.heap.size (.slice ay k d) A rfl (by exact owns_keeps (unhide HY2) ((Keeps.refl (fun _ => False) w2).alloc _) (fun _ _ h => h)) _ [o] rfl (by exact blk_script (Blk.new w2 o.cells 35)) (by have := unhide HAL; simp; omega) (by simp; omega) ?_; intro ad3 c3 w3 hown3 hk3 hat3))
      go_roundw
      case rel =>
        have hk3' := ((Keeps.refl (fun i => (Value.slice ay k d).ownBlock = some i) w2).alloc (.cells o.cells.toArray 35)).then hk3
        have hal := unhide HAL
        refine ⟨k + 1, c2, c3, ad2, ad3, by omega, by go_num, by rw [hal], by rw [hal], ?_, ?_, ?_, ?_⟩
        · show OwnS _ _ _ _
          rw [unhide HTK]
          refine owns_keeps (unhide HX2) hk3' (fun i hi hh => ?_)
          have h2 := unhide HYl i hh
          rcases unhide HAT2 i hi with h | h
          · exact unhide HD i h hh
          · simp at h; omega
        · show OwnS _ _ _ _
          rw [unhide HTK]; exact hown3
        · intro i hi hh
          rcases unhide HAT2 i hi with h | h
          · have h1 := unhide HXl i h
            rcases hat3 i hh with h2 | h2
            · exact unhide HD i h h2
            · simp at h2; omega
          · simp at h
            rcases hat3 i hh with h2 | h2
            · have := unhide HYl i h2; omega
            · have h3 := ((unhide HX2).lt i hi).2
              simp at h2; omega
        · exact (unhide HK2).trans hk3' (fun i hi hlt => by have := (unhide HYl i hi).1; omega)
      case measure => simp [intOf]; omega
    · have hkk : k = n := by omega
      subst hkk
      go_wp2
      go_ret2
      have h1 := unhide HX
      have h2 := unhide HY
      rw [List.take_of_length_le (by rw [unhide HN]; omega)] at h1 h2
      exact ⟨_, _, rfl, h1, h2, unhide HK⟩

end Go.Proofs.YtjhaihbjhikhlaaGreat

namespace Go.Proofs.YtjhaihbjhikhlaaGreat
open Go.RowKit
attribute [local go_sem ↓] execOp_load38 execOp_load40 execOp_store40 execOp_bs22
attribute [local go_sem] run_load38 run_load40 bigVal_drew hasBig_drew bigVal_ne hasBig_ne bigVal_alloc hasBig_alloc run_bs1

theorem okOp_parts {D : Bool} {o : OpM} (h : okOp D o) : (o.kind ≠ 6 ∧ o.kind ≠ 7) ∧ (D = false → o.kind ≠ 4) ∧ (D = true → o.kind = 1 → validB o.cfg = true → o.cfg.kind = 1 ∨ o.cfg.kind = 4) := by
  obtain ⟨h1, h2⟩ := h
  refine ⟨?_, ?_, fun hD a b => h2 a b hD⟩
  · cases D <;> simp at h1 <;> omega
  · intro hD; subst hD; simp at h1; omega
theorem rel0 (D : Bool) : RelW D ws0 rs0 := ⟨rfl, by simp [rs0], trivial, by simp [ws0], by simp [ws0]⟩
theorem len_of_map {l : List Ans} {x : List (Int × List Int)} (h : l.map (fun x => (x.code, x.nums)) = x) : l.length = x.length := by rw [← h, List.length_map]

set_option maxRecDepth 100000 in
set_option maxHeartbeats 8000000 in
theorem answered_any (D : Bool) (base : Nat) (ops : List OpM) (vr vt va : Value) (l1 : List Ans) (w : World) (hr : ScriptW w vr ops) (ht : ScriptW w vt ops) (ha : ARep w base va l1) (hm : l1.map (fun x => (x.code, x.nums)) = runM ws0 ops) (hlen : ops.length ≤ 651562446080) (hok : ∀ o, o ∈ ops → okOp D o) :
    Calls Tryz.prog 11 #[vr, vt, va] w fun r w' => r = .returned (.bool true) ∧ Keeps (fun _ => False) w w' := by
  have hl1 : l1.length = ops.length := by rw [len_of_map hm, runM_length]
  obtain ⟨ar, cr, rfl, hrv⟩ := script_view hr
  obtain ⟨aa, ca, rfl⟩ := row_form ha.row
  have HRV := hide hrv
  have HT := hide ht
  have HA := hide ha
  have HM := hide hm
  have HOK := hide hok
  have hq : (∀ o, o ∈ ops → o.kind ≠ 4) ∨ ∀ o, o ∈ ops → o.kind = 1 → validB o.cfg = true → o.cfg.kind = 1 ∨ o.cfg.kind = 4 := by
    cases D with
    | false => exact .inl fun o ho => (okOp_parts (hok o ho)).2.1 rfl
    | true => exact .inr fun o ho => (okOp_parts (hok o ho)).2.2 rfl
  have HQ := hide hq
  have HSAME := hide (run_same D ops ws0 rs0 (rel0 D) hok)
  clear hr hrv ht ha hm hok hq
  rw [hl1]
  have HL1 := hide hl1
  clear hl1
  go_enter Tryz.func11, Tryz.ntmps11
  go_wp2_with fail
  refine (rrun_any vt ops w (unhide HT) hlen (fun o ho => (okOp_parts (unhide HOK o ho)).1) (unhide HQ)).mono ?_
  rintro r w1 ⟨vb, l2, rfl, hb, hm2, hk1⟩
  have hl2 : l2.length = ops.length := by rw [len_of_map hm2, runR_length]
  obtain ⟨ab, cb, rfl⟩ := row_form hb.row
  rw [hl2]
  have HB := hide hb
  have HM2 := hide hm2
  have HL2 := hide hl2
  have HA1 := hide ((unhide HA).keeps hk1 (fun _ _ h => h))
  have HK1 := hide hk1
  clear hb hm2 hl2 hk1
  generalize hn : ops.length = n at *
  have HN := hide hn
  have hnn : ((n : Int) != (n : Int)) = false := by simp
  clear hn
  go_wp2_with fail
  go_loopw [8] (fun i wr => ∃ k : Nat, k ≤ n ∧ i = .int .i64 k ∧ Hid (Keeps (fun _ => False) w1 wr)) (fun i _ => n - (intOf i).toNat)
  case atStart => exact ⟨0, by omega, rfl, Keeps.refl _ _⟩
  case round =>
    obtain ⟨k, hk, rfl, HKr⟩ := hrel
    by_cases hkn : k < n
    · obtain ⟨o, ho⟩ : ∃ o, ops[k]? = some o := ⟨ops[k]'(by rw [unhide HN]; exact hkn), List.getElem?_eq_getElem _⟩
      obtain ⟨x, hx⟩ : ∃ x, l1[k]? = some x := ⟨l1[k]'(by rw [unhide HL1]; exact hkn), List.getElem?_eq_getElem _⟩
      obtain ⟨y, hy⟩ : ∃ y, l2[k]? = some y := ⟨l2[k]'(by rw [unhide HL2]; exact hkn), List.getElem?_eq_getElem _⟩
      have hxy : (x.code, x.nums) = (y.code, y.nums) := by
        have h1 : (l1.map (fun x => (x.code, x.nums)))[k]? = some (x.code, x.nums) := by rw [List.getElem?_map, hx]; rfl
        have h2 : (l2.map (fun x => (x.code, x.nums)))[k]? = some (y.code, y.nums) := by rw [List.getElem?_map, hy]; rfl
        rw [unhide HM, unhide HSAME] at h1
        rw [unhide HM2] at h2
        rw [h1] at h2
        injection h2
      have hx9 : x.nums.length ≤ 1000 := by
        have h1 : (x.code, x.nums) ∈ runM ws0 ops := by
          rw [← unhide HM]
          exact List.mem_map.2 ⟨x, List.mem_of_getElem? hx, rfl⟩
        have := runM_nums ws0 ops _ h1
        simp only at this
        omega
      have hxr := (unhide HA1).keeps (unhide HKr) (fun _ _ h => h)
      have hyr := (unhide HB).keeps (unhide HKr) (fun _ _ h => h)
      have HNX := hide (hxr.nums x (List.mem_of_getElem? hx))
      have HNY := hide (hyr.nums y (List.mem_of_getElem? hy))
      obtain ⟨ga, rfl, x0, x1, x2⟩ := ans_cells (by rw [unhide HL1] at hxr; exact hxr) k x hx
      obtain ⟨gb, rfl, y0, y1, y2⟩ := ans_cells (by rw [unhide HL2] at hyr; exact hyr) k y hy
      injection hxy with hcode hnums
      rw [← hcode] at y0
      rw [← hnums] at HNY
      obtain ⟨sb, so, ha, hlt, hra⟩ := unhide HRV k o ho
      obtain ⟨hv0, hh0⟩ := range_big hra hlt ((unhide HK1).then (unhide HKr))
      subst ha
      have hsbl : sb < wr.heap.size := by have h1 := (unhide HK1).size; have h2 := (unhide HKr).size; omega
      have h6 := (okOp_parts (unhide HOK o (List.mem_of_getElem? ho))).1.1
      have hk0 : (0 : Int) ≤ (k : Int) := by omega
      have hkn' : (k : Int) < (n : Int) := by omega
      clear hx hy ho hra hcode hnums hxr hyr
      go_wp2_with fail
      go_region_held3 (fun w' => (bigVal w' sb (so + k * 26) 26 = .agg o.cells.toArray ∧ hasBig w' sb (so + k * 26) 26 = true) ∧ (w'.cell? ⟨ga, k * 3, none⟩ = some (.int .i64 x.code) ∧ w'.cell? ⟨ga, k * 3 + 1, none⟩ = some x.nv ∧ w'.cell? ⟨ga, k * 3 + 2, none⟩ = some (.string noBytes)) ∧ (w'.cell? ⟨gb, k * 3, none⟩ = some (.int .i64 x.code) ∧ w'.cell? ⟨gb, k * 3 + 1, none⟩ = some y.nv ∧ w'.cell? ⟨gb, k * 3 + 2, none⟩ = some (.string noBytes)))
        (first
          | (rw [(bigVal_keeps (b := sb) (o := so + k * 26) (n := 26) hk9 (fun h => h) (by simp; omega)).1, (bigVal_keeps (b := sb) (o := so + k * 26) (n := 26) hk9 (fun h => h) (by simp; omega)).2, bigVal_drew, hasBig_drew]; exact ⟨⟨hv0, hh0⟩, ⟨hk9.cell x0 (fun h => h), hk9.cell x1 (fun h => h), hk9.cell x2 (fun h => h)⟩, ⟨hk9.cell y0 (fun h => h), hk9.cell y1 (fun h => h), hk9.cell y2 (fun h => h)⟩⟩)
          | (rw [bigVal_drew, hasBig_drew]; exact ⟨⟨hv0, hh0⟩, ⟨x0, x1, x2⟩, ⟨y0, y1, y2⟩⟩)
          | exact ⟨⟨hv0, hh0⟩, ⟨x0, x1, x2⟩, ⟨y0, y1, y2⟩⟩)
        (first | (go_at_call 16; refine (alike_any base w.heap.size o x.code x.nv y.nv x.nums _ (by exact unhide HNX) (by exact unhide HNY) hx9 h6).mono ?_; rintro r w9 ⟨rfl, hk9⟩))
      have HK9 := hide ((unhide HKr).then (((Keeps.refl (fun _ => False) wr).drew).then hk9))
      clear hk9 hv0 hh0 x0 x1 x2 y0 y1 y2
      go_wp2
      go_roundw
      case rel => exact ⟨k + 1, by omega, by go_num, HK9⟩
      case measure => simp [intOf]; omega
    · have hkk : k = n := by omega
      subst hkk
      go_wp2
      go_ret
      exact ⟨rfl, (unhide HK1).then (unhide HKr)⟩

set_option maxRecDepth 100000 in
set_option maxHeartbeats 2000000 in
theorem runs_any (D : Bool) (v : Value) (ops : List OpM) (w : World) (hs : ScriptW w v ops) (hlen : ops.length ≤ 651562446080) (hok : ∀ o, o ∈ ops → okOp D o) :
    Calls Tryz.prog 7 #[v] w fun r w' => r = .returned (.bool true) ∧ Keeps (fun _ => False) w w' := by
  have HS := hide hs
  have HOK := hide hok
  clear hs hok
  go_enter Tryz.func7, Tryz.ntmps7
  go_wp2_with fail
  refine (filled_any v ops w (unhide HS) hlen (fun o ho => (okOp_parts (unhide HOK o ho)).1.2)).mono ?_
  rintro r w1 ⟨v1, v2, rfl, h1, h2, hk1⟩
  have H1 := hide (own_scriptW h1)
  have H2 := hide (own_scriptW h2)
  have HK1 := hide hk1
  clear h1 h2 hk1
  go_wp2_with fail
  refine (run_script' v1 ops w1 (unhide H1) (by omega)).mono ?_
  rintro r w2 ⟨va, l1, rfl, ha, hm, hk2⟩
  have HA := hide ha
  have HM := hide hm
  have HK2 := hide hk2
  clear ha hm hk2
  go_wp2_with fail
  refine (answered_any D w1.heap.size ops v1 v2 va l1 w2 ((unhide H1).keeps (unhide HK2)) ((unhide H2).keeps (unhide HK2)) (unhide HA) (unhide HM) hlen (unhide HOK)).mono ?_
  rintro r w3 ⟨rfl, hk3⟩
  go_wp2
  go_ret
  exact ⟨rfl, ((unhide HK1).then (unhide HK2)).then hk3⟩

theorem kept_ok (D : Bool) (lo hi : Int) (hD : D = true → (lo = 1 ∧ hi = 1) ∨ (lo = 4 ∧ hi = 4)) (ops : List OpM) (o : OpM) (h : o ∈ ops.filter (keptB (if D then 4 else 3) lo hi)) : okOp D o := by
  have h2 := (List.mem_filter.1 h).2
  unfold keptB at h2
  simp only [Bool.and_eq_true, decide_eq_true_eq] at h2
  refine ⟨h2.1, fun h1 hv hd => ?_⟩
  obtain ⟨k, hk, k1, k5, _, _⟩ := valid_parts hv
  have := hD hd
  omega

set_option maxRecDepth 100000 in
set_option maxHeartbeats 2000000 in
theorem admits_any (v : Value) (ops : List OpM) (w : World) (hs : ScriptW w v ops) (hlen : ops.length ≤ 651562446080) :
    Calls Tryz.prog 3 #[v] w fun r w' => r = .returned (.bool true) ∧ Keeps (fun _ => False) w w' := by
  go_enter Tryz.func3, Tryz.ntmps3
  go_wp2_with fail
  refine (kept_any v ops 3 2 5 w hs hlen).mono ?_
  rintro r w1 ⟨v1, rfl, h1, hk1⟩
  have HS := hide (own_scriptW h1)
  have HK1 := hide hk1
  clear h1 hk1
  go_wp2_with fail
  refine (runs_any false v1 _ w1 (unhide HS) (by have := List.length_filter_le (keptB 3 2 5) ops; omega) (fun o ho => kept_ok false 2 5 (fun h => by cases h) ops o ho)).mono ?_
  rintro r w2 ⟨rfl, hk2⟩
  go_wp2
  go_ret
  exact ⟨rfl, (unhide HK1).then hk2⟩

set_option maxRecDepth 100000 in
set_option maxHeartbeats 2000000 in
theorem weighs_any (v : Value) (ops : List OpM) (w : World) (hs : ScriptW w v ops) (hlen : ops.length ≤ 651562446080) :
    Calls Tryz.prog 4 #[v] w fun r w' => r = .returned (.bool true) ∧ Keeps (fun _ => False) w w' := by
  go_enter Tryz.func4, Tryz.ntmps4
  go_wp2_with fail
  refine (kept_any v ops 4 4 4 w hs hlen).mono ?_
  rintro r w1 ⟨v1, rfl, h1, hk1⟩
  have HS := hide (own_scriptW h1)
  have HK1 := hide hk1
  clear h1 hk1
  go_wp2_with fail
  refine (runs_any true v1 _ w1 (unhide HS) (by have := List.length_filter_le (keptB 4 4 4) ops; omega) (fun o ho => kept_ok true 4 4 (fun _ => .inr ⟨rfl, rfl⟩) ops o ho)).mono ?_
  rintro r w2 ⟨rfl, hk2⟩
  go_wp2
  go_ret
  exact ⟨rfl, (unhide HK1).then hk2⟩

set_option maxRecDepth 100000 in
set_option maxHeartbeats 2000000 in
theorem counts_any (v : Value) (ops : List OpM) (w : World) (hs : ScriptW w v ops) (hlen : ops.length ≤ 651562446080) :
    Calls Tryz.prog 5 #[v] w fun r w' => r = .returned (.bool true) ∧ Keeps (fun _ => False) w w' := by
  go_enter Tryz.func5, Tryz.ntmps5
  go_wp2_with fail
  refine (kept_any v ops 4 1 1 w hs hlen).mono ?_
  rintro r w1 ⟨v1, rfl, h1, hk1⟩
  have HS := hide (own_scriptW h1)
  have HK1 := hide hk1
  clear h1 hk1
  go_wp2_with fail
  refine (runs_any true v1 _ w1 (unhide HS) (by have := List.length_filter_le (keptB 4 1 1) ops; omega) (fun o ho => kept_ok true 1 1 (fun _ => .inl ⟨rfl, rfl⟩) ops o ho)).mono ?_
  rintro r w2 ⟨rfl, hk2⟩
  go_wp2
  go_ret
  exact ⟨rfl, (unhide HK1).then hk2⟩

end Go.Proofs.YtjhaihbjhikhlaaGreat

namespace Go.Proofs.YtjhaihbjhikhlaaGreat
open Go.ChangeShapes Go.WideShapes Go.ChangeAt Go.RowKit Go.Deep

set_option maxRecDepth 100000 in
/-- A script that came in, opened. -/
theorem script_open {H : Type} {enc : TypeId × Value → H} {W : World} {fuel : Nat} {a0 : Option Addr} {len cap : Nat} {d : DataW H} {p : List MemPlace}
    (hf : DataW.trod enc Tryz.prog W 0 (fun _ => true) true fuel 22 (Value.slice a0 len cap).cells.toList = some (d, p)) (hlt : ∀ x ∈ p, x.block < W.heap.size) :
    ∃ ops, ScriptW W (.slice a0 len cap) ops ∧ ops.length = len ∧ (len ≠ 0 → ∃ elems spare, d = .slice elems spare ∧ len ≤ elems.length + spare.length) := by
  by_cases hl0 : len = 0
  · subst hl0
    exact ⟨[], .inl ⟨⟨_, _, rfl⟩, rfl⟩, rfl, fun h => absurd rfl h⟩
  · rcases open_slice Tryz.underlying22 hf with ⟨hcs, hx⟩ | ⟨a, len', cap', k, n, D, Pl, hcs, _, hl, hm, hk, hx, hcell⟩
    · simp [Value.cells] at hcs
      exact absurd hcs.2.1 hl0
    · simp [Value.cells] at hcs
      obtain ⟨rfl, rfl, rfl⟩ := hcs
      simp only [Prod.mk.injEq] at hx
      obtain ⟨rfl, rfl⟩ := hx
      simp only [if_true] at hk
      subst k
      rw [cells40] at hcell
      obtain ⟨b, off, spot⟩ := a
      have hspot : spot = none := by
        obtain ⟨cs', h1, _⟩ := hcell 0 (by omega)
        obtain ⟨_, h2, h3⟩ := World.cells?_some h1
        have h4 := h3 0 (by omega)
        rw [List.getElem?_eq_getElem (by omega)] at h4
        simpa [Addr.add] using World.cell?_spot h4
      subst hspot
      have hbW : b < W.heap.size := hlt (.cell b off) (List.mem_append_left _ (MemPlace.mem_row.2 ⟨0, by rw [cells40]; omega, by simp⟩))
      have hops : ∀ i, i < len → ∃ o : OpM, W.rangeAt b (off + i * 26) o.cells := by
        intro i hi
        obtain ⟨cs', h1, h2⟩ := hcell i (by omega)
        obtain ⟨V, bs, rfl, _⟩ := op_open h2
        obtain ⟨_, h3, h4⟩ := World.cells?_some h1
        refine ⟨opOf V bs, fun j v hv => ?_⟩
        have hj : j < 26 := by have := (List.getElem?_eq_some_iff.1 hv).1; omega
        have := h4 j hj
        rw [add_add, add_plain, hv, ← Nat.add_assoc] at this
        exact this
      haveI : Inhabited OpM := ⟨o1⟩
      obtain ⟨O, hO⟩ := choose_lt (α := OpM) hops
      refine ⟨(List.range len).map O, .inr ⟨b, off, cap, by simp, by simpa using hl, ?_, hbW⟩, by simp, fun _ => ⟨_, _, rfl, by simp⟩⟩
      intro i o ho
      have hi : i < len := by have := (List.getElem?_eq_some_iff.1 ho).1; simpa using this
      have : O i = o := by simpa [hi] using ho
      rw [← this]
      exact hO i hi

set_option maxRecDepth 100000 in
theorem admits_lifted (os : Os) (started : os.Started) (H : Type) (enc : TypeId × Value → H) :
    ReturnsInHanded {} Tryz.checked os 3 .any (Rows.admitsSpec.pre6 enc Tryz.prog Tryz.f3 Rows.admitsRow.domain false) (Rows.admitsSpec.post enc Tryz.prog Tryz.f3 false true false false) := by
  refine returnsInHanded_of_change_sized (C := Tryz.checked) Tryz.own started (by kernel_rfl) Tryz.func3
    (ChangeSpec.witness6 (enc := enc) (C := Tryz.checked) false ⟨#[], #[.slice none 0 0], []⟩ 8 (by kernel_rfl) (by kernel_rfl) (by kernel_rfl) (by kernel_rfl)) ?_
  intro W base args ds gs before hval0 hW _ hsz0 _
  have hsz : (DataW.weightsEach Tryz.prog (Tryz.f3.params.toList ++ Rows.admitsSpec.plain.varTypes Tryz.prog) (ds ++ gs)).all (· ≤ reachBytes) = true := hsz0
  clear hsz0
  have hval : ∀ (j : Nat) t v, Tryz.f3.params[j]? = some t → args[j]? = some v → Value.okWide Tryz.prog W .any base t v := hval0
  have hW' := hW
  obtain ⟨p0, q, hA0, hV, rfl, _, _⟩ := hW
  have hA : DataW.TrodAll enc Tryz.prog W 0 (fun _ => true) true Tryz.f3.params.toList args.toList ds p0 := hA0
  rw [Tryz.params3] at hA hval hsz
  obtain ⟨v0, d0, rfl, rfl, h0⟩ := trodAll_one hA
  obtain ⟨rfl, rfl⟩ := trodVars_none hV
  obtain ⟨a0, len, cap, rfl⟩ := okWide_slice Tryz.underlying22 (hval 0 22 v0 rfl rfl)
  have h0k := h0
  obtain ⟨fuel, hf⟩ := h0
  clear hA0 hval0
  simp only [List.append_nil] at hW'
  have hlt : ∀ x ∈ p0, x.block < W.heap.size := fun x hx => by simpa using hW'.lt x hx
  obtain ⟨ops, hsc, hol, hd⟩ := script_open hf hlt
  have hlen : ops.length ≤ 651562446080 := by
    by_cases hl0 : len = 0
    · omega
    · obtain ⟨elems, spare, rfl, hle⟩ := hd hl0
      have := sized_slice hsz (j := 0) (t := 22) (e := 35) rfl rfl Tryz.underlying22
      rw [bytes40] at this
      simp only [reachBytes] at this
      omega
  refine (admits_any (.slice a0 len cap) ops W hsc hlen).mono ?_
  rintro e W' ⟨rfl, hk⟩
  have hb := hk.below
  have hargs : DataW.Trod enc Tryz.prog W' 0 (fun b => decide (b < W.heap.size)) true 22 (.slice a0 len cap) d0 p0 :=
    Below.trod Tryz.laidOut (by kernel_rfl) (of_decide_eq_true (by kernel_rfl)) h0k hb hlt
  exact ⟨_, rfl, _, _, _, [], p0, [], hW', trodAll_mk1 (shut_bool Tryz.underlying4 _), trodAll_mk1 hargs, rfl, hb.frame _, fun h => by cases h⟩

theorem admits_holds : Rows.AdmitsSaid :=
  OpenClaim.holds_of_wide 3 Tryz.f3 rfl rfl rfl rfl rfl rfl rfl ⟨rfl, rfl, rfl, rfl, rfl⟩ rfl rfl rfl rfl rfl (by kernel_rfl) Tryz.func3 (by kernel_rfl)
    (of_decide_eq_true (by kernel_rfl)) (by unfold Func.isWrapper; first | (rw [if_pos (by decide +kernel)]; kernel_rfl) | (rw [if_neg (by decide +kernel)]; exact ⟨rfl, rfl⟩))
    (fun os started H enc _ => admits_lifted os started H enc)

set_option maxRecDepth 100000 in
theorem weighs_lifted (os : Os) (started : os.Started) (H : Type) (enc : TypeId × Value → H) :
    ReturnsInHanded {} Tryz.checked os 4 .any (Rows.weighsSpec.pre6 enc Tryz.prog Tryz.f4 Rows.weighsRow.domain false) (Rows.weighsSpec.post enc Tryz.prog Tryz.f4 false true false false) := by
  refine returnsInHanded_of_change_sized (C := Tryz.checked) Tryz.own started (by kernel_rfl) Tryz.func4
    (ChangeSpec.witness6 (enc := enc) (C := Tryz.checked) false ⟨#[], #[.slice none 0 0], []⟩ 8 (by kernel_rfl) (by kernel_rfl) (by kernel_rfl) (by kernel_rfl)) ?_
  intro W base args ds gs before hval0 hW _ hsz0 _
  have hsz : (DataW.weightsEach Tryz.prog (Tryz.f4.params.toList ++ Rows.weighsSpec.plain.varTypes Tryz.prog) (ds ++ gs)).all (· ≤ reachBytes) = true := hsz0
  clear hsz0
  have hval : ∀ (j : Nat) t v, Tryz.f4.params[j]? = some t → args[j]? = some v → Value.okWide Tryz.prog W .any base t v := hval0
  have hW' := hW
  obtain ⟨p0, q, hA0, hV, rfl, _, _⟩ := hW
  have hA : DataW.TrodAll enc Tryz.prog W 0 (fun _ => true) true Tryz.f4.params.toList args.toList ds p0 := hA0
  rw [Tryz.params4] at hA hval hsz
  obtain ⟨v0, d0, rfl, rfl, h0⟩ := trodAll_one hA
  obtain ⟨rfl, rfl⟩ := trodVars_none hV
  obtain ⟨a0, len, cap, rfl⟩ := okWide_slice Tryz.underlying22 (hval 0 22 v0 rfl rfl)
  have h0k := h0
  obtain ⟨fuel, hf⟩ := h0
  clear hA0 hval0
  simp only [List.append_nil] at hW'
  have hlt : ∀ x ∈ p0, x.block < W.heap.size := fun x hx => by simpa using hW'.lt x hx
  obtain ⟨ops, hsc, hol, hd⟩ := script_open hf hlt
  have hlen : ops.length ≤ 651562446080 := by
    by_cases hl0 : len = 0
    · omega
    · obtain ⟨elems, spare, rfl, hle⟩ := hd hl0
      have := sized_slice hsz (j := 0) (t := 22) (e := 35) rfl rfl Tryz.underlying22
      rw [bytes40] at this
      simp only [reachBytes] at this
      omega
  refine (weighs_any (.slice a0 len cap) ops W hsc hlen).mono ?_
  rintro e W' ⟨rfl, hk⟩
  have hb := hk.below
  have hargs : DataW.Trod enc Tryz.prog W' 0 (fun b => decide (b < W.heap.size)) true 22 (.slice a0 len cap) d0 p0 :=
    Below.trod Tryz.laidOut (by kernel_rfl) (of_decide_eq_true (by kernel_rfl)) h0k hb hlt
  exact ⟨_, rfl, _, _, _, [], p0, [], hW', trodAll_mk1 (shut_bool Tryz.underlying4 _), trodAll_mk1 hargs, rfl, hb.frame _, fun h => by cases h⟩

theorem weighs_holds : Rows.WeighsSaid :=
  OpenClaim.holds_of_wide 4 Tryz.f4 rfl rfl rfl rfl rfl rfl rfl ⟨rfl, rfl, rfl, rfl, rfl⟩ rfl rfl rfl rfl rfl (by kernel_rfl) Tryz.func4 (by kernel_rfl)
    (of_decide_eq_true (by kernel_rfl)) (by unfold Func.isWrapper; first | (rw [if_pos (by decide +kernel)]; kernel_rfl) | (rw [if_neg (by decide +kernel)]; exact ⟨rfl, rfl⟩))
    (fun os started H enc _ => weighs_lifted os started H enc)

set_option maxRecDepth 100000 in
theorem counts_lifted (os : Os) (started : os.Started) (H : Type) (enc : TypeId × Value → H) :
    ReturnsInHanded {} Tryz.checked os 5 .any (Rows.countsSpec.pre6 enc Tryz.prog Tryz.f5 Rows.countsRow.domain false) (Rows.countsSpec.post enc Tryz.prog Tryz.f5 false true false false) := by
  refine returnsInHanded_of_change_sized (C := Tryz.checked) Tryz.own started (by kernel_rfl) Tryz.func5
    (ChangeSpec.witness6 (enc := enc) (C := Tryz.checked) false ⟨#[], #[.slice none 0 0], []⟩ 8 (by kernel_rfl) (by kernel_rfl) (by kernel_rfl) (by kernel_rfl)) ?_
  intro W base args ds gs before hval0 hW _ hsz0 _
  have hsz : (DataW.weightsEach Tryz.prog (Tryz.f5.params.toList ++ Rows.countsSpec.plain.varTypes Tryz.prog) (ds ++ gs)).all (· ≤ reachBytes) = true := hsz0
  clear hsz0
  have hval : ∀ (j : Nat) t v, Tryz.f5.params[j]? = some t → args[j]? = some v → Value.okWide Tryz.prog W .any base t v := hval0
  have hW' := hW
  obtain ⟨p0, q, hA0, hV, rfl, _, _⟩ := hW
  have hA : DataW.TrodAll enc Tryz.prog W 0 (fun _ => true) true Tryz.f5.params.toList args.toList ds p0 := hA0
  rw [Tryz.params5] at hA hval hsz
  obtain ⟨v0, d0, rfl, rfl, h0⟩ := trodAll_one hA
  obtain ⟨rfl, rfl⟩ := trodVars_none hV
  obtain ⟨a0, len, cap, rfl⟩ := okWide_slice Tryz.underlying22 (hval 0 22 v0 rfl rfl)
  have h0k := h0
  obtain ⟨fuel, hf⟩ := h0
  clear hA0 hval0
  simp only [List.append_nil] at hW'
  have hlt : ∀ x ∈ p0, x.block < W.heap.size := fun x hx => by simpa using hW'.lt x hx
  obtain ⟨ops, hsc, hol, hd⟩ := script_open hf hlt
  have hlen : ops.length ≤ 651562446080 := by
    by_cases hl0 : len = 0
    · omega
    · obtain ⟨elems, spare, rfl, hle⟩ := hd hl0
      have := sized_slice hsz (j := 0) (t := 22) (e := 35) rfl rfl Tryz.underlying22
      rw [bytes40] at this
      simp only [reachBytes] at this
      omega
  refine (counts_any (.slice a0 len cap) ops W hsc hlen).mono ?_
  rintro e W' ⟨rfl, hk⟩
  have hb := hk.below
  have hargs : DataW.Trod enc Tryz.prog W' 0 (fun b => decide (b < W.heap.size)) true 22 (.slice a0 len cap) d0 p0 :=
    Below.trod Tryz.laidOut (by kernel_rfl) (of_decide_eq_true (by kernel_rfl)) h0k hb hlt
  exact ⟨_, rfl, _, _, _, [], p0, [], hW', trodAll_mk1 (shut_bool Tryz.underlying4 _), trodAll_mk1 hargs, rfl, hb.frame _, fun h => by cases h⟩

theorem counts_holds : Rows.CountsSaid :=
  OpenClaim.holds_of_wide 5 Tryz.f5 rfl rfl rfl rfl rfl rfl rfl ⟨rfl, rfl, rfl, rfl, rfl⟩ rfl rfl rfl rfl rfl (by kernel_rfl) Tryz.func5 (by kernel_rfl)
    (of_decide_eq_true (by kernel_rfl)) (by unfold Func.isWrapper; first | (rw [if_pos (by decide +kernel)]; kernel_rfl) | (rw [if_neg (by decide +kernel)]; exact ⟨rfl, rfl⟩))
    (fun os started H enc _ => counts_lifted os started H enc)

end Go.Proofs.YtjhaihbjhikhlaaGreat
