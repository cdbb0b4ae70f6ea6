import Derived.Test.YtahnliehdjncdaaGreatDoorXBG
import Derived.Test.YtahnliehdjncdaaGreatDoorXBU
import Derived.Test.YtahnliehdjncdaaGreatDoorXBF
set_option maxRecDepth 100000
set_option maxHeartbeats 16000000
namespace Go.Proofs.YtahnliehdjncdaaGreatDoor
open Go.RowKit
attribute [local go_sem ↓] execOp_load38 execOp_load40 execOp_store40 execOp_bs22
attribute [local go_sem] run_load38 run_load40 bigVal_drew hasBig_drew bigVal_ne hasBig_ne bigVal_alloc hasBig_alloc run_bs1
theorem lsame_any (b1 b2 : Nat) (v1 v2 : Value) (l : List Int) (w : World) (h1 : w.ownsRow b1 3 1 v1 l.length (ints l)) (h2 : w.ownsRow b2 3 1 v2 l.length (ints l)) (hl : l.length ≤ 1000) :
  Calls Tryz.prog 56 #[v1, v2] w fun e w' => e = .returned (.bool true) ∧ Keeps (fun _ => False) w w' := by
 rcases num_cells h1 with ⟨rfl, a1, c1, rfl⟩ | ⟨g1, c1, rfl, hc1⟩
 ·rcases num_cells h2 with ⟨_, a2, c2, rfl⟩ | ⟨g2, c2, rfl, hc2⟩
  all_goals
   clear h1 h2
   go_enter Tryz.func56, Tryz.ntmps56
   go_wp2
   go_loopw [5] (fun i wr => i = .int .i64 0 ∧ wr = w) (fun _ _ => 0)
   case atStart => exact ⟨rfl, rfl⟩
   case round =>
    obtain ⟨rfl, rfl⟩ := hrel
    go_wp2
    go_ret
    exact ⟨rfl, Keeps.refl _ _⟩
 ·rcases num_cells h2 with ⟨h0, a2, c2, rfl⟩ | ⟨g2, c2, rfl, hc2⟩
  ·subst h0
   clear h1 h2 hc1
   go_enter Tryz.func56, Tryz.ntmps56
   go_wp2
   go_loopw [5] (fun i wr => i = .int .i64 0 ∧ wr = w) (fun _ _ => 0)
   case atStart => exact ⟨rfl, rfl⟩
   case round =>
    obtain ⟨rfl, rfl⟩ := hrel
    go_wp2
    go_ret
    exact ⟨rfl, Keeps.refl _ _⟩
  ·have HC1 := hide hc1
   have HC2 := hide hc2
   clear h1 h2 hc1 hc2
   generalize hn : l.length = n at *
   clear hn
   go_enter Tryz.func56, Tryz.ntmps56
   go_wp2
   go_loopw [5] (fun i wr => ∃ k : Nat, k ≤ n ∧ i = .int .i64 k ∧ Hid (Keeps (fun _ => False) w wr)) (fun i _ => n - (intOf i).toNat)
   case atStart => exact ⟨0, by omega, rfl, Keeps.refl _ _⟩
   case round =>
    obtain ⟨k, hk, rfl, HK⟩ := hrel
    by_cases hlt : k < n
    ·have x1 : wr.cell? ⟨g1, k, none⟩ = some (.int .i64 (l.getD k 0)) := (uh HK).cell (uh HC1 k hlt) (fun h => h)
     have x2 : wr.cell? ⟨g2, k, none⟩ = some (.int .i64 (l.getD k 0)) := (uh HK).cell (uh HC2 k hlt) (fun h => h)
     generalize l.getD k 0 = y at *
     have hk0 : (0 : Int) ≤ (k : Int) := by omega
     have hkn : (k : Int) < (n : Int) := by omega
     have hne : (y != y) = false := by simp
     go_wp2
     go_quiet (fail)
     go_wp2
     go_roundw
     case rel => exact ⟨k + 1, by omega, by go_num, hide ((uh HK).then (Keeps.drewN _ _ _))⟩
     case measure => simp [intOf]; omega
    ·go_wp2
     go_ret
     exact ⟨rfl, uh HK⟩
theorem alike_any (b1 b2 : Nat) (o : OpM) (code : Int) (v1 v2 : Value) (l : List Int) (w : World) (h1 : w.ownsRow b1 3 1 v1 l.length (ints l)) (h2 : w.ownsRow b2 3 1 v2 l.length (ints l)) (hl : l.length ≤ 1000) (hk : o.kind ≠ 6) :
  Calls Tryz.prog 41 #[o.val, ansV code v1, ansV code v2] w fun e w' => e = .returned (.bool true) ∧ Keeps (fun _ => False) w w' := by
 have h0c : o.cells[0]? = some (.int .i64 o.kind) := rfl
 have b6 : (o.kind == 6) = false := by simpa using hk
 obtain ⟨a1, c1, rfl⟩ := nv_form h1
 obtain ⟨a2, c2, rfl⟩ := nv_form h2
 have HK0 := hide ((((Keeps.refl (fun _ => False) w).alloc (.cells o.cells.toArray 40)).alloc (.cells #[.int .i64 code, .slice a1 l.length c1, .string noBytes] 33)).alloc (.cells #[.int .i64 code, .slice a2 l.length c2, .string noBytes] 33))
 have HO := hide (show Blk (((w.alloc (.cells o.cells.toArray 40)).alloc (.cells #[.int .i64 code, .slice a1 l.length c1, .string noBytes] 33)).alloc (.cells #[.int .i64 code, .slice a2 l.length c2, .string noBytes] 33)) w.heap.size o.cells 40 from ((Blk.new w o.cells 40).alloc _).alloc _)
 have HA := hide (show Blk (((w.alloc (.cells o.cells.toArray 40)).alloc (.cells #[.int .i64 code, .slice a1 l.length c1, .string noBytes] 33)).alloc (.cells #[.int .i64 code, .slice a2 l.length c2, .string noBytes] 33)) (w.heap.size + 1) [.int .i64 code, .slice a1 l.length c1, .string noBytes] 33 from (Blk.newAt (by simp) [_, _, _] 33).alloc _)
 have HB := hide (show Blk (((w.alloc (.cells o.cells.toArray 40)).alloc (.cells #[.int .i64 code, .slice a1 l.length c1, .string noBytes] 33)).alloc (.cells #[.int .i64 code, .slice a2 l.length c2, .string noBytes] 33)) (w.heap.size + 2) [.int .i64 code, .slice a2 l.length c2, .string noBytes] 33 from Blk.newAt (by simp) [_, _, _] 33)
 have H1 := hide (owns_keeps h1 (uh HK0) (fun _ _ h => h))
 have H2 := hide (owns_keeps h2 (uh HK0) (fun _ _ h => h))
 clear h1 h2
 unfold OpM.val ansV
 go_enter Tryz.func41, Tryz.ntmps41
 go_wp2_with fail
 generalize ((w.alloc (.cells o.cells.toArray 40)).alloc (.cells #[.int .i64 code, .slice a1 l.length c1, .string noBytes] 33)).alloc (.cells #[.int .i64 code, .slice a2 l.length c2, .string noBytes] 33) = w0 at *
 generalize w.heap.size = ob at *
 refine (lsame_any b1 b2 _ _ l w0 (uh H1) (uh H2) hl).mono ?_
 rintro r w1 ⟨rfl, hk1⟩
 have HK1 := hide ((uh HK0).then hk1)
 have p0 : w1.cell? ⟨ob + 1, 0, none⟩ = some (.int .i64 code) := hk1.cell ((uh HA).cell rfl) (fun h => h)
 have q0 : w1.cell? ⟨ob + 2, 0, none⟩ = some (.int .i64 code) := hk1.cell ((uh HB).cell rfl) (fun h => h)
 have p2 : w1.cell? ⟨ob + 1, 2, none⟩ = some (.string noBytes) := hk1.cell ((uh HA).cell rfl) (fun h => h)
 have o0 : w1.cell? ⟨ob, 0, none⟩ = some (.int .i64 o.kind) := hk1.cell ((uh HO).cell rfl) (fun h => h)
 have hcc : (code != code) = false := by simp
 clear hk1
 go_wp2_with fail
 go_region_held3 (fun w' => w'.cell? ⟨ob + 1, 0, none⟩ = some (.int .i64 code) ∧ w'.cell? ⟨ob + 2, 0, none⟩ = some (.int .i64 code)) (go_keep)
  (first | (go_at_call 57; refine (rnum_any _ _).mono ?_; rintro r w9 ⟨rfl, rfl⟩))
 have hbb : (noBytes != ⟨#[]⟩) = false := by decide
 unfold noBytes at p2 hbb
 go_wp2
 go_ret
 exact ⟨rfl, (uh HK1).drew⟩
def keptB (most low high : Int) (o : OpM) : Bool := decide (o.kind = 5 ∨ o.kind ≤ most) && decide (o.kind ≠ 1 ∨ (low ≤ o.cfg.kind ∧ o.cfg.kind ≤ high) ∨ o.cfg.kind < 1 ∨ 5 < o.cfg.kind)
theorem kept_any (v : Value) (ops : List OpM) (most low high : Int) (w : World) (hs : ScriptW w v ops) (hlen : ops.length ≤ 651562446080) :
  Calls Tryz.prog 16 #[v, .int .i64 most, .int .i64 low, .int .i64 high] w fun r w' => ∃ v', r = .returned v' ∧ OwnS w' w.heap.size v' (ops.filter (keptB most low high)) ∧ Keeps (fun _ => False) w w' := by
 obtain ⟨a, cap, rfl, hsv⟩ := script_view hs
 have HSV := hide hsv
 clear hs hsv
 generalize hn : ops.length = n at *
 have HN := hide hn
 clear hn
 go_enter Tryz.func16, Tryz.ntmps16
 go_wp2_with fail
 go_loopw [9, 10] (fun l i wr => ∃ (k m c : Nat) (ad : Option Addr), k ≤ n ∧ i = .int .i64 k ∧ l = .slice ad m c ∧ Hid (OwnS wr w.heap.size l ((ops.take k).filter (keptB most low high))) ∧ Hid (Keeps (fun _ => False) w wr)) (fun _ i _ => n - (intOf i).toNat)
 case atStart => exact ⟨0, 0, 0, none, by omega, rfl, rfl, World.ownsRow_nil _ _ _ _, Keeps.refl _ _⟩
 case round =>
  obtain ⟨k, m, c, ad, hk, rfl, rfl, HO, HK⟩ := hrel
  by_cases hkn : k < n
  ·obtain ⟨o, ho⟩ : ∃ o, ops[k]? = some o := ⟨ops[k]'(by rw [uh HN]; exact hkn), List.getElem?_eq_getElem _⟩
   obtain ⟨sb, so, ha, hlt, hra⟩ := uh HSV k o ho
   obtain ⟨hv0, hh0⟩ := range_big hra hlt (uh HK)
   subst ha
   have hst : ∀ zs : List Value, zs.length = 26 → (storeBig 40 (.pointer (some ⟨wr.heap.size, 0, none⟩)) (.agg o.cells.toArray)).run Tryz.prog (wr.alloc (.cells zs.toArray 40)) = .ok .skip (wr.alloc (.cells o.cells.toArray 40)) := fun zs hz => run_store40 wr zs o.cells hz rfl (op_oneCell o)
   have hv1 : bigVal (wr.alloc (.cells o.cells.toArray 40)) wr.heap.size 0 26 = .agg o.cells.toArray := bigVal_new wr o.cells 40 26 rfl
   have hh1 : hasBig (wr.alloc (.cells o.cells.toArray 40)) wr.heap.size 0 26 = true := hasBig_new wr o.cells 40 26 rfl
   have h0c : o.cells[0]? = some (.int .i64 o.kind) := rfl
   have h5c : o.cells[5]? = some (.int .i64 o.cfg.kind) := rfl
   have htk : ops.take (k + 1) = ops.take k ++ [o] := by rw [List.take_add_one, ho]; rfl
   have hk0 : (0 : Int) ≤ (k : Int) := by omega
   have hkn' : (k : Int) < (n : Int) := by omega
   have hl0 : ((ops.take k).filter (keptB most low high)).length ≤ k := by
    have h1 := List.length_filter_le (keptB most low high) (ops.take k)
    rw [List.length_take] at h1
    omega
   have HFL := hide (show (ops.take (k + 1)).filter (keptB most low high) = (ops.take k).filter (keptB most low high) ++ [o].filter (keptB most low high) by rw [htk, List.filter_append])
   have hm : m = ((ops.take k).filter (keptB most low high)).length := by
    obtain ⟨_, _, e⟩ := row_form0 (uh HO)
    injection e
   clear hra htk ho
   generalize (ops.take k).filter (keptB most low high) = A at *
   have HKa := hide ((uh HK).alloc (.cells o.cells.toArray 40))
   by_cases k5 : o.kind = 5
   ·have kb5 : (o.kind == 5) = true := by simpa using k5
    have kb1 : (o.kind != 1) = true := by simp [k5]
    have HF1 := hide (show [o].filter (keptB most low high) = [o] from List.filter_cons_of_pos (by unfold keptB; simp; omega))
    go_wp2_with (at_builtin; refine wpList_append_ops rfl _ _ rfl w.heap.size (.slice ad m c) A rfl (by exact owns_keeps (uh HO) (((Keeps.refl (fun _ => False) wr).alloc _).alloc _) (fun _ _ h => h)) _ [o] rfl (by exact blk_script (Blk.newAt (w := wr.alloc (.cells o.cells.toArray 40)) (by simp) o.cells 40)) (by simp; omega) (by have := (uh HK).size; simp; omega) ?_; intro ad2 c2 w2 hown2 hk2 hat2)
    go_roundw
    case rel =>
     refine ⟨k + 1, A.length + 1, c2, ad2, by omega, by go_num, rfl, ?_, ?_⟩
     ·show OwnS _ _ _ _; rw [uh HFL, uh HF1]; exact hown2
     ·refine (((uh HKa).alloc _).trans hk2 (fun i hi hlt => ?_))
      have := ((uh HO).lt i hi).1
      omega
    case measure => simp [intOf]; omega
   have kb5 : (o.kind == 5) = false := by simpa using k5
   by_cases km : o.kind ≤ most
   ·by_cases k1 : o.kind = 1
    ·have kb1 : (o.kind != 1) = false := by simp [k1]
     by_cases cl : low ≤ o.cfg.kind
     ·by_cases ch : o.cfg.kind ≤ high
      ·have HF1 := hide (show [o].filter (keptB most low high) = [o] from List.filter_cons_of_pos (by unfold keptB; simp; omega))
       go_wp2_with (at_builtin; refine wpList_append_ops rfl _ _ rfl w.heap.size (.slice ad m c) A rfl (by exact owns_keeps (uh HO) (((Keeps.refl (fun _ => False) wr).alloc _).alloc _) (fun _ _ h => h)) _ [o] rfl (by exact blk_script (Blk.newAt (w := wr.alloc (.cells o.cells.toArray 40)) (by simp) o.cells 40)) (by simp; omega) (by have := (uh HK).size; simp; omega) ?_; intro ad2 c2 w2 hown2 hk2 hat2)
       go_roundw
       case rel =>
        refine ⟨k + 1, A.length + 1, c2, ad2, by omega, by go_num, rfl, ?_, ?_⟩
        ·show OwnS _ _ _ _; rw [uh HFL, uh HF1]; exact hown2
        ·refine (((uh HKa).alloc _).trans hk2 (fun i hi hlt => ?_))
         have := ((uh HO).lt i hi).1
         omega
       case measure => simp [intOf]; omega
      ·by_cases c1' : o.cfg.kind < 1
       ·have HF1 := hide (show [o].filter (keptB most low high) = [o] from List.filter_cons_of_pos (by unfold keptB; simp; omega))
        go_wp2_with (at_builtin; refine wpList_append_ops rfl _ _ rfl w.heap.size (.slice ad m c) A rfl (by exact owns_keeps (uh HO) (((Keeps.refl (fun _ => False) wr).alloc _).alloc _) (fun _ _ h => h)) _ [o] rfl (by exact blk_script (Blk.newAt (w := wr.alloc (.cells o.cells.toArray 40)) (by simp) o.cells 40)) (by simp; omega) (by have := (uh HK).size; simp; omega) ?_; intro ad2 c2 w2 hown2 hk2 hat2)
        go_roundw
        case rel =>
         refine ⟨k + 1, A.length + 1, c2, ad2, by omega, by go_num, rfl, ?_, ?_⟩
         ·show OwnS _ _ _ _; rw [uh HFL, uh HF1]; exact hown2
         ·refine (((uh HKa).alloc _).trans hk2 (fun i hi hlt => ?_))
          have := ((uh HO).lt i hi).1
          omega
        case measure => simp [intOf]; omega
       ·by_cases c5 : 5 < o.cfg.kind
        ·have HF1 := hide (show [o].filter (keptB most low high) = [o] from List.filter_cons_of_pos (by unfold keptB; simp; omega))
         go_wp2_with (at_builtin; refine wpList_append_ops rfl _ _ rfl w.heap.size (.slice ad m c) A rfl (by exact owns_keeps (uh HO) (((Keeps.refl (fun _ => False) wr).alloc _).alloc _) (fun _ _ h => h)) _ [o] rfl (by exact blk_script (Blk.newAt (w := wr.alloc (.cells o.cells.toArray 40)) (by simp) o.cells 40)) (by simp; omega) (by have := (uh HK).size; simp; omega) ?_; intro ad2 c2 w2 hown2 hk2 hat2)
         go_roundw
         case rel =>
          refine ⟨k + 1, A.length + 1, c2, ad2, by omega, by go_num, rfl, ?_, ?_⟩
          ·show OwnS _ _ _ _; rw [uh HFL, uh HF1]; exact hown2
          ·refine (((uh HKa).alloc _).trans hk2 (fun i hi hlt => ?_))
           have := ((uh HO).lt i hi).1
           omega
         case measure => simp [intOf]; omega
        ·have HF1 := hide (show [o].filter (keptB most low high) = [] from List.filter_cons_of_neg (by unfold keptB; simp; omega))
         go_wp2
         go_roundw
         case rel => exact ⟨k + 1, m, c, ad, by omega, by go_num, rfl, by show OwnS _ _ _ _; rw [uh HFL, uh HF1, List.append_nil]; exact owns_keeps (uh HO) ((Keeps.refl (fun _ => False) wr).alloc _) (fun _ _ h => h), HKa⟩
         case measure => simp [intOf]; omega
     ·by_cases c1' : o.cfg.kind < 1
      ·have HF1 := hide (show [o].filter (keptB most low high) = [o] from List.filter_cons_of_pos (by unfold keptB; simp; omega))
       go_wp2_with (at_builtin; refine wpList_append_ops rfl _ _ rfl w.heap.size (.slice ad m c) A rfl (by exact owns_keeps (uh HO) (((Keeps.refl (fun _ => False) wr).alloc _).alloc _) (fun _ _ h => h)) _ [o] rfl (by exact blk_script (Blk.newAt (w := wr.alloc (.cells o.cells.toArray 40)) (by simp) o.cells 40)) (by simp; omega) (by have := (uh HK).size; simp; omega) ?_; intro ad2 c2 w2 hown2 hk2 hat2)
       go_roundw
       case rel =>
        refine ⟨k + 1, A.length + 1, c2, ad2, by omega, by go_num, rfl, ?_, ?_⟩
        ·show OwnS _ _ _ _; rw [uh HFL, uh HF1]; exact hown2
        ·refine (((uh HKa).alloc _).trans hk2 (fun i hi hlt => ?_))
         have := ((uh HO).lt i hi).1
         omega
       case measure => simp [intOf]; omega
      ·by_cases c5 : 5 < o.cfg.kind
       ·have HF1 := hide (show [o].filter (keptB most low high) = [o] from List.filter_cons_of_pos (by unfold keptB; simp; omega))
        go_wp2_with (at_builtin; refine wpList_append_ops rfl _ _ rfl w.heap.size (.slice ad m c) A rfl (by exact owns_keeps (uh HO) (((Keeps.refl (fun _ => False) wr).alloc _).alloc _) (fun _ _ h => h)) _ [o] rfl (by exact blk_script (Blk.newAt (w := wr.alloc (.cells o.cells.toArray 40)) (by simp) o.cells 40)) (by simp; omega) (by have := (uh HK).size; simp; omega) ?_; intro ad2 c2 w2 hown2 hk2 hat2)
        go_roundw
        case rel =>
         refine ⟨k + 1, A.length + 1, c2, ad2, by omega, by go_num, rfl, ?_, ?_⟩
         ·show OwnS _ _ _ _; rw [uh HFL, uh HF1]; exact hown2
         ·refine (((uh HKa).alloc _).trans hk2 (fun i hi hlt => ?_))
          have := ((uh HO).lt i hi).1
          omega
        case measure => simp [intOf]; omega
       ·have HF1 := hide (show [o].filter (keptB most low high) = [] from List.filter_cons_of_neg (by unfold keptB; simp; omega))
        go_wp2
        go_roundw
        case rel => exact ⟨k + 1, m, c, ad, by omega, by go_num, rfl, by show OwnS _ _ _ _; rw [uh HFL, uh HF1, List.append_nil]; exact owns_keeps (uh HO) ((Keeps.refl (fun _ => False) wr).alloc _) (fun _ _ h => h), HKa⟩
        case measure => simp [intOf]; omega
    ·have kb1 : (o.kind != 1) = true := by simpa using k1
     have HF1 := hide (show [o].filter (keptB most low high) = [o] from List.filter_cons_of_pos (by unfold keptB; simp; omega))
     go_wp2_with (at_builtin; refine wpList_append_ops rfl _ _ rfl w.heap.size (.slice ad m c) A rfl (by exact owns_keeps (uh HO) (((Keeps.refl (fun _ => False) wr).alloc _).alloc _) (fun _ _ h => h)) _ [o] rfl (by exact blk_script (Blk.newAt (w := wr.alloc (.cells o.cells.toArray 40)) (by simp) o.cells 40)) (by simp; omega) (by have := (uh HK).size; simp; omega) ?_; intro ad2 c2 w2 hown2 hk2 hat2)
     go_roundw
     case rel =>
      refine ⟨k + 1, A.length + 1, c2, ad2, by omega, by go_num, rfl, ?_, ?_⟩
      ·show OwnS _ _ _ _; rw [uh HFL, uh HF1]; exact hown2
      ·refine (((uh HKa).alloc _).trans hk2 (fun i hi hlt => ?_))
       have := ((uh HO).lt i hi).1
       omega
     case measure => simp [intOf]; omega
   ·have HF1 := hide (show [o].filter (keptB most low high) = [] from List.filter_cons_of_neg (by unfold keptB; simp; omega))
    go_wp2
    go_roundw
    case rel => exact ⟨k + 1, m, c, ad, by omega, by go_num, rfl, by show OwnS _ _ _ _; rw [uh HFL, uh HF1, List.append_nil]; exact owns_keeps (uh HO) ((Keeps.refl (fun _ => False) wr).alloc _) (fun _ _ h => h), HKa⟩
    case measure => simp [intOf]; omega
  ·have hkk : k = n := by omega
   subst hkk
   go_wp2
   go_ret
   have h1 := uh HO
   rw [List.take_of_length_le (by rw [uh HN]; omega)] at h1
   exact ⟨_, rfl, h1, uh HK⟩
end Go.Proofs.YtahnliehdjncdaaGreatDoor
namespace Go.Proofs.YtahnliehdjncdaaGreatDoor
open Go.RowKit
attribute [local go_sem ↓] execOp_load38 execOp_load40 execOp_store40 execOp_bs22
attribute [local go_sem] run_load38 run_load40 bigVal_drew hasBig_drew bigVal_ne hasBig_ne bigVal_alloc hasBig_alloc run_bs1
theorem filled_any (v : Value) (ops : List OpM) (w : World) (hs : ScriptW w v ops) (hlen : ops.length ≤ 651562446080) (h7 : ∀ o, o ∈ ops → o.kind ≠ 7) :
  Calls Tryz.prog 33 #[v] w fun r w' => ∃ v1 v2, r = .returned (.tuple #[v1, v2]) ∧ OwnS w' w.heap.size v1 ops ∧ OwnS w' w.heap.size v2 ops ∧ Keeps (fun _ => False) w w' := by
 obtain ⟨a, cap, rfl, hsv⟩ := script_view hs
 have HSV := hide hsv
 have H7 := hide h7
 clear hs hsv h7
 generalize hn : ops.length = n at *
 have HN := hide hn
 clear hn
 go_enter Tryz.func33, Tryz.ntmps33
 go_wp2_with fail
 go_loopw [4, 5, 6] (fun x y i wr => ∃ (k c d : Nat) (ax ay : Option Addr), k ≤ n ∧ i = .int .i64 k ∧ x = .slice ax k c ∧ y = .slice ay k d ∧ Hid (OwnS wr w.heap.size x (ops.take k)) ∧ Hid (OwnS wr w.heap.size y (ops.take k)) ∧ Hid (∀ i, x.ownBlock = some i → y.ownBlock ≠ some i) ∧ Hid (Keeps (fun _ => False) w wr)) (fun _ _ i _ => n - (intOf i).toNat)
 case atStart => exact ⟨0, 0, 0, none, none, by omega, rfl, rfl, rfl, World.ownsRow_nil _ _ _ _, World.ownsRow_nil _ _ _ _, (by intro i hi; cases hi), Keeps.refl _ _⟩
 case round =>
  obtain ⟨k, c, d, ax, ay, hk, rfl, rfl, rfl, HX, HY, HD, HK⟩ := hrel
  by_cases hkn : k < n
  ·obtain ⟨o, ho⟩ : ∃ o, ops[k]? = some o := ⟨ops[k]'(by rw [uh HN]; exact hkn), List.getElem?_eq_getElem _⟩
   have n7 := uh H7 o (List.mem_of_getElem? ho)
   have b7 : (o.kind == 7) = false := by simpa using n7
   obtain ⟨sb, so, ha, hlt, hra⟩ := uh HSV k o ho
   obtain ⟨hv0, hh0⟩ := range_big hra hlt (uh HK)
   subst ha
   have hst : ∀ zs : List Value, zs.length = 26 → (storeBig 40 (.pointer (some ⟨wr.heap.size, 0, none⟩)) (.agg o.cells.toArray)).run Tryz.prog (wr.alloc (.cells zs.toArray 40)) = .ok .skip (wr.alloc (.cells o.cells.toArray 40)) := fun zs hz => run_store40 wr zs o.cells hz rfl (op_oneCell o)
   have hst2 : ∀ zs : List Value, zs.length = 26 → (storeBig 40 (.pointer (some ⟨wr.heap.size + 1, 0, none⟩)) (.agg o.cells.toArray)).run Tryz.prog ((wr.alloc (.cells o.cells.toArray 40)).alloc (.cells zs.toArray 40)) = .ok .skip ((wr.alloc (.cells o.cells.toArray 40)).alloc (.cells o.cells.toArray 40)) := fun zs hz => by
    have := run_store40 (wr.alloc (.cells o.cells.toArray 40)) zs o.cells hz rfl (op_oneCell o)
    rw [World.size_alloc] at this
    exact this
   have hv1 : bigVal (wr.alloc (.cells o.cells.toArray 40)) wr.heap.size 0 26 = .agg o.cells.toArray := bigVal_new wr o.cells 40 26 rfl
   have hh1 : hasBig (wr.alloc (.cells o.cells.toArray 40)) wr.heap.size 0 26 = true := hasBig_new wr o.cells 40 26 rfl
   have h0c : o.cells[0]? = some (.int .i64 o.kind) := rfl
   have htk : ops.take (k + 1) = ops.take k ++ [o] := by rw [List.take_add_one, ho]; rfl
   have HTK := hide htk
   have hk0 : (0 : Int) ≤ (k : Int) := by omega
   have hkn' : (k : Int) < (n : Int) := by omega
   have hAl : (ops.take k).length = k := by rw [List.length_take, uh HN]; omega
   have HAL := hide hAl
   clear hra htk ho hAl n7
   generalize ops.take k = A at *
   go_upto_region 17 with fail
   have hkb : Keeps (fun _ => False) wr ((wr.alloc (.cells o.cells.toArray 40)).alloc (.cells o.cells.toArray 40)) := ((Keeps.refl (fun _ => False) wr).alloc _).alloc _
   have HO1 := hide (show Blk ((wr.alloc (.cells o.cells.toArray 40)).alloc (.cells o.cells.toArray 40)) wr.heap.size o.cells 40 from (Blk.new wr o.cells 40).alloc _)
   have HO2 := hide (show Blk ((wr.alloc (.cells o.cells.toArray 40)).alloc (.cells o.cells.toArray 40)) (wr.heap.size + 1) o.cells 40 from Blk.newAt (by simp) o.cells 40)
   have HXb := hide (owns_keeps (uh HX) hkb (fun _ _ h => h))
   have HYb := hide (owns_keeps (uh HY) hkb (fun _ _ h => h))
   have HKb := hide ((uh HK).then hkb)
   have HXl := hide (show ∀ i, (Value.slice ax k c).ownBlock = some i → w.heap.size ≤ i ∧ i < wr.heap.size from fun i hi => (uh HX).lt i hi)
   have HYl := hide (show ∀ i, (Value.slice ay k d).ownBlock = some i → w.heap.size ≤ i ∧ i < wr.heap.size from fun i hi => (uh HY).lt i hi)
   have hws := (uh HK).size
   clear hkb hst hst2 hv0 hh0 hv1 hh1 h0c
   generalize (wr.alloc (.cells o.cells.toArray 40)).alloc (.cells o.cells.toArray 40) = wb at *
   generalize hob : wr.heap.size = ob at *
   have hobl : ob + 1 < wb.heap.size := (uh HO2).lt
   clear hob
   obtain ⟨hv1, hh1⟩ := bigVal_Blk (uh HO1) 26 rfl
   have hbb : w.heap.size ≤ wb.heap.size := (uh HKb).size
   go_wp2_with (at_builtin; first | (refine wpList_append_ops rfl _ _ rfl w.heap.size (.slice ax k c) A rfl (by exact owns_keeps (uh HXb) ((Keeps.refl (fun _ => False) wb).alloc _) (fun _ _ h => h)) _ [o] rfl (by exact blk_script (Blk.new wb o.cells 40)) (by have := uh HAL; simp; omega) (by simp; omega) ?_; intro ad2 c2 w2 hown2 hk2 hat2; have hk2' := ((Keeps.refl (fun i => (Value.slice ax k c).ownBlock = some i) wb).alloc _).then hk2; have HX2 := hide hown2; have HY2 := hide (owns_keeps (uh HYb) hk2' (fun i hi hh => uh HD i hh hi)); have HO2' := hide ((uh HO2).keeps hk2' (fun h => by have := uh HXl _ h; omega)); have HK2 := hide ((uh HKb).trans hk2' (fun i hi hlt => by have := (uh HXl i hi).1; omega)); have HAT2 := hide hat2; have hs2 : wb.heap.size ≤ w2.heap.size := hk2'.size; have hv2 := (bigVal_Blk (uh HO2') 26 rfl).1; have hh2 := (bigVal_Blk (uh HO2') 26 rfl).2; clear hown2 hk2 hk2' hat2) | (refine wpList_append_ops rfl _ _ rfl w.heap.size (.slice ay k d) A rfl (by exact owns_keeps (uh HY2) ((Keeps.refl (fun _ => False) w2).alloc _) (fun _ _ h => h)) _ [o] rfl (by exact blk_script (Blk.new w2 o.cells 40)) (by have := uh HAL; simp; omega) (by simp; omega) ?_; intro ad3 c3 w3 hown3 hk3 hat3))
   go_roundw
   case rel =>
    have hk3' := ((Keeps.refl (fun i => (Value.slice ay k d).ownBlock = some i) w2).alloc (.cells o.cells.toArray 40)).then hk3
    have hal := uh HAL
    refine ⟨k + 1, c2, c3, ad2, ad3, by omega, by go_num, by rw [hal], by rw [hal], ?_, ?_, ?_, ?_⟩
    ·show OwnS _ _ _ _
     rw [uh HTK]
     refine owns_keeps (uh HX2) hk3' (fun i hi hh => ?_)
     have h2 := uh HYl i hh
     rcases uh HAT2 i hi with h | h
     ·exact uh HD i h hh
     ·simp at h; omega
    ·show OwnS _ _ _ _
     rw [uh HTK]; exact hown3
    ·intro i hi hh
     rcases uh HAT2 i hi with h | h
     ·have h1 := uh HXl i h
      rcases hat3 i hh with h2 | h2
      ·exact uh HD i h h2
      ·simp at h2; omega
     ·simp at h
      rcases hat3 i hh with h2 | h2
      ·have := uh HYl i h2; omega
      ·have h3 := ((uh HX2).lt i hi).2
       simp at h2; omega
    ·exact (uh HK2).trans hk3' (fun i hi hlt => by have := (uh HYl i hi).1; omega)
   case measure => simp [intOf]; omega
  ·have hkk : k = n := by omega
   subst hkk
   go_wp2
   go_ret2
   have h1 := uh HX
   have h2 := uh HY
   rw [List.take_of_length_le (by rw [uh HN]; omega)] at h1 h2
   exact ⟨_, _, rfl, h1, h2, uh HK⟩
end Go.Proofs.YtahnliehdjncdaaGreatDoor
namespace Go.Proofs.YtahnliehdjncdaaGreatDoor
open Go.RowKit
attribute [local go_sem ↓] execOp_load38 execOp_load40 execOp_store40 execOp_bs22
attribute [local go_sem] run_load38 run_load40 bigVal_drew hasBig_drew bigVal_ne hasBig_ne bigVal_alloc hasBig_alloc run_bs1
theorem okOp_parts {D : Bool} {o : OpM} (h : okOp D o) : (o.kind ≠ 6 ∧ o.kind ≠ 7) ∧ (D = false → o.kind ≠ 4) ∧ (D = true → o.kind = 1 → validB o.cfg = true → o.cfg.kind = 1 ∨ o.cfg.kind = 4) := by
 obtain ⟨h1, h2⟩ := h
 refine ⟨?_, ?_, fun hD a b => h2 a b hD⟩
 ·cases D <;> simp at h1 <;> omega
 ·intro hD; subst hD; simp at h1; omega
theorem rel0 (D : Bool) : RelW D ws0 rs0 := ⟨rfl, by simp [rs0], trivial, by simp [ws0], by simp [ws0]⟩
theorem len_of_map {l : List Ans} {x : List (Int × List Int)} (h : l.map (fun x => (x.code, x.nums)) = x) : l.length = x.length := by rw [← h, List.length_map]
theorem answered_any (D : Bool) (base : Nat) (ops : List OpM) (vr vt va : Value) (l1 : List Ans) (w : World) (hr : ScriptW w vr ops) (ht : ScriptW w vt ops) (ha : ARep w base va l1) (hm : l1.map (fun x => (x.code, x.nums)) = runM ws0 ops) (hbs : ∀ x, x ∈ l1 → x.bs = noBytes) (hlen : ops.length ≤ 651562446080) (hok : ∀ o, o ∈ ops → okOp D o) :
  Calls Tryz.prog 34 #[vr, vt, va] w fun r w' => r = .returned (.bool true) ∧ Keeps (fun _ => False) w w' := by
 have hl1 : l1.length = ops.length := by rw [len_of_map hm, runM_length]
 obtain ⟨ar, cr, rfl, hrv⟩ := script_view hr
 obtain ⟨aa, ca, rfl⟩ := row_form0 ha.row
 have HRV := hide hrv
 have HT := hide ht
 have HA := hide ha
 have HM := hide hm
 have HOK := hide hok
 have hq : (∀ o, o ∈ ops → o.kind ≠ 4) ∨ ∀ o, o ∈ ops → o.kind = 1 → validB o.cfg = true → o.cfg.kind = 1 ∨ o.cfg.kind = 4 := by
  cases D with
  | false => exact .inl fun o ho => (okOp_parts (hok o ho)).2.1 rfl
  | true => exact .inr fun o ho => (okOp_parts (hok o ho)).2.2 rfl
 have HQ := hide hq
 have HSAME := hide (run_same D ops ws0 rs0 0 (rel0 D) hok inv0 (by omega) (by omega))
 have HOR := hide (show OkRun ops from fun o ho => (okOp_parts (hok o ho)).1)
 have HBS := hide hbs
 clear hbs
 clear hr hrv ht ha hm hok hq
 rw [hl1]
 have HL1 := hide hl1
 clear hl1
 go_enter Tryz.func34, Tryz.ntmps34
 go_wp2_with fail
 refine (rrun_any vt ops w (uh HT) hlen (fun o ho => (okOp_parts (uh HOK o ho)).1) (uh HQ)).mono ?_
 rintro r w1 ⟨vb, l2, rfl, hb, hm2, hbs2, hk1⟩
 have HBS2 := hide hbs2
 clear hbs2
 have hl2 : l2.length = ops.length := by rw [len_of_map hm2, runR_length]
 obtain ⟨ab, cb, rfl⟩ := row_form0 hb.row
 rw [hl2]
 have HB := hide hb
 have HM2 := hide hm2
 have HL2 := hide hl2
 have HA1 := hide ((uh HA).keeps hk1 (fun _ _ h => h))
 have HK1 := hide hk1
 clear hb hm2 hl2 hk1
 generalize hn : ops.length = n at *
 have HN := hide hn
 have hnn : ((n : Int) != (n : Int)) = false := by simp
 clear hn
 go_wp2_with fail
 go_loopw [8] (fun i wr => ∃ k : Nat, k ≤ n ∧ i = .int .i64 k ∧ Hid (Keeps (fun _ => False) w1 wr)) (fun i _ => n - (intOf i).toNat)
 case atStart => exact ⟨0, by omega, rfl, Keeps.refl _ _⟩
 case round =>
  obtain ⟨k, hk, rfl, HKr⟩ := hrel
  by_cases hkn : k < n
  ·obtain ⟨o, ho⟩ : ∃ o, ops[k]? = some o := ⟨ops[k]'(by rw [uh HN]; exact hkn), List.getElem?_eq_getElem _⟩
   obtain ⟨x, hx⟩ : ∃ x, l1[k]? = some x := ⟨l1[k]'(by rw [uh HL1]; exact hkn), List.getElem?_eq_getElem _⟩
   obtain ⟨y, hy⟩ : ∃ y, l2[k]? = some y := ⟨l2[k]'(by rw [uh HL2]; exact hkn), List.getElem?_eq_getElem _⟩
   have hxy : (x.code, x.nums) = (y.code, y.nums) := by
    have h1 : (l1.map (fun x => (x.code, x.nums)))[k]? = some (x.code, x.nums) := by rw [List.getElem?_map, hx]; rfl
    have h2 : (l2.map (fun x => (x.code, x.nums)))[k]? = some (y.code, y.nums) := by rw [List.getElem?_map, hy]; rfl
    rw [uh HM, uh HSAME] at h1
    rw [uh HM2] at h2
    rw [h1] at h2
    injection h2
   have hx9 : x.nums.length ≤ 1000 := by
    have h1 : (x.code, x.nums) ∈ runM ws0 ops := by
     rw [← uh HM]
     exact List.mem_map.2 ⟨x, List.mem_of_getElem? hx, rfl⟩
    have := runM_nums0 ops (uh HOR) _ h1
    simp only at this
    omega
   have hxr := (uh HA1).keeps (uh HKr) (fun _ _ h => h)
   have hyr := (uh HB).keeps (uh HKr) (fun _ _ h => h)
   have HNX := hide (hxr.nums x (List.mem_of_getElem? hx))
   have HNY := hide (hyr.nums y (List.mem_of_getElem? hy))
   obtain ⟨ga, rfl, x0, x1, x2⟩ := ans_cells (by rw [uh HL1] at hxr; exact hxr) k x hx
   obtain ⟨gb, rfl, y0, y1, y2⟩ := ans_cells (by rw [uh HL2] at hyr; exact hyr) k y hy
   rw [uh HBS x (List.mem_of_getElem? hx)] at x2
   rw [uh HBS2 y (List.mem_of_getElem? hy)] at y2
   injection hxy with hcode hnums
   rw [← hcode] at y0
   rw [← hnums] at HNY
   obtain ⟨sb, so, ha, hlt, hra⟩ := uh HRV k o ho
   obtain ⟨hv0, hh0⟩ := range_big hra hlt ((uh HK1).then (uh HKr))
   subst ha
   have hsbl : sb < wr.heap.size := by have h1 := (uh HK1).size; have h2 := (uh HKr).size; omega
   have h6 := (okOp_parts (uh HOK o (List.mem_of_getElem? ho))).1.1
   have hk0 : (0 : Int) ≤ (k : Int) := by omega
   have hkn' : (k : Int) < (n : Int) := by omega
   clear hx hy ho hra hcode hnums hxr hyr
   go_wp2_with fail
   go_region_held3 (fun w' => (bigVal w' sb (so + k * 26) 26 = .agg o.cells.toArray ∧ hasBig w' sb (so + k * 26) 26 = true) ∧ (w'.cell? ⟨ga, k * 3, none⟩ = some (.int .i64 x.code) ∧ w'.cell? ⟨ga, k * 3 + 1, none⟩ = some x.nv ∧ w'.cell? ⟨ga, k * 3 + 2, none⟩ = some (.string noBytes)) ∧ (w'.cell? ⟨gb, k * 3, none⟩ = some (.int .i64 x.code) ∧ w'.cell? ⟨gb, k * 3 + 1, none⟩ = some y.nv ∧ w'.cell? ⟨gb, k * 3 + 2, none⟩ = some (.string noBytes)))
    (first
       | (rw [(bigVal_keeps (b := sb) (o := so + k * 26) (n := 26) hk9 (fun h => h) (by simp; omega)).1, (bigVal_keeps (b := sb) (o := so + k * 26) (n := 26) hk9 (fun h => h) (by simp; omega)).2, bigVal_drew, hasBig_drew]; exact ⟨⟨hv0, hh0⟩, ⟨hk9.cell x0 (fun h => h), hk9.cell x1 (fun h => h), hk9.cell x2 (fun h => h)⟩, ⟨hk9.cell y0 (fun h => h), hk9.cell y1 (fun h => h), hk9.cell y2 (fun h => h)⟩⟩)
       | (rw [bigVal_drew, hasBig_drew]; exact ⟨⟨hv0, hh0⟩, ⟨x0, x1, x2⟩, ⟨y0, y1, y2⟩⟩)
       | exact ⟨⟨hv0, hh0⟩, ⟨x0, x1, x2⟩, ⟨y0, y1, y2⟩⟩)
    (first | (go_at_call 41; refine (alike_any base w.heap.size o x.code x.nv y.nv x.nums _ (by exact uh HNX) (by exact uh HNY) hx9 h6).mono ?_; rintro r w9 ⟨rfl, hk9⟩))
   have HK9 := hide ((uh HKr).then (((Keeps.refl (fun _ => False) wr).drew).then hk9))
   clear hk9 hv0 hh0 x0 x1 x2 y0 y1 y2
   go_wp2
   go_roundw
   case rel => exact ⟨k + 1, by omega, by go_num, HK9⟩
   case measure => simp [intOf]; omega
  ·have hkk : k = n := by omega
   subst hkk
   go_wp2
   go_ret
   exact ⟨rfl, (uh HK1).then (uh HKr)⟩
theorem runs_any (D : Bool) (v : Value) (ops : List OpM) (w : World) (hs : ScriptW w v ops) (hlen : ops.length ≤ 651562446080) (hok : ∀ o, o ∈ ops → okOp D o) (hT : Tab w) :
  Calls Tryz.prog 15 #[v] w fun r w' => r = .returned (.bool true) ∧ Keeps (fun _ => False) w w' := by
 have HS := hide hs
 have HOK := hide hok
 have HTT := hide hT
 clear hs hok hT
 go_enter Tryz.func15, Tryz.ntmps15
 go_wp2_with fail
 refine (filled_any v ops w (uh HS) hlen (fun o ho => (okOp_parts (uh HOK o ho)).1.2)).mono ?_
 rintro r w1 ⟨v1, v2, rfl, h1, h2, hk1⟩
 have H1 := hide (own_scriptW h1)
 have H2 := hide (own_scriptW h2)
 have HK1 := hide hk1
 clear h1 h2 hk1
 go_wp2_with fail
 refine (run_script' v1 ops w1 (uh H1) (by omega) ((uh HTT).keeps (uh HK1) (fun h => h)) (fun o ho => (okOp_parts (uh HOK o ho)).1)).mono ?_
 rintro r w2 ⟨va, l1, rfl, ha, hm, hbb, hk2⟩
 have HBS := hide (bs_no hbb (fun o ho => (okOp_parts (uh HOK o ho)).1.1))
 clear hbb
 have HA := hide ha
 have HM := hide hm
 have HK2 := hide hk2
 clear ha hm hk2
 go_wp2_with fail
 refine (answered_any D w1.heap.size ops v1 v2 va l1 w2 ((uh H1).keeps (uh HK2)) ((uh H2).keeps (uh HK2)) (uh HA) (uh HM) (uh HBS) hlen (uh HOK)).mono ?_
 rintro r w3 ⟨rfl, hk3⟩
 go_wp2
 go_ret
 exact ⟨rfl, ((uh HK1).then (uh HK2)).then hk3⟩
theorem kept_ok (D : Bool) (lo hi : Int) (hD : D = true → (lo = 1 ∧ hi = 1) ∨ (lo = 4 ∧ hi = 4)) (ops : List OpM) (o : OpM) (h : o ∈ ops.filter (keptB (if D then 4 else 3) lo hi)) : okOp D o := by
 have h2 := (List.mem_filter.1 h).2
 unfold keptB at h2
 simp only [Bool.and_eq_true, decide_eq_true_eq] at h2
 refine ⟨h2.1, fun h1 hv hd => ?_⟩
 obtain ⟨k, hk, k1, k5, _, _⟩ := valid_parts hv
 have := hD hd
 omega
theorem counts_any (v : Value) (ops : List OpM) (w : World) (hs : ScriptW w v ops) (hlen : ops.length ≤ 651562446080) (hT : Tab w) :
  Calls Tryz.prog 7 #[v] w fun r w' => r = .returned (.bool true) ∧ Keeps (fun _ => False) w w' := by
 have HTT := hide hT
 clear hT
 go_enter Tryz.func7, Tryz.ntmps7
 go_wp2_with fail
 refine (kept_any v ops 4 1 1 w hs hlen).mono ?_
 rintro r w1 ⟨v1, rfl, h1, hk1⟩
 have HS := hide (own_scriptW h1)
 have HK1 := hide hk1
 clear h1 hk1
 go_wp2_with fail
 refine (runs_any true v1 _ w1 (uh HS) (by have := List.length_filter_le (keptB 4 1 1) ops; omega) (fun o ho => kept_ok true 1 1 (fun _ => .inl ⟨rfl, rfl⟩) ops o ho) ((uh HTT).keeps (uh HK1) (fun h => h))).mono ?_
 rintro r w2 ⟨rfl, hk2⟩
 go_wp2
 go_ret
 exact ⟨rfl, (uh HK1).then hk2⟩
end Go.Proofs.YtahnliehdjncdaaGreatDoor
