import Derived.Test.YtahnliehdjncdaaGreatDoorXAL
set_option maxRecDepth 100000
set_option maxHeartbeats 16000000
namespace Go.Proofs.YtahnliehdjncdaaGreatDoor
open Go.RowKit
attribute [local go_sem ↓] execOp_fieldBk
attribute [local go_sem] run_fieldBk
def estN (l : List Bk) (t : Int) : Int := sumB (l.drop (pastN l t)) - (if pastN l t = l.length then 0 else (bkAt l (pastN l t)).sz / 2)
theorem estimate_any (d r : Nat) (og : Option Nat) (c : Cfg) (l : List Bk) (t : Int) (w : World) (h : CRep w d r og c l) (hi : BInv l) :
  Calls Tryz.prog 199 #[.pointer (some ⟨d, 0, none⟩), .int .i64 t] w fun e w' => e = .returned (.int .i64 (estN l t)) ∧ Keeps (fun _ => False) w w' := by
 have hc20 : w.cell? ⟨d, 20, none⟩ = some (.pointer (some ⟨r, 0, none⟩)) := h.blk.cell rfl
 have HC := hide h
 have HI := hide hi
 have hl := hi.len
 clear h hi
 go_enter Tryz.func199, Tryz.ntmps199
 go_wp2_with fail
 refine (past_any r og l t w (uh HC).row hl).mono ?_
 rintro e w1 ⟨rfl, hk1⟩
 have HC1 := hide ((uh HC).still hk1)
 have HK1 := hide hk1
 clear hk1 hc20
 have hc20 : w1.cell? ⟨d, 20, none⟩ = some (.pointer (some ⟨r, 0, none⟩)) := (uh HC1).blk.cell rfl
 have hp := pastN_le l t
 have HE := hide (show estN l t = sumB (l.drop (pastN l t)) - (if pastN l t = l.length then 0 else (bkAt l (pastN l t)).sz / 2) from rfl)
 generalize pastN l t = p at *
 go_wp2_with fail
 refine (rowLen_any r og l w1 (uh HC1).row).mono ?_
 rintro e w2 ⟨rfl, hw2⟩
 rw [hw2]
 clear hw2 w2
 generalize hn : l.length = n at *
 have HN := hide hn
 clear hn
 by_cases hpn : p = n
 ·have hb : ((p : Int) == (n : Int)) = true := by simp [hpn]
  have HPN := hide hpn
  clear hpn
  go_wp2
  go_ret
  refine ⟨?_, uh HK1⟩
  rw [uh HE, if_pos (uh HPN), List.drop_eq_nil_of_le (by rw [uh HN, uh HPN]; exact Nat.le_refl _)]
  rfl
 ·have hb : ((p : Int) == (n : Int)) = false := by simp; omega
  have HPN := hide hpn
  have hpl : p < n := by omega
  clear hpn
  go_wp2_with fail
  go_loopg [6, 7] (n - p) (fun g a b wr => ∃ (k : Nat) (s : Int), a = .int .i64 s ∧ b = .int .i64 k ∧ p ≤ k ∧ k ≤ n ∧ n - k = g ∧ 0 ≤ s ∧ s ≤ 4398046511104 ∧ Hid (CRep wr d r og c l) ∧ Hid (Keeps (fun _ => False) w wr) ∧ Hid (s + sumB (l.drop k) = sumB (l.drop p)))
  case atStart => exact ⟨p, 0, rfl, rfl, Nat.le_refl _, by omega, rfl, by omega, by omega, HC1, HK1, by show _ = _; omega⟩
  case round =>
   obtain ⟨k, s, rfl, rfl, hk1, hk2, hg, s0, s1, HCR, HKR, HSR⟩ := hrel
   have HG := hide hg
   clear hg hc20
   have hc20 : wr.cell? ⟨d, 20, none⟩ = some (.pointer (some ⟨r, 0, none⟩)) := (uh HCR).blk.cell rfl
   go_wp2_with fail
   refine (rowLen_any r og l wr (uh HCR).row).mono ?_
   rintro e w2 ⟨rfl, hw2⟩
   rw [hw2, uh HN]
   clear hw2 w2
   by_cases hkn : k < n
   ·have hkn' : (k : Int) < (n : Int) := by omega
    go_wp2_with fail
    refine (rowAt_any r og l k wr (uh HCR).row (by rw [uh HN]; exact hkn)).mono ?_
    rintro e w2 ⟨rfl, hk3⟩
    have HC2 := hide ((uh HCR).still hk3)
    have HK2 := hide ((uh HKR).then hk3)
    clear hk3
    have hdk := bkAt_drop l k (by rw [uh HN]; exact hkn)
    have hx1 := (uh HI).one _ (bkAt_mem (l := l) (i := k) (by rw [uh HN]; exact hkn))
    generalize bkAt l k = x at *
    have hsd : sumB (l.drop k) = x.sz + sumB (l.drop (k + 1)) := by rw [hdk]; rfl
    have hsp : sumB (l.drop p) ≤ 4398046511104 := ((uh HI).drop p).sum
    have hs1 : 0 ≤ sumB (l.drop (k + 1)) := sumB_nonneg ((uh HI).drop (k + 1)).one
    have hse : s + x.sz ≤ 4398046511104 := by have := uh HSR; omega
    have HSN := hide (show s + x.sz + sumB (l.drop (k + 1)) = sumB (l.drop p) by have := uh HSR; omega)
    clear hdk hsd hsp hs1
    have hw3 : IntKind.i64.wrap (s + x.sz) = s + x.sz := by rw [IntKind.wrap_i64]; omega
    unfold Bk.val
    go_wp2
    go_roundg (n - (k + 1))
    case measure => have := uh HG; omega
    case rel => exact ⟨k + 1, s + x.sz, rfl, by go_num, by omega, by omega, rfl, by omega, by omega, HC2, HK2, HSN⟩
   ·have HKN := hide (show k = n by omega)
    go_wp2_with fail
    refine (rowAt_any r og l p wr (uh HCR).row (by rw [uh HN]; exact hpl)).mono ?_
    rintro e w2 ⟨rfl, hk3⟩
    have HK2 := hide ((uh HKR).then hk3)
    clear hk3
    have hx1 := (uh HI).one _ (bkAt_mem (l := l) (i := p) (by rw [uh HN]; exact hpl))
    have hx2 := sz_le_sumB (uh HI).one (bkAt_mem (l := l) (i := p) (by rw [uh HN]; exact hpl))
    have hx3 := (uh HI).sum
    generalize bkAt l p = x at *
    have hx4 : x.sz ≤ 4398046511104 := by omega
    have hx5 : x.sz / 2 ≤ 4398046511104 := by omega
    have hx6 : 0 ≤ x.sz / 2 := by omega
    have HSF := hide (show s = sumB (l.drop p) by
       have := uh HSR
       rw [List.drop_eq_nil_of_le (by rw [uh HN, uh HKN]; exact Nat.le_refl _)] at this
       simp only [sumB] at this; omega)
    have hw4 : IntKind.i64.wrap (s - x.sz / 2) = s - x.sz / 2 := by rw [IntKind.wrap_i64]; omega
    clear hx2 hx3
    unfold Bk.val
    go_wp2
    go_ret
    refine ⟨?_, uh HK2⟩
    rw [uh HE, if_neg (uh HPN), uh HSF]
    rfl
end Go.Proofs.YtahnliehdjncdaaGreatDoor
