import Derived.Laws.MathBits
import Derived.Lib.Tables
import Derived.Test.YtahnliehdjncdaaGreatDoorXAJ
import Derived.Test.YtahnliehdjncdaaGreatDoorXBB
import Derived.Test.YtahnliehdjncdaaGreatDoorXAK
import Derived.Test.YtahnliehdjncdaaGreatDoorXAP
import Derived.Laws.MakeOwn
import Derived.Test.YtahnliehdjncdaaGreatDoorXAH
import Derived.Test.YtahnliehdjncdaaGreatDoorXAU
set_option maxRecDepth 100000
set_option maxHeartbeats 16000000
namespace Go.Proofs.YtahnliehdjncdaaGreatDoor
open Go.RowKit
theorem len8_is (i : Nat) (h : i < 256) : Lib.len8 (i : Int) = (bitLen i : Int) := by
 have : ∀ i : Fin 256, Lib.len8 ((i.val : Nat) : Int) = (bitLen i.val : Int) := by decide +kernel
 exact this ⟨i, h⟩
theorem len8_le (i : Nat) (h : i < 256) : 0 ≤ Lib.len8 (i : Int) ∧ Lib.len8 (i : Int) ≤ 8 := by
 rw [len8_is i h]; have := bitLen_le8 i h; omega
theorem len64_any (x : Nat) (w : World) (hx : x < 9223372036854775808) :
  Calls Tryz.prog 241 #[.int .u64 x] w fun e w' => e = .returned (.int .i64 (bitLen x)) ∧ w' = w := by
 by_cases h0 : 4294967296 ≤ x
 ·have d0 : decide ((4294967296 : Int) ≤ (x : Int)) = true := by simp; omega
  have s0 := bitLen_shift x 32 (by omega)
  obtain ⟨y, hy⟩ : ∃ y, x / 4294967296 = y := ⟨_, rfl⟩
  have e0 : (x : Int) / 4294967296 = (y : Int) := by omega
  rw [show x / 2 ^ 32 = y from hy] at s0
  have b0 : y < 2147483648 := by omega
  by_cases h1 : 65536 ≤ y
  ·have d1 : decide ((65536 : Int) ≤ (y : Int)) = true := by simp; omega
   have s1 := bitLen_shift y 16 (by omega)
   obtain ⟨z, hz⟩ : ∃ z, y / 65536 = z := ⟨_, rfl⟩
   have e1 : (y : Int) / 65536 = (z : Int) := by omega
   rw [show y / 2 ^ 16 = z from hz] at s1
   have b1 : z < 32768 := by omega
   by_cases h2 : 256 ≤ z
   ·have d2 : decide ((256 : Int) ≤ (z : Int)) = true := by simp; omega
    have s2 := bitLen_shift z 8 (by omega)
    obtain ⟨u, hu⟩ : ∃ u, z / 256 = u := ⟨_, rfl⟩
    have e2 : (z : Int) / 256 = (u : Int) := by omega
    rw [show z / 2 ^ 8 = u from hu] at s2
    have b2 : u < 128 := by omega
    have u0 : (0 : Int) ≤ (u : Int) := by omega
    have u1 : (u : Int) ≤ 255 := by omega
    have w8 : IntKind.u8.wrap (u : Int) = (u : Int) := by rw [IntKind.wrap_u8']; omega
    obtain ⟨l0, l8⟩ := len8_le u (by omega)
    have HF := hide (show (bitLen x : Int) = 56 + Lib.len8 (u : Int) by rw [s0, s1, s2, len8_is u (by omega)]; omega)
    go_enter Tryz.func241, Tryz.ntmps241
    go_wp2
    go_ret
    exact ⟨ret_int (by rw [uh HF]; try omega), rfl⟩
   ·have d2 : decide ((256 : Int) ≤ (z : Int)) = false := by simp; omega
    have u0 : (0 : Int) ≤ (z : Int) := by omega
    have u1 : (z : Int) ≤ 255 := by omega
    have w8 : IntKind.u8.wrap (z : Int) = (z : Int) := by rw [IntKind.wrap_u8']; omega
    obtain ⟨l0, l8⟩ := len8_le z (by omega)
    have HF := hide (show (bitLen x : Int) = 48 + Lib.len8 (z : Int) by rw [s0, s1, len8_is z (by omega)]; omega)
    go_enter Tryz.func241, Tryz.ntmps241
    go_wp2
    go_ret
    exact ⟨ret_int (by rw [uh HF]; try omega), rfl⟩
  ·have d1 : decide ((65536 : Int) ≤ (y : Int)) = false := by simp; omega
   by_cases h2 : 256 ≤ y
   ·have d2 : decide ((256 : Int) ≤ (y : Int)) = true := by simp; omega
    have s2 := bitLen_shift y 8 (by omega)
    obtain ⟨u, hu⟩ : ∃ u, y / 256 = u := ⟨_, rfl⟩
    have e2 : (y : Int) / 256 = (u : Int) := by omega
    rw [show y / 2 ^ 8 = u from hu] at s2
    have b2 : u < 18446744073709551616 := by omega
    have u0 : (0 : Int) ≤ (u : Int) := by omega
    have u1 : (u : Int) ≤ 255 := by omega
    have w8 : IntKind.u8.wrap (u : Int) = (u : Int) := by rw [IntKind.wrap_u8']; omega
    obtain ⟨l0, l8⟩ := len8_le u (by omega)
    have HF := hide (show (bitLen x : Int) = 40 + Lib.len8 (u : Int) by rw [s0, s2, len8_is u (by omega)]; omega)
    go_enter Tryz.func241, Tryz.ntmps241
    go_wp2
    go_ret
    exact ⟨ret_int (by rw [uh HF]; try omega), rfl⟩
   ·have d2 : decide ((256 : Int) ≤ (y : Int)) = false := by simp; omega
    have u0 : (0 : Int) ≤ (y : Int) := by omega
    have u1 : (y : Int) ≤ 255 := by omega
    have w8 : IntKind.u8.wrap (y : Int) = (y : Int) := by rw [IntKind.wrap_u8']; omega
    obtain ⟨l0, l8⟩ := len8_le y (by omega)
    have HF := hide (show (bitLen x : Int) = 32 + Lib.len8 (y : Int) by rw [s0, len8_is y (by omega)]; omega)
    go_enter Tryz.func241, Tryz.ntmps241
    go_wp2
    go_ret
    exact ⟨ret_int (by rw [uh HF]; try omega), rfl⟩
 ·have d0 : decide ((4294967296 : Int) ≤ (x : Int)) = false := by simp; omega
  by_cases h1 : 65536 ≤ x
  ·have d1 : decide ((65536 : Int) ≤ (x : Int)) = true := by simp; omega
   have s1 := bitLen_shift x 16 (by omega)
   obtain ⟨z, hz⟩ : ∃ z, x / 65536 = z := ⟨_, rfl⟩
   have e1 : (x : Int) / 65536 = (z : Int) := by omega
   rw [show x / 2 ^ 16 = z from hz] at s1
   have b1 : z < 18446744073709551616 := by omega
   by_cases h2 : 256 ≤ z
   ·have d2 : decide ((256 : Int) ≤ (z : Int)) = true := by simp; omega
    have s2 := bitLen_shift z 8 (by omega)
    obtain ⟨u, hu⟩ : ∃ u, z / 256 = u := ⟨_, rfl⟩
    have e2 : (z : Int) / 256 = (u : Int) := by omega
    rw [show z / 2 ^ 8 = u from hu] at s2
    have b2 : u < 18446744073709551616 := by omega
    have u0 : (0 : Int) ≤ (u : Int) := by omega
    have u1 : (u : Int) ≤ 255 := by omega
    have w8 : IntKind.u8.wrap (u : Int) = (u : Int) := by rw [IntKind.wrap_u8']; omega
    obtain ⟨l0, l8⟩ := len8_le u (by omega)
    have HF := hide (show (bitLen x : Int) = 24 + Lib.len8 (u : Int) by rw [s1, s2, len8_is u (by omega)]; omega)
    go_enter Tryz.func241, Tryz.ntmps241
    go_wp2
    go_ret
    exact ⟨ret_int (by rw [uh HF]; try omega), rfl⟩
   ·have d2 : decide ((256 : Int) ≤ (z : Int)) = false := by simp; omega
    have u0 : (0 : Int) ≤ (z : Int) := by omega
    have u1 : (z : Int) ≤ 255 := by omega
    have w8 : IntKind.u8.wrap (z : Int) = (z : Int) := by rw [IntKind.wrap_u8']; omega
    obtain ⟨l0, l8⟩ := len8_le z (by omega)
    have HF := hide (show (bitLen x : Int) = 16 + Lib.len8 (z : Int) by rw [s1, len8_is z (by omega)]; omega)
    go_enter Tryz.func241, Tryz.ntmps241
    go_wp2
    go_ret
    exact ⟨ret_int (by rw [uh HF]; try omega), rfl⟩
  ·have d1 : decide ((65536 : Int) ≤ (x : Int)) = false := by simp; omega
   by_cases h2 : 256 ≤ x
   ·have d2 : decide ((256 : Int) ≤ (x : Int)) = true := by simp; omega
    have s2 := bitLen_shift x 8 (by omega)
    obtain ⟨u, hu⟩ : ∃ u, x / 256 = u := ⟨_, rfl⟩
    have e2 : (x : Int) / 256 = (u : Int) := by omega
    rw [show x / 2 ^ 8 = u from hu] at s2
    have b2 : u < 18446744073709551616 := by omega
    have u0 : (0 : Int) ≤ (u : Int) := by omega
    have u1 : (u : Int) ≤ 255 := by omega
    have w8 : IntKind.u8.wrap (u : Int) = (u : Int) := by rw [IntKind.wrap_u8']; omega
    obtain ⟨l0, l8⟩ := len8_le u (by omega)
    have HF := hide (show (bitLen x : Int) = 8 + Lib.len8 (u : Int) by rw [s2, len8_is u (by omega)]; omega)
    go_enter Tryz.func241, Tryz.ntmps241
    go_wp2
    go_ret
    exact ⟨ret_int (by rw [uh HF]; try omega), rfl⟩
   ·have d2 : decide ((256 : Int) ≤ (x : Int)) = false := by simp; omega
    have u0 : (0 : Int) ≤ (x : Int) := by omega
    have u1 : (x : Int) ≤ 255 := by omega
    have w8 : IntKind.u8.wrap (x : Int) = (x : Int) := by rw [IntKind.wrap_u8']; omega
    obtain ⟨l0, l8⟩ := len8_le x (by omega)
    have HF := hide (show (bitLen x : Int) = 0 + Lib.len8 (x : Int) by rw [len8_is x (by omega)]; omega)
    go_enter Tryz.func241, Tryz.ntmps241
    go_wp2
    go_ret
    exact ⟨ret_int (by rw [uh HF]; try omega), rfl⟩
theorem bitsLen_any (x : Nat) (w : World) (hx : x < 9223372036854775808) :
  Calls Tryz.prog 201 #[.int .u64 x] w fun e w' => e = .returned (.int .i64 (bitLen x)) ∧ w' = w := by
 have HL := hide (len64_any x w hx)
 go_enter Tryz.func201, Tryz.ntmps201
 go_wp2_with fail
 refine (uh HL).mono ?_
 rintro e w' ⟨rfl, rfl⟩
 go_wp2
 go_ret
 exact ⟨rfl, rfl⟩
end Go.Proofs.YtahnliehdjncdaaGreatDoor
namespace Go.Proofs.YtahnliehdjncdaaGreatDoor
open Go.RowKit
def fieldBt (v : Value) : Sem Next := do pure (.value (← Instr.field 211 v 1))
theorem execOp_fieldBt (ρ : Operand → Value) (dst : Option Tmp) (x : Operand) (ty : TypeId) (pos : String) (after : Array Edge) (guard : Option (Nat × Bool)) :
  execOp ρ { dst, op := .field 211 x 1, type := ty, pos, after, guard } = fieldBt (ρ x) := rfl
theorem run_fieldBt (a b : Value) (w : World) : (fieldBt (.agg #[a, b])).run Tryz.prog w = .ok (.value b) w := by kernel_rfl
attribute [local go_sem ↓] execOp_fieldBk execOp_fieldBt
attribute [local go_sem] run_fieldBk run_fieldBt
def endZ (l : List Bk) (sz : Int) (s : Nat) : Nat := s + ((l.drop s).takeWhile (fun b => decide (b.sz = sz))).length
theorem endZ_le (l : List Bk) (sz : Int) (s : Nat) (h : s ≤ l.length) : s ≤ endZ l sz s ∧ endZ l sz s ≤ l.length := by
 unfold endZ
 have := (List.takeWhile_prefix (l := l.drop s) (fun b => decide (b.sz = sz))).length_le
 rw [List.length_drop] at this
 omega
theorem bkAt_dropc (l : List Bk) (i : Nat) (h : i < l.length) : l.drop i = bkAt l i :: l.drop (i + 1) := by
 rw [List.drop_eq_getElem_cons h]
 simp [bkAt, List.getD_eq_getElem?_getD, List.getElem?_eq_getElem h]
theorem endZ_yes (l : List Bk) (sz : Int) (s : Nat) (h : s < l.length) (he : (bkAt l s).sz = sz) : endZ l sz s = endZ l sz (s + 1) := by
 unfold endZ
 rw [bkAt_dropc l s h, List.takeWhile_cons_of_pos (by simpa using he), List.length_cons]
 omega
theorem endZ_no (l : List Bk) (sz : Int) (s : Nat) (h : s < l.length) (he : (bkAt l s).sz ≠ sz) : endZ l sz s = s := by
 unfold endZ
 rw [bkAt_dropc l s h, List.takeWhile_cons_of_neg (by simpa using he)]
 rfl
theorem endZ_end (l : List Bk) (sz : Int) : endZ l sz l.length = l.length := by
 unfold endZ
 rw [List.drop_length]
 rfl
theorem endOf_any (d r : Nat) (og : Option Nat) (c : Cfg) (l : List Bk) (sz : Int) (s : Nat) (w : World) (h : CRep w d r og c l) (hl : l.length ≤ 4398046511104) (hs : s ≤ l.length) :
  Calls Tryz.prog 203 #[.pointer (some ⟨d, 0, none⟩), .int .i64 sz, .int .i64 s] w fun r w' => r = .returned (.int .i64 (endZ l sz s)) ∧ Keeps (fun _ => False) w w' := by
 have HR := hide h
 clear h
 obtain ⟨n, hn⟩ : ∃ n, l.length = n := ⟨_, rfl⟩
 rw [hn] at hl hs
 have HN := hide hn
 clear hn
 go_enter Tryz.func203, Tryz.ntmps203
 go_wp2
 go_loopw [7] (fun x wr => ∃ k : Nat, x = .int .i64 k ∧ k ≤ n ∧ Hid (Keeps (fun _ => False) w wr) ∧ Hid (endZ l sz s = endZ l sz k)) (fun x _ => n - (intOf x).toNat)
 case atStart => exact ⟨s, rfl, hs, Keeps.refl _ _, rfl⟩
 case round =>
  obtain ⟨k, rfl, hk, HK, HE⟩ := hrel
  have HC := hide ((uh HR).still (uh HK))
  have hc20 : wr.cell? ⟨d, 20, none⟩ = some (.pointer (some ⟨r, 0, none⟩)) := (uh HC).blk.cell rfl
  have HLen := hide (show Calls Tryz.prog 200 #[.pointer (some ⟨r, 0, none⟩)] wr fun e w' => e = .returned (.int .i64 n) ∧ w' = wr by
     have := rowLen_any r og l wr (uh HC).row
     rw [uh HN] at this
     exact this)
  by_cases hlk : k < n
  ·have hkl : k < l.length := by rw [uh HN]; exact hlk
   have hlt : (k : Int) < (n : Int) := by omega
   have HAt := hide (rowAt_any r og l k wr (uh HC).row hkl)
   have HY := hide (endZ_yes l sz k hkl)
   have HNo := hide (endZ_no l sz k hkl)
   clear hkl
   generalize bkAt l k = x at *
   unfold Bk.val at HAt
   go_wp2_with fail
   refine (uh HLen).mono ?_
   rintro e w1 ⟨rfl, hw1⟩
   rw [hw1]
   clear hw1 w1
   go_wp2_with fail
   refine (uh HAt).mono ?_
   rintro e w2 ⟨rfl, hk2⟩
   have HK2 := hide ((uh HK).then hk2)
   clear hk2
   by_cases hx : x.sz = sz
   ·have hx' : (x.sz == sz) = true := by simpa using hx
    have HX := hide hx
    clear hx
    go_wp2
    go_roundw
    case rel => exact ⟨k + 1, by go_num, by omega, HK2, by show _ = _; rw [uh HE, uh HY (uh HX)]⟩
    case measure => simp [intOf]; omega
   ·have hx' : (x.sz == sz) = false := by simpa using hx
    have HX := hide hx
    clear hx
    go_wp2
    go_ret
    exact ⟨by rw [uh HE, uh HNo (uh HX)]; rfl, uh HK2⟩
  ·have hkn : k = n := by omega
   subst hkn
   have hf : decide ((k : Int) < (k : Int)) = false := by simp
   go_wp2_with fail
   refine (uh HLen).mono ?_
   rintro e w1 ⟨rfl, hw1⟩
   rw [hw1]
   clear hw1 w1
   go_wp2
   go_ret
   refine ⟨?_, uh HK⟩
   rw [uh HE, ← uh HN, endZ_end]
   rfl
def savB (l : List Bk) : Nat → Nat → List Int
 | 0, _ => []
 | f + 1, s => ((endZ l (2 ^ f) s - s : Nat) : Int) :: (((l.drop s).take (endZ l (2 ^ f) s - s)).map (·.t) ++ savB l f (endZ l (2 ^ f) s))
def sizesC (l : List Bk) : Nat := if l.length = 0 then 0 else bitLen (bkAt l 0).sz.toNat
def savC (l : List Bk) : List Int := (sizesC l : Int) :: savB l (sizesC l) 0
theorem times_next (l : List Bk) (s j : Nat) (x : Bk) (h : s + j < l.length) (hx : bkAt l (s + j) = x) : ((l.drop s).take (j + 1)).map (·.t) = ((l.drop s).take j).map (·.t) ++ [x.t] := by
 have hj : j < (l.drop s).length := by rw [List.length_drop]; omega
 rw [List.take_add_one, List.map_append, List.getElem?_eq_getElem hj]
 subst hx
 simp [bkAt, List.getD_eq_getElem?_getD, List.getElem?_eq_getElem h]
theorem savB_succ (l : List Bk) (f s : Nat) : savB l (f + 1) s = ((endZ l (2 ^ f) s - s : Nat) : Int) :: (((l.drop s).take (endZ l (2 ^ f) s - s)).map (·.t) ++ savB l f (endZ l (2 ^ f) s)) := rfl
theorem cntSave_any (d r : Nat) (og : Option Nat) (c : Cfg) (l : List Bk) (b : Nat) (v : Value) (bs : List Nat) (m : Int) (w : World) (h : CRep w d r og c l) (hw : WRep w b v bs) (hf : ∀ i, WFoot b v i → i ≠ d ∧ i ≠ r ∧ og ≠ some i)
  (hl : l.length ≤ 1000000000000) (hsz : ∀ x ∈ l, 1 ≤ x.sz ∧ x.sz < 4611686018427387904) (ht : ∀ x ∈ l, 0 ≤ x.t ∧ x.t ≤ 9223372036854775807) (hbl : bs.length + 10 * l.length ≤ 140737488350000) :
  Calls Tryz.prog 161 #[.pointer (some ⟨d, 0, none⟩), .pointer (some ⟨b, 0, none⟩), .int .i64 m] w fun e w' => e = .returned (.tuple #[]) ∧ Wrote w b v (bs ++ encL (savC l)) w' := by
 have HC := hide (show ∀ w', Keeps (WFoot b v) w w' → CRep w' d r og c l from fun w' hk => h.keeps hk (fun hi => (hf d hi).1 rfl) (fun hi => (hf r hi).2.1 rfl) (fun g hg hi => (hf g hi).2.2 hg))
 have hc20 : w.cell? ⟨d, 20, none⟩ = some (.pointer (some ⟨r, 0, none⟩)) := h.blk.cell rfl
 obtain ⟨n, hn⟩ : ∃ n, l.length = n := ⟨_, rfl⟩
 have HLen := hide (show ∀ w', Keeps (WFoot b v) w w' → Calls Tryz.prog 200 #[.pointer (some ⟨r, 0, none⟩)] w' fun e w1 => e = .returned (.int .i64 n) ∧ w1 = w' from fun w' hk => by
    have := rowLen_any r og l w' (uh HC w' hk).row
    rw [hn] at this
    exact this)
 have HW := hide (Wrote.refl hw)
 have HT := hide ht
 have HSZ := hide (show sizesC l ≤ 62 by
    unfold sizesC
    split
    ·omega
    ·rename_i h0
     have hb := hsz (bkAt l 0) (bkAt_mem (by omega))
     have hs := bitLen_spec (bkAt l 0).sz.toNat
     have h2 := hs.2 (by omega)
     rcases Nat.lt_or_ge (bitLen (bkAt l 0).sz.toNat - 1) 62 with h3 | h3
     ·omega
     ·have := Nat.pow_le_pow_right (show 1 ≤ 2 by omega) h3
      have e : (2 : Nat) ^ 62 = 4611686018427387904 := by decide
      omega)
 have HSC := hide (show savC l = (sizesC l : Int) :: savB l (sizesC l) 0 from rfl)
 have HB0 := hide (show n ≠ 0 → ∃ x : Bk, bkAt l 0 = x ∧ 0 ≤ x.sz ∧ x.sz < 4611686018427387904 ∧ (sizesC l : Int) = (bitLen x.sz.toNat : Int) ∧ 0 < l.length from fun h0 => by
    have hb := hsz (bkAt l 0) (bkAt_mem (by omega))
    exact ⟨_, rfl, by omega, by omega, by unfold sizesC; rw [if_neg (by omega)], by omega⟩)
 have HB1 := hide (show n = 0 → sizesC l = 0 from fun h0 => by unfold sizesC; rw [if_pos (by omega)])
 have HN := hide hn
 rw [hn] at hl hbl
 clear h hw hf hsz ht hn
 generalize hS : sizesC l = S at *
 clear hS
 have hS62 : S ≤ 62 := uh HSZ
 have HC20 := hide (show ∀ w', Keeps (WFoot b v) w w' → w'.cell? ⟨d, 20, none⟩ = some (.pointer (some ⟨r, 0, none⟩)) from fun w' hk => (uh HC w' hk).blk.cell rfl)
 by_cases hn0 : n = 0
 ·have hS0 := uh HB1 hn0
  subst hS0
  subst hn0
  go_enter Tryz.func161, Tryz.ntmps161
  go_wp2_with fail
  refine (uh HLen w (Keeps.refl _ _)).mono ?_
  rintro e w1 ⟨rfl, hw1⟩
  rw [hw1]
  clear hw1 w1
  go_wp2_with fail
  refine (number_w b v bs 0 w w (uh HW) (by omega) (by omega) (by omega)).mono ?_
  rintro e w1 ⟨rfl, hw1⟩
  have HO := hide hw1
  clear hw1
  go_wp2_with fail
  go_loopw [7, 8] (fun x y wr => x = .int .i64 0 ∧ y = .int .i64 (-1) ∧ Hid (Wrote w b v (bs ++ enc 0) wr)) (fun _ _ _ => 0)
  case atStart => exact ⟨rfl, rfl, HO⟩
  case round =>
   obtain ⟨rfl, rfl, HO2⟩ := hrel
   go_wp2
   go_end0
   refine ⟨rfl, ?_⟩
   have := uh HO2
   rw [uh HSC, encL_cons]
   simpa [savB, encL_nil] using this
 ·obtain ⟨x, hx, x0, x1, hSx, hl0⟩ := uh HB0 hn0
  have HAt := hide (rowAt_any r og l 0 w (uh HC w (Keeps.refl _ _)).row hl0)
  rw [hx] at HAt
  unfold Bk.val at HAt
  obtain ⟨y, hy⟩ := Int.eq_ofNat_of_zero_le x0
  rw [hy] at x1 hSx HAt
  have wq : IntKind.u64.wrap (y : Int) = (y : Int) := by rw [IntKind.wrap_u64]; omega
  have HLN := hide (bitsLen_any y)
  rw [Int.toNat_natCast] at hSx
  have hSy : bitLen y = S := by omega
  rw [hSy] at HLN
  have hn1 : (0 : Int) < (n : Int) := by omega
  have hn2 : 0 < n := by omega
  clear hx hSx hSy hy x0 hn0 hl0 hn1
  go_enter Tryz.func161, Tryz.ntmps161
  go_wp2_with fail
  refine (uh HLen w (Keeps.refl _ _)).mono ?_
  rintro e w1 ⟨rfl, hw1⟩
  rw [hw1]
  clear hw1 w1
  go_wp2_with fail
  refine (uh HAt).mono ?_
  rintro e w1 ⟨rfl, hk1⟩
  have HW1 := hide ((uh HW).still hk1)
  clear hk1 hc20
  go_wp2_with fail
  refine (uh HLN w1 (by omega)).mono ?_
  rintro e w2 ⟨rfl, hw2⟩
  rw [hw2]
  clear hw2 w2
  go_wp2_with fail
  refine (number_w b v bs S w w1 (uh HW1) (by omega) (by omega) (by omega)).mono ?_
  rintro e w2 ⟨rfl, hw2⟩
  have HO := hide hw2
  clear hw2 HW1
  have hwS : IntKind.i64.wrap ((S : Int) - 1) = (S : Int) - 1 := by rw [IntKind.wrap_i64]; omega
  have hlS : (bs ++ enc (S : Int)).length + 10 * n ≤ 140737488350010 := by have := enc_length (S : Int); rw [List.length_append]; omega
  obtain ⟨bs0, hbs0⟩ : ∃ bs0, bs ++ enc (S : Int) = bs0 := ⟨_, rfl⟩
  rw [hbs0] at hlS HO
  have HBS := hide hbs0
  clear hbs0 hn2 HAt HLN wq x1
  go_wp2_with fail
  go_loopw [7, 8] (fun x y wr => ∃ (f s : Nat) (pre : List Int), x = .int .i64 s ∧ y = .int .i64 ((f : Int) - 1) ∧ f ≤ S ∧ s ≤ n ∧ pre.length + f ≤ S + s ∧ Hid (savB l S 0 = pre ++ savB l f s) ∧ Hid (Wrote w b v (bs0 ++ encL pre) wr)) (fun _ y _ => (intOf y + 1).toNat)
  case atStart => exact ⟨S, 0, [], rfl, rfl, by omega, by omega, by simp, by show _ = _; rfl, by show Wrote _ _ _ _ _; rw [encL_nil, List.append_nil]; exact uh HO⟩
  case round =>
   obtain ⟨f, s, pre, rfl, rfl, hf, hs, hpl, HEQ, HOr⟩ := hrel
   cases f with
   | zero =>
    go_wp2
    go_end0
    refine ⟨rfl, ?_⟩
    have := uh HOr
    rw [uh HSC, encL_cons, uh HEQ]
    simp only [savB, List.append_nil]
    rw [← List.append_assoc, uh HBS]
    exact this
   | succ f =>
    have e1 : ((f + 1 : Nat) : Int) - 1 = (f : Int) := by omega
    rw [e1]
    have p2 := pow2_bd f (by omega)
    obtain ⟨P, hP⟩ : ∃ P, (2 : Int) ^ f = P := ⟨_, rfl⟩
    have HE := hide (endOf_any d r og c l P s wr (uh HC wr (uh HOr).kp) (by rw [uh HN]; omega) (by rw [uh HN]; exact hs))
    have HSB := hide (savB_succ l f s)
    rw [hP] at p2 HSB
    have hle := endZ_le l P s (by rw [uh HN]; exact hs)
    obtain ⟨e, he⟩ : ∃ e, endZ l P s = e := ⟨_, rfl⟩
    rw [he] at HE HSB hle
    rw [uh HN] at hle
    obtain ⟨hle1, hle2⟩ := hle
    obtain ⟨p21, p22⟩ := p2
    clear he
    have hk0 : (0 : Int) ≤ (f : Int) := by omega
    have hf62 : (f : Int) ≤ 61 := by omega
    obtain ⟨q, hq⟩ : ∃ q : Nat, e - s = q := ⟨_, rfl⟩
    rw [hq] at HSB
    have hwq : IntKind.i64.wrap ((e : Int) - (s : Int)) = (q : Int) := by rw [IntKind.wrap_i64]; omega
    have hlp : (bs0 ++ encL pre).length ≤ 140737488350010 + 10 * 62 - 10 * n + 10 * s ∧ 10 * n ≤ 140737488350010 := by
     have := encL_length pre
     rw [List.length_append]; omega
    obtain ⟨hlp1, hlp2⟩ := hlp
    go_wp2_with fail
    refine (uh HE).mono ?_
    rintro e' w3 ⟨rfl, hk3⟩
    have HO3 := hide ((uh HOr).still hk3)
    clear hk3 HE
    go_wp2_with fail
    refine (number_w b v _ q w w3 (uh HO3) (by omega) (by omega) (by omega)).mono ?_
    rintro e' w4 ⟨rfl, hw4⟩
    have HO4 := hide hw4
    clear hw4 HO3 hwq
    go_wp2_with fail
    go_loopw [7] (fun x wr => ∃ j : Nat, x = .int .i64 ((s + j : Nat) : Int) ∧ j ≤ q ∧ Hid (Wrote w b v (bs0 ++ encL pre ++ enc q ++ encL (((l.drop s).take j).map (·.t))) wr)) (fun x _ => e - (intOf x).toNat)
    case atStart => exact ⟨0, rfl, Nat.zero_le _, by show Wrote _ _ _ _ _; simp only [List.take_zero, List.map_nil, encL_nil, List.append_nil]; exact uh HO4⟩
    case round =>
     obtain ⟨j, rfl, hj, HOj⟩ := hrel
     obtain ⟨k, hk⟩ : ∃ k, s + j = k := ⟨_, rfl⟩
     rw [hk]
     by_cases hjq : j < q
     ·have hkl : k < l.length := by rw [uh HN]; omega
      have hke : (k : Int) < (e : Int) := by omega
      obtain ⟨x, hx⟩ : ∃ x, bkAt l k = x := ⟨_, rfl⟩
      have HAt := hide (rowAt_any r og l k wr (uh HC wr (uh HOj).kp).row hkl)
      have HNX := hide (times_next l s j x (by rw [hk]; exact hkl) (by rw [hk]; exact hx))
      obtain ⟨t0, t1⟩ := uh HT x (by rw [← hx]; exact bkAt_mem hkl)
      have hc2 : wr.cell? ⟨d, 20, none⟩ = some (.pointer (some ⟨r, 0, none⟩)) := uh HC20 wr (uh HOj).kp
      rw [hx] at HAt
      unfold Bk.val at HAt
      have hlb : (bs0 ++ encL pre ++ enc q ++ encL (((l.drop s).take j).map (·.t))).length ≤ 140737488351000 := by
       have h1 := encL_length (((l.drop s).take j).map (·.t))
       have h2 := enc_length q
       rw [List.length_map, List.length_take, List.length_drop, uh HN] at h1
       rw [List.length_append, List.length_append]
       omega
      clear hx hkl
      go_wp2_with fail
      refine (uh HAt).mono ?_
      rintro e' w5 ⟨rfl, hk5⟩
      have HO5 := hide ((uh HOj).still hk5)
      clear hk5 HAt hc2
      go_wp2_with fail
      refine (number_w b v _ x.t w w5 (uh HO5) t0 t1 (by omega)).mono ?_
      rintro e' w6 ⟨rfl, hw6⟩
      have HO6 := hide hw6
      clear hw6 HO5
      go_wp2
      go_roundw
      case rel =>
       refine ⟨j + 1, by go_num, by omega, ?_⟩
       show Wrote _ _ _ _ _
       have := uh HO6
       rw [uh HNX, encL_append, encL_one, ← List.append_assoc]
       exact this
      case measure => simp [intOf]; omega
     ·have hjE : j = q := by omega
      have hkE : k = e := by omega
      clear hk
      subst hkE
      have hf' : decide ((k : Int) < (k : Int)) = false := by simp
      go_wp2
      go_roundw
      case rel =>
       refine ⟨f, k, pre ++ ((q : Int) :: ((l.drop s).take q).map (·.t)), rfl, by go_num, by omega, by omega, ?_, ?_, ?_⟩
       ·have h1 : (((l.drop s).take q).map (·.t)).length ≤ q := by rw [List.length_map, List.length_take]; omega
        rw [List.length_append, List.length_cons]; omega
       ·show _ = _
        rw [uh HEQ, uh HSB]
        simp
       ·show Wrote _ _ _ _ _
        have := uh HOj
        rw [hjE] at this
        rw [encL_append, encL_cons]
        simp only [List.append_assoc] at this ⊢
        exact this
      case measure => simp [intOf]
end Go.Proofs.YtahnliehdjncdaaGreatDoor
namespace Go.Proofs.YtahnliehdjncdaaGreatDoor
open Go.RowKit
def savN (k : Nat) (c : Cfg) (nt : Note) (m : Int) : List Int :=
 if k = 4 then [nt.q, nt.r] else if k = 1 then savC nt.bs else if k = 2 then savD nt.rg (regN c) (m - c.window)
 else if k = 3 then savO c nt.op nt.cl (m - c.window) else if k = 5 then savT (Dr.allL (nt.tk.length + 1) nt.tk) else []
structure SavOk (k : Nat) (c : Cfg) (nt : Note) : Prop where
 q0 : 0 ≤ nt.q ∧ nt.q ≤ 9223372036854775807
 r0 : 0 ≤ nt.r ∧ nt.r ≤ 9223372036854775807
 bn : nt.bs.length ≤ 1000000000000
 bz : ∀ x ∈ nt.bs, 1 ≤ x.sz ∧ x.sz < 4611686018427387904
 bt : ∀ x ∈ nt.bs, 0 ≤ x.t ∧ x.t ≤ 9223372036854775807
 rl : ∀ i, (nt.rg i).length ≤ 40
 rb : ∀ i, ∀ b ∈ nt.rg i, 0 ≤ b.sz ∧ b.sz ≤ 4611686018427387904 ∧ 1 ≤ b.t ∧ b.t ≤ 40
 oc : k = 3 → nt.cl.length ≤ 1000 ∧ (∀ p ∈ nt.cl, OkP c p) ∧ OkP c nt.op ∧ (∀ x ∈ nt.op.cs, 0 ≤ x ∧ x ≤ 4611686018427387904) ∧ (∀ p ∈ nt.cl, ∀ x ∈ p.cs, 0 ≤ x ∧ x ≤ 4611686018427387904)
 tl : k = 5 → nt.tk.length ≤ 6
 tb : k = 5 → ∀ n ∈ savT (Dr.allL (nt.tk.length + 1) nt.tk), 0 ≤ n ∧ n ≤ 9223372036854775807
theorem sav_any (k : Nat) (nb : NB) (c : Cfg) (nt : Note) (b : Nat) (v : Value) (bs : List Nat) (m : Int) (args : Array Value) (w : World) (ha : args = capsN nb.d ++ #[.pointer (some ⟨b, 0, none⟩), .int .i64 m]) (h : NRep w k nb c nt) (hw : WRep w b v bs) (hf : ∀ i, WFoot b v i → ¬ nfoot k nb i) (hi : SavOk k c nt)
  (hv : validB c = true) (hk : c.kind = k) (k1 : 1 ≤ k) (k5 : k ≤ 5) (m0 : -100 ≤ m) (m1 : m ≤ 4611686018427387904) (hbl : bs.length + 10 * nt.bs.length ≤ 140737480000000) :
  Calls Tryz.prog (savF k) args w fun e w' => e = .returned (.tuple #[]) ∧ Wrote w b v (bs ++ encL (savN k c nt m)) w' := by
 subst ha
 rcases five k1 k5 with e | e | e | e | e
 ·subst e
  exact cntSave_any nb.d nb.r nb.g c nt.bs b v bs m w (h.cnt rfl) hw (fun i hi' => ⟨fun e => hf i hi' (.inl ⟨rfl, .inl e⟩), fun e => hf i hi' (.inl ⟨rfl, .inr (.inl e)⟩), fun e => hf i hi' (.inl ⟨rfl, .inr (.inr e)⟩)⟩) hi.bn hi.bz hi.bt (by omega)
 ·subst e
  obtain ⟨a1, a2, a3, a4, a5⟩ := valid_distinct hv hk rfl
  obtain ⟨hd, hq⟩ := h.dis rfl
  have hq2 : nb.qs.length ≤ 16 := by rw [hq]; exact Nat.pow_le_pow_right (n := 2) (by omega) (show c.bits.toNat ≤ 4 by omega)
  have := disSave_any nb.d nb.r nb.qs c nt.rg b v bs m w hd hw (fun i hi' => ⟨fun e => hf i hi' (.inr (.inr (.inl ⟨rfl, .inl e⟩))), fun e => hf i hi' (.inr (.inr (.inl ⟨rfl, .inr (.inl e)⟩))), fun j hj hq => hf i hi' (.inr (.inr (.inl ⟨rfl, .inr (.inr ⟨j, hj, hq⟩)⟩)))⟩) hq2 (by omega) a5 m0 m1 hi.rl hi.rb (by omega)
  rw [hq] at this
  exact this
 ·subst e
  obtain ⟨o1, o2, o3, o4, o5⟩ := hi.oc rfl
  obtain ⟨hc, hrw, _⟩ := valid_often hv hk rfl
  exact oftSave_any nb.d nb.r nb.g c nt.op nt.cl b v bs m w (h.oft rfl) hw (fun e => hf _ e (.inr (.inr (.inr (.inl ⟨rfl, .inl rfl⟩))))) hc o1 o2 o3 o4 o5 (by have := hrw.r0; omega) hrw.r1 (by have := hrw.w0; omega) hrw.w1 m0 m1 (by omega)
 ·subst e
  exact decSave_any nb.d b c nt.q nt.r m v bs w (h.dec rfl) hw (fun e => hf _ e (.inr (.inl ⟨rfl, rfl⟩))) hi.q0.1 hi.q0.2 hi.r0.1 hi.r0.2 (by omega)
 ·subst e
  exact drwSave_any nb.d nb.r nb.g c nt.tk b v bs m w (h.drw rfl) hw (hi.tl rfl) (hi.tb rfl) (by omega)
end Go.Proofs.YtahnliehdjncdaaGreatDoor
namespace Go.Proofs.YtahnliehdjncdaaGreatDoor.Qi
open Go.RowKit
def Own (w : World) (base : Nat) (v : Value) (l : List It) : Prop := w.ownsRow base 87 4 v l.length (flat l)
theorem Own.keeps {M : Nat → Prop} {w w' : World} {base : Nat} {v : Value} {l : List It} (h : Own w base v l) (hk : Keeps M w w') (hn : ∀ i, v.ownBlock = some i → ¬ M i) : Own w' base v l := by
 rcases h.2 with ⟨h1, h2⟩ | ⟨g, cap, cur, h1, h2, h3, h4⟩
 ·exact ⟨h.1, .inl ⟨h1, h2⟩⟩
 ·refine ⟨h.1, .inr ⟨g, cap, cur, h1, h2, ?_, h4⟩⟩
  have hlt : g < w.heap.size := (Array.getElem?_eq_some_iff.1 h3).1
  rw [hk.block g hlt (hn g (by rw [h1]; simp [Value.ownBlock]))]
  exact h3
theorem Own.base {w : World} {base : Nat} {v : Value} {l : List It} (h : Own w base v l) (i : Nat) (hi : v.ownBlock = some i) : base ≤ i := by
 rcases h.2 with ⟨h1, _⟩ | ⟨g, cap, cur, h1, h2, _⟩
 ·rw [h1] at hi; simp [Value.ownBlock] at hi
 ·rw [h1] at hi
  have : g = i := by simpa [Value.ownBlock] using hi
  omega
theorem flat_one (l : List It) : ∀ u ∈ flat l, u.oneCell' = true := by
 induction l with
 | nil => simp [flat]
 | cons x l ih =>
  intro u hu
  simp only [flat, List.mem_cons] at hu
  rcases hu with rfl | rfl | rfl | rfl | hu
  ·rfl
  ·rfl
  ·rfl
  ·rfl
  ·exact ih u hu
theorem wpList_append_tks {w : World} {ops : Array Oper} {rest : List Oper} {o : Oper} {a : Act} {Q : Exit → Act → World → Prop} (hgd : o.guard = none) (s x : Operand)
  (ho : o.op = .call { callee := .builtin .append, args := #[s, x], argTypes := #[139, 139] })
  (base : Nat) (v : Value) (A : List It) (k : Nat) (hk : A.length = k) (hs : a.eval s = v) (hown : Own w base v A) (sb m c : Nat) (B : List It) (hm : B.length = m) (hx : a.eval x = .slice (some ⟨sb, 0, none⟩) m c) (hB : ∀ j u, (flat B)[j]? = some u → w.cell? ⟨sb, j, none⟩ = some u)
  (hpos : 0 < m) (hlen : k + m ≤ 100000) (hbase : base ≤ w.heap.size)
  (h : ∀ g c' w1, Own w1 base (.slice (some ⟨g, 0, none⟩) (k + m) c') (A ++ B) → Keeps (fun i => v.ownBlock = some i) w w1 → (v.ownBlock = some g ∨ w.heap.size ≤ g) → wpList Tryz.prog ops Q rest (a.put o.dst (.slice (some ⟨g, 0, none⟩) (k + m) c')) w1) : wpList Tryz.prog ops Q (o :: rest) a w := by
 obtain ⟨i0, hi0, hz0, hz1, hz2⟩ := info_parts info72
 subst hk hm
 refine wpList_append_lies w hgd s x 139 ho base 87 i0 _ 4 32 Tryz.underlying139 hi0 hz0 hz1 hz2 (by rfl) (by omega) v A.length (flat A) hs hown ⟨sb, 0, none⟩ B.length c (flat B) hx (flat_length B) ?_ (flat_one B) hpos (by unfold maxLen; omega) (by omega) hbase w.heap.size rfl ?_
 ·intro j u hu
  rw [Addr.add_lit, Nat.zero_add]
  exact hB j u hu
 ·intro g c' w' hown' hgrow hat hlt'
  refine h g c' w' ?_ ⟨hgrow.os, hgrow.tape, hgrow.output, hgrow.size, fun k hk hn => hgrow.block k hk (fun h => hn h.symm)⟩ ?_
  ·show w'.ownsRow base 87 4 _ (A ++ B).length (flat (A ++ B))
   rw [flat_append, List.length_append]; exact hown'
  ·rcases hat with h1 | h1
   ·exact .inl h1
   ·exact .inr (by omega)
theorem Own.row {w : World} {base g n c : Nat} {l : List It} (_ : l.length = n) (h : Own w base (.slice (some ⟨g, 0, none⟩) n c) l) : IRow w g c l ∧ base ≤ g := by
 rcases h.2 with ⟨h1, _⟩ | ⟨g', cap', cur, h1, h2, h3, h4, h5, h6, h7⟩
 ·cases h1
 ·cases h1
  exact ⟨⟨⟨cur.toList, by unfold Blk; simpa using h3, by simpa using h6, h7⟩, h4, h5⟩, h2⟩
theorem eqNil_no (g n cap : Nat) (w : World) : (binOp BinOp.eql 139 (.slice (some ⟨g, 0, none⟩) n cap) (.slice none 0 0)).run Tryz.prog w = .ok (.bool false) w := by kernel_rfl
theorem eqNil_yes (w : World) : (binOp BinOp.eql 139 (.slice none 0 0) (.slice none 0 0)).run Tryz.prog w = .ok (.bool true) w := by kernel_rfl
attribute [local go_sem] eqNil_no eqNil_yes
theorem cloneNil_any (w : World) :
  Calls Tryz.prog 144 #[.slice none 0 0] w fun e w' => e = .returned (.slice none 0 0) ∧ w' = w := by
 go_enter Tryz.func144, Tryz.ntmps144
 go_wp2
 go_ret
 exact ⟨rfl, rfl⟩
theorem clone_any (g cap : Nat) (l : List It) (w : World) (h : IRow w g cap l) (hl : l.length ≤ 1000) :
  Calls Tryz.prog 144 #[.slice (some ⟨g, 0, none⟩) l.length cap] w fun e w' => ∃ g' c', e = .returned (.slice (some ⟨g', 0, none⟩) l.length c') ∧ w.heap.size ≤ g' ∧ IRow w' g' c' l ∧ Keeps (fun _ => False) w w' := by
 obtain ⟨n, hn⟩ : ∃ n, n = l.length := ⟨_, rfl⟩
 have HR := hide h
 have HN := hide hn
 rw [← hn] at hl ⊢
 obtain ⟨i0, hi0, hz0, hz1, hz2⟩ := info_parts info72
 clear hn h
 have HE := hide (show Own (w.alloc (.cells #[] 87)) w.heap.size (.slice (some ⟨w.heap.size, 0, none⟩) 0 0) [] from
    ⟨rfl, .inr ⟨w.heap.size, 0, #[], rfl, Nat.le_refl _, heap_alloc_new w _, Nat.le_refl _, Nat.zero_le _, rfl, rfl⟩⟩)
 have HK := hide ((Keeps.refl (fun _ => False) w).alloc (.cells #[] 87))
 by_cases h0 : n = 0
 ·subst h0
  have HL := hide (show l = [] from List.length_eq_zero_iff.1 (uh HN).symm)
  go_enter Tryz.func144, Tryz.ntmps144
  go_wp2_with (at_builtin; refine wpList_append_zero rfl _ _ 139 rfl w.heap.size 87 i0 4 Tryz.underlying139 hi0 _ 0 [] rfl (uh HE) (some ⟨g, 0, none⟩) cap rfl ?_)
  go_ret
  refine ⟨w.heap.size, 0, rfl, Nat.le_refl _, ?_, uh HK⟩
  rw [uh HL]; exact (Own.row rfl (uh HE)).1
 ·have HC := hide (show ∀ j u, (flat l)[j]? = some u → (w.alloc (.cells #[] 87)).cell? ⟨g, j, none⟩ = some u from fun j u hu => by
     obtain ⟨cur, hb, hl, ht⟩ := (uh HR).ex
     refine (uh HK).cell (hb.cell ?_) (fun h => h)
     have hj : j < l.length * 4 := by have := (List.getElem?_eq_some_iff.1 hu).1; rwa [flat_length] at this
     rw [← ht, List.getElem?_take, if_pos hj] at hu
     exact hu)
  have hpos : 0 < n := by omega
  go_enter Tryz.func144, Tryz.ntmps144
  go_wp2_with (at_builtin; refine wpList_append_tks rfl _ _ rfl w.heap.size _ [] 0 rfl rfl (uh HE) g n cap l (uh HN).symm rfl (uh HC) hpos (by omega) (by simp) ?_; intro g2 c2 W2 hown2 hk2 hat2)
  have how := Own.row (by have := uh HN; simp; omega) hown2
  have HO := hide how.1
  have HG := hide how.2
  have HK2 := hide (((uh HK).trans hk2 (fun i hi hlt => by
         have hi' : (Value.slice (some ⟨w.heap.size, 0, none⟩) 0 0).ownBlock = some i := hi
         have : w.heap.size = i := by simpa [Value.ownBlock] using hi'
         omega)))
  clear how hown2 hk2 hat2
  go_wp2
  go_ret
  exact ⟨g2, c2, rfl, uh HG, uh HO, uh HK2⟩
def allL : Nat → List It → List It
 | 0, _ => []
 | f + 1, l => if l.length = 0 then [] else itAt l 0 :: allL f (takeL l)
theorem takeL_length (l : List It) : (takeL l).length = l.length - 1 := by
 unfold takeL
 rw [sinkL_length]
 simp
theorem takeV_any (q g : Nat) (l : List It) (w : World) (h : QRep w q (some g) l) (hl : l.length ≤ 900) (hl0 : 0 < l.length) :
  Calls Tryz.prog 94 #[.pointer (some ⟨q, 0, none⟩)] w fun e w' => e = .returned (.tuple #[(itAt l 0).val, .bool true]) ∧ QRep w' q (some g) (takeL l) ∧ Keeps (fun k => k = q ∨ k = g) w w' := by
 obtain ⟨hlq, hlg⟩ := h.lt
 obtain ⟨hlg, hqg⟩ := hlg g rfl
 have H := hide h
 clear h
 have hemp : (!l.isEmpty) = true := by cases l with | nil => simp at hl0 | cons => rfl
 obtain ⟨n, hn⟩ : ∃ n, n = l.length := ⟨_, rfl⟩
 have hn0 : 0 < n := by omega
 have hn9 : n ≤ 900 := by omega
 have HN := hide hn
 clear hn hl hl0
 go_enter Tryz.func94, Tryz.ntmps94
 go_wp2_with fail
 refine (first_any q (some g) l _ ((uh H).keeps ((Keeps.refl (fun _ => False) _).alloc _) (fun h => h) (fun _ _ h => h))).mono ?_
 rintro e w1 ⟨rfl, hk1⟩
 rw [hemp]
 unfold It.val
 have hB1 : Blk w1 w.heap.size [.int .i64 0, .int .i64 0, .int .i64 0, .int .i64 0] 87 := (Blk.new w _ 87).keeps hk1 (fun h => h)
 have hkk : Keeps (fun _ => False) w w1 := ((Keeps.refl (fun _ => False) w).alloc _).then hk1
 have hz1 : w.heap.size < w1.heap.size := hB1.lt
 obtain ⟨_, cap, hqb, hir⟩ := (uh H).keeps hkk (fun h => h) (fun _ _ h => h)
 rw [← uh HN] at hqb
 have hzq : q < w1.heap.size := hqb.lt
 have hzg : g < w1.heap.size := hir.lt
 have hqne : q ≠ w.heap.size := by omega
 have hgne : g ≠ w.heap.size := by omega
 have HB1 := hide hB1
 have HKK := hide hkk
 have HQB := hide hqb
 have HIR := hide hir
 clear hk1 hB1 hkk hqb hir
 generalize hx : itAt l 0 = x
 have HXE := hide hx
 have HX := hide hx
 clear hx
 obtain ⟨m, hm⟩ : ∃ m, n = m + 1 := ⟨n - 1, by omega⟩
 subst hm
 have hq1 : w1.cell? ⟨q, 1, none⟩ = some (.slice (some ⟨g, 0, none⟩) (m + 1) cap) := (uh HQB).cell rfl
 go_wp2_with fail
 have hk2 : Keeps (fun _ => False) w1 (w1.alloc (.cells #[.int .i64 x.t, .int .i64 x.k, .int .i64 x.d, .int .i64 x.n] 87)) := (Keeps.refl _ _).alloc _
 have hx2 : Blk (w1.alloc (.cells #[.int .i64 x.t, .int .i64 x.k, .int .i64 x.d, .int .i64 x.n] 87)) w1.heap.size [.int .i64 x.t, .int .i64 x.k, .int .i64 x.d, .int .i64 x.n] 87 := Blk.new _ _ _
 generalize w1.alloc (.cells #[.int .i64 x.t, .int .i64 x.k, .int .i64 x.d, .int .i64 x.n] 87) = W2 at *
 have HX2 := hide hx2
 have HR2 := hide ((uh HB1).keeps hk2 (fun h => h))
 have HQ2 := hide ((uh HQB).keeps hk2 (fun h => h))
 have HI2 := hide ((uh HIR).keeps hk2 (fun h => h))
 have HK2 := hide (Keeps.then (uh HKK) hk2)
 clear hk2 hx2 HB1 HQB HIR HKK hq1
 generalize hxb : w1.heap.size = xb at *
 generalize hrb : w.heap.size = rb at *
 have HRB := hide hrb
 clear hxb hrb
 have hq1 : W2.cell? ⟨q, 1, none⟩ = some (.slice (some ⟨g, 0, none⟩) (m + 1) cap) := (uh HQ2).cell rfl
 have hqf : W2.frozen? ⟨q, 1, none⟩ = false := (uh HQ2).frozen 1
 obtain ⟨x0, x1, x2, x3⟩ := (uh HI2).cells 0 (by rw [← uh HN]; omega)
 obtain ⟨y0, y1, y2, y3⟩ := (uh HI2).cells m (by rw [← uh HN]; omega)
 simp only [Nat.zero_mul, Nat.zero_add] at x0 x1 x2 x3
 have hgf := (uh HI2).frozen
 generalize hy : itAt l m = y at *
 have HY := hide hy
 clear hy
 have hm0 : (0 : Int) ≤ (m : Int) := by omega
 have hm1 : (m : Int) < (m : Int) + 1 := by omega
 have hcap := (uh HI2).le
 rw [← uh HN] at hcap
 have hmc : (m : Int) ≤ (cap : Int) := by omega
 have HI3 := hide ((uh HI2).put 0 y)
 have HQ3 := hide (((uh HQ2).keeps ((Keeps.refl (fun k => k = g) W2).putIt (Or.inl rfl) 0 y) hqg).setCell 1 (.slice (some ⟨g, 0, none⟩) m cap))
 have HK3 := hide ((((Keeps.refl (fun k => k = q ∨ k = g) W2).putIt (Or.inl (Or.inr rfl)) 0 y).setCell (p := ⟨q, 1, none⟩) (Or.inl (Or.inl rfl)) (.slice (some ⟨g, 0, none⟩) m cap)).drew)
 have HI3' := hide (((uh HI3).keeps (M := fun k => k = q) ((Keeps.refl (fun k => k = q) _).setCell (p := ⟨q, 1, none⟩) (Or.inl rfl) (.slice (some ⟨g, 0, none⟩) m cap)) (fun h => hqg h.symm)).drew)
 go_region
 go_wp2_with fail
 have e3 : (((((W2.setCell ⟨g, 0, none⟩ (.int .i64 y.t)).setCell ⟨g, 1, none⟩ (.int .i64 y.k)).setCell ⟨g, 2, none⟩ (.int .i64 y.d)).setCell ⟨g, 3, none⟩ (.int .i64 y.n)).setCell ⟨q, 1, none⟩ (.slice (some ⟨g, 0, none⟩) m cap)).drew = ((putIt W2 g 0 y).setCell ⟨q, 1, none⟩ (.slice (some ⟨g, 0, none⟩) m cap)).drew := by
  unfold putIt; rfl
 rw [e3]
 clear e3 hq1 hqf x0 x1 x2 x3 y0 y1 y2 y3 hgf
 have HQ4 : Hid (QB ((putIt W2 g 0 y).setCell ⟨q, 1, none⟩ (.slice (some ⟨g, 0, none⟩) m cap)).drew q (.slice (some ⟨g, 0, none⟩) m cap)) := ⟨uh HQ3⟩
 have hlen : ((l.set 0 y).take m).length = m := by have := uh HN; simp; omega
 have HL4 := hide hlen
 have HT := hide (show takeL l = sinkL (m + 1) ((l.set 0 y).take m) 0 by unfold takeL; rw [← uh HN, ← uh HY]; rfl)
 clear hlen HI3 HQ3
 generalize ((putIt W2 g 0 y).setCell ⟨q, 1, none⟩ (.slice (some ⟨g, 0, none⟩) m cap)).drew = W3 at *
 refine (sink_any q g 0 cap m W3 ((l.set 0 y).take m) (uh HL4) (by omega) (by omega) (uh HQ4) ((uh HI3').take m) (by omega) hqg).mono ?_
 rintro e w4 ⟨rfl, hk4, hr4⟩
 have hrne : ¬ (rb = q ∨ rb = g) := by omega
 have hxne : ¬ (xb = q ∨ xb = g) := by omega
 have HX4 := hide (((uh HX2).keeps (uh HK3) hxne).keeps hk4 (fun h => hxne (Or.inr h)))
 have HR4 := hide (((uh HR2).keeps (uh HK3) hrne).keeps hk4 (fun h => hrne (Or.inr h)))
 have HE1 := hide ((uh HQ4).b.keeps hk4 hqg)
 have HE2 := hide hr4
 have HE3 := hide ((((uh HK2).mono (M' := fun k => k = q ∨ k = g) (fun _ _ h => h.elim)).then (uh HK3)).trans hk4 (fun _ h _ => Or.inr h))
 clear hk4 hr4 HQ4 HI3' HK3 HK2 HX2 HR2 HI2 HQ2
 have a0 : w4.cell? ⟨xb, 0, none⟩ = some (.int .i64 x.t) := (uh HX4).cell rfl
 have a1 : w4.cell? ⟨xb, 1, none⟩ = some (.int .i64 x.k) := (uh HX4).cell rfl
 have a2 : w4.cell? ⟨xb, 2, none⟩ = some (.int .i64 x.d) := (uh HX4).cell rfl
 have a3 : w4.cell? ⟨xb, 3, none⟩ = some (.int .i64 x.n) := (uh HX4).cell rfl
 have b0 : w4.cell? ⟨rb, 0, none⟩ = some (.int .i64 0) := (uh HR4).cell rfl
 have b1 : w4.cell? ⟨rb, 1, none⟩ = some (.int .i64 0) := (uh HR4).cell rfl
 have b2 : w4.cell? ⟨rb, 2, none⟩ = some (.int .i64 0) := (uh HR4).cell rfl
 have b3 : w4.cell? ⟨rb, 3, none⟩ = some (.int .i64 0) := (uh HR4).cell rfl
 have bf := (uh HR4).frozen
 have HFIN := hide (show Keeps (fun k => k = rb) w4 ((((w4.setCell ⟨rb, 0, none⟩ (.int .i64 x.t)).setCell ⟨rb, 1, none⟩ (.int .i64 x.k)).setCell ⟨rb, 2, none⟩ (.int .i64 x.d)).setCell ⟨rb, 3, none⟩ (.int .i64 x.n)) from
    ((((Keeps.refl (fun k => k = rb) w4).setCell (p := ⟨rb, 0, none⟩) (Or.inl rfl) _).setCell (p := ⟨rb, 1, none⟩) (Or.inl rfl) _).setCell (p := ⟨rb, 2, none⟩) (Or.inl rfl) _).setCell (p := ⟨rb, 3, none⟩) (Or.inl rfl) _)
 have HB5 := hide (((((uh HR4).setCell 0 (.int .i64 x.t)).setCell 1 (.int .i64 x.k)).setCell 2 (.int .i64 x.d)).setCell 3 (.int .i64 x.n))
 go_wp2
 generalize ((((w4.setCell ⟨rb, 0, none⟩ (.int .i64 x.t)).setCell ⟨rb, 1, none⟩ (.int .i64 x.k)).setCell ⟨rb, 2, none⟩ (.int .i64 x.d)).setCell ⟨rb, 3, none⟩ (.int .i64 x.n)) = w5 at *
 have c0 : w5.cell? ⟨rb, 0, none⟩ = some (.int .i64 x.t) := (uh HB5).cell rfl
 have c1 : w5.cell? ⟨rb, 1, none⟩ = some (.int .i64 x.k) := (uh HB5).cell rfl
 have c2 : w5.cell? ⟨rb, 2, none⟩ = some (.int .i64 x.d) := (uh HB5).cell rfl
 have c3 : w5.cell? ⟨rb, 3, none⟩ = some (.int .i64 x.n) := (uh HB5).cell rfl
 refine bodyPost_ret (v := .tuple #[.agg #[.int .i64 x.t, .int .i64 x.k, .int .i64 x.d, .int .i64 x.n], .bool true]) (by simp [results, Tryz.results94, go_sem, c0, c1, c2, c3]) rfl ⟨by rw [uh HXE]; rfl, ⟨hqg, cap, ?_, ?_⟩, ?_⟩
 ·have hl : (takeL l).length = m := by rw [uh HT, sinkL_length]; exact uh HL4
  rw [hl]
  exact (uh HE1).keeps (uh HFIN) (fun h => hqne h)
 ·rw [uh HT]
  exact (uh HE2).keeps (uh HFIN) (fun h => hgne h)
 ·exact (uh HE3).trans (uh HFIN) (fun i hi hlt => by have := uh HRB; omega)
end Go.Proofs.YtahnliehdjncdaaGreatDoor.Qi
