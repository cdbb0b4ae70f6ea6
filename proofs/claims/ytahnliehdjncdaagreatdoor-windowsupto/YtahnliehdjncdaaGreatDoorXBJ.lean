import Derived.Laws.BytesArg
import Derived.Lib.SlBytesConst
import Derived.Test.YtahnliehdjncdaaGreatDoorXAA
import Derived.Test.YtahnliehdjncdaaGreatDoorXBI
import Derived.Test.YtahnliehdjncdaaGreatDoorXBB
import Derived.Test.YtahnliehdjncdaaGreatDoorXBD
import Derived.Deep.DrawnRows
import Derived.Test.YtahnliehdjncdaaGreatDoorXAD
set_option maxRecDepth 100000
set_option maxHeartbeats 16000000
namespace Go.Proofs.YtahnliehdjncdaaGreatDoor
open Go.RowKit
theorem rem64_big (hi lo : Int) (w : World) (h0 : 0 ≤ hi) (h1 : hi ≤ 1099511627776) (l0 : 0 ≤ lo) (l1 : lo < 18446744073709551616) :
  Calls Tryz.prog 191 #[.int .u64 hi, .int .u64 lo, .int .u64 2305843009213693951] w fun e w' => e = .returned (.int .u64 ((hi * 18446744073709551616 + lo) % 2305843009213693951)) ∧ Keeps (fun _ => False) w w' := by
 have hm : hi.tmod 2305843009213693951 = hi := by rw [Int.tmod_eq_emod_of_nonneg h0]; omega
 have HD := hide (div64_big hi lo w h0 h1 l0 l1)
 go_enter Tryz.func191, Tryz.ntmps191
 go_wp2_with fail
 refine (uh HD).mono ?_
 rintro e w1 ⟨⟨q, rfl⟩, hk⟩
 have HK := hide hk
 clear hk
 go_wp2
 go_ret
 exact ⟨rfl, uh HK⟩
theorem hash_big (a b key : Int) (w : World) (a0 : 0 ≤ a) (a1 : a ≤ 1099511627776) (b0 : 0 ≤ b) (b1 : b < 2305843009213693951) (k0 : 0 ≤ key) (k1 : key ≤ 2305843009213693951) :
  Calls Tryz.prog 145 #[.agg #[.int .i64 a, .int .i64 b], .int .i64 key] w fun e w' => e = .returned (.int .i64 (hashD a b key)) ∧ Keeps (fun _ => False) w w' := by
 have p0 : 0 ≤ a * key := Int.mul_nonneg a0 k0
 have p1 : a * key ≤ 1099511627776 * 2305843009213693951 := Int.mul_le_mul a1 k1 k0 (by omega)
 have wa : IntKind.u64.wrap a = a := by rw [IntKind.wrap_u64]; omega
 have wb : IntKind.u64.wrap b = b := by rw [IntKind.wrap_u64]; omega
 have wk : IntKind.u64.wrap key = key := by rw [IntKind.wrap_u64]; omega
 have HM := hide (fun w => mul64_int a key a0 (by omega) k0 (by omega) w)
 go_enter Tryz.func145, Tryz.ntmps145
 go_wp2_with fail
 refine (uh HM _).mono ?_
 rintro e w' ⟨rfl, rfl⟩
 have hadd := fun W => add64_run (a * key % 18446744073709551616) b (by omega) b0 W
 have HP := hide (show hashD a b key = (a * key + b) % 2305843009213693951 from rfl)
 have HK := hide ((Keeps.refl (fun _ => False) w).alloc (.cells #[.int .i64 a, .int .i64 b] 35))
 have hx : (w.alloc (.cells #[.int .i64 a, .int .i64 b] 35)).cell? ⟨w.heap.size, 1, none⟩ = some (.int .i64 b) := (Blk.new w [.int .i64 a, .int .i64 b] 35).cell rfl
 generalize w.alloc (.cells #[.int .i64 a, .int .i64 b] 35) = W at *
 generalize a * key = p at *
 go_wp2_with fail
 refine (rem64_big _ _ _ (by omega) (by omega) (by omega) (by omega)).mono ?_
 rintro e w1 ⟨rfl, hk⟩
 have HK2 := hide ((uh HK).then hk)
 clear hk
 have hf : IntKind.i64.wrap (((p / 18446744073709551616 + (p % 18446744073709551616 + b) / 18446744073709551616) * 18446744073709551616 + (p + b) % 18446744073709551616) % 2305843009213693951) = (p + b) % 2305843009213693951 := by
  rw [IntKind.wrap_i64]; omega
 go_wp2
 go_ret
 exact ⟨by rw [uh HP]; rfl, uh HK2⟩
def formB : List Nat := [115, 107, 101, 116, 99, 104, 32, 49]
theorem u8under : Tryz.prog.underlying 5 = some (.int .u8) := by kernel_rfl
theorem row_cells1 {w : World} {base T n : Nat} {v : Value} {xs : List Value} (h : w.ownsRow base T 1 v n xs) : (n = 0 ∧ v = .slice none 0 0) ∨ ∃ g cap, v = .slice (some ⟨g, 0, none⟩) n cap ∧ ∀ (i : Nat) u, xs[i]? = some u → w.cell? ⟨g, i, none⟩ = some u := by
 rcases h.2 with ⟨h1, h2⟩ | ⟨g, cap, cur, h1, _, h3, h4, h5, h6, h7⟩
 ·exact .inl ⟨h2, h1⟩
 ·refine .inr ⟨g, cap, h1, fun i u hu => ?_⟩
  have hi : i < n := by have := (List.getElem?_eq_some_iff.1 hu).1; have := h.1; omega
  have : cur[i]? = some u := by
   rw [← h7] at hu
   rw [List.getElem?_take] at hu
   rw [if_pos (by omega)] at hu
   simpa using hu
  simp [World.cell?, h3, this]
theorem formB_small : ∀ x ∈ formB, x < 256 := by decide
theorem newWriter_any (w : World) :
  Calls Tryz.prog 70 #[] w fun e w' => ∃ b v, e = .returned (.pointer (some ⟨b, 0, none⟩)) ∧ WRep w' b v formB ∧ (∀ i, WFoot b v i → w.heap.size ≤ i) ∧ Keeps (fun _ => False) w w' := by
 have kc := fun (w : World) (C : Array Value) (n c : Nat) => Lib.run_convert_bytes_const (P := Tryz.prog) w 134 5 C n c Tryz.underlying134 u8under
 go_enter Tryz.func70, Tryz.ntmps70
 go_wp2
 go_ret
 have hk1 : Keeps (fun _ => False) w (w.alloc (.cells (bytesV formB).toArray 5 (8, 9))) := (Keeps.refl _ _).alloc _
 refine ⟨w.heap.size + 1, .slice (some ⟨w.heap.size, 0, none⟩) 8 8, rfl, ⟨Blk.newAt (by simp) [_] _, .inr ⟨w.heap.size, rfl, ?_⟩, by simp [Value.ownBlock], formB_small⟩, fun i hi => ?_, hk1.alloc _⟩
 ·rw [Below.heap_alloc _ _ _ (by simp)]
  exact heap_alloc_new w _
 ·rcases hi with hi | hi
  ·omega
  ·have : w.heap.size = i := by simpa [Value.ownBlock] using hi
   omega
def partsV (ps : List (Nat × Nat)) : List Value := ps.map fun p => .pointer (some ⟨p.1, p.2, none⟩)
def PartsAt (w : World) (ps : List (Nat × Nat)) (ns : List Int) : Prop := ps.length = ns.length ∧ ∀ (i : Nat) p n, ps[i]? = some p → ns[i]? = some n → w.cell? ⟨p.1, p.2, none⟩ = some (.int .i64 n)
theorem parts_any (b : Nat) (v : Value) (bs : List Nat) (pv : Value) (base : Nat) (ps : List (Nat × Nat)) (ns : List Int) (w : World) (h : WRep w b v bs) (hp : w.ownsRow base 167 1 pv ps.length (partsV ps)) (ha : PartsAt w ps ns)
  (hd : ∀ p, p ∈ ps → ¬ WFoot b v p.1) (hpv : ∀ i, pv.ownBlock = some i → ¬ WFoot b v i) (hn : ∀ n, n ∈ ns → 0 ≤ n ∧ n ≤ 9223372036854775807) (hl : bs.length + 10 * ns.length ≤ 140737488355300) (hl2 : ns.length ≤ 1000) :
  Calls Tryz.prog 98 #[.pointer (some ⟨b, 0, none⟩), pv] w fun e w' => e = .returned (.tuple #[]) ∧ Wrote w b v (bs ++ encL ns) w' := by
 have HW := hide h
 have HP := hide hp
 have HA := hide ha
 have HD := hide hd
 have HPV := hide hpv
 have HN := hide hn
 have HLE := hide ha.1
 obtain ⟨va, vcap, hv, hva⟩ := row_form hp
 have HVA := hide hva
 have hlen : ps.length = ns.length := ha.1
 clear h hp ha hd hpv hn hva
 subst hv
 generalize hm : ps.length = m at *
 have HM := hide hm
 have HLM := hide hlen
 clear hm hlen
 have hm3 : m ≤ 1000 := by have := uh HLM; omega
 go_enter Tryz.func98, Tryz.ntmps98
 go_wp2
 go_loopw [8] (fun i wr => ∃ (k : Nat) (v' : Value), i = .int .i64 k ∧ k ≤ m ∧ Hid (WRep wr b v' (bs ++ encL (ns.take k))) ∧ Hid (∀ i, v'.ownBlock = some i → v.ownBlock = some i ∨ w.heap.size ≤ i) ∧ Hid (Keeps (WFoot b v) w wr)) (fun i _ => m - (intOf i).toNat)
 case atStart => exact ⟨0, v, rfl, Nat.zero_le _, by show WRep _ _ _ _; rw [List.take_zero, encL_nil, List.append_nil]; exact uh HW, fun i hi => .inl hi, Keeps.refl _ _⟩
 case round =>
  obtain ⟨k, v', rfl, hk, HWr, HVr, HKr⟩ := hrel
  by_cases hlk : k < m
  ·obtain ⟨g, hg, hgb⟩ := uh HVA (by omega)
   subst hg
   have hkp : k < ps.length := by rw [uh HM]; exact hlk
   have hkn : k < ns.length := by rw [← uh HLM]; exact hlk
   obtain ⟨p, hpk⟩ : ∃ p, ps[k]? = some p := ⟨_, List.getElem?_eq_getElem hkp⟩
   obtain ⟨n, hnk⟩ : ∃ n, ns[k]? = some n := ⟨_, List.getElem?_eq_getElem hkn⟩
   have hrow := ownsM (uh HP) (uh HKr) (uh HPV)
   have hck : wr.cell? ⟨g, k, none⟩ = some (.pointer (some ⟨p.1, p.2, none⟩)) := by
    rcases row_cells1 hrow with ⟨h0, _⟩ | ⟨g', cap', hv', hc⟩
    ·omega
    ·cases hv'; exact hc k _ (by unfold partsV; rw [List.getElem?_map, hpk]; rfl)
   have hcp : wr.cell? ⟨p.1, p.2, none⟩ = some (.int .i64 n) := (uh HKr).cell ((uh HA).2 k p n hpk hnk) (uh HD p (List.mem_of_getElem? hpk))
   obtain ⟨n0, n1⟩ := uh HN n (List.mem_of_getElem? hnk)
   have HNX := hide (show bs ++ encL (ns.take k) ++ enc n = bs ++ encL (ns.take (k + 1)) by
      rw [List.append_assoc]
      congr 1
      rw [List.take_add_one, hnk, encL_append]
      simp [encL])
   have hlb : (bs ++ encL (ns.take k)).length ≤ 140737488355300 := by
    have := encL_length (ns.take k)
    have h2 : (ns.take k).length ≤ ns.length := by rw [List.length_take]; omega
    rw [List.length_append]; omega
   have hk0 : (0 : Int) ≤ (k : Int) := by omega
   have hkm : (k : Int) < (m : Int) := by omega
   clear hrow hpk hnk hkp hkn
   go_wp2_with fail
   refine (number_any b v' (bs ++ encL (ns.take k)) n wr (uh HWr) n0 n1 hlb).mono ?_
   rintro e w1 ⟨rfl, hw1⟩
   have HW1 := hide (Wrote.then (uh HVr) (uh HKr) hw1)
   clear hw1 hck hcp
   go_wp2
   go_roundw
   case rel =>
    obtain ⟨v2, hw2, hv2, hk2⟩ := uh HW1
    rw [uh HNX] at hw2
    exact ⟨k + 1, v2, by go_num, by omega, hw2, hv2, hk2⟩
   case measure => simp [intOf]; omega
  ·have hkm : k = m := by omega
   subst hkm
   go_wp2
   go_end0
   refine ⟨rfl, v', ?_, uh HVr, uh HKr⟩
   have := uh HWr
   rwa [List.take_of_length_le (by rw [← uh HLM]; omega)] at this
end Go.Proofs.YtahnliehdjncdaaGreatDoor
namespace Go.Proofs.YtahnliehdjncdaaGreatDoor
open Go.RowKit
def sumH (l : List Nat) : Int := l.foldl (fun a (b : Nat) => hashD 1000003000007 b a) 1
theorem sumH_snoc (l : List Nat) (b : Nat) : sumH (l ++ [b]) = hashD 1000003000007 b (sumH l) := by simp [sumH]
theorem fold_hash_bd (l : List Nat) (a : Int) (h0 : 0 ≤ a) (h1 : a < 2305843009213693951) : 0 ≤ l.foldl (fun a (b : Nat) => hashD 1000003000007 b a) a ∧ l.foldl (fun a (b : Nat) => hashD 1000003000007 b a) a < 2305843009213693951 := by
 induction l generalizing a with
 | nil => exact ⟨h0, h1⟩
 | cons b l ih => have := hashD_bd 1000003000007 b a; exact ih _ this.1 this.2
theorem sumH_bd (l : List Nat) : 0 ≤ sumH l ∧ sumH l < 2305843009213693951 := fold_hash_bd l 1 (by omega) (by omega)
theorem sum_any (v : Value) (bs : List Nat) (w : World) (h : WRow w v bs) (hs : ∀ x ∈ bs, x < 256) (hl : bs.length ≤ 140737488355320) :
  Calls Tryz.prog 99 #[v] w fun e w' => e = .returned (.int .i64 (sumH bs)) ∧ Keeps (fun _ => False) w w' := by
 have HW := hide h
 have HS := hide hs
 obtain ⟨va, vcap, hv⟩ := h.form
 subst hv
 clear h hs
 generalize hn : bs.length = n at *
 have HN := hide hn
 clear hn
 go_enter Tryz.func99, Tryz.ntmps99
 go_wp2
 go_loopw [3, 8] (fun a i wr => ∃ k : Nat, i = .int .i64 k ∧ k ≤ n ∧ a = .int .i64 (sumH (bs.take k)) ∧ Hid (Keeps (fun _ => False) w wr)) (fun _ i _ => n - (intOf i).toNat)
 case atStart => exact ⟨0, rfl, Nat.zero_le _, rfl, Keeps.refl _ _⟩
 case round =>
  obtain ⟨k, rfl, hk, rfl, HK⟩ := hrel
  by_cases hlk : k < n
  ·have hkb : k < bs.length := by rw [uh HN]; exact hlk
   obtain ⟨y, hy⟩ : ∃ y, bs[k]? = some y := ⟨_, List.getElem?_eq_getElem hkb⟩
   have hy6 := uh HS y (List.mem_of_getElem? hy)
   have HNX := hide (show sumH (bs.take (k + 1)) = hashD 1000003000007 y (sumH (bs.take k)) by rw [List.take_add_one, hy]; exact sumH_snoc _ _)
   obtain ⟨g, cap, hv, hc⟩ : ∃ g cap, (Value.slice va n vcap) = .slice (some ⟨g, 0, none⟩) n cap ∧ ∀ (i : Nat) u, (bytesV bs)[i]? = some u → w.cell? ⟨g, i, none⟩ = some u := by
    rcases (uh HW).cells with ⟨h0, _⟩ | ⟨g, cap, hv, hc⟩
    ·omega
    ·exact ⟨g, cap, by rw [hv, uh HN], hc⟩
   injection hv with hv1 _ hv2
   subst hv1 hv2
   have hck : wr.cell? ⟨g, k, none⟩ = some (.int .u8 (y : Int)) := (uh HK).cell (hc k _ (by unfold bytesV; rw [List.getElem?_map, hy]; rfl)) (fun h => h)
   have hwb : IntKind.i64.wrap (y : Int) = (y : Int) := (by rw [IntKind.wrap_i64]; omega)
   have hb := sumH_bd (bs.take k)
   generalize sumH (bs.take k) = S at *
   have hk0 : (0 : Int) ≤ (k : Int) := by omega
   have hkm : (k : Int) < (n : Int) := by omega
   clear hc hy hkb
   go_wp2_with fail
   refine (hash_big 1000003000007 (y : Int) S wr (by omega) (by omega) (by omega) (by omega) hb.1 (by omega)).mono ?_
   rintro e w1 ⟨rfl, hk1⟩
   have HK1 := hide ((uh HK).then hk1)
   clear hk1 hck
   go_wp2
   go_roundw
   case rel => exact ⟨k + 1, by go_num, by omega, by rw [uh HNX], uh HK1⟩
   case measure => simp [intOf]; omega
  ·have hkn : k = n := by omega
   subst hkn
   have HT := hide (show bs.take k = bs from List.take_of_length_le (by rw [uh HN]; omega))
   go_wp2
   go_ret
   exact ⟨by rw [uh HT]; rfl, uh HK⟩
def strB (l : List Nat) : ByteArray := strOfNums (l.map fun (n : Nat) => (n : Int))
theorem bytesV_get (l : List Nat) (i : Nat) (hi : i < l.length) : (bytesV l)[i]? = some (.int .u8 ((l.map fun (n : Nat) => (n : Int)).getD i 0)) := by
 unfold bytesV
 rw [List.getElem?_map, List.getD_eq_getElem?_getD, List.getElem?_map, List.getElem?_eq_getElem hi]
 rfl
theorem close_any (b : Nat) (v : Value) (bs : List Nat) (w : World) (h : WRep w b v bs) (hl : bs.length ≤ 140737488355300) :
  Calls Tryz.prog 73 #[.pointer (some ⟨b, 0, none⟩)] w fun e w' => e = .returned (.string (strB (bs ++ enc (sumH bs)))) ∧ Keeps (WFoot b v) w w' := by
 have hc0 : w.cell? ⟨b, 0, none⟩ = some v := h.blk.cell rfl
 have HS := hide (sum_any v bs w h.row h.small (by omega))
 have HB := hide (sumH_bd bs)
 have HW := hide h
 have hlt := h.blk.lt
 obtain ⟨va, vcap, hv⟩ := h.row.form
 subst hv
 clear h
 go_enter Tryz.func73, Tryz.ntmps73
 go_wp2_with fail
 refine (uh HS).mono ?_
 rintro e w1 ⟨rfl, hk1⟩
 have HK1 := hide hk1
 have HN := hide (number_any b (.slice va bs.length vcap) bs (sumH bs) w1 ((uh HW).still hk1) (uh HB).1 (by have := (uh HB).2; omega) hl)
 clear hk1 hc0 HS
 go_wp2_with fail
 refine (uh HN).mono ?_
 rintro e w2 ⟨rfl, v2, hw2, hv2, hk2⟩
 have HK2 := hide (((uh HK1).mono (M' := WFoot b (.slice va bs.length vcap)) (fun _ _ h => h.elim)).then hk2)
 have hc2 : w2.cell? ⟨b, 0, none⟩ = some v2 := hw2.blk.cell rfl
 have hlt2 := hw2.blk.lt
 obtain ⟨g, cap, hv, hcv⟩ : ∃ g cap, v2 = .slice (some ⟨g, 0, none⟩) (bs ++ enc (sumH bs)).length cap ∧ (convert 134 9 (.slice (some ⟨g, 0, none⟩) (bs ++ enc (sumH bs)).length cap)).run Tryz.prog w2 = .ok (.string (strB (bs ++ enc (sumH bs)))) w2 := by
  rcases hw2.row.cells with ⟨h0, _⟩ | ⟨g, cap, hv, hc⟩
  ·exfalso
   have h1 : 0 < (enc (sumH bs)).length := by
    unfold enc encF
    split <;> simp
   rw [List.length_append] at h0
   omega
  ·refine ⟨g, cap, hv, run_convert_bytes_arg w2 134 5 Tryz.underlying134 u8under g 0 _ cap _ (by simp) (fun i hi => ?_) 9 Tryz.underlying9⟩
   rw [Nat.zero_add]
   exact hc i _ (bytesV_get _ i hi)
 subst hv
 generalize (bs ++ enc (sumH bs)).length = n2 at *
 clear hw2 hv2 hk2 HN
 go_wp2
 go_ret
 exact ⟨rfl, uh HK2⟩
end Go.Proofs.YtahnliehdjncdaaGreatDoor
namespace Go.Proofs.YtahnliehdjncdaaGreatDoor
open Go.RowKit
theorem decSave_any (d b : Nat) (c : Cfg) (q r m : Int) (v : Value) (bs : List Nat) (w : World) (hb : Blk w d (decCells c q r) 198) (h : WRep w b v bs) (hd : ¬ WFoot b v d) (q0 : 0 ≤ q) (q1 : q ≤ 9223372036854775807) (r0 : 0 ≤ r) (r1 : r ≤ 9223372036854775807) (hl : bs.length ≤ 140737488355000) :
  Calls Tryz.prog 179 #[.pointer (some ⟨d, 0, none⟩), .pointer (some ⟨b, 0, none⟩), .int .i64 m] w fun e w' => e = .returned (.tuple #[]) ∧ Wrote w b v (bs ++ encL [q, r]) w' := by
 have hd20 : w.cell? ⟨d, 20, none⟩ = some (.int .i64 q) := hb.cell rfl
 have HB := hide hb
 have HW := hide h
 have HD := hide hd
 have HN := hide (number_any b v bs q w h q0 q1 (by omega))
 clear hb h hd
 go_enter Tryz.func179, Tryz.ntmps179
 go_wp2_with fail
 refine (uh HN).mono ?_
 rintro e w1 ⟨rfl, v1, hw1, hv1, hk1⟩
 have hd21 : w1.cell? ⟨d, 21, none⟩ = some (.int .i64 r) := hk1.cell ((uh HB).cell rfl) (uh HD)
 have HV1 := hide hv1
 have HK1 := hide hk1
 have HN1 := hide (number_any b v1 (bs ++ enc q) r w1 hw1 r0 r1 (by have := enc_length q; rw [List.length_append]; omega))
 clear hd20 hw1 hv1 hk1 HN
 go_wp2_with fail
 refine (uh HN1).mono ?_
 rintro e w2 ⟨rfl, hw2⟩
 have HF := hide (Wrote.then (uh HV1) (uh HK1) hw2)
 clear hw2 HN1
 go_wp2
 go_end0
 refine ⟨rfl, ?_⟩
 have h := uh HF
 rw [List.append_assoc] at h
 rw [encL_cons, encL_one]
 exact h
end Go.Proofs.YtahnliehdjncdaaGreatDoor
namespace Go.Proofs.YtahnliehdjncdaaGreatDoor
open Go.RowKit
attribute [local go_sem ↓] execOp_load38 execOp_load40
attribute [local go_sem] run_load38 run_load40 bigVal_drew hasBig_drew bigVal_ne hasBig_ne bigVal_new hasBig_newB
def Cfg.nums (c : Cfg) : List Int := [c.kind, c.lag, c.skew, c.cap, c.k, c.window, c.bits, c.rows, c.width, c.panes, c.size, c.degree, c.half, c.mark, c.s00, c.s01, c.s10, c.s11, c.s20, c.s21]
theorem Cfg.cells_nums (c : Cfg) : c.cells = c.nums.map (.int .i64 ·) := rfl
def Cfg.num (c : Cfg) (o : Nat) : Int := c.nums.getD o 0
def namedL : Nat → List Nat | 1 => [4, 5] | 2 => [6, 5] | 3 => [7, 8, 9, 5] | 4 => [11, 12, 13] | _ => [11, 12, 13, 10]
def at' (b : Nat) (l : List Nat) : List (Nat × Nat) := l.map fun o => (b, o)
theorem info167 : (Tryz.prog.info? 167).map (fun i => (i.zero, i.size, i.bytes)) = some (some (.pointer none), 1, 8) := by kernel_rfl
theorem new_parts {w w' : World} {ps : List (Nat × Nat)} {n : Nat} (hn : ps.length = n) (hm : n ≤ 100) (h : w'.heap[w.heap.size]? = some (.cells (partsV ps).toArray 167)) : w'.ownsRow w.heap.size 167 1 (.slice (some ⟨w.heap.size, 0, none⟩) n n) ps.length (partsV ps) := by
 subst hn
 exact ⟨by simp [partsV], .inr ⟨w.heap.size, ps.length, (partsV ps).toArray, rfl, Nat.le_refl _, h, Nat.le_refl _, by unfold maxLen; omega, by simp [partsV], by rw [List.toList_toArray, List.take_of_length_le (by simp [partsV])]⟩⟩
def NamedPost (w : World) (b : Nat) (l : List Nat) (e : Ending) (w' : World) : Prop := ∃ v, e = .returned v ∧ w'.ownsRow w.heap.size 167 1 v (at' b l).length (partsV (at' b l)) ∧ Keeps (fun _ => False) w w'
theorem common_named (b : Nat) (w : World) : Calls Tryz.prog 142 #[.pointer (some ⟨b, 0, none⟩)] w (NamedPost w b [1, 2, 3]) := by
 go_enter Tryz.func142, Tryz.ntmps142
 go_wp2_with fail
 go_region
 go_wp2
 go_ret
 exact ⟨_, rfl, new_parts rfl (by omega) (heap_alloc_new w _), ((Keeps.refl _ _).alloc _).drew⟩
theorem count_named (b : Nat) (w : World) : Calls Tryz.prog 116 #[.pointer (some ⟨b, 0, none⟩)] w (NamedPost w b [4, 5]) := by
 go_enter Tryz.func116, Tryz.ntmps116
 go_wp2_with fail
 go_region
 go_wp2
 go_ret
 exact ⟨_, rfl, new_parts rfl (by omega) (heap_alloc_new w _), ((Keeps.refl _ _).alloc _).drew⟩
theorem distinct_named (b : Nat) (w : World) : Calls Tryz.prog 122 #[.pointer (some ⟨b, 0, none⟩)] w (NamedPost w b [6, 5]) := by
 go_enter Tryz.func122, Tryz.ntmps122
 go_wp2_with fail
 go_region
 go_wp2
 go_ret
 exact ⟨_, rfl, new_parts rfl (by omega) (heap_alloc_new w _), ((Keeps.refl _ _).alloc _).drew⟩
theorem often_named (b : Nat) (w : World) : Calls Tryz.prog 128 #[.pointer (some ⟨b, 0, none⟩)] w (NamedPost w b [7, 8, 9, 5]) := by
 go_enter Tryz.func128, Tryz.ntmps128
 go_wp2_with fail
 go_region
 go_wp2
 go_ret
 exact ⟨_, rfl, new_parts rfl (by omega) (heap_alloc_new w _), ((Keeps.refl _ _).alloc _).drew⟩
theorem decay_named (b : Nat) (w : World) : Calls Tryz.prog 132 #[.pointer (some ⟨b, 0, none⟩)] w (NamedPost w b [11, 12, 13]) := by
 go_enter Tryz.func132, Tryz.ntmps132
 go_wp2_with fail
 go_region
 go_wp2
 go_ret
 exact ⟨_, rfl, new_parts rfl (by omega) (heap_alloc_new w _), ((Keeps.refl _ _).alloc _).drew⟩
theorem owns_le {w : World} {base base' : Nat} {t size : Nat} {v : Value} {n : Nat} {xs : List Value} (h : w.ownsRow base t size v n xs) (hb : base' ≤ base) : w.ownsRow base' t size v n xs := by
 refine ⟨h.1, ?_⟩
 rcases h.2 with h2 | ⟨g, cap, cur, rfl, hbb, r⟩
 ·exact .inl h2
 ·exact .inr ⟨g, cap, cur, rfl, Nat.le_trans hb hbb, r⟩
def appP (t : TypeId) (x y : Value) : Sem Next := do pure (.value (← Builtin.append_ #[142, 142] t #[x, y]))
theorem execOp_appP (ρ : Operand → Value) (dst : Option Tmp) (x y : Operand) (ty : TypeId) (pos : String) (after : Array Edge) (guard : Option (Nat × Bool)) :
  execOp ρ { dst, op := .call { callee := .builtin .append, args := #[x, y], argTypes := #[142, 142] }, type := ty, pos, after, guard } = appP ty (ρ x) (ρ y) := by
 rw [BigFrame.execOp_builtin, BigFrame.builtin_append]
 simp [appP]
theorem run_appP (w : World) (base : Nat) (v : Value) (m g0 : Nat) (xs us : List Value) (hown : w.ownsRow base 167 1 v m xs) (hu : w.heap[g0]? = some (.cells us.toArray 167)) (h1 : ∀ u ∈ us, u.oneCell' = true) (hl : 0 < us.length) (hm : m + us.length ≤ 100) (hb : base ≤ w.heap.size) :
  ∃ gg cap' w3, (∀ t, (appP t v (.slice (some ⟨g0, 0, none⟩) us.length us.length)).run Tryz.prog w = .ok (.value (.slice (some ⟨gg, 0, none⟩) (m + us.length) cap')) w3) ∧
   w3.ownsRow base 167 1 (.slice (some ⟨gg, 0, none⟩) (m + us.length) cap') (m + us.length) (xs ++ us) ∧ w.grownBy w3 v.ownBlock := by
 obtain ⟨i0, hi0, hz0, hz1, hz2⟩ := info_parts info167
 obtain ⟨gg, cap', w3, e1, e2, e3, _, _⟩ := run_append_lies (P := Tryz.prog) w 142 142 base 167 i0 _ 1 8 Tryz.underlying142 hi0 hz0 hz1 hz2 rfl (by omega) v m xs hown ⟨g0, 0, none⟩ us.length us.length us (by simp) (World.news_of_block hu) h1 hl (by unfold maxLen; omega) (by omega) hb w.heap.size rfl
 refine ⟨gg, cap', w3, fun t => ?_, e2, e3⟩
 unfold appP
 rw [Sem.run_bind]
 have ht : Builtin.append_ #[142, 142] t #[v, .slice (some ⟨g0, 0, none⟩) us.length us.length] = Builtin.append_ #[142, 142] 142 #[v, .slice (some ⟨g0, 0, none⟩) us.length us.length] := rfl
 rw [ht, e1]
 rfl
theorem decay_named_app (b : Nat) (w : World) : Calls Tryz.prog 132 #[.pointer (some ⟨b, 0, none⟩)] w fun e w1 => ∃ va vcap, e = .returned (.slice va 3 vcap) ∧ Keeps (fun _ => False) w w1 ∧
  (∃ gg cap' w3, (∀ t, (appP t (.slice va 3 vcap) (.slice (some ⟨w1.heap.size, 0, none⟩) 1 1)).run Tryz.prog (w1.alloc (.cells #[.pointer (some ⟨b, 10, none⟩)] 167)) = .ok (.value (.slice (some ⟨gg, 0, none⟩) 4 cap')) w3) ∧
     w3.ownsRow w.heap.size 167 1 (.slice (some ⟨gg, 0, none⟩) 4 cap') 4 (partsV (at' b [11, 12, 13, 10])) ∧ Keeps (fun _ => False) w w3) ∧
  (∀ g0, w.heap[g0]? = some (.cells #[.pointer (some ⟨b, 10, none⟩)] 167) → ∃ gg cap' w3, (∀ t, (appP t (.slice va 3 vcap) (.slice (some ⟨g0, 0, none⟩) 1 1)).run Tryz.prog w1 = .ok (.value (.slice (some ⟨gg, 0, none⟩) 4 cap')) w3) ∧
     w3.ownsRow w.heap.size 167 1 (.slice (some ⟨gg, 0, none⟩) 4 cap') 4 (partsV (at' b [11, 12, 13, 10])) ∧ Keeps (fun _ => False) w w3) := by
 refine (decay_named b w).mono ?_
 rintro e w1 ⟨v, rfl, hown, hk⟩
 obtain ⟨va, vcap, hv, _⟩ := row_form hown
 subst hv
 have hsz := hk.size
 refine ⟨va, vcap, rfl, hk, ?_, fun g0 hg0 => ?_⟩
 ·obtain ⟨gg, cap', w3, h1, h2, h3⟩ := run_appP (w1.alloc (.cells #[.pointer (some ⟨b, 10, none⟩)] 167)) w.heap.size _ 3 w1.heap.size _ [.pointer (some ⟨b, 10, none⟩)] (hown.alloc _) (heap_alloc_new w1 _) (by simp [Value.oneCell']) (by simp) (by simp) (by simp; omega)
  exact ⟨gg, cap', w3, h1, h2, (hk.alloc _).grown h3 (fun k hk' => .inr (hown.lt k hk').1)⟩
 ·obtain ⟨gg, cap', w3, h1, h2, h3⟩ := run_appP w1 w.heap.size _ 3 g0 _ [.pointer (some ⟨b, 10, none⟩)] hown (by rw [hk.block g0 (Array.getElem?_eq_some_iff.1 hg0).1 (fun h => h)]; exact hg0) (by simp [Value.oneCell']) (by simp) (by simp) hsz
  exact ⟨gg, cap', w3, h1, h2, hk.grown h3 (fun k hk' => .inr (hown.lt k hk').1)⟩
attribute [local go_sem ↓ 2000] execOp_appP
attribute [local go_sem ↓] Go.wp_at_zero Go.wp_at_succ
theorem drawn_named (b : Nat) (w : World) : Calls Tryz.prog 136 #[.pointer (some ⟨b, 0, none⟩)] w (NamedPost w b [11, 12, 13, 10]) := by
 go_enter Tryz.func136, Tryz.ntmps136
 go_wp2_with fail
 have hnew1 : (w.alloc (.cells #[.pointer (some ⟨b, 10, none⟩)] 167)).drew.heap[w.heap.size]? = some (.cells #[.pointer (some ⟨b, 10, none⟩)] 167) := heap_alloc_new w _
 go_region_with (first | (go_at_call 132; refine (decay_named_app b _).mono ?_; rintro e w1 ⟨va, vcap, rfl, hk1, ⟨gg, cap', w3, hrun, hown, hk3⟩, hB⟩; try (have hB1 := hB w.heap.size hnew1; obtain ⟨gg2, cap2, w4, hrun2, hown2, hk4⟩ := hB1)))
 ·go_wp2
  go_ret
  exact ⟨.slice (some ⟨gg, 0, none⟩) 4 cap', rfl, hown, ((Keeps.refl (fun _ => False) w).drew).then hk3⟩
 all_goals
  go_wp2
  go_ret
  refine ⟨.slice (some ⟨gg2, 0, none⟩) 4 cap2, rfl, owns_le hown2 (by show w.heap.size ≤ (w.alloc _).heap.size; simp), ?_⟩
  first
   | exact (((Keeps.refl (fun _ => False) w).alloc _).drew).then hk4
   | exact (((Keeps.refl (fun _ => False) w).drew).alloc _).then hk4
theorem ask_time (b : Nat) (w : World) : Calls Tryz.prog 119 #[.pointer (some ⟨b, 0, none⟩)] w (NamedPost w b [0]) := by
 go_enter Tryz.func119, Tryz.ntmps119
 go_wp2
 go_ret
 exact ⟨_, rfl, new_parts rfl (by omega) (heap_alloc_new w _), (Keeps.refl _ _).alloc _⟩
theorem ask_key (b : Nat) (w : World) : Calls Tryz.prog 125 #[.pointer (some ⟨b, 0, none⟩)] w (NamedPost w b [0, 1]) := by
 go_enter Tryz.func125, Tryz.ntmps125
 go_wp2_with fail
 go_region
 go_wp2
 go_ret
 exact ⟨_, rfl, new_parts rfl (by omega) (heap_alloc_new w _), ((Keeps.refl _ _).alloc _).drew⟩
theorem ask_draw (b : Nat) (w : World) : Calls Tryz.prog 138 #[.pointer (some ⟨b, 0, none⟩)] w (NamedPost w b [0, 1, 2]) := by
 go_enter Tryz.func138, Tryz.ntmps138
 go_wp2_with fail
 go_region
 go_wp2
 go_ret
 exact ⟨_, rfl, new_parts rfl (by omega) (heap_alloc_new w _), ((Keeps.refl _ _).alloc _).drew⟩
end Go.Proofs.YtahnliehdjncdaaGreatDoor
namespace Go.Proofs.YtahnliehdjncdaaGreatDoor
open Go.RowKit
attribute [local go_sem ↓] execOp_load38 execOp_load40
attribute [local go_sem] run_load38 run_load40 bigVal_drew hasBig_drew bigVal_ne hasBig_ne bigVal_new hasBig_newB
theorem named_any (k b : Nat) (w : World) (h1 : 1 ≤ k) (h5 : k ≤ 5) : Calls Tryz.prog (namedF k) #[.pointer (some ⟨b, 0, none⟩)] w (NamedPost w b (namedL k)) := by
 have hk : k = 1 ∨ k = 2 ∨ k = 3 ∨ k = 4 ∨ k = 5 := by omega
 rcases hk with hk | hk | hk | hk | hk <;> subst hk
 ·exact count_named b w
 ·exact distinct_named b w
 ·exact often_named b w
 ·exact decay_named b w
 ·exact drawn_named b w
def askedL : Nat → List Nat | 1 => [0] | 2 => [0, 1] | 3 => [0, 1] | 4 => [0] | _ => [0, 1, 2]
theorem asked_any (k b : Nat) (w : World) (h1 : 1 ≤ k) (h5 : k ≤ 5) : Calls Tryz.prog (askedF k) #[.pointer (some ⟨b, 0, none⟩)] w (NamedPost w b (askedL k)) := by
 have hk : k = 1 ∨ k = 2 ∨ k = 3 ∨ k = 4 ∨ k = 5 := by omega
 rcases hk with hk | hk | hk | hk | hk <;> subst hk
 ·exact ask_time b w
 ·exact ask_key b w
 ·exact ask_key b w
 ·exact ask_time b w
 ·exact ask_draw b w
def pairsN (k : Nat) (c : Cfg) : Int := match k with | 2 => 1 | 3 => c.rows | _ => 0
theorem noPairs_any (c : Cfg) (w : World) : Calls Tryz.prog 117 #[c.val] w fun e w' => e = .returned (.int .i64 0) ∧ Keeps (fun _ => False) w w' := by
 unfold Cfg.val
 go_enter Tryz.func117, Tryz.ntmps117
 go_wp2
 go_ret
 exact ⟨rfl, by first | exact Keeps.refl _ _ | exact (Keeps.refl _ _).alloc _⟩
theorem onePair_any (c : Cfg) (w : World) : Calls Tryz.prog 123 #[c.val] w fun e w' => e = .returned (.int .i64 1) ∧ Keeps (fun _ => False) w w' := by
 unfold Cfg.val
 go_enter Tryz.func123, Tryz.ntmps123
 go_wp2
 go_ret
 exact ⟨rfl, by first | exact Keeps.refl _ _ | exact (Keeps.refl _ _).alloc _⟩
theorem rowPairs_any (c : Cfg) (w : World) : Calls Tryz.prog 129 #[c.val] w fun e w' => e = .returned (.int .i64 c.rows) ∧ Keeps (fun _ => False) w w' := by
 unfold Cfg.val
 go_enter Tryz.func129, Tryz.ntmps129
 go_wp2
 go_ret
 exact ⟨rfl, (Keeps.refl _ _).alloc _⟩
theorem pairs_any (k : Nat) (c : Cfg) (w : World) (h1 : 1 ≤ k) (h5 : k ≤ 5) : Calls Tryz.prog (pairsF k) #[c.val] w fun e w' => e = .returned (.int .i64 (pairsN k c)) ∧ Keeps (fun _ => False) w w' := by
 have hk : k = 1 ∨ k = 2 ∨ k = 3 ∨ k = 4 ∨ k = 5 := by omega
 rcases hk with hk | hk | hk | hk | hk <;> subst hk
 ·exact noPairs_any c w
 ·exact onePair_any c w
 ·exact rowPairs_any c w
 ·exact noPairs_any c w
 ·exact noPairs_any c w
def seedsL (n : Nat) : List Nat := (List.range (2 * n)).map (14 + ·)
theorem seedsL_succ (n : Nat) : seedsL (n + 1) = seedsL n ++ [14 + 2 * n, 15 + 2 * n] := by
 unfold seedsL
 rw [show 2 * (n + 1) = 2 * n + 1 + 1 by omega, List.range_succ, List.range_succ]
 simp
 omega
theorem partsV_append (a b : List (Nat × Nat)) : partsV (a ++ b) = partsV a ++ partsV b := by simp [partsV]
attribute [local go_sem ↓ 2000] execOp_appP
attribute [local go_sem ↓] Go.wp_at_zero Go.wp_at_succ
theorem seeds_any (b n : Nat) (w : World) (hn : n ≤ 3) :
  Calls Tryz.prog 143 #[.pointer (some ⟨b, 0, none⟩), .int .i64 n] w (NamedPost w b (seedsL n)) := by
 go_enter Tryz.func143, Tryz.ntmps143
 go_wp2
 go_loopw [5, 8] (fun v i wr => ∃ k : Nat, i = .int .i64 k ∧ k ≤ n ∧ Hid (wr.ownsRow w.heap.size 167 1 v (2 * k) (partsV (at' b (seedsL k)))) ∧ Hid (Keeps (fun _ => False) w wr)) (fun _ i _ => n - (intOf i).toNat)
 case atStart => exact ⟨0, rfl, Nat.zero_le _, World.ownsRow_nil _ _ _ _, Keeps.refl _ _⟩
 case round =>
  obtain ⟨k, rfl, hk, HO, HK⟩ := hrel
  generalize u5 = v at *
  by_cases hlk : k < n
  ·obtain ⟨va, vcap, hv, _⟩ := row_form (uh HO)
   subst hv
   have hsz : w.heap.size ≤ wr.heap.size := (uh HK).size
   have HO1 := hide (show (wr.alloc (.cells #[.pointer (some ⟨b, 14 + k * 2, none⟩), .pointer (some ⟨b, 14 + k * 2 + 1, none⟩)] 167)).drew.ownsRow w.heap.size 167 1 (.slice va (2 * k) vcap) (2 * k) (partsV (at' b (seedsL k))) from (uh HO).alloc _)
   obtain ⟨gg, cap', w3, hrun, hown, hgr⟩ := run_appP (wr.alloc (.cells #[.pointer (some ⟨b, 14 + k * 2, none⟩), .pointer (some ⟨b, 14 + k * 2 + 1, none⟩)] 167)).drew w.heap.size _ (2 * k) wr.heap.size _ [.pointer (some ⟨b, 14 + k * 2, none⟩), .pointer (some ⟨b, 14 + k * 2 + 1, none⟩)] (uh HO1) (heap_alloc_new wr _) (by simp [Value.oneCell']) (by simp) (by simp; omega) (by show w.heap.size ≤ (wr.alloc _).heap.size; simp; omega)
   have hrun' : ∀ t, (appP t (.slice va (2 * k) vcap) (.slice (some ⟨wr.heap.size, 0, none⟩) 2 2)).run Tryz.prog (wr.alloc (.cells #[.pointer (some ⟨b, 14 + k * 2, none⟩), .pointer (some ⟨b, 14 + k * 2 + 1, none⟩)] 167)).drew = .ok (.value (.slice (some ⟨gg, 0, none⟩) (2 * k + 2) cap')) w3 := hrun
   clear hrun
   have HOW := hide hown
   have HGR := hide hgr
   clear hown hgr HO1
   have hk0 : (0 : Int) ≤ (k : Int) := by omega
   have hkn : (k : Int) < (n : Int) := by omega
   have hk3 : (k : Int) < 3 := by omega
   go_wp2_with fail
   go_region
   go_wp2
   go_roundw
   case rel =>
    refine ⟨k + 1, by go_num, by omega, ?_, ?_⟩
    ·show World.ownsRow _ _ _ _ _ _ _
     rw [seedsL_succ]
     have e1 : at' b (seedsL k ++ [14 + 2 * k, 15 + 2 * k]) = at' b (seedsL k) ++ [(b, 14 + 2 * k), (b, 15 + 2 * k)] := by simp [at']
     rw [e1, partsV_append, show 2 * (k + 1) = 2 * k + 2 by omega]
     have h := uh HOW
     rw [show 14 + k * 2 = 14 + 2 * k by omega, show 14 + 2 * k + 1 = 15 + 2 * k by omega] at h
     exact h
    ·exact (((uh HK).alloc _).drew).grown (uh HGR) (fun j hj => Or.inr ((uh HO).lt j hj).1)
   case measure => simp [intOf]; omega
  ·have hkn : k = n := by omega
   subst hkn
   go_wp2
   go_ret
   refine ⟨v, rfl, ?_, uh HK⟩
   have : (at' b (seedsL k)).length = 2 * k := by simp [at', seedsL]
   rw [this]
   exact uh HO
end Go.Proofs.YtahnliehdjncdaaGreatDoor
