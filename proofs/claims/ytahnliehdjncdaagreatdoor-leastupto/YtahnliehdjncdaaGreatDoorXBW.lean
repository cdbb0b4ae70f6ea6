import Derived.Test.YtahnliehdjncdaaGreatDoorXBV
set_option maxRecDepth 100000
set_option maxHeartbeats 16000000
namespace Go.Proofs.YtahnliehdjncdaaGreatDoor
open Go.RowKit
attribute [local go_sem ↓] execOp_load38 execOp_load40 execOp_store40 execOp_bs22 execOp_build40 execOp_store38
attribute [local go_sem] run_load38 run_load40 bigVal_drew hasBig_drew bigVal_ne hasBig_ne bigVal_alloc hasBig_alloc run_bs1
attribute [local go_sem ↓] Go.wp_at_zero Go.wp_at_succ
theorem b_at {w : World} {sb so : Nat} {ops : List OpM} (h : ScriptAt w sb so ops) {i : Nat} (hi : i < ops.length) : w.cell? ⟨sb, so + i * 26 + 3, none⟩ = some (.int .i64 (opAt ops i).b) := by
 have e : opAt ops i = ops[i] := by simp [opAt, List.getD_eq_getElem?_getD, List.getElem?_eq_getElem hi]
 rw [e]
 exact h i ops[i] (List.getElem?_eq_getElem hi) 3 _ rfl
theorem least_any (v : Value) (key : Int) (ops : List OpM) (w : World) (hv : ScriptW w v ops) (hlen : ops.length ≤ 325781223000) (hT : Tab w) (key0 : -9223372036854775808 ≤ key) (key1 : key ≤ 9223372036854775807) :
  Calls Tryz.prog 11 #[v, .int .i64 key] w fun r w' => r = .returned (.bool true) ∧ Keeps (fun _ => False) w w' := by
 have HV := hide hv
 have HTT := hide hT
 clear hv hT
 go_enter Tryz.func11, Tryz.ntmps11
 go_wp2_with fail
 refine (awake_any _ (uh HTT)).mono ?_
 rintro r w1 ⟨rfl, hk1⟩
 have HK1 := hide hk1
 clear hk1
 go_wp2_with fail
 refine (noting_any _ ((uh HTT).keeps (uh HK1) (fun h => h))).mono ?_
 rintro r w2 ⟨rfl, hk2⟩
 have HK2 := hide ((uh HK1).then hk2)
 clear hk2 HK1
 go_wp2_with fail
 refine (pick_big key 2147483649 _ (by omega) key0 key1).mono ?_
 rintro r wq ⟨pk, hpk, rfl, hwq⟩
 rw [hwq]
 clear hwq wq
 go_wp2_with fail
 refine (askedS_any v ops pk w2 ((uh HV).keeps (uh HK2)) hlen).mono ?_
 rintro r w4 ⟨tv, bs, rfl, hT4, hb4, hk4⟩
 have htl : (askedD ops pk).length ≤ 651562446000 := by have := askedD_length ops pk; omega
 have HOKT := hide (askedD_ok ops pk)
 have HT4 := hide hT4
 have HK4 := hide ((uh HK2).then hk4)
 clear hT4 hk4 hb4
 generalize hst : askedD ops pk = t at *
 clear hst
 obtain ⟨ta, tc, et⟩ := row_form0 (uh HT4)
 generalize hm2 : t.length = nn at *
 have HNN := hide hm2
 clear hm2
 subst et
 go_wp2_with fail
 refine (run_script' _ t w4 (by have h := own_scriptW (uh HT4); exact h) (by rw [uh HNN]; omega) ((uh HTT).keeps (uh HK4) (fun h => h)) (uh HOKT)).mono ?_
 rintro r w5 ⟨va, la, rfl, hA, hMA, hBA, hk5⟩
 have HLA := hide (show la.length = nn by
    have := congrArg List.length hMA
    rwa [List.length_map, runM_length, uh HNN] at this)
 have HA5 := hide hA
 have HMA := hide hMA
 have HK5 := hide ((uh HK4).then hk5)
 have HT5 := hide (owns_keeps (uh HT4) hk5 (fun _ _ h => h))
 obtain ⟨aa, ca, ea⟩ := row_form0 hA.row
 rw [uh HLA] at ea
 subst ea
 clear hA hMA hBA hk5 HT4 HK4
 go_wp2_with fail
 go_loopw [9] (fun i wr => ∃ j : Nat, j ≤ nn ∧ i = .int .i64 j ∧ Hid (Keeps (fun _ => False) w5 wr)) (fun i _ => nn - (intOf i).toNat)
 case atStart => exact ⟨0, by omega, rfl, Keeps.refl _ _⟩
 case round =>
  obtain ⟨j, hj, rfl, HK⟩ := hrel
  by_cases hjn : j < nn
  ·obtain ⟨base, hTr⟩ : ∃ base, OwnS wr base (.slice ta t.length tc) t := ⟨_, by rw [uh HNN]; exact owns_keeps (uh HT5) (uh HK) (fun _ _ h => h)⟩
   have hjt : j < t.length := by rw [uh HNN]; exact hjn
   rcases own_script hTr with ⟨_, h2⟩ | ⟨g, cap, e1, hcap, hsc, hltg, hbg, hmax⟩
   ·rw [h2] at hjt; simp at hjt
   injection e1 with e2 _ e3
   subst e2 e3
   obtain ⟨xa, hxa⟩ : ∃ xa, la[j]? = some xa := ⟨la[j]'(by rw [uh HLA]; omega), List.getElem?_eq_getElem _⟩
   have hAr := (uh HA5).keeps (uh HK) (fun _ _ h => h)
   obtain ⟨ga, hga, d0, d1, _⟩ := ans_cells hAr j xa hxa
   subst hga
   have HCD := hide (codes_at hAr (uh HMA))
   have HNA := hide (hAr.nums xa (List.mem_of_getElem? hxa))
   have HXA := hide (show (runM ws0 t)[j]? = some (xa.code, xa.nums) by rw [← uh HMA, List.getElem?_map, hxa]; rfl)
   obtain ⟨c0, c1, c2⟩ := opAt_cells hsc hjt
   rw [Nat.zero_add] at c0 c1 c2
   have hgal : ga < wr.heap.size := World.block_lt_of_cell? wr _ d0
   have HBD := hide (least_data t (uh HOKT) j hjt)
   obtain ⟨cs, hcs⟩ : ∃ cs, codesOf t = cs := ⟨_, rfl⟩
   have hcl : cs.length = t.length := by rw [← hcs, codesOf_length]
   rw [hcs] at HCD HBD
   have HITM := hide (show ∀ (w' : World) (fr to : Int), Keeps (fun _ => False) wr w' → Calls Tryz.prog 27 #[.slice (some ⟨g, 0, none⟩) nn tc, .slice (some ⟨ga, 0, none⟩) nn ca, .int .i64 j, .int .i64 (opAt t j).id, .int .i64 fr, .int .i64 to] w' fun r w'' => ∃ v, r = .returned v ∧ OwnS w'' w'.heap.size v (itemsD t cs (opAt t j).id fr to j) ∧ Keeps (fun _ => False) w' w'' from fun w' fr to hk' => by
      have := items_any g 0 tc ga ca t cs j (opAt t j).id fr to w' (hsc.keepsM hk' (fun h => h)) (Nat.lt_of_lt_of_le hgal hk'.size) ((uh HCD).keeps hk' (fun h => h)) (by omega) hcl (by rw [uh HNN]; omega)
      rw [uh HNN] at this
      exact this)
   have HCLK := hide (show ∀ (w' : World), Keeps (fun _ => False) wr w' → Calls Tryz.prog 26 #[.slice (some ⟨g, 0, none⟩) nn tc, .slice (some ⟨ga, 0, none⟩) nn ca, .int .i64 j] w' fun r w'' => r = .returned (.int .i64 (clockD t cs j)) ∧ w'' = w' from fun w' hk' => by
      have := clock_any g 0 tc ga ca t cs j w' (hsc.keepsM hk' (fun h => h)) ((uh HCD).keeps hk' (fun h => h)) (by omega) hcl (by rw [uh HNN]; omega)
      rw [uh HNN] at this
      exact this)
   have HCFG := hide (show Calls Tryz.prog 25 #[.slice (some ⟨g, 0, none⟩) nn tc, .slice (some ⟨ga, 0, none⟩) nn ca, .int .i64 j, .int .i64 (opAt t j).id] wr fun r w' => r = .returned (.tuple #[.agg ((configD t cs (opAt t j).id j).getD cfg0).cells.toArray, .bool (configD t cs (opAt t j).id j).isSome]) ∧ Keeps (fun _ => False) wr w' by
      have := config_any g 0 tc ga ca t cs j (opAt t j).id wr hsc (uh HCD) (by omega) hcl (by rw [uh HNN]; omega)
      rw [uh HNN] at this
      exact this)
   have HIL := hide (show ∀ fr to, (itemsD t cs (opAt t j).id fr to j).length ≤ j from fun fr to => itemsD_length t cs _ fr to j)
   generalize opAt t j = o at *
   generalize configD t cs o.id j = C at *
   generalize clockD t cs j = clk at *
   have hj0 : (0 : Int) ≤ (j : Int) := by omega
   have hj1 : (j : Int) < (nn : Int) := by omega
   clear hsc hcap hbg hmax hTr hjt hAr hxa hcs hcl
   go_wp2_with fail
   refine (uh HCFG).mono ?_
   rintro r w6 ⟨rfl, hk6⟩
   obtain ⟨cc, hcc⟩ : ∃ cc, C.getD cfg0 = cc := ⟨_, rfl⟩
   rw [hcc]
   have HCC := hide hcc
   clear hcc
   have hst : ∀ zs : List Value, zs.length = 20 → (storeBig 38 (.pointer (some ⟨w6.heap.size, 0, none⟩)) (.agg cc.cells.toArray)).run Tryz.prog (w6.alloc (.cells zs.toArray 38)) = .ok .skip (w6.alloc (.cells cc.cells.toArray 38)) := fun zs hz => run_store38 w6 zs cc.cells hz rfl (by simp [Cfg.cells, Value.oneCell'])
   have HB7 := hide (Blk.new w6 cc.cells 38)
   have hk7 := hk6.alloc (.cells cc.cells.toArray 38)
   have HK7 := hide hk7
   have b0 : (w6.alloc (.cells cc.cells.toArray 38)).cell? ⟨g, j * 26, none⟩ = some (.int .i64 o.kind) := hk7.cell c0 (fun h => h)
   have b1 : (w6.alloc (.cells cc.cells.toArray 38)).cell? ⟨w6.heap.size, 0, none⟩ = some (.int .i64 cc.kind) := (uh HB7).cell rfl
   have b2 : (w6.alloc (.cells cc.cells.toArray 38)).cell? ⟨g, j * 26 + 2, none⟩ = some (.int .i64 o.a) := hk7.cell c2 (fun h => h)
   have HKW := hide (show ∀ w', Keeps (fun _ => False) wr w' → Keeps (fun _ => False) w5 w' from fun w' h => (uh HK).then h)
   clear hk6 hk7
   cases h4 : (o.kind != 4)
   ·cases h5 : C.isSome
    ·go_wp2
     go_roundw
     case rel => exact ⟨j + 1, by omega, by go_num, uh HKW _ (uh HK7)⟩
     case measure => simp [intOf]; omega
    ·cases h6 : (cc.kind != 3)
     ·cases h7 : decide (o.a < 0)
      ·cases h8 : decide (2147483648 < o.a)
       ·have h4' : o.kind = 4 := by simpa using h4
        have h6' : cc.kind = 3 := by simpa using h6
        have h7' : 0 ≤ o.a := by simpa using h7
        have h8' : o.a ≤ 2147483648 := by simpa using h8
        have hC : C = some cc := by
         have := uh HCC
         cases C with
         | none => cases h5
         | some z => rw [← this]; rfl
        obtain ⟨⟨k0, k1⟩, ⟨l0, l1⟩, ⟨ww0, ww1⟩, est, hest, hlow, hhigh⟩ := uh HBD h4' cc hC h6' (by simp [inB, h7', h8'])
        have HEST := hide hest
        have HLOW := hide hlow
        have HHIGH := hide hhigh
        clear hest hlow hhigh hC h4' h6' HBD
        have b5 : (w6.alloc (.cells cc.cells.toArray 38)).cell? ⟨w6.heap.size, 1, none⟩ = some (.int .i64 cc.lag) := (uh HB7).cell rfl
        have hwl : IntKind.i64.wrap (clk - cc.lag) = clk - cc.lag := by rw [IntKind.wrap_i64]; omega
        have HCLK8 := hide (show ∀ n, Calls Tryz.prog 26 #[.slice (some ⟨g, 0, none⟩) nn tc, .slice (some ⟨ga, 0, none⟩) nn ca, .int .i64 j] ((w6.alloc (.cells cc.cells.toArray 38)).drewN n) fun r w'' => r = .returned (.int .i64 clk) ∧ w'' = (w6.alloc (.cells cc.cells.toArray 38)).drewN n from fun n => uh HCLK _ ((uh HK7).then (Keeps.drewN _ _ _)))
        go_wp2_with fail
        go_quiet (first | (go_at_call 26; refine Calls.quiet_of_same (uh HCLK8 _)))
        have HK9 := hide ((uh HK7).then (Keeps.drewN (fun _ => False) (w6.alloc (.cells cc.cells.toArray 38)) nq))
        have HB9 := hide ((uh HB7).keeps (Keeps.drewN (fun _ => False) (w6.alloc (.cells cc.cells.toArray 38)) nq) (fun h => h))
        clear b0 b1 b2 b5 HCLK8
        generalize (w6.alloc (.cells cc.cells.toArray 38)).drewN nq = W9 at *
        obtain ⟨mk, hmk⟩ : ∃ mk, clk - cc.lag = mk := ⟨_, rfl⟩
        rw [hmk] at HLOW HHIGH
        have hfr : IntKind.i64.wrap (mk - cc.window) = mk - cc.window := by rw [IntKind.wrap_i64]; omega
        have f1 : W9.cell? ⟨g, j * 26 + 1, none⟩ = some (.int .i64 o.id) := (uh HK9).cell c1 (fun h => h)
        have f2 : W9.cell? ⟨w6.heap.size, 5, none⟩ = some (.int .i64 cc.window) := (uh HB9).cell rfl
        clear hwl
        go_wp2_with fail
        go_region_held3 (fun w' => w'.cell? ⟨g, j * 26 + 1, none⟩ = some (.int .i64 o.id) ∧ w'.cell? ⟨w6.heap.size, 5, none⟩ = some (.int .i64 cc.window))
         (first | (simp [*]; done) | (go_split_ands; exact ⟨hk10.cell (by assumption) (fun h => h), hk10.cell (by assumption) (fun h => h)⟩))
         (first | (go_at_call 27; refine (uh HITM _ (mk - cc.window) mk (by exact (uh HK9).then (Keeps.refl (fun _ => False) W9).drew)).mono ?_; rintro r w10 ⟨iv, rfl, hown10, hk10⟩))
        have HK10 := hide ((uh HK9).then (((Keeps.refl (fun _ => False) W9).drew).then hk10))
        obtain ⟨ia, icap, hiv⟩ := row_form0 hown10
        have hil := uh HIL (mk - cc.window) mk
        have HOW := hide hown10
        generalize hLL : itemsD t cs o.id (mk - cc.window) mk j = LL at *
        generalize hln : LL.length = il at *
        have HLN := hide hln
        subst hiv
        clear hk10 hown10 f1 f2 hln hLL
        go_wp2_with fail
        go_loopw [14, 15] (fun n i wz => ∃ kk : Nat, kk ≤ il ∧ i = .int .i64 kk ∧ n = .int .i64 (keyN o.a (LL.take kk)) ∧ Hid (Keeps (fun _ => False) w10 wz)) (fun _ i _ => il - (intOf i).toNat)
        case atStart => exact ⟨0, by omega, rfl, rfl, Keeps.refl _ _⟩
        case round =>
         obtain ⟨kk, hkk, rfl, rfl, HKZ⟩ := hrel
         have hkb := keyN_le o.a (LL.take kk)
         have hkl : ((LL.take kk).length : Int) ≤ il := by rw [List.length_take]; have := uh HLN; omega
         by_cases hki : kk < il
         ·have hzO := owns_keeps (uh HOW) (uh HKZ) (fun _ _ h => h)
          rcases own_script hzO with ⟨_, h2⟩ | ⟨gi, icp, e1, hic, hsci, _, _, _⟩
          ·have := uh HLN; rw [h2] at this; simp at this; omega
          have hkL : kk < LL.length := by rw [uh HLN]; exact hki
          have u3 := b_at hsci hkL
          rw [Nat.zero_add] at u3
          rw [uh HLN] at e1
          injection e1 with e2 _ e3
          subst e2 e3
          have HTK := hide (show keyN o.a (LL.take (kk + 1)) = keyN o.a (LL.take kk) + if ((opAt LL kk).b == o.a) = true then 1 else 0 by rw [take_opAt hkL, keyN_snoc])
          have u2 : wr.cell? ⟨g, j * 26 + 2, none⟩ = some (.int .i64 o.a) := ((uh HK10).then (uh HKZ)).cell c2 (fun h => h)
          generalize (opAt LL kk).b = bb at *
          generalize keyN o.a (LL.take kk) = kn at *
          have hkk0 : (0 : Int) ≤ (kk : Int) := by omega
          have hkk1 : (kk : Int) < (il : Int) := by omega
          have hwk : IntKind.i64.wrap (kn + 1) = kn + 1 := by rw [IntKind.wrap_i64]; omega
          clear hsci hzO hkL
          cases hbb : (bb == o.a)
          ·rw [hbb] at HTK
           go_wp2_with fail
           go_quiet (fail)
           go_wp2
           go_roundw
           case rel => exact ⟨kk + 1, by omega, by go_num, by rw [uh HTK]; simp, hide ((uh HKZ).then (Keeps.drewN _ _ _))⟩
           case measure => simp [intOf]; omega
          ·rw [hbb, if_pos rfl] at HTK
           go_wp2_with fail
           go_quiet (fail)
           go_wp2
           go_roundw
           case rel => exact ⟨kk + 1, by omega, by go_num, by rw [uh HTK], hide ((uh HKZ).then (Keeps.drewN _ _ _))⟩
           case measure => simp [intOf]; omega
         ·have hke : kk = il := by omega
          subst hke
          have hfl : LL.take kk = LL := List.take_of_length_le (by rw [uh HLN]; omega)
          rw [hfl] at hkb ⊢
          have hf : decide ((kk : Int) < (kk : Int)) = false := by simp
          have f1 : wr.cell? ⟨g, j * 26 + 1, none⟩ = some (.int .i64 o.id) := ((uh HK10).then (uh HKZ)).cell c1 (fun h => h)
          have hlow := uh HLOW
          obtain ⟨kn, hkn⟩ : ∃ kn, keyN o.a LL = kn := ⟨_, rfl⟩
          rw [hkn] at hlow hkb ⊢
          go_wp2_with fail
          refine (uh HITM _ (-1) mk ((uh HK10).then (uh HKZ))).mono ?_
          rintro r w11 ⟨uv, rfl, hown11, hk11⟩
          have HK11 := hide (((uh HK10).then (uh HKZ)).then hk11)
          obtain ⟨ua, ucap, huv⟩ := row_form0 hown11
          have hul := uh HIL (-1) mk
          have hhigh := uh HHIGH
          generalize (itemsD t cs o.id (-1) mk j).length = ul at *
          subst huv
          have hest := uh HEST
          rw [uh HXA] at hest
          have hx1 : xa.code = 0 ∧ xa.nums = [est] := by simpa using hest
          obtain ⟨hxc, hxn⟩ := hx1
          have hnr := ownsR_keeps (uh HNA) (uh HK11)
          rw [hxn] at hnr
          obtain ⟨gn, ncp, hnv, hn0⟩ : ∃ gn ncp, xa.nv = .slice (some ⟨gn, 0, none⟩) 1 ncp ∧ w11.cell? ⟨gn, 0, none⟩ = some (.int .i64 est) := by
           rcases num_cells hnr with ⟨h, _⟩ | ⟨g1, cp1, hv1, hn1⟩
           ·cases h
           ·exact ⟨g1, cp1, hv1, hn1 0 (by simp)⟩
          have i0 : w11.cell? ⟨ga, j * 3, none⟩ = some (.int .i64 0) := by rw [← hxc]; exact (uh HK11).cell d0 (fun h => h)
          have i1 : w11.cell? ⟨ga, j * 3 + 1, none⟩ = some (.slice (some ⟨gn, 0, none⟩) 1 ncp) := by rw [← hnv]; exact (uh HK11).cell d1 (fun h => h)
          have g1 : decide (est < kn) = false := by simp; omega
          have g2 : decide ((ul : Int) < est) = false := by simp; omega
          clear hk11 hown11 hest hxc hxn hnr hnv f1 hlow hhigh
          go_wp2
          go_roundw
          case rel => exact ⟨j + 1, by omega, by go_num, hide (uh HKW _ (uh HK11))⟩
          case measure => simp [intOf]; omega
       ·go_wp2
        go_roundw
        case rel => exact ⟨j + 1, by omega, by go_num, uh HKW _ (uh HK7)⟩
        case measure => simp [intOf]; omega
      ·go_wp2
       go_roundw
       case rel => exact ⟨j + 1, by omega, by go_num, uh HKW _ (uh HK7)⟩
       case measure => simp [intOf]; omega
     ·go_wp2
      go_roundw
      case rel => exact ⟨j + 1, by omega, by go_num, uh HKW _ (uh HK7)⟩
      case measure => simp [intOf]; omega
   ·go_wp2
    go_roundw
    case rel => exact ⟨j + 1, by omega, by go_num, uh HKW _ (uh HK7)⟩
    case measure => simp [intOf]; omega
  ·have hjE : j = nn := by omega
   subst hjE
   have hf : decide ((j : Int) < (j : Int)) = false := by simp
   go_wp2
   go_ret
   exact ⟨rfl, (uh HK5).then (uh HK)⟩
end Go.Proofs.YtahnliehdjncdaaGreatDoor
