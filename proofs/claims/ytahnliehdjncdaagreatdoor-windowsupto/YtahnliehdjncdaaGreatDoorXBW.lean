import Derived.Deep.DeepCutAuto
import Derived.Test.YtahnliehdjncdaaGreatDoorXBV
set_option maxRecDepth 100000
set_option maxHeartbeats 16000000
namespace Go.Proofs.YtahnliehdjncdaaGreatDoor
open Go.RowKit
attribute [local go_sem ↓] execOp_load38 execOp_load40 execOp_store40 execOp_bs22 execOp_build40 execOp_store38
attribute [local go_sem] run_load38 run_load40 bigVal_drew hasBig_drew bigVal_ne hasBig_ne bigVal_alloc hasBig_alloc run_bs1
attribute [local go_sem ↓] Go.wp_at_zero Go.wp_at_succ
theorem asked_some (v : Value) (ops : List OpM) (q : Int) (w : World) (hv : ScriptW w v ops) (hlen : ops.length ≤ 325781223000) :
  Calls Tryz.prog 30 #[v, .int .i64 q] w fun r w' => ∃ v' base t, r = .returned v' ∧ OwnS w' base v' t ∧ OkRun t ∧ t.length ≤ 2 * ops.length ∧ Keeps (fun _ => False) w w' :=
 (askedS_any v ops q w hv hlen).mono fun _ _ ⟨v', base, h1, h2, _, h4⟩ => ⟨v', base, _, h1, h2, askedD_ok ops q, askedD_length ops q, h4⟩
theorem wrap_pow (k : Nat) (h : k ≤ 4) : wrap64 (2 ^ k) = ((2 ^ k : Nat) : Int) := by
 have : k = 0 ∨ k = 1 ∨ k = 2 ∨ k = 3 ∨ k = 4 := by omega
 rcases this with h | h | h | h | h <;> subst h <;> simp [wrap64]
theorem getD_left (G : List Int) (ge : Int) (i : Nat) (hi : i < G.length) : (G ++ [ge]).getD i 0 = G.getD i 0 := by
 rw [List.getD_eq_getElem?_getD, List.getD_eq_getElem?_getD, List.getElem?_append_left hi]
theorem nums_at {w : World} {base : Nat} {v : Value} {l : List Int} (h : w.ownsRow base 3 1 v l.length (ints l)) (hl : l ≠ []) : ∃ g cap, v = .slice (some ⟨g, 0, none⟩) l.length cap ∧ l.length ≤ cap ∧ ∀ i, i < l.length → w.cell? ⟨g, i, none⟩ = some (.int .i64 (l.getD i 0)) := by
 rcases h.2 with ⟨_, h2⟩ | ⟨g, cap, cur, h1, _, h3, h4, h5, h6, h7⟩
 ·exact absurd (List.length_eq_zero_iff.1 h2) hl
 ·refine ⟨g, cap, h1, h4, fun i hi => ?_⟩
  have h8 : (ints l)[i]? = some (.int .i64 (l.getD i 0)) := by
   simp [ints, List.getD_eq_getElem?_getD, List.getElem?_eq_getElem hi]
  rw [← h7, List.getElem?_take, if_pos (by omega)] at h8
  simp [World.cell?, h3]
  simpa using h8
theorem windows_any (v : Value) (key : Int) (ops : List OpM) (w : World) (hv : ScriptW w v ops) (hlen : ops.length ≤ 162890611500) (hT : Tab w) (key0 : -9223372036854775808 ≤ key) (key1 : key ≤ 9223372036854775807) :
  Calls Tryz.prog 13 #[v, .int .i64 key] w fun r w' => r = .returned (.bool true) ∧ Keeps (fun _ => False) w w' := by
 have HV := hide hv
 have HTT := hide hT
 clear hv hT
 go_enter Tryz.func13, Tryz.ntmps13
 go_wp2_with fail
 refine (awake_any _ (uh HTT)).mono ?_
 rintro r w1 ⟨rfl, hk1⟩
 have HK1 := hide hk1
 clear hk1
 go_wp2_with fail
 refine (noting_any _ ((uh HTT).keeps (uh HK1) (fun h => h))).mono ?_
 rintro r w2 ⟨rfl, hk2⟩
 have HK2 := hide ((uh HK1).then hk2)
 clear hk2 HK1
 go_wp2_with fail
 refine (pick_big key 1000 _ (by omega) key0 key1).mono ?_
 rintro r wq ⟨pk, hpk, rfl, hwq⟩
 rw [hwq]
 clear hwq wq
 go_wp2_with fail
 refine (asked_some v ops _ w2 ((uh HV).keeps (uh HK2)) (by omega)).mono ?_
 rintro r w3 ⟨sv, bs0, s, rfl, hS3, _, hsl, hk3⟩
 have HS3 := hide hS3
 have HK3 := hide ((uh HK2).then hk3)
 clear hS3 hk3 HK2
 go_wp2_with fail
 refine (pick_big key 1000 _ (by omega) key0 key1).mono ?_
 rintro r wq ⟨pk2, hpk2, rfl, hwq⟩
 rw [hwq]
 clear hwq wq
 go_wp2_with fail
 refine (asked_some sv s _ w3 (own_scriptW (uh HS3)) (by omega)).mono ?_
 rintro r w4 ⟨tv, bs, t, rfl, hT4, hokt, htl0, hk4⟩
 have htl : t.length ≤ 651562446000 := by omega
 have HOKT := hide hokt
 have HT4 := hide hT4
 have HK4 := hide ((uh HK3).then hk4)
 clear hT4 hk4 hokt HS3 HK3
 obtain ⟨ta, tc, et⟩ := row_form0 (uh HT4)
 generalize hm2 : t.length = nn at *
 have HNN := hide hm2
 clear hm2
 subst et
 go_wp2_with fail
 refine (run_script' _ t w4 (by have h := own_scriptW (uh HT4); exact h) (by rw [uh HNN]; omega) ((uh HTT).keeps (uh HK4) (fun h => h)) (uh HOKT)).mono ?_
 rintro r w5 ⟨va, la, rfl, hA, hMA, hBA, hk5⟩
 have HLA := hide (show la.length = nn by
    have := congrArg List.length hMA
    rwa [List.length_map, runM_length, uh HNN] at this)
 have HA5 := hide hA
 have HMA := hide hMA
 have HK5 := hide ((uh HK4).then hk5)
 have HT5 := hide (owns_keeps (uh HT4) hk5 (fun _ _ h => h))
 obtain ⟨aa, ca, ea⟩ := row_form0 hA.row
 rw [uh HLA] at ea
 subst ea
 clear hA hMA hBA hk5 HT4 HK4
 go_wp2_with fail
 go_loopw [9] (fun i wr => ∃ j : Nat, j ≤ nn ∧ i = .int .i64 j ∧ Hid (Keeps (fun _ => False) w5 wr)) (fun i _ => nn - (intOf i).toNat)
 case atStart => exact ⟨0, by omega, rfl, Keeps.refl _ _⟩
 case round =>
  obtain ⟨j, hj, rfl, HK⟩ := hrel
  generalize wr = wo at *
  by_cases hjn : j < nn
  ·obtain ⟨base, hTr⟩ : ∃ base, OwnS wo base (.slice ta t.length tc) t := ⟨_, by rw [uh HNN]; exact owns_keeps (uh HT5) (uh HK) (fun _ _ h => h)⟩
   have hjt : j < t.length := by rw [uh HNN]; exact hjn
   rcases own_script hTr with ⟨_, h2⟩ | ⟨g, cap, e1, hcap, hsc, hltg, hbg, hmax⟩
   ·rw [h2] at hjt; simp at hjt
   injection e1 with e2 _ e3
   subst e2 e3
   obtain ⟨xa, hxa⟩ : ∃ xa, la[j]? = some xa := ⟨la[j]'(by rw [uh HLA]; omega), List.getElem?_eq_getElem _⟩
   have hAr := (uh HA5).keeps (uh HK) (fun _ _ h => h)
   obtain ⟨ga, hga, d0, d1, _⟩ := ans_cells hAr j xa hxa
   subst hga
   have HCD := hide (codes_at hAr (uh HMA))
   have HNA := hide (hAr.nums xa (List.mem_of_getElem? hxa))
   have HAR := hide hAr
   have HSC := hide hsc
   have HXA := hide (show (runM ws0 t)[j]? = some (xa.code, xa.nums) by rw [← uh HMA, List.getElem?_map, hxa]; rfl)
   obtain ⟨c0, c1, c2⟩ := opAt_cells hsc hjt
   rw [Nat.zero_add] at c0 c1 c2
   have hgal : ga < wo.heap.size := World.block_lt_of_cell? wo _ d0
   have HBD := hide (windows_data t (uh HOKT) j hjt)
   obtain ⟨cs, hcs⟩ : ∃ cs, codesOf t = cs := ⟨_, rfl⟩
   have hcl : cs.length = t.length := by rw [← hcs, codesOf_length]
   have HXC := hide (show codeAt (codesOf t) j = xa.code by unfold codeAt codesOf; rw [List.getD_eq_getElem?_getD, List.getElem?_map, uh HXA]; rfl)
   have HCJ := hide (show ∀ i xb, la[i]? = some xb → codeAt (codesOf t) i = xb.code from fun i xb hb => by
      unfold codeAt codesOf
      rw [List.getD_eq_getElem?_getD, List.getElem?_map, ← uh HMA, List.getElem?_map, hb]; rfl)
   rw [hcs] at HCD HBD HXC HCJ
   have HITM := hide (show ∀ (w' : World) (fr tq : Int), Keeps (fun _ => False) wo w' → Calls Tryz.prog 27 #[.slice (some ⟨g, 0, none⟩) nn tc, .slice (some ⟨ga, 0, none⟩) nn ca, .int .i64 j, .int .i64 (opAt t j).id, .int .i64 fr, .int .i64 tq] w' fun r w'' => ∃ v, r = .returned v ∧ OwnS w'' w'.heap.size v (itemsD t cs (opAt t j).id fr tq j) ∧ Keeps (fun _ => False) w' w'' from fun w' fr tq hk' => by
      have := items_any g 0 tc ga ca t cs j (opAt t j).id fr tq w' (hsc.keepsM hk' (fun h => h)) (Nat.lt_of_lt_of_le hgal hk'.size) ((uh HCD).keeps hk' (fun h => h)) (by omega) hcl (by rw [uh HNN]; omega)
      rw [uh HNN] at this
      exact this)
   have HCLK := hide (show ∀ (w' : World), Keeps (fun _ => False) wo w' → Calls Tryz.prog 26 #[.slice (some ⟨g, 0, none⟩) nn tc, .slice (some ⟨ga, 0, none⟩) nn ca, .int .i64 j] w' fun r w'' => r = .returned (.int .i64 (clockD t cs j)) ∧ w'' = w' from fun w' hk' => by
      have := clock_any g 0 tc ga ca t cs j w' (hsc.keepsM hk' (fun h => h)) ((uh HCD).keeps hk' (fun h => h)) (by omega) hcl (by rw [uh HNN]; omega)
      rw [uh HNN] at this
      exact this)
   have HCFG := hide (show Calls Tryz.prog 25 #[.slice (some ⟨g, 0, none⟩) nn tc, .slice (some ⟨ga, 0, none⟩) nn ca, .int .i64 j, .int .i64 (opAt t j).id] wo fun r w' => r = .returned (.tuple #[.agg ((configD t cs (opAt t j).id j).getD cfg0).cells.toArray, .bool (configD t cs (opAt t j).id j).isSome]) ∧ Keeps (fun _ => False) wo w' by
      have := config_any g 0 tc ga ca t cs j (opAt t j).id wo hsc (uh HCD) (by omega) hcl (by rw [uh HNN]; omega)
      rw [uh HNN] at this
      exact this)
   have HIL := hide (show ∀ fr tq, (itemsD t cs (opAt t j).id fr tq j).length ≤ j from fun fr tq => itemsD_length t cs _ fr tq j)
   generalize hoj : opAt t j = o at *
   have HOJ := hide hoj
   clear hoj
   generalize configD t cs o.id j = C at *
   generalize clockD t cs j = clk at *
   have hj0 : (0 : Int) ≤ (j : Int) := by omega
   have hj1 : (j : Int) < (nn : Int) := by omega
   clear hsc hcap hbg hmax hTr hjt hAr hxa hcs hcl
   go_wp2_with fail
   refine (uh HCFG).mono ?_
   rintro r w6 ⟨rfl, hk6⟩
   obtain ⟨cc, hcc⟩ : ∃ cc, C.getD cfg0 = cc := ⟨_, rfl⟩
   rw [hcc]
   have HCC := hide hcc
   clear hcc
   have hst : ∀ zs : List Value, zs.length = 20 → (storeBig 38 (.pointer (some ⟨w6.heap.size, 0, none⟩)) (.agg cc.cells.toArray)).run Tryz.prog (w6.alloc (.cells zs.toArray 38)) = .ok .skip (w6.alloc (.cells cc.cells.toArray 38)) := fun zs hz => run_store38 w6 zs cc.cells hz rfl (by simp [Cfg.cells, Value.oneCell'])
   have HB7 := hide (Blk.new w6 cc.cells 38)
   have hk7 := hk6.alloc (.cells cc.cells.toArray 38)
   have HK7 := hide hk7
   have b0 : (w6.alloc (.cells cc.cells.toArray 38)).cell? ⟨g, j * 26, none⟩ = some (.int .i64 o.kind) := hk7.cell c0 (fun h => h)
   have b1 : (w6.alloc (.cells cc.cells.toArray 38)).cell? ⟨w6.heap.size, 0, none⟩ = some (.int .i64 cc.kind) := (uh HB7).cell rfl
   have b2 : (w6.alloc (.cells cc.cells.toArray 38)).cell? ⟨g, j * 26 + 2, none⟩ = some (.int .i64 o.a) := hk7.cell c2 (fun h => h)
   have HKW := hide (show ∀ w', Keeps (fun _ => False) wo w' → Keeps (fun _ => False) w5 w' from fun w' h => (uh HK).then h)
   clear hk6 hk7
   have b4 : (w6.alloc (.cells cc.cells.toArray 38)).cell? ⟨ga, j * 3, none⟩ = some (.int .i64 xa.code) := (uh HK7).cell d0 (fun h => h)
   cases h4 : (o.kind != 4)
   ·cases h5 : C.isSome
    ·go_wp2
     go_roundw
     case rel => exact ⟨j + 1, by omega, by go_num, uh HKW _ (uh HK7)⟩
     case measure => simp [intOf]; omega
    ·cases h6 : (cc.kind != 2)
     ·cases h7 : (xa.code != 0)
      ·have h4' : o.kind = 4 := by simpa using h4
       have h6' : cc.kind = 2 := by simpa using h6
       have h7' : xa.code = 0 := by simpa using h7
       have hC : C = some cc := by
        have := uh HCC
        cases C with
        | none => cases h5
        | some z => rw [← this]; rfl
       obtain ⟨⟨k0, k1⟩, ⟨l0, l1⟩, ⟨bt0, bt1⟩, ⟨ab0, ab1⟩, G, ge, hans, hGl, hpos1, hpos2, hall⟩ := uh HBD h4' cc hC h6' ((uh HXC).trans h7')
       have HPOS1 := hide hpos1
       have HPOS2 := hide hpos2
       have HALL := hide hall
       have H4' := hide h4'
       rw [uh HXA] at hans
       have hxn : xa.nums = G ++ [ge] := by simpa using congrArg (fun z => z.map Prod.snd) hans
       obtain ⟨mm, hmm⟩ : ∃ mm : Nat, 2 ^ cc.bits.toNat = mm := ⟨_, rfl⟩
       have hbc : cc.bits.toNat = 1 ∨ cc.bits.toNat = 2 ∨ cc.bits.toNat = 3 ∨ cc.bits.toNat = 4 := by omega
       have hmb : 2 ≤ mm ∧ mm ≤ 16 := by rcases hbc with h | h | h | h <;> rw [h] at hmm <;> omega
       have hshl : wrap64 (2 ^ cc.bits.toNat) = (mm : Int) := by
        rw [← hmm]; exact wrap_pow cc.bits.toNat (by omega)
       have hbI : (cc.bits.toNat : Int) = cc.bits := by omega
       rw [hmm] at HALL hGl
       obtain ⟨m2, m16⟩ := hmb
       have hnr0 := ownsR_keeps (uh HNA) (uh HK7)
       rw [hxn] at hnr0
       obtain ⟨gn, ncp, hnv, hncap, hncells⟩ := nums_at hnr0 (by simp)
       have hnl : (G ++ [ge]).length = mm + 1 := by rw [List.length_append, hGl]; rfl
       rw [hnl] at hnv hncap hncells
       have HNC := hide (show ∀ i, i < mm → (w6.alloc (.cells cc.cells.toArray 38)).cell? ⟨gn, i, none⟩ = some (.int .i64 (G.getD i 0)) from fun i hi => by
          rw [hncells i (Nat.lt_succ_of_lt hi), getD_left G ge i (by rw [hGl]; exact hi)])
       have HGL := hide hGl
       have HNCR := hide (show ∀ i, i < mm → wo.cell? ⟨gn, i, none⟩ = some (.int .i64 (G.getD i 0)) from fun i hi => by
          have hnrR := uh HNA
          rw [hxn] at hnrR
          obtain ⟨gn', ncp', hnv', _, hnc'⟩ := nums_at hnrR (by simp)
          rw [hnl] at hnv' hnc'
          rw [hnv] at hnv'
          injection hnv' with h1
          injection h1 with h1
          injection h1 with h1
          rw [h1, hnc' i (Nat.lt_succ_of_lt hi), getD_left G ge i (by rw [hGl]; exact hi)])
       have b6 : (w6.alloc (.cells cc.cells.toArray 38)).cell? ⟨w6.heap.size, 6, none⟩ = some (.int .i64 cc.bits) := (uh HB7).cell rfl
       have b7 : (w6.alloc (.cells cc.cells.toArray 38)).cell? ⟨ga, j * 3 + 1, none⟩ = some (.slice (some ⟨gn, 0, none⟩) (mm + 1) ncp) := by rw [← hnv]; exact (uh HK7).cell d1 (fun h => h)
       have b5 : (w6.alloc (.cells cc.cells.toArray 38)).cell? ⟨w6.heap.size, 1, none⟩ = some (.int .i64 cc.lag) := (uh HB7).cell rfl
       have d1' : wo.cell? ⟨ga, j * 3 + 1, none⟩ = some (.slice (some ⟨gn, 0, none⟩) (mm + 1) ncp) := by rw [← hnv]; exact d1
       rw [h7'] at b4
       have HHH := hide (show xa.code = 0 from h7')
       clear hans hxn hpos1 hpos2 hall hC h4' h6' h7' HBD hnr0 hnv hncells hnl hmm hbc hGl h7
       go_wp2_with fail
       refine (pick_exact cc.bits 5 _ (by omega) (by omega)).mono ?_
       rintro r wq ⟨rfl, hwq⟩
       rw [hwq]
       clear hwq wq
       have hwl : IntKind.i64.wrap (clk - cc.lag) = clk - cc.lag := by rw [IntKind.wrap_i64]; omega
       have HCLK8 := hide (show ∀ n, Calls Tryz.prog 26 #[.slice (some ⟨g, 0, none⟩) nn tc, .slice (some ⟨ga, 0, none⟩) nn ca, .int .i64 j] ((w6.alloc (.cells cc.cells.toArray 38)).drewN n) fun r w'' => r = .returned (.int .i64 clk) ∧ w'' = (w6.alloc (.cells cc.cells.toArray 38)).drewN n from fun n => uh HCLK _ ((uh HK7).then (Keeps.drewN _ _ _)))
       go_wp2_with fail
       go_quiet (first | (go_at_call 26; refine Calls.quiet_of_same (uh HCLK8 _)))
       have HK9 := hide ((uh HK7).then (Keeps.drewN (fun _ => False) (w6.alloc (.cells cc.cells.toArray 38)) nq))
       have HNC9 := hide (show ∀ i, i < mm → ((w6.alloc (.cells cc.cells.toArray 38)).drewN nq).cell? ⟨gn, i, none⟩ = some (.int .i64 (G.getD i 0)) from fun i hi => (Keeps.drewN (fun _ => False) _ nq).cell (uh HNC i hi) (fun h => h))
       clear b0 b1 b2 b4 b5 b6 b7 HCLK8 HNC
       generalize (w6.alloc (.cells cc.cells.toArray 38)).drewN nq = W9 at *
       obtain ⟨mk, hmk⟩ : ∃ mk, clk - cc.lag = mk := ⟨_, rfl⟩
       rw [hmk] at HPOS1 HPOS2
       have hfr : IntKind.i64.wrap (mk - o.a) = mk - o.a := by rw [IntKind.wrap_i64]; omega
       have f1 : W9.cell? ⟨g, j * 26 + 1, none⟩ = some (.int .i64 o.id) := (uh HK9).cell c1 (fun h => h)
       have f2 : W9.cell? ⟨g, j * 26 + 2, none⟩ = some (.int .i64 o.a) := (uh HK9).cell c2 (fun h => h)
       clear hwl
       go_wp2_with fail
       go_region_held3 (fun w' => w'.cell? ⟨g, j * 26 + 1, none⟩ = some (.int .i64 o.id) ∧ w'.cell? ⟨g, j * 26 + 2, none⟩ = some (.int .i64 o.a))
        (first | (simp [*]; done) | (go_split_ands; exact ⟨hk10.cell (by assumption) (fun h => h), hk10.cell (by assumption) (fun h => h)⟩))
        (first | (go_at_call 27; refine (uh HITM _ (mk - o.a) mk (by exact (uh HK9).then (Keeps.refl (fun _ => False) W9).drew)).mono ?_; rintro r w10 ⟨iv, rfl, hown10, hk10⟩))
       have HK10 := hide ((uh HK9).then (((Keeps.refl (fun _ => False) W9).drew).then hk10))
       have HNC10 := hide (show ∀ i, i < mm → w10.cell? ⟨gn, i, none⟩ = some (.int .i64 (G.getD i 0)) from fun i hi => (((Keeps.refl (fun _ => False) W9).drew).then hk10).cell (uh HNC9 i hi) (fun h => h))
       obtain ⟨ia, icap, hiv⟩ := row_form0 hown10
       have hil := uh HIL (mk - o.a) mk
       generalize (itemsD t cs o.id (mk - o.a) mk j).length = il at *
       subst hiv
       clear hk10 hown10 f1 f2 HNC9
       go_wp2_with fail
       go_loopw [15, 16] (fun n i wz => ∃ kk : Nat, kk ≤ mm ∧ i = .int .i64 kk ∧ n = .int .i64 (posN (G.take kk)) ∧ Hid (Keeps (fun _ => False) w10 wz)) (fun _ i _ => mm - (intOf i).toNat)
       case atStart => exact ⟨0, by omega, rfl, rfl, Keeps.refl _ _⟩
       case round => as_aux_lemma =>
        obtain ⟨kk, hkk, rfl, rfl, HKZ⟩ := hrel
        generalize wr = wz at *
        have hpn : posN (G.take kk) ≤ kk := by
         unfold posN
         have h1 := List.length_filter_le (fun g : Int => decide (0 < g)) (G.take kk)
         rw [List.length_take] at h1
         omega
        by_cases hki : kk < mm
        ·have u1 : wz.cell? ⟨ga, j * 3 + 1, none⟩ = some (.slice (some ⟨gn, 0, none⟩) (mm + 1) ncp) := ((uh HK10).then (uh HKZ)).cell d1' (fun h => h)
         have u2 : wz.cell? ⟨gn, kk, none⟩ = some (.int .i64 (G.getD kk 0)) := (uh HKZ).cell (uh HNC10 kk hki) (fun h => h)
         have HTK := hide (show posN (G.take (kk + 1)) = posN (G.take kk) + if decide (0 < G.getD kk 0) = true then 1 else 0 by
            have hkg : kk < G.length := by rw [uh HGL]; exact hki
            rw [List.take_add_one, List.getElem?_eq_getElem hkg]
            show posN (G.take kk ++ [G[kk]]) = _
            rw [posN_snoc, List.getD_eq_getElem?_getD, List.getElem?_eq_getElem hkg]; rfl)
         generalize G.getD kk 0 = gg at *
         generalize posN (G.take kk) = pn at *
         have hkk0 : (0 : Int) ≤ (kk : Int) := by omega
         have hkk1 : (kk : Int) < (mm : Int) := by omega
         have hkk2 : (kk : Int) < (mm : Int) + 1 := by omega
         cases hgg : decide (0 < gg)
         ·rw [hgg] at HTK
          go_wp2
          go_roundw
          case rel => exact ⟨kk + 1, by omega, by go_num, by rw [uh HTK]; simp, HKZ⟩
          case measure => simp [intOf]; omega
         ·rw [hgg, if_pos rfl] at HTK
          go_wp2
          go_roundw
          case rel => exact ⟨kk + 1, by omega, by go_num, by rw [uh HTK]; go_num, HKZ⟩
          case measure => simp [intOf]; omega
        ·have hke : kk = mm := by omega
         subst hke
         have hfl : G.take kk = G := List.take_of_length_le (by rw [uh HGL]; omega)
         rw [hfl] at hpn ⊢
         have hf : decide ((kk : Int) < (kk : Int)) = false := by simp
         have hp1 := uh HPOS1
         have hp2 := uh HPOS2
         generalize posN G = pn at *
         have g1 : decide ((il : Int) < (pn : Int)) = false := by simp; omega
         have hj1w : IntKind.i64.wrap ((j : Int) + 1) = (j : Int) + 1 := by rw [IntKind.wrap_i64]; omega
         have HCOND := hide (show (il = 0 ∧ pn = 0) ∨ (0 < il ∧ 0 < pn ∧ pn ≤ il) by
            by_cases h0 : 0 < il
            ·right; exact ⟨h0, hp2 h0, hp1⟩
            ·left; omega)
         clear hp1 hp2 g1
         go_upto_region 23 with fail
         go_cut [153] (fun c wx => c = .bool false ∧ wx = wz)
         case first =>
          rcases uh HCOND with ⟨q0, q1⟩ | ⟨q0, q1, q2⟩
          ·subst q0 q1
           clear HCOND
           go_wp2_with fail
           go_meet
           exact ⟨rfl, rfl⟩
          ·clear HCOND
           have g1 : decide ((il : Int) < (pn : Int)) = false := by simp; omega
           have g1n : decide (il < pn) = false := by simp; omega
           have g2 : decide (0 < (il : Int)) = true := by simp; omega
           have g2n : decide (0 < il) = true := by simp; omega
           have g3 : ((pn : Int) == 0) = false := by simp; omega
           have g3n : (pn == 0) = false := by simp; omega
           go_wp2_with fail
           go_meet
           exact ⟨rfl, rfl⟩
         case rest =>
          obtain ⟨rfl, rfl⟩ := hcut
          clear HCOND
          go_wp2_with fail
          go_loopw [17] (fun i wy => ∃ jj : Nat, j < jj ∧ jj ≤ nn ∧ i = .int .i64 jj ∧ Hid (∀ k, j ≤ k → k < jj → (opAt t k).kind = 4) ∧ Hid (Keeps (fun _ => False) wo wy)) (fun i _ => nn - (intOf i).toNat)
          case atStart => exact ⟨j + 1, by omega, by omega, by go_num, hide (fun k h1 h2 => by rw [show k = j by omega, uh HOJ]; exact uh H4'), hide ((uh HK10).then (uh HKZ))⟩
          case round => as_aux_lemma =>
           obtain ⟨jj, hjj, hjjn, rfl, HQ, HKY⟩ := hrel
           generalize wr = wy at *
           have hjj0 : (0 : Int) ≤ (jj : Int) := by omega
           by_cases hlt : jj < nn
           ·have hjt2 : jj < t.length := by rw [uh HNN]; exact hlt
            have hlt' : (jj : Int) < (nn : Int) := by omega
            obtain ⟨y0, y1, y2⟩ := opAt_cells ((uh HSC).keepsM (uh HKY) (fun h => h)) hjt2
            rw [Nat.zero_add] at y0 y1 y2
            obtain ⟨xb, hxb⟩ : ∃ xb, la[jj]? = some xb := ⟨la[jj]'(by rw [uh HLA]; omega), List.getElem?_eq_getElem _⟩
            have hAy := (uh HAR).keeps (uh HKY) (fun _ _ h => h)
            obtain ⟨ga', hga', e0, e1, _⟩ := ans_cells hAy jj xb hxb
            have hgg : ga' = ga := by injection hga' with h1; injection h1 with h2; exact h2.symm
            subst hgg
            have z1 : wy.cell? ⟨g, j * 26 + 1, none⟩ = some (.int .i64 o.id) := (uh HKY).cell c1 (fun h => h)
            have z2 : wy.cell? ⟨g, j * 26 + 2, none⟩ = some (.int .i64 o.a) := (uh HKY).cell c2 (fun h => h)
            have z3 : wy.cell? ⟨ga', j * 3 + 1, none⟩ = some (.slice (some ⟨gn, 0, none⟩) (kk + 1) ncp) := (uh HKY).cell d1' (fun h => h)
            have HDJ := hide (uh HALL jj (by omega) hjt2)
            have HCB := hide (uh HCJ jj xb hxb)
            have HNB := hide (hAy.nums xb (List.mem_of_getElem? hxb))
            have HXB := hide (show (runM ws0 t)[jj]? = some (xb.code, xb.nums) by rw [← uh HMA, List.getElem?_map, hxb]; rfl)
            have HQ2 := hide (show (opAt t jj).kind = 4 → ∀ k, j ≤ k → k < jj + 1 → (opAt t k).kind = 4 from fun h k h1 h2 => by
               by_cases hkj : k = jj
               ·rw [hkj]; exact h
               ·exact uh HQ k h1 (by omega))
            generalize opAt t jj = p at *
            clear hAy hga' hxb hjt2
            cases hp4 : (p.kind == 4)
            ·go_wp2
             go_roundw
             case rel => exact ⟨j + 1, by omega, by go_num, hide (uh HKW _ (uh HKY))⟩
             case measure => simp [intOf]; omega
            ·have hp4' : p.kind = 4 := by simpa using hp4
             have HQ3 := hide (uh HQ2 hp4')
             clear HQ2 hp4'
             cases hpi : (p.id == o.id)
             ·go_wp2_with fail
              go_quiet (fail)
              go_wp2
              go_roundw
              case rel => exact ⟨jj + 1, by omega, by omega, by go_num, HQ3, hide ((uh HKY).then (Keeps.drewN _ _ _))⟩
              case measure => simp [intOf]; omega
             ·cases hpc : (xb.code == 0)
              ·go_wp2_with fail
               go_quiet (fail)
               go_wp2
               go_roundw
               case rel => exact ⟨jj + 1, by omega, by omega, by go_num, HQ3, hide ((uh HKY).then (Keeps.drewN _ _ _))⟩
               case measure => simp [intOf]; omega
              ·have hpc' : xb.code = 0 := by simpa using hpc
               obtain ⟨H, he, hansb, hHl, hnar, hwid⟩ := uh HDJ (fun k h1 h2 => uh HQ3 k h1 (by omega)) (by simpa using hpi) ((uh HCB).trans hpc')
               rw [uh HXB] at hansb
               have hxnb : xb.nums = H ++ [he] := by simpa using congrArg (fun z => z.map Prod.snd) hansb
               have hnrb := uh HNB
               rw [hxnb] at hnrb
               obtain ⟨gb, ncb, hnvb, hncapb, hncb⟩ := nums_at hnrb (by simp)
               have hnlb : (H ++ [he]).length = kk + 1 := by rw [List.length_append, hHl]; rfl
               rw [hnlb] at hnvb hncapb hncb
               rw [hpc'] at e0
               rw [hnvb] at e1
               have hcb : ∀ i, i < kk → wy.cell? ⟨gb, i, none⟩ = some (.int .i64 (H.getD i 0)) := fun i hi => by
                rw [hncb i (Nat.lt_succ_of_lt hi), getD_left H he i (by rw [hHl]; exact hi)]
               have hca : ∀ i, i < kk → wy.cell? ⟨gn, i, none⟩ = some (.int .i64 (G.getD i 0)) := fun i hi => by
                have h1 := uh HNCR i hi
                exact (uh HKY).cell h1 (fun h => h)
               have HM1 := hide (show ∀ W', Keeps (fun _ => False) wy W' → Calls Tryz.prog 32 #[.slice (some ⟨gb, 0, none⟩) kk ncb, .slice (some ⟨gn, 0, none⟩) kk ncp] W' fun e w' => e = .returned (.bool (noMoreB H G)) ∧ ∃ m, w' = W'.drewN m from fun W' hk' => noMore_any gb gn kk ncb ncp H G _ hHl (Nat.le_trans m16 (by decide)) (fun i hi => hk'.cell (hcb i hi) (fun h => h)) (fun i hi => hk'.cell (hca i hi) (fun h => h)))
               have HM2 := hide (show ∀ W', Keeps (fun _ => False) wy W' → Calls Tryz.prog 32 #[.slice (some ⟨gn, 0, none⟩) kk ncp, .slice (some ⟨gb, 0, none⟩) kk ncb] W' fun e w' => e = .returned (.bool (noMoreB G H)) ∧ ∃ m, w' = W'.drewN m from fun W' hk' => noMore_any gn gb kk ncp ncb G H _ (uh HGL) (Nat.le_trans m16 (by decide)) (fun i hi => hk'.cell (hca i hi) (fun h => h)) (fun i hi => hk'.cell (hcb i hi) (fun h => h)))
               have HNAR := hide (show p.a ≤ o.a → noMoreB H G = true from fun h => decide_eq_true (fun k hk => hnar h k (by rw [hHl] at hk; exact hk)))
               have HWID := hide (show o.a ≤ p.a → noMoreB G H = true from fun h => decide_eq_true (fun k hk => hwid h k (by rw [uh HGL] at hk; exact hk)))
               generalize noMoreB H G = nb at *
               generalize noMoreB G H = wb at *
               clear hansb hxnb hnrb hnvb hncb hnlb hcb hca hnar hwid hHl hpc'
               have hw1 : IntKind.i64.wrap ((kk : Int) + 1) = (kk : Int) + 1 := by rw [IntKind.wrap_i64]; omega
               have hpick : (decide (p.a ≤ o.a) = false ∨ (decide (p.a ≤ o.a) = true ∧ nb = true)) ∧ (decide (o.a ≤ p.a) = false ∨ (decide (o.a ≤ p.a) = true ∧ wb = true)) := by
                refine ⟨?_, ?_⟩
                ·by_cases h : p.a ≤ o.a
                 ·right; exact ⟨by simpa using h, uh HNAR h⟩
                 ·left; simpa using h
                ·by_cases h : o.a ≤ p.a
                 ·right; exact ⟨by simpa using h, uh HWID h⟩
                 ·left; simpa using h
               clear HNAR HWID
               have HPICK := hide hpick
               clear hpick
               go_wp2_with fail
               go_quiet (fail)
               have HKA := hide (Keeps.drewN (fun _ => False) wy nq)
               have x1 := (uh HKA).cell e1 (fun h => h)
               have x3 := (uh HKA).cell z3 (fun h => h)
               generalize wy.drewN nq = W1 at *
               go_wp2_with fail
               go_quiet (first | (go_at_call 32; refine Calls.quiet_of (uh HM1 _ ((uh HKA).then (Keeps.drewN _ _ _)))))
               have HKB := hide ((uh HKA).then (Keeps.drewN (fun _ => False) W1 nq))
               clear x1 x3
               have x1 := (uh HKB).cell e1 (fun h => h)
               have x3 := (uh HKB).cell z3 (fun h => h)
               generalize W1.drewN nq = W2 at *
               go_wp2_with fail
               go_quiet (first | (go_at_call 32; refine Calls.quiet_of (uh HM2 _ ((uh HKB).then (Keeps.drewN _ _ _)))))
               have HKC := hide ((uh HKB).then (Keeps.drewN (fun _ => False) W2 nq))
               clear x1 x3
               have x2 := (uh HKC).cell y2 (fun h => h)
               have x4 := (uh HKC).cell z2 (fun h => h)
               generalize W2.drewN nq = W3 at *
               clear y0 y1 y2 z1 z2 z3 e0 e1 HM1 HM2
               obtain ⟨hpk1, hpk2'⟩ := uh HPICK
               rcases hpk1 with r1 | ⟨r1, rfl⟩ <;> rcases hpk2' with r2 | ⟨r2, rfl⟩
               all_goals
                go_wp2_with fail
                go_quiet (fail)
                go_wp2
                go_roundw
                case rel => exact ⟨jj + 1, by omega, by omega, by go_num, HQ3, hide ((uh HKY).then ((uh HKC).then (Keeps.drewN _ _ _)))⟩
                case measure => simp [intOf]; omega
           ·have hje : jj = nn := by omega
            subst hje
            have hff : decide ((jj : Int) < (jj : Int)) = false := by simp
            go_wp2
            go_roundw
            case rel => exact ⟨j + 1, by omega, by go_num, hide (uh HKW _ (uh HKY))⟩
            case measure => simp [intOf]; omega
      ·go_wp2
       go_roundw
       case rel => exact ⟨j + 1, by omega, by go_num, uh HKW _ (uh HK7)⟩
       case measure => simp [intOf]; omega
     ·go_wp2
      go_roundw
      case rel => exact ⟨j + 1, by omega, by go_num, uh HKW _ (uh HK7)⟩
      case measure => simp [intOf]; omega
   ·go_wp2
    go_roundw
    case rel => exact ⟨j + 1, by omega, by go_num, uh HKW _ (uh HK7)⟩
    case measure => simp [intOf]; omega
  ·have hjE : j = nn := by omega
   subst hjE
   have hf : decide ((j : Int) < (j : Int)) = false := by simp
   go_wp2
   go_ret
   exact ⟨rfl, (uh HK5).then (uh HK)⟩
end Go.Proofs.YtahnliehdjncdaaGreatDoor
