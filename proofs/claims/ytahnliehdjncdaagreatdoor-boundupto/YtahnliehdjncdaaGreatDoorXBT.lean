import Derived.Test.YtahnliehdjncdaaGreatDoorXBS
set_option maxRecDepth 100000
set_option maxHeartbeats 16000000
namespace Go.Proofs.YtahnliehdjncdaaGreatDoor
open Go.RowKit
attribute [local go_sem ↓] execOp_load38 execOp_load40 execOp_store40 execOp_bs22 execOp_build40 execOp_store38
attribute [local go_sem] run_load38 run_load40 bigVal_drew hasBig_drew bigVal_ne hasBig_ne bigVal_alloc hasBig_alloc run_bs1
attribute [local go_sem ↓ 2000] execOp_appS
attribute [local go_sem ↓] Go.wp_at_zero Go.wp_at_succ
def qOp (id a : Int) : OpM := ⟨4, id, a, 0, 0, cfg0, noBytes⟩
theorem run_q40 (id a : Int) (w : World) : (buildBig 40 #[(0, .int .i64 4), (1, .int .i64 id), (2, .int .i64 a)]).run Tryz.prog w = .ok (.value (.agg (qOp id a).cells.toArray)) w := by kernel_rfl
attribute [local go_sem] run_q40
theorem run_bsq (id a : Int) (w : World) : (bsBig 22 1 #[(0, .agg #[.int .i64 4, .int .i64 id, .int .i64 a, .int .i64 0, .int .i64 0, .int .i64 0, .int .i64 0, .int .i64 0, .int .i64 0, .int .i64 0, .int .i64 0, .int .i64 0, .int .i64 0, .int .i64 0, .int .i64 0, .int .i64 0, .int .i64 0, .int .i64 0, .int .i64 0, .int .i64 0, .int .i64 0, .int .i64 0, .int .i64 0, .int .i64 0, .int .i64 0, .string ⟨#[]⟩])]).run Tryz.prog w = .ok (.value (.slice (some ⟨w.heap.size, 0, none⟩) 1 1)) (w.alloc (.cells #[.int .i64 4, .int .i64 id, .int .i64 a, .int .i64 0, .int .i64 0, .int .i64 0, .int .i64 0, .int .i64 0, .int .i64 0, .int .i64 0, .int .i64 0, .int .i64 0, .int .i64 0, .int .i64 0, .int .i64 0, .int .i64 0, .int .i64 0, .int .i64 0, .int .i64 0, .int .i64 0, .int .i64 0, .int .i64 0, .int .i64 0, .int .i64 0, .int .i64 0, .string ⟨#[]⟩] 40)) := by kernel_rfl
attribute [local go_sem] run_bsq
theorem win_at {w : World} {sb so : Nat} {ops : List OpM} (h : ScriptAt w sb so ops) {i : Nat} (hi : i < ops.length) : w.cell? ⟨sb, so + i * 26 + 10, none⟩ = some (.int .i64 (opAt ops i).cfg.window) := by
 have e : opAt ops i = ops[i] := by simp [opAt, List.getD_eq_getElem?_getD, List.getElem?_eq_getElem hi]
 rw [e]
 exact h i ops[i] (List.getElem?_eq_getElem hi) 10 _ rfl
theorem codes_at {w : World} {base g n cap : Nat} {l : List Ans} {t : List OpM} (h : ARep w base (.slice (some ⟨g, 0, none⟩) n cap) l) (hm : l.map (fun x => (x.code, x.nums)) = runM ws0 t) : CodesAt w g (codesOf t) := by
 intro i hi
 have hl : l.length = t.length := by have := congrArg List.length hm; rwa [List.length_map, runM_length] at this
 rw [codesOf_length] at hi
 obtain ⟨x, hx⟩ : ∃ x, l[i]? = some x := ⟨l[i]'(by omega), List.getElem?_eq_getElem _⟩
 obtain ⟨g', e, a0, _, _⟩ := ans_cells h i x hx
 have e1 : some (x.code, x.nums) = (runM ws0 t)[i]? := by rw [← hm, List.getElem?_map, hx]; rfl
 have e2 : codeAt (codesOf t) i = x.code := by
  unfold codeAt codesOf
  rw [List.getD_eq_getElem?_getD, List.getElem?_map, ← e1]
  rfl
 rw [e2]
 injection e with e3
 injection e3 with e3
 rw [e3]
 exact a0
theorem bound_any (v : Value) (wd : Int) (ops : List OpM) (w : World) (hv : ScriptW w v ops) (hlen : ops.length ≤ 325781223000) (hT : Tab w) (wd0 : -9223372036854775808 ≤ wd) (wd1 : wd ≤ 9223372036854775807) :
  Calls Tryz.prog 8 #[v, .int .i64 wd] w fun r w' => r = .returned (.bool true) ∧ Keeps (fun _ => False) w w' := by
 have HV := hide hv
 have HTT := hide hT
 clear hv hT
 go_enter Tryz.func8, Tryz.ntmps8
 go_wp2_with fail
 refine (counting_any _ (uh HTT)).mono ?_
 rintro r w1 ⟨rfl, hk1⟩
 have HK1 := hide hk1
 clear hk1
 go_wp2_with fail
 refine (without_any v ops w1 ((uh HV).keeps (uh HK1)) (by omega)).mono ?_
 rintro r w3 ⟨sv, rfl, hO, hk3, -⟩
 have HO3 := hide hO
 have HK3 := hide ((uh HK1).then hk3)
 have hle : (ops.filter OpM.noLoad).length ≤ 325781223000 := by have := List.length_filter_le OpM.noLoad ops; omega
 have HOK := hide (show OkRun (ops.filter OpM.noLoad) from fun o ho => by
    have := (List.mem_filter.1 ho).2
    simpa [OpM.noLoad] using this)
 clear hk3 hO
 generalize hs : ops.filter OpM.noLoad = s at *
 clear hs
 obtain ⟨sa, sc, es⟩ := row_form0 (uh HO3)
 generalize hn : s.length = n at *
 have HN := hide hn
 clear hn
 subst es
 go_wp2_with fail
 go_loopw [8, 9] (fun l i wr => ∃ (k m c : Nat) (ad : Option Addr) (B : List OpM), k ≤ n ∧ i = .int .i64 k ∧ l = .slice ad m c ∧ Hid (OwnS wr w3.heap.size l B) ∧ Hid (B.length ≤ k) ∧ Hid (∀ o, o ∈ B → o.kind = 4) ∧ Hid (Keeps (fun _ => False) w3 wr)) (fun _ i _ => n - (intOf i).toNat)
 case atStart => exact ⟨0, 0, 0, none, [], by omega, rfl, rfl, World.ownsRow_nil _ _ _ _, Nat.le_refl _, fun o ho => (by cases ho), Keeps.refl _ _⟩
 case round =>
  obtain ⟨k, m, c, ad, B, hk, rfl, rfl, HB, HBL, HB4, HK⟩ := hrel
  by_cases hkn : k < n
  ·have hO3r : OwnS wr w1.heap.size (.slice sa s.length sc) s := by rw [uh HN]; exact owns_keeps (uh HO3) (uh HK) (fun _ _ h => h)
   rcases own_script hO3r with ⟨_, h2⟩ | ⟨g, cap, e1, hcap, hsc, hltg, hbg, hmax⟩
   ·have := uh HN; rw [h2] at this; simp at this; omega
   rw [uh HN] at e1 hcap
   injection e1 with e2 _ e3
   subst e2 e3
   have hi : k < s.length := by rw [uh HN]; exact hkn
   obtain ⟨c0, c1, _⟩ := opAt_cells hsc hi
   have cw := win_at hsc hi
   rw [Nat.zero_add] at c0 c1 cw
   generalize opAt s k = o at *
   have hk0 : (0 : Int) ≤ (k : Int) := by omega
   have hkn' : (k : Int) < (n : Int) := by omega
   clear hsc hbg hmax hcap hi hltg hO3r
   cases h1 : (o.kind == 1)
   ·go_wp2
    go_roundw
    case rel => exact ⟨k + 1, m, c, ad, B, by omega, by go_num, rfl, HB, by show B.length ≤ k + 1; have := uh HBL; omega, HB4, HK⟩
    case measure => simp [intOf]; omega
   ·cases h2 : decide (0 < o.cfg.window)
    ·go_wp2
     go_roundw
     case rel => exact ⟨k + 1, m, c, ad, B, by omega, by go_num, rfl, HB, by show B.length ≤ k + 1; have := uh HBL; omega, HB4, HK⟩
     case measure => simp [intOf]; omega
    ·have hw0 : 0 < o.cfg.window := by simpa using h2
     generalize o.cfg.window = W at *
     have hm' : m = B.length := by
      obtain ⟨_, _, e⟩ := row_form0 (uh HB)
      injection e
     subst hm'
     have HAPP := hide (show ∀ a : Int, ∃ gg cap' w9, (∀ t, (appS t (.slice ad B.length c) (.slice (some ⟨wr.heap.size, 0, none⟩) 1 1)).run Tryz.prog (wr.alloc (.cells #[.int .i64 4, .int .i64 o.id, .int .i64 a, .int .i64 0, .int .i64 0, .int .i64 0, .int .i64 0, .int .i64 0, .int .i64 0, .int .i64 0, .int .i64 0, .int .i64 0, .int .i64 0, .int .i64 0, .int .i64 0, .int .i64 0, .int .i64 0, .int .i64 0, .int .i64 0, .int .i64 0, .int .i64 0, .int .i64 0, .int .i64 0, .int .i64 0, .int .i64 0, .string ⟨#[]⟩] 40)).drew = .ok (.value (.slice (some ⟨gg, 0, none⟩) (B.length + 1) cap')) w9) ∧ OwnS w9 w3.heap.size (.slice (some ⟨gg, 0, none⟩) (B.length + 1) cap') (B ++ [qOp o.id a]) ∧ Keeps (fun _ => False) w3 w9 from fun a => by
        have hsz := (uh HK).size
        have hbl := uh HBL
        have hown : OwnS (wr.alloc (.cells (qOp o.id a).cells.toArray 40)).drew w3.heap.size (.slice ad B.length c) B := owns_keeps (uh HB) (((Keeps.refl (fun _ => False) wr).alloc _).drew) (fun _ _ h => h)
        obtain ⟨gg, cap', w9, h1, h2, h3⟩ := run_appS (wr.alloc (.cells (qOp o.id a).cells.toArray 40)).drew w3.heap.size (.slice ad B.length c) B wr.heap.size (qOp o.id a) hown (heap_alloc_new wr _) (by omega) (by show w3.heap.size ≤ (wr.alloc _).heap.size; simp; omega)
        exact ⟨gg, cap', w9, h1, h2, ((((uh HK).alloc _).drew).grown h3 (fun j hj => Or.inr (by have := ((uh HB).lt j hj).1; omega)))⟩)
     go_wp2_with fail
     go_region_with (go_at_call 18; refine (pick_big wd W _ (by omega) wd0 wd1).mono ?_; rintro r wq ⟨pk, hpk, rfl, hwq⟩; rw [hwq]; clear hwq wq; obtain ⟨gg, cap', w9, hrun, hown9, hk9⟩ := uh HAPP (IntKind.i64.wrap (1 + (pk : Int))))
     all_goals
      go_wp2
      go_roundw
      case rel => exact ⟨k + 1, _, _, _, B ++ [qOp o.id (IntKind.i64.wrap (1 + (pk : Int)))], by omega, by go_num, rfl, hown9, (by show (B ++ [_]).length ≤ k + 1; rw [List.length_append]; have := uh HBL; simp; omega), fun z hz => (by rcases List.mem_append.1 hz with h | h; exact uh HB4 z h; rw [List.mem_singleton] at h; rw [h]; rfl), hk9⟩
      case measure => simp [intOf]; omega
  ·have HSW := hide (show ScriptW wr (.slice sa n sc) s from by
      have h : OwnS wr w1.heap.size (.slice sa s.length sc) s := by rw [uh HN]; exact owns_keeps (uh HO3) (uh HK) (fun _ _ h => h)
      rw [← uh HN]
      exact own_scriptW h)
   have HBW := hide (own_scriptW (uh HB))
   have hlb : B.length ≤ n := by have := uh HBL; omega
   have HOKT := hide (show OkRun (s ++ B) from fun o ho => by
      rcases List.mem_append.1 ho with h | h
      ·exact uh HOK o h
      ·have := uh HB4 o h; omega)
   have HKR := hide ((uh HK3).then (uh HK))
   clear HO3 HB HBL HB4 HK HK3 HOK
   go_wp2_with fail
   refine (with_any _ _ s B wr (uh HSW) (uh HBW) (by rw [uh HN]; omega)).mono ?_
   rintro r w4 ⟨tv, rfl, hT4, hk4⟩
   have htl : (s ++ B).length ≤ 651562446000 := by rw [List.length_append, uh HN]; omega
   have HT4 := hide hT4
   have HK4 := hide ((uh HKR).then hk4)
   clear hT4 hk4 HSW HBW HKR hkn
   generalize hst : s ++ B = t at *
   clear hst
   obtain ⟨ta, tc, et⟩ := row_form0 (uh HT4)
   generalize hm2 : t.length = nn at *
   have HNN := hide hm2
   clear hm2
   subst et
   go_wp2_with fail
   refine (run_script' _ t w4 (by have h := own_scriptW (uh HT4); exact h) (by rw [uh HNN]; omega) ((uh HTT).keeps (uh HK4) (fun h => h)) (uh HOKT)).mono ?_
   rintro r w5 ⟨va, la, rfl, hA, hMA, hBA, hk5⟩
   have HLA := hide (show la.length = nn by
      have := congrArg List.length hMA
      rwa [List.length_map, runM_length, uh HNN] at this)
   have HA5 := hide hA
   have HMA := hide hMA
   have HK5 := hide ((uh HK4).then hk5)
   have HT5 := hide (owns_keeps (uh HT4) hk5 (fun _ _ h => h))
   obtain ⟨aa, ca, ea⟩ := row_form0 hA.row
   rw [uh HLA] at ea
   subst ea
   clear hA hMA hBA hk5 HT4 HK4
   go_wp2_with fail
   go_loopw [11] (fun i wr => ∃ j : Nat, j ≤ nn ∧ i = .int .i64 j ∧ Hid (Keeps (fun _ => False) w5 wr)) (fun i _ => nn - (intOf i).toNat)
   case atStart => exact ⟨0, by omega, rfl, Keeps.refl _ _⟩
   case round =>
    obtain ⟨j, hj, rfl, HK⟩ := hrel
    by_cases hjn : j < nn
    ·obtain ⟨base, hTr⟩ : ∃ base, OwnS wr base (.slice ta t.length tc) t := ⟨_, by rw [uh HNN]; exact owns_keeps (uh HT5) (uh HK) (fun _ _ h => h)⟩
     have hjt : j < t.length := by rw [uh HNN]; exact hjn
     rcases own_script hTr with ⟨_, h2⟩ | ⟨g, cap, e1, hcap, hsc, hltg, hbg, hmax⟩
     ·rw [h2] at hjt; simp at hjt
     injection e1 with e2 _ e3
     subst e2 e3
     obtain ⟨xa, hxa⟩ : ∃ xa, la[j]? = some xa := ⟨la[j]'(by rw [uh HLA]; omega), List.getElem?_eq_getElem _⟩
     have hAr := (uh HA5).keeps (uh HK) (fun _ _ h => h)
     obtain ⟨ga, hga, d0, d1, _⟩ := ans_cells hAr j xa hxa
     subst hga
     have HCD := hide (codes_at hAr (uh HMA))
     have HNA := hide (hAr.nums xa (List.mem_of_getElem? hxa))
     have HXA := hide (show (runM ws0 t)[j]? = some (xa.code, xa.nums) by rw [← uh HMA, List.getElem?_map, hxa]; rfl)
     have HSC := hide hsc
     obtain ⟨c0, c1, c2⟩ := opAt_cells hsc hjt
     rw [Nat.zero_add] at c0 c1 c2
     have hgal : ga < wr.heap.size := World.block_lt_of_cell? wr _ d0
     have HBD := hide (bound_data t (uh HOKT) (by rw [uh HNN]; omega) j hjt)
     obtain ⟨cs, hcs⟩ : ∃ cs, codesOf t = cs := ⟨_, rfl⟩
     have hcl : cs.length = t.length := by rw [← hcs, codesOf_length]
     rw [hcs] at HCD HBD
     have HCL := hide hcl
     have HITM := hide (show ∀ (w' : World) (fr to : Int), Keeps (fun _ => False) wr w' → Calls Tryz.prog 27 #[.slice (some ⟨g, 0, none⟩) nn tc, .slice (some ⟨ga, 0, none⟩) nn ca, .int .i64 j, .int .i64 (opAt t j).id, .int .i64 fr, .int .i64 to] w' fun r w'' => ∃ v, r = .returned v ∧ OwnS w'' w'.heap.size v (itemsD t cs (opAt t j).id fr to j) ∧ Keeps (fun _ => False) w' w'' from fun w' fr to hk' => by
        have := items_any g 0 tc ga ca t cs j (opAt t j).id fr to w' (hsc.keepsM hk' (fun h => h)) (Nat.lt_of_lt_of_le hgal hk'.size) ((uh HCD).keeps hk' (fun h => h)) (by omega) hcl (by rw [uh HNN]; omega)
        rw [uh HNN] at this
        exact this)
     have HCLK := hide (show ∀ (w' : World), Keeps (fun _ => False) wr w' → Calls Tryz.prog 26 #[.slice (some ⟨g, 0, none⟩) nn tc, .slice (some ⟨ga, 0, none⟩) nn ca, .int .i64 j] w' fun r w'' => r = .returned (.int .i64 (clockD t cs j)) ∧ w'' = w' from fun w' hk' => by
        have := clock_any g 0 tc ga ca t cs j w' (hsc.keepsM hk' (fun h => h)) ((uh HCD).keeps hk' (fun h => h)) (by omega) hcl (by rw [uh HNN]; omega)
        rw [uh HNN] at this
        exact this)
     have HCFG := hide (show Calls Tryz.prog 25 #[.slice (some ⟨g, 0, none⟩) nn tc, .slice (some ⟨ga, 0, none⟩) nn ca, .int .i64 j, .int .i64 (opAt t j).id] wr fun r w' => r = .returned (.tuple #[.agg ((configD t cs (opAt t j).id j).getD cfg0).cells.toArray, .bool (configD t cs (opAt t j).id j).isSome]) ∧ Keeps (fun _ => False) wr w' by
        have := config_any g 0 tc ga ca t cs j (opAt t j).id wr hsc (uh HCD) (by omega) hcl (by rw [uh HNN]; omega)
        rw [uh HNN] at this
        exact this)
     have HIL := hide (show ∀ fr to, (itemsD t cs (opAt t j).id fr to j).length ≤ j from fun fr to => itemsD_length t cs _ fr to j)
     generalize opAt t j = o at *
     generalize configD t cs o.id j = C at *
     generalize clockD t cs j = clk at *
     have hj0 : (0 : Int) ≤ (j : Int) := by omega
     have hj1 : (j : Int) < (nn : Int) := by omega
     clear hsc hcap hbg hmax hTr hjt hAr hxa hcs hcl
     go_wp2_with fail
     refine (uh HCFG).mono ?_
     rintro r w6 ⟨rfl, hk6⟩
     obtain ⟨cc, hcc⟩ : ∃ cc, C.getD cfg0 = cc := ⟨_, rfl⟩
     rw [hcc]
     have HCC := hide hcc
     clear hcc
     have hst : ∀ zs : List Value, zs.length = 20 → (storeBig 38 (.pointer (some ⟨w6.heap.size, 0, none⟩)) (.agg cc.cells.toArray)).run Tryz.prog (w6.alloc (.cells zs.toArray 38)) = .ok .skip (w6.alloc (.cells cc.cells.toArray 38)) := fun zs hz => run_store38 w6 zs cc.cells hz rfl (by simp [Cfg.cells, Value.oneCell'])
     have HB7 := hide (Blk.new w6 cc.cells 38)
     have hk7 := hk6.alloc (.cells cc.cells.toArray 38)
     have HK7 := hide hk7
     have b0 : (w6.alloc (.cells cc.cells.toArray 38)).cell? ⟨g, j * 26, none⟩ = some (.int .i64 o.kind) := hk7.cell c0 (fun h => h)
     have b1 : (w6.alloc (.cells cc.cells.toArray 38)).cell? ⟨w6.heap.size, 0, none⟩ = some (.int .i64 cc.kind) := (uh HB7).cell rfl
     have HKW := hide (show ∀ w', Keeps (fun _ => False) wr w' → Keeps (fun _ => False) w5 w' from fun w' h => (uh HK).then h)
     clear hk6 hk7
     cases h4 : (o.kind != 4)
     ·cases h5 : C.isSome
      ·go_wp2
       go_roundw
       case rel => exact ⟨j + 1, by omega, by go_num, uh HKW _ (uh HK7)⟩
       case measure => simp [intOf]; omega
      ·cases h6 : (cc.kind != 1)
       ·have h4' : o.kind = 4 := by simpa using h4
        have h6' : cc.kind = 1 := by simpa using h6
        have hC : C = some cc := by
         have := uh HCC
         cases C with
         | none => cases h5
         | some z => rw [← this]; rfl
        obtain ⟨⟨k0, k1⟩, ⟨l0, l1⟩, ⟨kk0, kk1⟩, ⟨ww0, ww1⟩, hno, hyes⟩ := uh HBD h4' cc hC h6'
        have HNO := hide hno
        have HYES := hide hyes
        clear hno hyes hC h4' h6' HBD
        have b2 : (w6.alloc (.cells cc.cells.toArray 38)).cell? ⟨g, j * 26 + 2, none⟩ = some (.int .i64 o.a) := (uh HK7).cell c2 (fun h => h)
        have b3 : (w6.alloc (.cells cc.cells.toArray 38)).cell? ⟨w6.heap.size, 5, none⟩ = some (.int .i64 cc.window) := (uh HB7).cell rfl
        have b4 : (w6.alloc (.cells cc.cells.toArray 38)).cell? ⟨ga, j * 3, none⟩ = some (.int .i64 xa.code) := (uh HK7).cell d0 (fun h => h)
        cases hin : inB o.a 1 cc.window
        ·have hxc : xa.code = 13 := by
          have := uh HNO hin
          rw [uh HXA] at this
          simpa using (congrArg (fun z => z.map Prod.fst) this)
         rw [hxc] at b4
         cases h7 : decide (o.a < 1)
         ·have h8 : decide (cc.window < o.a) = true := by
           have : ¬ (1 ≤ o.a ∧ o.a ≤ cc.window) := by simpa [inB] using hin
           have : ¬ o.a < 1 := by simpa using h7
           simp; omega
          clear hin
          go_wp2_with fail
          go_quiet (fail)
          go_wp2
          go_roundw
          case rel => exact ⟨j + 1, by omega, by go_num, hide (uh HKW _ ((uh HK7).then (Keeps.drewN _ _ _)))⟩
          case measure => simp [intOf]; omega
         ·clear hin
          go_wp2_with fail
          go_quiet (fail)
          go_wp2
          go_roundw
          case rel => exact ⟨j + 1, by omega, by go_num, hide (uh HKW _ ((uh HK7).then (Keeps.drewN _ _ _)))⟩
          case measure => simp [intOf]; omega
        ·have hab := inB_iff hin
         obtain ⟨ab0, ab1⟩ := hab
         have h7 : decide (o.a < 1) = false := by simp; omega
         have h8 : decide (cc.window < o.a) = false := by simp; omega
         have b5 : (w6.alloc (.cells cc.cells.toArray 38)).cell? ⟨w6.heap.size, 1, none⟩ = some (.int .i64 cc.lag) := (uh HB7).cell rfl
         have hwl : IntKind.i64.wrap (clk - cc.lag) = clk - cc.lag := by rw [IntKind.wrap_i64]; omega
         have HYES2 := hide (uh HYES hin)
         clear hin HYES HNO
         go_wp2_with fail
         go_quiet (fail)
         rename_i nq
         have HK8 := hide ((uh HK7).then (Keeps.drewN (fun _ => False) (w6.alloc (.cells cc.cells.toArray 38)) nq))
         have HB8 := hide ((uh HB7).keeps (Keeps.drewN (fun _ => False) (w6.alloc (.cells cc.cells.toArray 38)) nq) (fun h => h))
         clear b0 b1 b2 b3 b4 b5
         generalize (w6.alloc (.cells cc.cells.toArray 38)).drewN nq = W8 at *
         have e5 : W8.cell? ⟨w6.heap.size, 1, none⟩ = some (.int .i64 cc.lag) := (uh HB8).cell rfl
         have HCLK8 := hide (show ∀ n, Calls Tryz.prog 26 #[.slice (some ⟨g, 0, none⟩) nn tc, .slice (some ⟨ga, 0, none⟩) nn ca, .int .i64 j] (W8.drewN n) fun r w'' => r = .returned (.int .i64 clk) ∧ w'' = W8.drewN n from fun n => uh HCLK _ ((uh HK8).then (Keeps.drewN _ _ _)))
         go_wp2_with fail
         go_quiet (first | (go_at_call 26; refine Calls.quiet_of_same (uh HCLK8 _)))
         have HK9 := hide ((uh HK8).then (Keeps.drewN (fun _ => False) W8 nq))
         have HB9 := hide ((uh HB8).keeps (Keeps.drewN (fun _ => False) W8 nq) (fun h => h))
         clear e5 HCLK8
         generalize W8.drewN nq = W9 at *
         obtain ⟨mk, hmk⟩ : ∃ mk, clk - cc.lag = mk := ⟨_, rfl⟩
         rw [hmk] at HYES2
         have hfr : IntKind.i64.wrap (mk - o.a) = mk - o.a := by rw [IntKind.wrap_i64]; omega
         have f1 : W9.cell? ⟨g, j * 26 + 1, none⟩ = some (.int .i64 o.id) := (uh HK9).cell c1 (fun h => h)
         have f2 : W9.cell? ⟨g, j * 26 + 2, none⟩ = some (.int .i64 o.a) := (uh HK9).cell c2 (fun h => h)
         clear hwl
         go_wp2_with fail
         go_region_held3 (fun w' => w'.cell? ⟨g, j * 26 + 1, none⟩ = some (.int .i64 o.id) ∧ w'.cell? ⟨g, j * 26 + 2, none⟩ = some (.int .i64 o.a))
          (first | (simp [*]; done) | (go_split_ands; exact ⟨hk10.cell (by assumption) (fun h => h), hk10.cell (by assumption) (fun h => h)⟩))
          (first | (go_at_call 27; refine (uh HITM _ (mk - o.a) mk (by exact (uh HK9).then (Keeps.refl (fun _ => False) W9).drew)).mono ?_; rintro r w10 ⟨iv, rfl, hown10, hk10⟩))
         have HK10 := hide ((uh HK9).then (((Keeps.refl (fun _ => False) W9).drew).then hk10))
         have HB10 := hide ((uh HB9).keeps (((Keeps.refl (fun _ => False) W9).drew).then hk10) (fun h => h))
         obtain ⟨ia, icap, hiv⟩ := row_form0 hown10
         obtain ⟨est, hest, es0, es1, hbound⟩ := uh HYES2
         have hil := uh HIL (mk - o.a) mk
         rw [uh HXA] at hest
         have hx1 : xa.code = 0 ∧ xa.nums = [est] := by simpa using hest
         obtain ⟨hxc, hxn⟩ := hx1
         have hnr := ownsR_keeps (uh HNA) (uh HK10)
         rw [hxn] at hnr
         obtain ⟨gn, ncp, hnv, hn0⟩ : ∃ gn ncp, xa.nv = .slice (some ⟨gn, 0, none⟩) 1 ncp ∧ w10.cell? ⟨gn, 0, none⟩ = some (.int .i64 est) := by
          rcases num_cells hnr with ⟨h, _⟩ | ⟨g1, cp1, hv1, hn1⟩
          ·cases h
          ·exact ⟨g1, cp1, hv1, hn1 0 (by simp)⟩
         generalize (itemsD t cs o.id (mk - o.a) mk j).length = il at *
         subst hiv
         have i0 : w10.cell? ⟨ga, j * 3, none⟩ = some (.int .i64 0) := by rw [← hxc]; exact (uh HK10).cell d0 (fun h => h)
         have i1 : w10.cell? ⟨ga, j * 3 + 1, none⟩ = some (.slice (some ⟨gn, 0, none⟩) 1 ncp) := by rw [← hnv]; exact (uh HK10).cell d1 (fun h => h)
         have i2 : w10.cell? ⟨w6.heap.size, 4, none⟩ = some (.int .i64 cc.k) := (uh HB10).cell rfl
         have hdb : 0 ≤ distD est il ∧ distD est il ≤ 8796093022208 := by unfold distD; split <;> omega
         have HDS := hide (show ∀ n, Calls Tryz.prog 28 #[.int .i64 est, .int .i64 il] (w10.drewN n) fun r w' => r = .returned (.int .i64 (distD est il)) ∧ w' = w10.drewN n from fun n => distance_any est il _ (by omega) (by omega) (by omega) (by omega))
         obtain ⟨dd, hdd⟩ : ∃ dd, distD est il = dd := ⟨_, rfl⟩
         rw [hdd] at HDS hdb hbound
         obtain ⟨dd0, dd1⟩ := hdb
         have hm0 : 0 ≤ cc.k * dd := Int.mul_nonneg (by omega) (by omega)
         have hm1 : cc.k * dd ≤ 10 * 8796093022208 := Int.mul_le_mul (by omega) (by omega) (by omega) (by omega)
         have hwm2 : IntKind.i64.wrap (cc.k * dd) = cc.k * dd := by rw [IntKind.wrap_i64]; omega
         have hgt : decide ((il : Int) < cc.k * dd) = false := by simp; omega
         clear hk10 hown10 hest hxc hxn hnr hnv hdd f1 f2 hbound
         go_wp2_with fail
         go_quiet (first | (go_at_call 28; refine Calls.quiet_of_same (uh HDS _)))
         go_wp2
         go_roundw
         case rel => exact ⟨j + 1, by omega, by go_num, hide (uh HKW _ ((uh HK10).then (Keeps.drewN _ _ _)))⟩
         case measure => simp [intOf]; omega
       ·go_wp2
        go_roundw
        case rel => exact ⟨j + 1, by omega, by go_num, uh HKW _ (uh HK7)⟩
        case measure => simp [intOf]; omega
     ·go_wp2
      go_roundw
      case rel => exact ⟨j + 1, by omega, by go_num, uh HKW _ (uh HK7)⟩
      case measure => simp [intOf]; omega
    ·have hjE : j = nn := by omega
     subst hjE
     have hf : decide ((j : Int) < (j : Int)) = false := by simp
     go_wp2
     go_ret
     exact ⟨rfl, (uh HK5).then (uh HK)⟩
end Go.Proofs.YtahnliehdjncdaaGreatDoor
