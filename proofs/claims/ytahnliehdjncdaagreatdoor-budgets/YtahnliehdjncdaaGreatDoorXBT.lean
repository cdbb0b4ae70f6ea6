import Derived.Test.YtahnliehdjncdaaGreatDoorXBS
set_option maxRecDepth 100000
set_option maxHeartbeats 16000000
namespace Go.Proofs.YtahnliehdjncdaaGreatDoor
open Go.RowKit
attribute [local go_sem ↓] execOp_load38 execOp_load40 execOp_store40 execOp_bs22
attribute [local go_sem] run_load38 run_load40 bigVal_drew hasBig_drew bigVal_ne hasBig_ne bigVal_alloc hasBig_alloc
def IntsW (w : World) (base : Nat) (v : Value) (l : List Int) : Prop := ((∃ a c, v = .slice a 0 c) ∧ l = []) ∨ ∃ b off cap, v = .slice (some ⟨b, off, none⟩) l.length cap ∧ 0 < l.length ∧ l.length ≤ 140737488355328 ∧ b < base ∧ ∀ (i : Nat) u, l[i]? = some u → w.cell? ⟨b, off + i, none⟩ = some (.int .i64 u) ∧ -9223372036854775808 ≤ u ∧ u ≤ 9223372036854775807
theorem IntsW.keeps {w w' : World} {base : Nat} {v : Value} {l : List Int} (h : IntsW w base v l) {M : Nat → Prop} (hk : Keeps M w w') (hM : ∀ i, M i → base ≤ i) : IntsW w' base v l := by
 rcases h with h | ⟨b, off, cap, h1, h2, h3, hb, h4⟩
 ·exact .inl h
 ·refine .inr ⟨b, off, cap, h1, h2, h3, hb, fun i u hu => ⟨hk.cell (h4 i u hu).1 (fun hm => ?_), (h4 i u hu).2⟩⟩
  have h6 := hM b hm
  omega
theorem opFlat_set (l : List OpM) (i : Nat) (o : OpM) (u : Int) (h : l[i]? = some o) : opFlat (l.set i { o with b := u }) = (opFlat l).set (i * 26 + 3) (.int .i64 u) := by
 induction l generalizing i with
 | nil => simp at h
 | cons a l ih =>
  have hc : ∀ a : OpM, ∀ l, opFlat (a :: l) = a.cells ++ opFlat l := fun a l => by simp [opFlat]
  have hl : a.cells.length = 26 := rfl
  cases i with
  | zero =>
   have : a = o := by simpa using h
   subst this
   rw [List.set_cons_zero, hc, hc, List.set_append, if_pos (by omega)]
   rfl
  | succ i =>
   rw [List.set_cons_succ, hc, hc, ih i (by simpa using h), List.set_append, if_neg (by omega)]
   congr 2
   omega
theorem own_set {w : World} {base g n cap i : Nat} {T : List OpM} {o : OpM} {u : Int} (hn : T.length = n) (h : OwnS w base (.slice (some ⟨g, 0, none⟩) n cap) T) (ho : T[i]? = some o) : OwnS (w.setCell ⟨g, i * 26 + 3, none⟩ (.int .i64 u)) base (.slice (some ⟨g, 0, none⟩) n cap) (T.set i { o with b := u }) := by
 rcases h.2 with ⟨h1, _⟩ | ⟨g', cap', cur, h1, h2, h3, h4, h5, h6, h7⟩
 ·cases h1
 ·rw [hn] at h1 h4 h7
  injection h1 with h8 h9 h10
  injection h8 with h8
  injection h8 with h8
  subst h8 h10
  refine ⟨by rw [opFlat_length], .inr ⟨g, cap, (cur.toList.set (i * 26 + 3) (.int .i64 u)).toArray, by rw [List.length_set, hn], h2, ?_, by rw [List.length_set, hn]; exact h4, h5, by simpa using h6, ?_⟩⟩
  ·have hb : Blk w g cur.toList 40 := by unfold Blk; simpa using h3
   exact hb.setCell (i * 26 + 3) (.int .i64 u)
  ·rw [List.length_set, hn, opFlat_set T i o u ho, ← h7]
   simp only [List.take_set]
theorem op_at {w : World} {sb so : Nat} {ops : List OpM} (h : ScriptAt w sb so ops) {i : Nat} {o : OpM} (ho : ops[i]? = some o) : w.cell? ⟨sb, so + i * 26, none⟩ = some (.int .i64 o.kind) ∧ w.cell? ⟨sb, so + i * 26 + 3, none⟩ = some (.int .i64 o.b) := by
 have h0 := h i o ho 0 _ rfl
 have h3 := h i o ho 3 _ rfl
 exact ⟨by simpa using h0, by simpa using h3⟩
theorem like_kind {o o' : OpM} (h : likeO o o') : o'.kind = o.kind := by
 rcases h with rfl | ⟨_, _, b, _, rfl⟩ <;> rfl
theorem like_ok {s T : List OpM} (hl : s.length = T.length) (h : ∀ (j : Nat) o o', s[j]? = some o → T[j]? = some o' → likeO o o') (hok : OkRun s) : OkRun T := by
 intro o ho
 obtain ⟨j, hj⟩ := List.mem_iff_getElem?.1 ho
 have hlt : j < s.length := by rw [hl]; exact (List.getElem?_eq_some_iff.1 hj).1
 have h1 := List.getElem?_eq_getElem hlt
 rw [like_kind (h j _ o h1 hj)]
 exact hok _ (List.getElem_mem hlt)
theorem runB_at {s : WS} {ops : List OpM} {j : Nat} {o : OpM} {b : ByteArray} (ho : ops[j]? = some o) (h6 : o.kind ≠ 6) (hb : (runB s ops)[j]? = some b) : b = noBytes := by
 induction ops generalizing s j with
 | nil => simp at ho
 | cons a l ih =>
  cases j with
  | zero =>
   simp only [List.getElem?_cons_zero, Option.some.injEq] at ho
   subst ho
   unfold runB bytesM at hb
   rw [if_neg h6] at hb
   simpa using hb.symm
  | succ j =>
   unfold runB at hb
   exact ih (by simpa using ho) (by simpa using hb)
theorem bud_any (v bv : Value) (ops : List OpM) (bs : List Int) (w : World) (hv : ScriptW w v ops) (hb : IntsW w w.heap.size bv bs) (hlen : ops.length ≤ 651562446088) (hT : Tab w) :
  Calls Tryz.prog 9 #[v, bv] w fun r w' => r = .returned (.bool true) ∧ Keeps (fun _ => False) w w' := by
 have HV := hide hv
 have HBU := hide hb
 have HTT := hide hT
 clear hv hb hT
 go_enter Tryz.func9, Tryz.ntmps9
 go_wp2_with fail
 refine (awake_any _ (uh HTT)).mono ?_
 rintro r w1 ⟨rfl, hk1⟩
 have HK1 := hide hk1
 clear hk1
 go_wp2_with fail
 refine (counting_any _ ((uh HTT).keeps (uh HK1) (fun h => h))).mono ?_
 rintro r w2 ⟨rfl, hk2⟩
 have HK2 := hide ((uh HK1).then hk2)
 clear hk2 HK1
 go_wp2_with fail
 refine (without_any v ops w2 ((uh HV).keeps (uh HK2)) (by omega)).mono ?_
 rintro r w3 ⟨sv, rfl, hO, hk3, -⟩
 have HO3 := hide hO
 have HK3 := hide ((uh HK2).then hk3)
 have HSW3 := hide (own_scriptW hO)
 have hle : (ops.filter OpM.noLoad).length ≤ 651562446088 := by have := List.length_filter_le OpM.noLoad ops; omega
 clear hk3 hO HK2
 have HOK := hide (show OkRun (ops.filter OpM.noLoad) from fun o ho => by
    have := (List.mem_filter.1 ho).2
    simpa [OpM.noLoad] using this)
 generalize hs : ops.filter OpM.noLoad = s at *
 clear hs
 go_wp2_with fail
 refine (with_any sv (.slice none 0 0) s [] w3 (uh HSW3) (.inl ⟨⟨_, _, rfl⟩, rfl⟩) (by simp; omega)).mono ?_
 rintro r w4 ⟨tv, rfl, hT, hk4⟩
 rw [List.append_nil] at hT
 have HS4 := hide (owns_keeps (uh HO3) hk4 (fun _ _ h => h))
 have HT4 := hide hT
 have HK4 := hide ((uh HK3).then hk4)
 have HB4 := hide ((uh HBU).keeps ((uh HK3).then hk4) (fun _ h => h.elim))
 have HLT := hide (show ∀ i, sv.ownBlock = some i → i < w3.heap.size from fun i hi => ((uh HO3).lt i hi).2)
 have HSZ := hide (uh HK3).size
 have HSZ4 := hide hk4.size
 clear hT hk4 HK3 HO3 HSW3 HBU HV
 obtain ⟨sa, sc, es⟩ := row_form0 (uh HS4)
 obtain ⟨ta, tc, et⟩ := row_form0 (uh HT4)
 generalize hn : s.length = n at *
 have HN := hide hn
 clear hn
 subst es et
 go_wp2_with fail
 go_loopg [9, 10, 11] (n) (fun gg a b _ wr => ∃ (i kk : Nat) (T : List OpM), a = .int .i64 kk ∧ b = .int .i64 i ∧ i ≤ n ∧ kk ≤ i ∧ n - i = gg ∧ Hid (T.length = n) ∧ Hid (OwnS wr w3.heap.size (.slice ta n tc) T) ∧ Hid (∀ (j : Nat) o o', s[j]? = some o → T[j]? = some o' → likeO o o') ∧ Hid (∀ j, i ≤ j → T[j]? = s[j]?) ∧ Hid (Keeps (fun k => w3.heap.size ≤ k) w4 wr))
 case atStart => exact ⟨0, 0, s, rfl, rfl, by omega, by omega, rfl, HN, HT4, fun j o o' h h' => .inl (by rw [h] at h'; injection h' with h'; exact h'.symm), fun _ _ => rfl, Keeps.refl _ _⟩
 case round =>
  obtain ⟨i, kk, T, rfl, rfl, hi, hkk, hgg, HTN, HTO, HLK, HRS, HKR⟩ := hrel
  have HGG := hide hgg
  clear hgg
  by_cases hin : i < n
  ·obtain ⟨o, ho⟩ : ∃ o, s[i]? = some o := ⟨s[i]'(by rw [uh HN]; exact hin), List.getElem?_eq_getElem _⟩
   have hTo : T[i]? = some o := (uh HRS i (Nat.le_refl _)).trans ho
   rcases own_script (uh HTO) with ⟨_, h2⟩ | ⟨gt, cap, e1, hcap, hsc, hltg, hbg, hmax⟩
   ·have := uh HTN; rw [h2] at this; simp at this; omega
   ·rw [uh HTN] at e1 hcap
    injection e1 with e2 _ e3
    subst e2 e3
    obtain ⟨ck, cb⟩ := op_at hsc hTo
    rw [Nat.zero_add] at ck cb
    have HO := hide ho
    have HTO2 := hide hTo
    have hfz : ∀ j, wr.frozen? ⟨gt, j, none⟩ = false := by
     rcases (uh HTO).2 with ⟨h1, _⟩ | ⟨g', c', cur, h1, _, h3, _⟩
     ·cases h1
     ·injection h1 with h1 _ _
      injection h1 with h1
      injection h1 with h1
      subst h1
      intro j; simp [World.frozen?, h3]
    have hi0 : (0 : Int) ≤ (i : Int) := by omega
    have hi1 : (i : Int) < (n : Int) := by omega
    clear hsc hbg hmax hcap ho hTo
    have hbw := (uh HB4).keeps (uh HKR) (fun k hk => by have := uh HSZ; omega)
    have HBW := hide hbw
    clear hbw
    by_cases hgood : o.kind = 3 ∧ 0 ≤ o.b ∧ o.b ≤ 100 ∧ bs ≠ []
    ·obtain ⟨g1, g2, g3, g4⟩ := hgood
     have HG4 := hide g4
     rcases uh HBW with ⟨_, h2⟩ | ⟨bb, off, bcap, rfl, hb0, hbm, -, hbc⟩
     ·exact absurd h2 g4
     clear g4
     rw [g1] at ck
     have HG1 := hide g1
     obtain ⟨u, hu⟩ : ∃ u, bs[kk % bs.length]? = some u := ⟨bs[kk % bs.length]'(Nat.mod_lt _ hb0), List.getElem?_eq_getElem _⟩
     obtain ⟨hcu, u0, u1⟩ := hbc _ u hu
     generalize hbl : bs.length = bl at *
     have hrl := Nat.mod_lt kk hb0
     obtain ⟨rm, hrm⟩ : ∃ rm : Nat, rm = kk % bl := ⟨_, rfl⟩
     rw [← hrm] at hcu hrl
     have hmod : (kk : Int) % (bl : Int) = (rm : Int) := by rw [hrm]; omega
     have hm0 : (0 : Int) ≤ (rm : Int) := by omega
     have hm1 : (rm : Int) < (bl : Int) := by omega
     have hbl0 : (0 : Int) < (bl : Int) := by omega
     clear hbc hu hbl g1 hrm
     go_wp2_with fail
     refine (pick_any u 101 wr (by omega) (by omega) u0 u1).mono ?_
     rintro r wq ⟨pk, hpk, rfl, hwq⟩
     rw [hwq]
     clear hwq wq hcu
     go_wp2
     go_roundg (n - (i + 1))
     case measure => have := uh HGG; omega
     case rel =>
      have hown := own_set (u := (pk : Int)) (uh HTN) (uh HTO) (uh HTO2)
      refine ⟨i + 1, kk + 1, T.set i { o with b := pk }, by go_num, by go_num, by omega, by omega, rfl, by show _ = _; rw [List.length_set]; exact uh HTN, hown, ?_, ?_, ?_⟩
      ·intro j p p' hp hp'
       by_cases hji : j = i
       ·subst hji
        rw [List.getElem?_set_self (by rw [uh HTN]; exact hin)] at hp'
        rw [uh HO] at hp
        injection hp with hp
        injection hp' with hp'
        refine .inr ⟨by rw [← hp]; exact uh HG1, by rw [← hp]; simp [inB]; omega, pk, by simp [inB]; omega, by rw [← hp, ← hp']⟩
       ·rw [List.getElem?_set_ne (fun h => hji h.symm)] at hp'
        exact uh HLK j p p' hp hp'
      ·intro j hj
       rw [List.getElem?_set_ne (by omega)]
       exact uh HRS j (by omega)
      ·exact (uh HKR).setCell (p := ⟨gt, i * 26 + 3, none⟩) (Or.inl (by
            rcases own_script (uh HTO) with ⟨h1, _⟩ | ⟨g', _, h1, _, _, _, h2, _⟩
            ·cases h1
            ·injection h1 with h1 _ _
             injection h1 with h1
             injection h1 with h1
             show w3.heap.size ≤ gt
             omega)) _
    ·have hbf : ∃ ba bl bc, bv = .slice ba bl bc ∧ (bl = 0 ↔ bs = []) ∧ bl ≤ 140737488355328 := by
      rcases uh HBW with ⟨⟨a, c, h1⟩, h2⟩ | ⟨bb, off, bcap, h1, hb0, hbm, _, _⟩
      ·exact ⟨a, 0, c, h1, by simp [h2], by omega⟩
      ·exact ⟨_, bs.length, bcap, h1, by rw [List.length_eq_zero_iff], hbm⟩
     obtain ⟨ba, bl, bc, rfl, hbl, hbm⟩ := hbf
     have hwalk : ∀ (kb b0 b1 : Bool), (o.kind == 3) = kb → decide (0 ≤ o.b) = b0 → decide (o.b ≤ 100) = b1 → (kb = false ∨ b0 = false ∨ b1 = false ∨ bl = 0) := by
      intro kb b0 b1 h1 h2 h3
      cases kb
      ·exact .inl rfl
      cases b0
      ·exact .inr (.inl rfl)
      cases b1
      ·exact .inr (.inr (.inl rfl))
      ·refine .inr (.inr (.inr (Decidable.byContradiction fun h4 => hgood ⟨by simpa using h1, by simpa using h2, by simpa using h3, fun h5 => h4 (hbl.2 h5)⟩)))
     clear hgood hbl
     cases h1 : (o.kind == 3) <;> cases h2 : decide (0 ≤ o.b) <;> cases h3 : decide (o.b ≤ 100)
     all_goals
      have hw0 := hwalk _ _ _ h1 h2 h3
      clear hwalk
      simp only [Bool.true_eq_false, false_or, true_or, or_true] at hw0
      first
       | (subst hw0)
       | (clear hw0)
      go_wp2
      go_roundg (n - (i + 1))
      case measure => have := uh HGG; omega
      case rel => exact ⟨i + 1, kk, T, rfl, by go_num, by omega, by omega, rfl, HTN, HTO, HLK, fun j hj => uh HRS j (by omega), HKR⟩
  ·have HS5 := hide (owns_keeps (uh HS4) (uh HKR) (fun j hj h => by have := uh HLT j hj; omega))
   have HKW := hide (show Keeps (fun _ => False) w wr from (uh HK4).trans (uh HKR) (fun k hk hlt => by have := uh HSZ; omega))
   have HLK2 := hide (uh HLK)
   clear HRS HGG HT4 HB4 HKR
   go_wp2_with fail
   refine (run_script' _ s wr (own_scriptW (base := w2.heap.size) (by have h := uh HS5; rw [← uh HN] at h ⊢; exact h)) (by rw [uh HN]; omega) ((uh HTT).keeps (uh HKW) (fun h => h)) (uh HOK)).mono ?_
   rintro r w5 ⟨va, la, rfl, hA, hMA, hBA, hk5⟩
   have HBA := hide hBA
   clear hBA
   have HOT := hide (show OkRun T from like_ok (by rw [uh HN, uh HTN]) (uh HLK2) (uh HOK))
   have HA5 := hide hA
   have HMA := hide hMA
   have HLA := hide (show la.length = n by
      have := congrArg List.length hMA
      rwa [List.length_map, runM_length, uh HN] at this)
   have HK5 := hide ((uh HKW).then hk5)
   have HS6 := hide (owns_keeps (uh HS5) hk5 (fun _ _ h => h))
   have HT6 := hide (show ScriptW w5 (.slice ta n tc) T from (own_scriptW (uh HTO)).keeps hk5)
   clear hA hMA hk5 HKW HS5 HTO HS4
   go_wp2_with fail
   refine (run_script' _ T w5 (uh HT6) (by rw [uh HTN]; omega) ((uh HTT).keeps (uh HK5) (fun h => h)) (uh HOT)).mono ?_
   rintro r w6 ⟨vb, lb, rfl, hB, hMB, hBB, hk6⟩
   have HBB := hide hBB
   clear hBB
   have HLB := hide (show lb.length = n by
      have := congrArg List.length hMB
      rwa [List.length_map, runM_length, uh HTN] at this)
   have HMB := hide hMB
   have HK6 := hide ((uh HK5).then hk6)
   have HS7 := hide (owns_keeps (uh HS6) hk6 (fun _ _ h => h))
   have hA6 := (uh HA5).keeps hk6 (fun _ _ h => h)
   obtain ⟨aa, ca, ea⟩ := row_form0 hA6.row
   obtain ⟨ab, cb, eb⟩ := row_form0 hB.row
   rw [uh HLA] at ea
   rw [uh HLB] at eb
   subst ea eb
   have HA6 := hide hA6
   have HB6 := hide hB
   clear hA6 hB hMB hk6 HK5 HS6 HT6 HA5
   go_wp2_with fail
   go_loopw [14, 15] (fun i _ wr => ∃ j : Nat, j ≤ n ∧ i = .int .i64 j ∧ Hid (Keeps (fun _ => False) w6 wr)) (fun i _ _ => n - (intOf i).toNat)
   case atStart => exact ⟨0, by omega, rfl, Keeps.refl _ _⟩
   case round =>
    obtain ⟨j, hj, rfl, HK⟩ := hrel
    by_cases hjn : j < n
    ·obtain ⟨xa, hxa⟩ : ∃ xa, la[j]? = some xa := ⟨la[j]'(by rw [uh HLA]; omega), List.getElem?_eq_getElem _⟩
     obtain ⟨xb, hxb⟩ : ∃ xb, lb[j]? = some xb := ⟨lb[j]'(by rw [uh HLB]; omega), List.getElem?_eq_getElem _⟩
     have hra := run_like s T ws0 ws0 (by rw [uh HN, uh HTN]) (uh HLK2) (uh HOK) rfl j (by rw [uh HN]; exact hjn)
     rw [← uh HMA, ← uh HMB, List.getElem?_map, List.getElem?_map, hxa, hxb] at hra
     have hcode : xa.code = xb.code := by have := hra.1; simpa using this
     have hAr := (uh HA6).keeps (uh HK) (fun _ _ h => h)
     have hBr := (uh HB6).keeps (uh HK) (fun _ _ h => h)
     obtain ⟨ga, rfl, a0, a1, a2⟩ := ans_cells hAr j xa hxa
     obtain ⟨gb, rfl, b0, b1, b2⟩ := ans_cells hBr j xb hxb
     have HNA := hide (hAr.nums xa (List.mem_of_getElem? hxa))
     have HNB := hide (hBr.nums xb (List.mem_of_getElem? hxb))
     have HN9 := hide (show xa.nums.length ≤ 1000 ∧ xb.nums.length ≤ 1000 by
        have h1 : (xa.code, xa.nums) ∈ runM ws0 s := by rw [← uh HMA]; exact List.mem_map_of_mem (f := fun x : Ans => (x.code, x.nums)) (List.mem_of_getElem? hxa)
        have h2 : (xb.code, xb.nums) ∈ runM ws0 T := by rw [← uh HMB]; exact List.mem_map_of_mem (f := fun x : Ans => (x.code, x.nums)) (List.mem_of_getElem? hxb)
        have h3 := runM_nums0 _ (uh HOK) _ h1
        have h4 := runM_nums0 _ (uh HOT) _ h2
        simp only at h3 h4; omega)
     obtain ⟨os, hs1⟩ : ∃ os, s[j]? = some os := ⟨s[j]'(by rw [uh HN]; omega), List.getElem?_eq_getElem _⟩
     have hsw : OwnS w6 w2.heap.size (.slice sa n sc) s := by have h := uh HS7; rw [← uh HN] at h ⊢; exact h
     rcases own_script hsw with ⟨_, h2⟩ | ⟨g, cap, e1, hcap, hsc, hltg, hbg, hmax⟩
     ·have := uh HN; rw [h2] at this; simp at this; omega
     rw [uh HN] at e1 hcap
     injection e1 with e2 _ e3
     subst e2 e3
     have hos : _ := (op_at (hsc.keeps (uh HK)) hs1).1
     rw [Nat.zero_add] at hos
     have hgd : s.getD j o1 = os := by rw [List.getD_eq_getElem?_getD, hs1]; rfl
     rw [hgd] at hra
     have HNUM := hide (show os.kind ≠ 3 → xa.nums = xb.nums from fun h => by have := hra.2 h; simp at this; exact this.2)
     have hbe : os.kind ≠ 6 → xa.bs = noBytes ∧ xb.bs = noBytes := fun h6 => by
      have ha1 : (runB ws0 s)[j]? = some xa.bs := by rw [← uh HBA, List.getElem?_map, hxa]; rfl
      have hb1 : (runB ws0 T)[j]? = some xb.bs := by rw [← uh HBB, List.getElem?_map, hxb]; rfl
      obtain ⟨ot, ht1⟩ : ∃ ot, T[j]? = some ot := ⟨T[j]'(by rw [uh HTN]; omega), List.getElem?_eq_getElem _⟩
      exact ⟨runB_at hs1 h6 ha1, runB_at ht1 (by rw [like_kind (uh HLK2 j os ot hs1 ht1)]; exact h6) hb1⟩
     have HBE := hide hbe
     clear hbe
     rw [hcode] at a0
     obtain ⟨na, nca, ena⟩ := row_form0 (uh HNA)
     obtain ⟨nb, ncb, enb⟩ := row_form0 (uh HNB)
     rw [ena] at HNA a1
     rw [enb] at HNB b1
     clear ena enb hAr hBr hra hgd hs1 hxa hxb hcode hsw hsc hcap hbg hmax
     have hj0 : (0 : Int) ≤ (j : Int) := by omega
     have hj1 : (j : Int) < (n : Int) := by omega
     go_wp2_with fail
     go_region_held3 (fun w' => w'.cell? ⟨ga, j * 3 + 1, none⟩ = some (.slice na xa.nums.length nca) ∧ w'.cell? ⟨gb, j * 3 + 1, none⟩ = some (.slice nb xb.nums.length ncb))
      (first | (simp [*]; done) | (go_split_ands; exact ⟨hk7.cell (by assumption) (fun h => h), hk7.cell (by assumption) (fun h => h)⟩))
      (first | (go_at_call 23; refine (sameN_some _ _ _ _ xa.nums xb.nums _ (by exact owns_keeps (uh HNA) ((Keeps.refl (fun _ => False) wr).drew) (fun _ _ h => h)) (by exact owns_keeps (uh HNB) ((Keeps.refl (fun _ => False) wr).drew) (fun _ _ h => h)) (uh HN9).1 (uh HN9).2).mono ?_; rintro r w7 ⟨bx, rfl, hbx, hk7⟩))
     have hk67 : Keeps (fun _ => False) wr w7 := ((Keeps.refl (fun _ => False) wr).drew).then hk7
     have HK7 := hide ((uh HK).then hk67)
     have c0 : w7.cell? ⟨ga, j * 3, none⟩ = some (.int .i64 xb.code) := hk67.cell a0 (fun h => h)
     have c1 : w7.cell? ⟨gb, j * 3, none⟩ = some (.int .i64 xb.code) := hk67.cell b0 (fun h => h)
     have c2 : w7.cell? ⟨g, j * 26, none⟩ = some (.int .i64 os.kind) := hk67.cell hos (fun h => h)
     have c3 : w7.cell? ⟨ga, j * 3 + 2, none⟩ = some (.string xa.bs) := hk67.cell a2 (fun h => h)
     have c4 : w7.cell? ⟨gb, j * 3 + 2, none⟩ = some (.string xb.bs) := hk67.cell b2 (fun h => h)
     have hcc : (xb.code != xb.code) = false := by simp
     clear hk7 hk67 a0 b0 hos a1 b1 a2 b2
     by_cases h6 : os.kind = 6
     ·have hbt : bx = true := hbx (uh HNUM (by omega))
      subst hbt
      rw [h6] at c2
      clear h6
      generalize xa.bs = ba at *
      generalize xb.bs = bb at *
      cases hbe : (ba.toList == bb.toList)
      ·skip
       go_wp2_with fail
       go_quiet (fail)
       go_wp2
       go_roundw
       case rel => exact ⟨j + 1, by omega, by go_num, hide ((uh HK7).then (Keeps.drewN _ _ _))⟩
       case measure => simp [intOf]; omega
      ·skip
       go_wp2_with fail
       go_quiet (fail)
       go_wp2
       go_roundw
       case rel => exact ⟨j + 1, by omega, by go_num, hide ((uh HK7).then (Keeps.drewN _ _ _))⟩
       case measure => simp [intOf]; omega
     ·obtain ⟨ea, eb⟩ := uh HBE h6
      rw [ea] at c3
      rw [eb] at c4
      clear h6
      cases bx with
      | true =>
       go_wp2_with fail
       go_quiet (fail)
       go_wp2
       go_roundw
       case rel => exact ⟨j + 1, by omega, by go_num, hide ((uh HK7).then (Keeps.drewN _ _ _))⟩
       case measure => simp [intOf]; omega
      | false =>
       have h3 : os.kind = 3 := by
        by_cases h3 : os.kind = 3
        ·exact h3
        ·exact absurd (hbx (uh HNUM h3)) (by simp)
       rw [h3] at c2
       go_wp2_with fail
       go_quiet (fail)
       go_wp2
       go_roundw
       case rel => exact ⟨j + 1, by omega, by go_num, hide ((uh HK7).then (Keeps.drewN _ _ _))⟩
       case measure => simp [intOf]; omega
    ·go_wp2
     go_ret
     exact ⟨rfl, (uh HK6).then (uh HK)⟩
end Go.Proofs.YtahnliehdjncdaaGreatDoor
