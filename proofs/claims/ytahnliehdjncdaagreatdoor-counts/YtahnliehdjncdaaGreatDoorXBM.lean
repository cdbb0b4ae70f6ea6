import Derived.Test.YtahnliehdjncdaaGreatDoorXBL
set_option maxRecDepth 100000
set_option maxHeartbeats 16000000
namespace Go.Proofs.YtahnliehdjncdaaGreatDoor
open Go.RowKit
theorem bucketsE_snoc (c : Cfg) (evs : List REv) (e : REv) : bucketsE c (evs ++ [e]) = stepE c (bucketsE c evs) e := by
 unfold bucketsE; rw [List.foldl_append]; rfl
theorem bucketsE_take (c : Cfg) (evs : List REv) (i : Nat) (e : REv) (h : evs[i]? = some e) : bucketsE c (evs.take (i + 1)) = stepE c (bucketsE c (evs.take i)) e := by
 obtain ⟨hi, he⟩ := List.getElem?_eq_some_iff.1 h
 rw [List.take_succ_eq_append_getElem hi, bucketsE_snoc, he]
structure CfgC (c : Cfg) : Prop where
 k1 : 1 ≤ c.k
 k10 : c.k ≤ 10
 w1 : 1 ≤ c.window
 w2 : c.window ≤ 1000
structure GoodB (n : Int) (l : List Bk) : Prop where
 pb : PB l
 one : ∀ b ∈ l, 1 ≤ b.sz
 sum : sumB l ≤ n
theorem relB_good {c : Cfg} (hc : CfgC c) {n : Int} {l : List Bk} (h : GoodB n l) (t m : Int) : GoodB (n + 1) (relB c l t m) := by
 have h0 := hc.k1
 have hp : ∀ b ∈ putB c l t m, 1 ≤ b.sz := fun b hb => by
  unfold putB at hb
  rcases List.mem_append.1 hb with hb | hb
  ·exact h.one b (List.mem_of_mem_drop hb)
  ·rw [List.mem_singleton] at hb; rw [hb]; exact Int.le_refl _
 have hj := joinL_inv (K := c.k) (by omega) ((putB c l t m).length + 1) (putB c l t m) 1 _ hp (Nat.le_refl _) (by omega)
 refine ⟨relB_PB (by omega) h.pb t m, hj.1, ?_⟩
 unfold relB
 rw [hj.2]
 have h1 := sumB_split l (pastN l (m - c.window))
 have h2 := sumB_nonneg (l := l.take (pastN l (m - c.window))) (fun b hb => h.one b (List.mem_of_mem_take hb))
 have h3 := h.sum
 unfold putB
 rw [sumB_append]
 unfold liveB
 simp only [sumB]
 omega
theorem drop_good {n : Int} {l : List Bk} (h : GoodB n l) (j : Nat) : GoodB n (l.drop j) := by
 refine ⟨h.pb.drop j, fun b hb => h.one b (List.mem_of_mem_drop hb), ?_⟩
 have h1 := sumB_split l j
 have h2 := sumB_nonneg (l := l.take j) (fun b hb => h.one b (List.mem_of_mem_take hb))
 have h3 := h.sum
 omega
theorem GoodB.mono {n m : Int} {l : List Bk} (h : GoodB n l) (hm : n ≤ m) : GoodB m l := ⟨h.pb, h.one, by have := h.sum; omega⟩
theorem stepE_good {c : Cfg} (hc : CfgC c) {n : Int} {l : List Bk} (h : GoodB n l) (e : REv) : GoodB (n + 1) (stepE c l e) := by
 unfold stepE
 split
 ·exact (drop_good h _).mono (by omega)
 ·exact relB_good hc h _ _
theorem nil_good : GoodB 0 [] := ⟨⟨fun i j _ hj => by simp at hj, fun i hi => by simp at hi⟩, by simp, by simp [sumB]⟩
theorem bucketsE_good {c : Cfg} (hc : CfgC c) (evs : List REv) : GoodB evs.length (bucketsE c evs) := by
 suffices h : ∀ (n : Int) (l : List Bk), GoodB n l → GoodB (n + evs.length) (evs.foldl (stepE c) l) by
  have := h 0 [] nil_good
  unfold bucketsE
  simpa using this
 induction evs with
 | nil => intro n l h; simpa using h
 | cons e evs ih =>
  intro n l h
  have := ih (n + 1) (stepE c l e) (stepE_good hc h e)
  rw [List.foldl_cons]
  refine this.mono ?_
  simp only [List.length_cons]; omega
theorem eFlat_get (l : List REv) (i j : Nat) (x : REv) (h : l[i]? = some x) (hj : j < 4) : (eFlat l)[i * 4 + j]? = x.cells[j]? := by
 induction l generalizing i with
 | nil => simp at h
 | cons a l ih =>
  have hc : eFlat (a :: l) = a.cells ++ eFlat l := by simp [eFlat]
  have hl : a.cells.length = 4 := rfl
  rw [hc]
  cases i with
  | zero =>
   have : a = x := by simpa using h
   subst this
   rw [List.getElem?_append_left (by omega)]
   simp
  | succ i =>
   rw [List.getElem?_append_right (by omega)]
   have := ih i (by simpa using h)
   rw [← this]
   congr 1
   omega
theorem ev_cells {w : World} {v : Value} {l : List REv} (h : w.ownsRow 0 159 4 v l.length (eFlat l)) (i : Nat) (z : REv) (hz : l[i]? = some z) :
  ∃ g cap, v = .slice (some ⟨g, 0, none⟩) l.length cap ∧ w.cell? ⟨g, i * 4, none⟩ = some (.int .i64 z.t) ∧ w.cell? ⟨g, i * 4 + 1, none⟩ = some (.int .i64 z.m) ∧ w.cell? ⟨g, i * 4 + 2, none⟩ = some (.bool z.away) ∧ w.cell? ⟨g, i * 4 + 3, none⟩ = some (.int .i64 z.throw) := by
 have hi : i < l.length := (List.getElem?_eq_some_iff.1 hz).1
 rcases h.2 with ⟨h1, h2⟩ | ⟨g, cap, cur, h1, h2, h3, h4, h5, h6, h7⟩
 ·omega
 ·have hc : ∀ j u, j < 4 → z.cells[j]? = some u → w.cell? ⟨g, i * 4 + j, none⟩ = some u := by
   intro j u hj hu
   have hf := eFlat_get l i j z hz hj
   rw [hu, ← h7, List.getElem?_take, if_pos (by omega)] at hf
   have : cur[i * 4 + j]? = some u := by simpa using hf
   simp [World.cell?, h3, this]
  exact ⟨g, cap, h1, hc 0 _ (by omega) rfl, hc 1 _ (by omega) rfl, hc 2 _ (by omega) rfl, hc 3 _ (by omega) rfl⟩
theorem take_rev (q : List Bk) (k : Nat) : q.reverse.take (q.length - k) = (q.drop k).reverse := by
 rw [List.take_reverse]
 by_cases h : k ≤ q.length
 ·rw [show q.length - (q.length - k) = k by omega]
 ·rw [List.drop_eq_nil_of_le (by omega : q.length ≤ q.length - (q.length - k)), List.drop_eq_nil_of_le (by omega)]
theorem bw_cut {w : World} {a : Option Addr} {n cap k : Nat} {q : List Bk} (h : BW w (.slice a n cap) q.reverse) (hn : q.length = n) : BW w (.slice a (n - k) cap) (q.drop k).reverse := by
 rw [← take_rev q k, hn]
 rcases Nat.eq_zero_or_pos n with h0 | h0
 ·have : q = [] := List.length_eq_zero_iff.1 (by omega)
  subst this
  rw [h0]
  exact .inl ⟨⟨a, cap, by simp⟩, by simp⟩
 ·obtain ⟨g, off, rfl, _, _⟩ := bw_some h h0
  exact bw_take (by rw [List.length_reverse]; exact hn) h (by omega)
theorem rbuckets_any (b : RB) (y : RSer) (w : World) (h : RRep w b y) (hc : CfgC y.c) (ho : OkE y.c y.events) (hl : y.events.length ≤ 4398046511103) :
  Calls Tryz.prog 104 #[.pointer (some ⟨b.s, 0, none⟩)] w fun e w' => ∃ v', e = .returned v' ∧ BW w' v' (bucketsE y.c y.events).reverse ∧ Keeps (fun _ => False) w w' := by
 have HR := hide h
 have HC := hide hc
 have HO := hide ho
 obtain ⟨ea, ec, hev⟩ := row_form0 h.evs
 have HEV := hide hev
 generalize hn : y.events.length = n at *
 have HN := hide hn
 clear h hc ho hev hn
 go_enter Tryz.func104, Tryz.ntmps104
 go_wp2_with fail
 go_loopg [3, 4, 5] (n) (fun g a i _ wr => ∃ (k : Nat) (la : Option Addr) (ln lc : Nat), a = .slice la ln lc ∧ i = .int .i64 k ∧ k ≤ n ∧ n - k = g ∧ ln ≤ 4398046511104 ∧ Hid ((bucketsE y.c (y.events.take k)).length = ln) ∧ Hid (BW wr (.slice la ln lc) (bucketsE y.c (y.events.take k)).reverse) ∧ Hid (Keeps (fun _ => False) w wr))
 case atStart => exact ⟨0, none, 0, 0, rfl, rfl, by omega, rfl, by omega, by show _ = _; simp [bucketsE], .inl ⟨⟨_, _, rfl⟩, by simp [bucketsE]⟩, Keeps.refl _ _⟩
 case round =>
  obtain ⟨k, la, ln, lc, rfl, rfl, hk, hg, hln, HLN, HBW, HK⟩ := hrel
  have HG := hide hg
  clear hg
  have HR1 := hide ((uh HR).still (uh HK))
  have s22 : wr.cell? ⟨b.s, 22, none⟩ = some (.slice ea n ec) := by rw [← uh HEV]; exact (uh HR1).blk.cell rfl
  by_cases hkn : k < n
  ·obtain ⟨z, hz⟩ : ∃ z, y.events[k]? = some z := ⟨y.events[k]'(by rw [uh HN]; exact hkn), List.getElem?_eq_getElem _⟩
   obtain ⟨ge, cap, e1, c0, c1, c2, c3⟩ := ev_cells (uh HR1).evs k z hz
   rw [uh HEV, uh HN] at e1
   injection e1 with e1 _ _
   subst e1
   have HBT := hide (bucketsE_take y.c y.events k z hz)
   have HTH := hide ((uh HO).thr k z hz)
   have HMK := hide ((uh HO).mark z (List.mem_of_getElem? hz))
   have HGD := hide (bucketsE_good (uh HC) (y.events.take k))
   have hk0 : (0 : Int) ≤ (k : Int) := by omega
   have hk1 : (k : Int) < (n : Int) := by omega
   have hlt := (uh HR1).blk.lt
   clear hz
   cases haw : z.away with
   | true =>
    obtain ⟨th, hth⟩ : ∃ th : Nat, z.throw = (th : Int) := ⟨z.throw.toNat, by have := uh HTH haw; omega⟩
    have hthl : th ≤ ln := by have := (uh HTH haw).2; rw [uh HLN, hth] at this; omega
    rw [haw] at c2
    rw [hth] at c3
    have HTT := hide hth
    have HAW := hide haw
    clear hth haw
    obtain ⟨l2, hl2⟩ : ∃ l2, l2 = ln - th := ⟨_, rfl⟩
    have q1 : (ln : Int) - (th : Int) = (l2 : Int) := by omega
    have HL2 := hide hl2
    have hlc : l2 ≤ lc := by
     rcases uh HBW with ⟨⟨a', c', h1⟩, h2⟩ | ⟨g', off', cap', h1, h2, _⟩
     ·injection h1 with _ h3 _; omega
     ·injection h1 with _ h3 h4
      omega
    clear hl2
    have HST := hide (show bucketsE y.c (y.events.take (k + 1)) = (bucketsE y.c (y.events.take k)).drop th by
       rw [uh HBT]; unfold stepE; rw [if_pos (uh HAW), uh HTT, Int.toNat_natCast])
    go_wp2
    go_roundg (n - (k + 1))
    case measure => have := uh HG; omega
    case rel =>
     refine ⟨k + 1, la, l2, lc, rfl, by go_num, by omega, rfl, by omega, ?_, ?_, (uh HK).alloc _⟩
     ·show _ = _
      rw [uh HST, List.length_drop, uh HLN, uh HL2]
     ·show BW _ _ _
      rw [uh HST, uh HL2]
      exact bw_cut ((uh HBW).keeps ((Keeps.refl (fun _ => False) wr).alloc _)) (uh HLN)
   | false =>
    rw [haw] at c2
    have HAW := hide haw
    clear haw
    have s6 : wr.cell? ⟨b.s, 6, none⟩ = some (.int .i64 y.c.window) := (uh HR1).blk.cell rfl
    have s5 : wr.cell? ⟨b.s, 5, none⟩ = some (.int .i64 y.c.k) := (uh HR1).blk.cell rfl
    obtain ⟨m0, m1⟩ := uh HMK
    have w1 := (uh HC).w1
    have w2 := (uh HC).w2
    have k1 := (uh HC).k1
    have k10 := (uh HC).k10
    have hwr : IntKind.i64.wrap (z.m - y.c.window) = z.m - y.c.window := by rw [IntKind.wrap_i64]; omega
    have hwk : IntKind.i64.wrap (y.c.k + 1) = y.c.k + 1 := by rw [IntKind.wrap_i64]; omega
    have HST := hide (show bucketsE y.c (y.events.take (k + 1)) = relB y.c (bucketsE y.c (y.events.take k)) z.t z.m by
       rw [uh HBT]; unfold stepE; rw [if_neg (by rw [uh HAW]; simp)])
    have hpl := pastN_le (bucketsE y.c (y.events.take k)) (z.m - y.c.window)
    rw [uh HLN] at hpl
    obtain ⟨p, hp⟩ : ∃ p, p = pastN (bucketsE y.c (y.events.take k)) (z.m - y.c.window) := ⟨_, rfl⟩
    rw [← hp] at hpl
    obtain ⟨l2, hl2⟩ : ∃ l2, l2 = ln - p := ⟨_, rfl⟩
    have q1 : (ln : Int) - (p : Int) = (l2 : Int) := by omega
    have hlc : l2 ≤ lc := by
     rcases uh HBW with ⟨⟨a', c', h1⟩, h2⟩ | ⟨g', off', cap', h1, h2, _⟩
     ·injection h1 with _ h3 _; omega
     ·injection h1 with _ h3 h4
      omega
    have hwl : IntKind.i64.wrap (l2 : Int) = (l2 : Int) := by rw [IntKind.wrap_i64]; omega
    have hwl2 : IntKind.i64.wrap ((ln : Int) - (p : Int)) = (l2 : Int) := by rw [IntKind.wrap_i64]; omega
    have hlci : (l2 : Int) ≤ (lc : Int) := by omega
    have HP := hide hp
    have HL2 := hide hl2
    have HX := hide (Blk.new wr [.int .i64 z.t, .int .i64 z.m, .bool false, .int .i64 z.throw] 159)
    have hkA : Keeps (fun _ => False) wr (wr.alloc (.cells #[.int .i64 z.t, .int .i64 z.m, .bool false, .int .i64 z.throw] 159)) := (Keeps.refl (fun _ => False) wr).alloc _
    have HKA := hide hkA
    clear hp hl2 hkA
    go_wp2_with fail
    have e0 : (wr.alloc (.cells [Value.int .i64 z.t, .int .i64 z.m, .bool false, .int .i64 z.throw].toArray 159)) = (wr.alloc (.cells #[.int .i64 z.t, .int .i64 z.m, .bool false, .int .i64 z.throw] 159)) := rfl
    rw [e0] at HX
    clear e0
    have HBA := hide ((uh HBW).keeps (uh HKA))
    have HKW := hide ((uh HK).then (uh HKA))
    have t6 := (uh HKA).cell s6 (fun h => h)
    have t5 := (uh HKA).cell s5 (fun h => h)
    generalize wr.alloc (.cells #[.int .i64 z.t, .int .i64 z.m, .bool false, .int .i64 z.throw] 159) = W at *
    generalize wr.heap.size = bx at *
    have x0 : W.cell? ⟨bx, 0, none⟩ = some (.int .i64 z.t) := (uh HX).cell rfl
    have x1 : W.cell? ⟨bx, 1, none⟩ = some (.int .i64 z.m) := (uh HX).cell rfl
    clear s6 s5 c0 c1 c2 c3 s22 hlt
    have HLE := hide (show (bucketsE y.c (y.events.take k)).length ≤ 4398046511104 by rw [uh HLN]; exact hln)
    go_region_with (go_at_call 114; refine (rdead_any _ (bucketsE y.c (y.events.take k)) (z.m - y.c.window) _ (by exact (uh HBA).keeps (Keeps.refl _ _).drew) (uh HLE)).mono ?_; rintro e1 W1 ⟨rfl, rfl⟩; rw [← uh HP])
    all_goals
     have HCUT := hide (show BW W.drew (.slice la l2 lc) ((bucketsE y.c (y.events.take k)).drop p).reverse by rw [uh HL2]; exact bw_cut ((uh HBA).keeps (Keeps.refl (fun _ => False) W).drew) (uh HLN))
     have HKD := hide ((uh HKW).drew)
     have d0 : W.drew.cell? ⟨bx, 0, none⟩ = some (.int .i64 z.t) := x0
     have d5 : W.drew.cell? ⟨b.s, 5, none⟩ = some (.int .i64 y.c.k) := t5
     have HGK := hide (drop_good (uh HGD) p)
     have HSUM := hide (show sumB ((bucketsE y.c (y.events.take k)).drop p) + 1 ≤ 4398046511104 by
        have h1 := (uh HGK).sum
        rw [List.length_take, uh HN] at h1
        omega)
     generalize W.drew = V at *
     go_wp2_with fail
     go_region_with (go_at_call 153; refine (rput_any _ ((bucketsE y.c (y.events.take k)).drop p) z.t y.c.k _ (by exact (uh HCUT).keeps (Keeps.refl _ _).drew) (uh HGK).pb ⟨(uh HGK).one, by have := uh HSUM; omega⟩ (uh HSUM) k1 k10).mono ?_; rintro e2 V2 ⟨v2, rfl, hob2, hk2⟩)
     all_goals
      obtain ⟨a2, c2, hv2⟩ := row_form0 hob2
      have HOB2 := hide hob2
      have HK2 := hide (((uh HKD).drew).then hk2)
      clear hob2 hk2
      generalize hl3 : ((joinL y.c.k (((bucketsE y.c (y.events.take k)).drop p ++ [(⟨1, z.t⟩ : Bk)]).length + 1) ((bucketsE y.c (y.events.take k)).drop p ++ [(⟨1, z.t⟩ : Bk)]) 1 ((bucketsE y.c (y.events.take k)).drop p ++ [(⟨1, z.t⟩ : Bk)]).length).reverse) = R at *
      have HR3 := hide (show R = (bucketsE y.c (y.events.take (k + 1))).reverse by
         rw [← hl3, uh HST]
         unfold relB putB liveB
         rw [← uh HP])
      clear hl3
      generalize hln3 : R.length = l3 at *
      have HL3 := hide hln3
      clear hln3
      subst hv2
      go_wp2
      go_roundg (n - (k + 1))
      case measure => have := uh HG; omega
      case rel =>
       have hgd := bucketsE_good (uh HC) (y.events.take (k + 1))
       have hl4 : (bucketsE y.c (y.events.take (k + 1))).length = l3 := by rw [← uh HL3, uh HR3, List.length_reverse]
       refine ⟨k + 1, a2, l3, c2, rfl, by go_num, by omega, rfl, ?_, hl4, ?_, HK2⟩
       ·have h1 := length_le_sumB hgd.one
        have h2 := hgd.sum
        rw [List.length_take, uh HN] at h2
        omega
       ·show BW _ _ _
        rw [← uh HR3]
        have h5 := uh HOB2
        rw [← uh HL3] at h5 ⊢
        exact OB.bw h5
  ·go_wp2
   go_ret
   refine ⟨_, rfl, ?_, uh HK⟩
   have := uh HBW
   rw [List.take_of_length_le (by rw [uh HN]; omega)] at this
   exact this
end Go.Proofs.YtahnliehdjncdaaGreatDoor
