import Derived.Test.YtahnliehdjncdaaGreatDoorXBK
set_option maxRecDepth 100000
set_option maxHeartbeats 16000000
namespace Go.Proofs.YtahnliehdjncdaaGreatDoor
open Go.RowKit
theorem bw_take {w : World} {g off n cap k : Nat} {l : List Bk} (hn : l.length = n) (h : BW w (.slice (some ⟨g, off, none⟩) n cap) l) (hk : k ≤ n) : BW w (.slice (some ⟨g, off, none⟩) k cap) (l.take k) := by
 rcases h with ⟨⟨a, c, h1⟩, h2⟩ | ⟨g', off', cap', h1, h2, hm, h3, h4⟩
 ·subst h2
  have : k = 0 := by simp at hn; omega
  subst this
  exact .inl ⟨⟨_, _, rfl⟩, by simp⟩
 ·injection h1 with h1 _ h7
  injection h1 with h1
  injection h1 with h1 h5
  subst h1 h5 h7
  refine .inr ⟨g, off, cap, by simp [hn]; omega, by simp; omega, hm, fun j u hu => ?_, h4⟩
  rw [flatB_take, List.getElem?_take] at hu
  split at hu
  ·exact h3 j u hu
  ·cases hu
theorem bw_drop {w : World} {g n cap k : Nat} {l : List Bk} (hn : l.length = n) (h : BW w (.slice (some ⟨g, 0, none⟩) n cap) l) (hk : k ≤ n) (hn0 : 0 < n) : BW w (.slice (if cap = k then some ⟨g, 0, none⟩ else some ⟨g, k * 2, none⟩) (n - k) (cap - k)) (l.drop k) := by
 rcases h with ⟨⟨a, c, h1⟩, h2⟩ | ⟨g', off', cap', h1, h2, hm, h3, h4⟩
 ·subst h2; simp at hn; omega
 ·injection h1 with h1 _ h7
  injection h1 with h1
  injection h1 with h1 h5
  subst h1 h5 h7
  by_cases hc : cap = k
  ·rw [if_pos hc]
   have : n - k = 0 := by omega
   rw [this]
   exact .inl ⟨⟨_, _, rfl⟩, List.drop_eq_nil_of_le (by omega)⟩
  ·rw [if_neg hc]
   refine .inr ⟨g, k * 2, cap - k, by simp [hn], by simp; omega, by omega, fun j u hu => ?_, h4⟩
   rw [flatB_drop, List.getElem?_drop] at hu
   have := h3 _ _ hu
   rwa [Nat.zero_add] at this
theorem bw_keepsM {w w' : World} {g off n cap : Nat} {l : List Bk} {M : Nat → Prop} (h : BW w (.slice (some ⟨g, off, none⟩) n cap) l) (hk : Keeps M w w') (hg : ¬ M g) : BW w' (.slice (some ⟨g, off, none⟩) n cap) l := by
 rcases h with h | ⟨g', off', cap', h1, h2, hm, h3, h4⟩
 ·exact .inl h
 ·injection h1 with h1 h6 h7
  injection h1 with h1
  injection h1 with h1 h5
  subst h1 h5 h7
  exact .inr ⟨g, off, cap, by rw [h6], h2, hm, fun j u hu => hk.cell (h3 j u hu) hg, by have := hk.size; omega⟩
theorem bw_new (w : World) (x : Bk) : BW (w.alloc (.cells #[.int .i64 x.sz, .int .i64 x.t] 151)) (.slice (some ⟨w.heap.size, 0, none⟩) 1 1) [x] :=
 .inr ⟨w.heap.size, 0, 1, rfl, by simp, by unfold maxLen; omega, fun j u hu => by rw [Nat.zero_add]; exact (Blk.new w [.int .i64 x.sz, .int .i64 x.t] 151).cell hu, by simp⟩
theorem wpList_append_bksN {w : World} {ops : Array Oper} {rest : List Oper} {o : Oper} {a : Act} {Q : Exit → Act → World → Prop} (hgd : o.guard = none) (s x : Operand)
  (ho : o.op = .call { callee := .builtin .append, args := #[s, x], argTypes := #[148, 148] })
  (base : Nat) (v : Value) (A : List Bk) (hs : a.eval s = v) (hown : OB w base v A) (u : Value) (B : List Bk) (hx : a.eval x = u) (hB : BW w u B)
  (n : Nat) (hn : A.length + B.length = n) (hlen : n ≤ 8796093022208) (hbase : base ≤ w.heap.size)
  (h : ∀ ad c w', OB w' base (.slice ad n c) (A ++ B) → Keeps (fun i => v.ownBlock = some i) w w' → (∀ i, (Value.slice ad n c).ownBlock = some i → v.ownBlock = some i ∨ w.heap.size ≤ i) → wpList Tryz.prog ops Q rest (a.put o.dst (.slice ad n c)) w') : wpList Tryz.prog ops Q (o :: rest) a w := by
 subst hn
 exact wpList_append_bks hgd s x ho base v A hs hown u B hx hB hlen hbase h
theorem own_fresh {w w' : World} {base : Nat} {v : Value} {l : List Bk} (h : OB w base v l) {M : Nat → Prop} (hk : Keeps (fun i => v.ownBlock = some i) w w') {w0 : World} (hw : Keeps M w0 w) (hb : w0.heap.size ≤ base) : Keeps M w0 w' :=
 hw.trans hk (fun i hi hlt => by
    have := (h.lt i hi).1
    omega)
theorem rput_any (v : Value) (q : List Bk) (t K : Int) (w : World) (h : BW w v q.reverse) (hp : PB q) (hi : BInv q) (hs : sumB q + 1 ≤ 4398046511104) (k1 : 1 ≤ K) (k10 : K ≤ 10) :
  Calls Tryz.prog 153 #[v, .int .i64 t, .int .i64 (K + 1)] w fun e w' => ∃ v', e = .returned v' ∧ OB w' w.heap.size v' (joinL K ((q ++ [(⟨1, t⟩ : Bk)]).length + 1) (q ++ [(⟨1, t⟩ : Bk)]) 1 (q ++ [(⟨1, t⟩ : Bk)]).length).reverse ∧ Keeps (fun _ => False) w w' := by
 have HB := hide h
 have hl := hi.len
 have HPI := hide (PI.start hp t)
 have HBI := hide (show BInv (q ++ [⟨1, t⟩]) from by
    refine ⟨fun b hb => ?_, by rw [sumB_append]; exact hs⟩
    rcases List.mem_append.1 hb with hb | hb
    ·exact hi.one b hb
    ·rw [List.mem_singleton] at hb; rw [hb]; exact Int.le_refl _)
 have HQ := hide (show (q ++ [(⟨1, t⟩ : Bk)]).reverse = [⟨1, t⟩] ++ q.reverse by simp)
 have hql : (q ++ [(⟨1, t⟩ : Bk)]).length = q.length + 1 := by simp
 have HQL := hide hql
 generalize q ++ [(⟨1, t⟩ : Bk)] = q1 at *
 clear h hp hi hs hql
 generalize hql : q.length = ql at *
 have HQ0 := hide hql
 clear hql
 go_enter Tryz.func153, Tryz.ntmps153
 go_wp2_with (at_builtin; refine wpList_append_bksN rfl _ _ rfl w.heap.size (.slice (some ⟨w.heap.size, 0, none⟩) 1 1) [⟨1, t⟩] rfl ⟨rfl, .inr ⟨w.heap.size, 1, _, rfl, Nat.le_refl _, Blk.new w [.int .i64 1, .int .i64 t] 151, by simp, by unfold maxLen; omega, rfl, rfl⟩⟩ v q.reverse rfl ((uh HB).keeps ((Keeps.refl (fun _ => False) w).alloc _)) (ql + 1) (by rw [List.length_reverse, uh HQ0]; simp; omega) (by omega) (by simp) ?_; intro ad c w1 hown1 hk1 hat1)
 have HO1 := hide (show OB w1 w.heap.size (.slice ad (ql + 1) c) q1.reverse by rw [uh HQ]; exact hown1)
 have HK1 := hide (show Keeps (fun _ => False) w w1 from ((Keeps.refl (fun _ => False) w).alloc (.cells #[.int .i64 1, .int .i64 t] 151)).trans hk1 (fun i hi hlt => by simp [Value.ownBlock] at hi; omega))
 clear hown1 hk1 hat1
 go_loopg [7, 8, 9, 10, 11, 12] (ql + 1) (fun g a7 a8 _ _ _ _ wr => ∃ (m : List Bk) (sz : Int) (e n : Nat) (oa : Option Addr) (oc : Nat), a7 = .slice oa n oc ∧ a8 = .int .i64 sz ∧ n = g ∧ 1 ≤ sz ∧ sz ≤ 8796093022208 ∧ n ≤ 4398046511105 ∧ Hid (m.length = n) ∧ Hid (PI m sz e) ∧ Hid (BInv m) ∧ Hid (OB wr w.heap.size (.slice oa n oc) m.reverse) ∧ Hid (Keeps (fun _ => False) w wr) ∧ Hid (joinL K (q1.length + 1) q1 1 q1.length = joinL K (e + 1) m sz e))
 case atStart => exact ⟨q1, 1, q1.length, ql + 1, ad, c, rfl, rfl, rfl, by omega, by omega, by omega, HQL, HPI, HBI, HO1, HK1, rfl⟩
 case round =>
  obtain ⟨m, sz, e, n, oa, oc, rfl, rfl, hng, z1, z2, hn, HM, HPM, HBM, HOM, HKM, HJ⟩ := hrel
  have HNG := hide hng
  clear hng
  have HCE := hide (cnt_end (uh HPM))
  go_wp2_with fail
  go_loop [9, 10, 11] (fun a b i => ∃ j : Nat, i = .int .i64 j ∧ j ≤ n ∧ a = .int .i64 (cntN m.reverse sz j) ∧ b = .int .i64 (endN m.reverse sz j) ∧ cntN m.reverse sz j ≤ j) (fun _ _ i => n - (intOf i).toNat)
  case atStart => exact ⟨0, rfl, Nat.zero_le _, rfl, rfl, Nat.zero_le _⟩
  case round =>
   obtain ⟨j, rfl, hj, rfl, rfl, hcj⟩ := hrel
   by_cases hjn : j < n
   ·obtain ⟨g, off, rfl, _, hcap, hmx, _⟩ := bw_some (uh HOM).bw (by omega)
    have hoff : off = 0 := by
     rcases (uh HOM).2 with ⟨h1, _⟩ | ⟨g', c', cur, h1, _⟩
     ·cases h1
     ·injection h1 with h1 _ _; injection h1 with h1; injection h1
    subst hoff
    have hcs := bw_cells (by rw [List.length_reverse]; exact uh HM) (uh HOM).bw j hjn
    rw [Nat.zero_add] at hcs
    have x0 := hcs.1
    have hj0 : (0 : Int) ≤ (j : Int) := by omega
    have hj1 : (j : Int) < (n : Int) := by omega
    have HCN := hide (show cntN m.reverse sz (j + 1) = cntN m.reverse sz j + (if (bkAt m.reverse j).sz = sz then 1 else 0) from rfl)
    have HEN := hide (show endN m.reverse sz (j + 1) = if (bkAt m.reverse j).sz = sz then j + 1 else endN m.reverse sz j from rfl)
    clear hcs hcap hmx
    generalize bkAt m.reverse j = x at *
    generalize hcn : cntN m.reverse sz j = cn at *
    generalize hen : endN m.reverse sz j = en at *
    clear hcn hen
    by_cases hx : x.sz = sz
    ·have HX := hide hx
     have hb : (x.sz == sz) = true := by simpa using hx
     clear hx
     go_wp2
     go_round
     case rel => exact ⟨j + 1, by go_num, by omega, by rw [uh HCN, if_pos (uh HX)]; go_num, by rw [uh HEN, if_pos (uh HX)]; go_num, by rw [uh HCN, if_pos (uh HX)]; omega⟩
     case measure => simp [intOf]; omega
    ·have HX := hide hx
     have hb : (x.sz == sz) = false := by simpa using hx
     clear hx
     go_wp2
     go_round
     case rel => exact ⟨j + 1, by go_num, by omega, by rw [uh HCN, if_neg (uh HX)]; rfl, by rw [uh HEN, if_neg (uh HX)], by rw [uh HCN, if_neg (uh HX)]; omega⟩
     case measure => simp [intOf]; omega
   ·have hjn' : j = n := by omega
    subst hjn'
    clear hjn
    have hce := uh HCE j (by rw [uh HM]; exact Nat.le_refl _)
    rw [uh HM] at hce
    have hsle := startN_le m sz e
    have hej : e ≤ j := by have := (uh HPM).he; rw [uh HM] at this; exact this
    have HST := hide (uh HPM).step
    generalize hs : startN m sz e = s at *
    have hcnt : cntN m.reverse sz j = e - s := by rw [hce.1]; omega
    have hend : s < e → endN m.reverse sz j = j - s := fun h => by rw [hce.2, if_pos (by omega)]; omega
    rw [hcnt] at hcj ⊢
    have HS := hide hs
    clear hce hcnt hs
    by_cases hle : (e : Int) - (s : Int) ≤ K + 1
    ·have hle' : ((e - s : Nat) : Int) ≤ K + 1 := by omega
     generalize e - s = es at *
     generalize endN m.reverse sz j = en at *
     clear hend
     go_wp2
     go_ret
     refine ⟨_, rfl, ?_, uh HKM⟩
     rw [uh HJ]
     unfold joinL
     rw [uh HS, if_pos hle]
     exact uh HOM
    ·have hs2 : s + 3 ≤ e := by omega
     rw [hend (by omega)]
     obtain ⟨en, hen⟩ : ∃ en, en = j - s := ⟨_, rfl⟩
     obtain ⟨e2, he2⟩ : ∃ e2, e2 = j - s - 2 := ⟨_, rfl⟩
     rw [← hen]
     have hle' : ¬ ((e - s : Nat) : Int) ≤ K + 1 := by omega
     have hle2 : K + 1 < ((e - s : Nat) : Int) := by omega
     have HLE := hide hle
     have HS2 := hide hs2
     have HE2 := hide he2
     have HEN := hide hen
     have q2 : (en : Int) - 2 = (e2 : Int) := by omega
     obtain ⟨g, off, rfl, _, hcap, hmx, hglt⟩ := bw_some (uh HOM).bw (by omega)
     have hoff : off = 0 := by
      rcases (uh HOM).2 with ⟨h1, _⟩ | ⟨g', c', cur, h1, _⟩
      ·cases h1
      ·injection h1 with h1 _ _; injection h1 with h1; injection h1
     subst hoff
     have hcs := bw_cells (by rw [List.length_reverse]; exact uh HM) (uh HOM).bw e2 (by omega)
     rw [Nat.zero_add] at hcs
     have hb2 : bkAt m.reverse e2 = bkAt m (s + 1) := by
      rw [bkAt_reverse _ _ (by rw [uh HM]; omega), uh HM]
      congr 1
      omega
     rw [hb2] at hcs
     have x1 := hcs.2
     have HJI := hide (joinAt_inv (t := (bkAt m (s + 1)).t) (uh HBM) (uh HS).symm (by rw [uh HM]; exact hej) (by omega) z1)
     have HPS := hide (uh HST (by omega) (bkAt m (s + 1)).t)
     have HJR := hide (join_reverse m s ⟨2 * sz, (bkAt m (s + 1)).t⟩ (by rw [uh HM]; omega))
     generalize hxx : bkAt m (s + 1) = x at *
     have HXX := hide hxx
     have hsz2 := (uh HJI).2.1
     have hmx' : oc ≤ 9223372036854775807 := by unfold maxLen at hmx; omega
     have hes : e - s ≤ j := by omega
     have f1 : en ≤ j := by omega
     have f2 : e2 ≤ j := by omega
     have f3 : (0 : Int) ≤ (e2 : Int) := by omega
     have f4 : (e2 : Int) < (j : Int) := by omega
     have f5 : e2 ≤ oc := by omega
     have f6 : en ≤ oc := by omega
     have hjs : s ≤ j := by omega
     clear hcs hb2 hle hs2 hen he2 hxx HST hend hcap hmx hsle
     generalize e - s = es at *
     obtain ⟨e3, he3⟩ : ∃ e3, e3 = e2 + 1 := ⟨_, rfl⟩
     have HE3 := hide he3
     have f7 : e3 ≤ j := by omega
     clear he3
     have HTK := hide (show BW wr (.slice (some ⟨g, 0, none⟩) e2 oc) (m.reverse.take e2) from bw_take (by rw [List.length_reverse]; exact uh HM) (uh HOM).bw f2)
     have HDR := hide (show ∀ W, BW W (.slice (some ⟨g, 0, none⟩) j oc) m.reverse → BW W (.slice (if oc = en then some ⟨g, 0, none⟩ else some ⟨g, en * 2, none⟩) (j - en) (oc - en)) (m.reverse.drop en) from fun W hW => bw_drop (by rw [List.length_reverse]; exact uh HM) hW f1 (by omega))
     have HTL := hide (show (m.reverse.take e2).length = e2 by rw [List.length_take, List.length_reverse, uh HM]; omega)
     have HDL := hide (show (m.reverse.drop en).length = s by rw [List.length_drop, List.length_reverse, uh HM, uh HEN]; omega)
     have hlg : g < wr.heap.size := hglt
     have hw2 : IntKind.i64.wrap (2 * sz) = 2 * sz := by rw [IntKind.wrap_i64]; omega
     obtain ⟨n1, hn1⟩ : ∃ n1, n1 = j - 1 := ⟨_, rfl⟩
     have HN1 := hide hn1
     clear hn1
     by_cases hoc : oc = en
     ·have hdr := fun W hW => (uh HDR) W hW
      rw [if_pos hoc] at hdr
      subst hoc
      rw [Nat.sub_self] at hdr
      have HDR2 := hide hdr
      clear hdr
      go_wp2_with (at_builtin; first
         | (refine wpList_append_bksN rfl _ _ rfl w.heap.size (.slice none 0 0) [] rfl (World.ownsRow_nil _ _ _ _) (.slice (some ⟨g, 0, none⟩) e2 oc) (m.reverse.take e2) rfl (uh HTK) e2 (by rw [uh HTL]; simp) (by omega) (uh HKM).size ?_; intro a1 c1 w5 ho5 hk5 ht5; have HO5 := hide (show OB w5 w.heap.size (.slice a1 e2 c1) (m.reverse.take e2) from ho5); have HK5 := hide (show Keeps (fun _ => False) wr w5 from hk5.mono (fun i _ h => by simp [Value.ownBlock] at h)); have HT5 := hide (show ∀ i, (Value.slice a1 e2 c1).ownBlock = some i → wr.heap.size ≤ i from fun i hi => (ht5 i hi).resolve_left (fun h => by simp [Value.ownBlock] at h)); clear ho5 hk5 ht5; have x5 := (uh HK5).cell x1 (fun h => h))
         | (refine wpList_append_bksN rfl _ _ rfl w.heap.size (.slice a1 e2 c1) (m.reverse.take e2) rfl ((uh HO5).alloc _) (.slice (some ⟨w5.heap.size, 0, none⟩) 1 1) [⟨2 * sz, x.t⟩] rfl (bw_new w5 ⟨2 * sz, x.t⟩) e3 (by rw [uh HTL, uh HE3]; simp) (by omega) (by have h1 := (uh HKM).size; have h2 := (uh HK5).size; simp; omega) ?_; intro a2 c2 w6 ho6 hk6 ht6; have HO6 := hide ho6; have HK6 := hide hk6; have HM6 := hide (show BW w6 (.slice (some ⟨g, 0, none⟩) j oc) m.reverse from bw_keepsM (((uh HOM).bw.keeps (uh HK5)).keeps ((Keeps.refl (fun _ => False) w5).alloc _)) hk6 (fun h => by have := uh HT5 g h; omega)); have HF6 := hide (show Keeps (fun _ => False) w w6 from own_fresh ((uh HO5).alloc _) hk6 (((uh HKM).then (uh HK5)).alloc _) (Nat.le_refl _)); clear ho6 hk6 ht6)
         | (refine wpList_append_bksN rfl _ _ rfl w.heap.size (.slice a2 e3 c2) (m.reverse.take e2 ++ [⟨2 * sz, x.t⟩]) rfl (uh HO6) (.slice (some ⟨g, 0, none⟩) (j - oc) 0) (m.reverse.drop oc) rfl (uh HDR2 w6 (uh HM6)) n1 (by rw [List.length_append, uh HTL, uh HDL]; have h1 := uh HE2; have h2 := uh HN1; have h3 := uh HS2; simp; omega) (by have := uh HN1; omega) (uh HF6).size ?_; intro a3 c3 w7 ho7 hk7 ht7; have HO7 := hide ho7; have HF7 := hide (own_fresh (uh HO6) hk7 (uh HF6) (Nat.le_refl _)); clear ho7 hk7 ht7))
      go_roundg (n1)
      case measure => have h1 := uh HNG; have h2 := uh HN1; omega
      case rel =>
       refine ⟨joinAt m s ⟨2 * sz, x.t⟩, 2 * sz, s + 1, n1, a3, c3, rfl, rfl, rfl, by omega, by omega, by have := uh HN1; omega, ?_, uh HPS, (uh HJI).1, ?_, HF7, ?_⟩
       ·show _ = _
        have := joinAt_length (⟨2 * sz, x.t⟩ : Bk) (l := m) (i := s) (by rw [uh HM]; have := uh HS2; omega)
        rw [uh HM] at this
        have h2 := uh HN1
        omega
       ·have := uh HO7
        have hjr := uh HJR
        rw [uh HM, ← uh HEN] at hjr
        rw [show oc - 2 = e2 by have h1 := uh HE2; have h2 := uh HEN; omega] at hjr
        rw [hjr] at this
        exact this
       ·show _ = _
        rw [uh HJ]
        conv => lhs; unfold joinL
        rw [uh HS, if_neg (by have := uh HLE; omega), uh HXX]
        exact joinL_fuel (by omega) _ _ _ _ _ (by have := uh HS2; omega) (by omega)
     ·have hdr := fun W hW => (uh HDR) W hW
      rw [if_neg hoc] at hdr
      have HDR2 := hide hdr
      clear hdr
      go_wp2_with (at_builtin; first
         | (refine wpList_append_bksN rfl _ _ rfl w.heap.size (.slice none 0 0) [] rfl (World.ownsRow_nil _ _ _ _) (.slice (some ⟨g, 0, none⟩) e2 oc) (m.reverse.take e2) rfl (uh HTK) e2 (by rw [uh HTL]; simp) (by omega) (uh HKM).size ?_; intro a1 c1 w5 ho5 hk5 ht5; have HO5 := hide (show OB w5 w.heap.size (.slice a1 e2 c1) (m.reverse.take e2) from ho5); have HK5 := hide (show Keeps (fun _ => False) wr w5 from hk5.mono (fun i _ h => by simp [Value.ownBlock] at h)); have HT5 := hide (show ∀ i, (Value.slice a1 e2 c1).ownBlock = some i → wr.heap.size ≤ i from fun i hi => (ht5 i hi).resolve_left (fun h => by simp [Value.ownBlock] at h)); clear ho5 hk5 ht5; have x5 := (uh HK5).cell x1 (fun h => h))
         | (refine wpList_append_bksN rfl _ _ rfl w.heap.size (.slice a1 e2 c1) (m.reverse.take e2) rfl ((uh HO5).alloc _) (.slice (some ⟨w5.heap.size, 0, none⟩) 1 1) [⟨2 * sz, x.t⟩] rfl (bw_new w5 ⟨2 * sz, x.t⟩) e3 (by rw [uh HTL, uh HE3]; simp) (by omega) (by have h1 := (uh HKM).size; have h2 := (uh HK5).size; simp; omega) ?_; intro a2 c2 w6 ho6 hk6 ht6; have HO6 := hide ho6; have HK6 := hide hk6; have HM6 := hide (show BW w6 (.slice (some ⟨g, 0, none⟩) j oc) m.reverse from bw_keepsM (((uh HOM).bw.keeps (uh HK5)).keeps ((Keeps.refl (fun _ => False) w5).alloc _)) hk6 (fun h => by have := uh HT5 g h; omega)); have HF6 := hide (show Keeps (fun _ => False) w w6 from own_fresh ((uh HO5).alloc _) hk6 (((uh HKM).then (uh HK5)).alloc _) (Nat.le_refl _)); clear ho6 hk6 ht6)
         | (refine wpList_append_bksN rfl _ _ rfl w.heap.size (.slice a2 e3 c2) (m.reverse.take e2 ++ [⟨2 * sz, x.t⟩]) rfl (uh HO6) (.slice (some ⟨g, en * 2, none⟩) (j - en) (oc - en)) (m.reverse.drop en) rfl (uh HDR2 w6 (uh HM6)) n1 (by rw [List.length_append, uh HTL, uh HDL]; have h1 := uh HE2; have h2 := uh HN1; have h3 := uh HS2; simp; omega) (by have := uh HN1; omega) (uh HF6).size ?_; intro a3 c3 w7 ho7 hk7 ht7; have HO7 := hide ho7; have HF7 := hide (own_fresh (uh HO6) hk7 (uh HF6) (Nat.le_refl _)); clear ho7 hk7 ht7))
      go_roundg (n1)
      case measure => have h1 := uh HNG; have h2 := uh HN1; omega
      case rel =>
       refine ⟨joinAt m s ⟨2 * sz, x.t⟩, 2 * sz, s + 1, n1, a3, c3, rfl, rfl, rfl, by omega, by omega, by have := uh HN1; omega, ?_, uh HPS, (uh HJI).1, ?_, HF7, ?_⟩
       ·show _ = _
        have := joinAt_length (⟨2 * sz, x.t⟩ : Bk) (l := m) (i := s) (by rw [uh HM]; have := uh HS2; omega)
        rw [uh HM] at this
        have h2 := uh HN1
        omega
       ·have := uh HO7
        have hjr := uh HJR
        rw [uh HM, ← uh HEN] at hjr
        rw [show en - 2 = e2 by have h1 := uh HE2; have h2 := uh HEN; omega] at hjr
        rw [hjr] at this
        exact this
       ·show _ = _
        rw [uh HJ]
        conv => lhs; unfold joinL
        rw [uh HS, if_neg (by have := uh HLE; omega), uh HXX]
        exact joinL_fuel (by omega) _ _ _ _ _ (by have := uh HS2; omega) (by omega)
end Go.Proofs.YtahnliehdjncdaaGreatDoor
