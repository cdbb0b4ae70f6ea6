import Derived.Test.YtahnliehdjncdaaGreatDoorXBS
import Derived.Test.YtahnliehdjncdaaGreatDoorXBQ
set_option maxRecDepth 100000
set_option maxHeartbeats 16000000
namespace Go.Proofs.YtahnliehdjncdaaGreatDoor
open Go.RowKit
attribute [local go_sem ↓] execOp_load38 execOp_load40 execOp_store40 execOp_bs22 execOp_build40 execOp_store38
attribute [local go_sem] run_load38 run_load40 bigVal_drew hasBig_drew bigVal_ne hasBig_ne bigVal_alloc hasBig_alloc run_bs1 run_q40 run_bsq
def askL (s : List OpM) (n : Int) : List OpM := (s.filter (fun o => o.kind == 1)).map (fun o => qOp o.id n)
def askedD (ops : List OpM) (n : Int) : List OpM := ops.filter OpM.noLoad ++ askL (ops.filter OpM.noLoad) n
theorem askL_snoc (s : List OpM) (o : OpM) (n : Int) : askL (s ++ [o]) n = askL s n ++ if (o.kind == 1) = true then [qOp o.id n] else [] := by
 unfold askL
 rw [List.filter_append, List.map_append, List.filter_cons]
 congr 1
 by_cases h : (o.kind == 1) = true
 ·rw [if_pos h, if_pos h]; rfl
 ·rw [if_neg h, if_neg h]; rfl
theorem askL_length (s : List OpM) (n : Int) : (askL s n).length ≤ s.length := by
 unfold askL; rw [List.length_map]; exact List.length_filter_le _ _
theorem askedD_length (ops : List OpM) (n : Int) : (askedD ops n).length ≤ 2 * ops.length := by
 unfold askedD
 rw [List.length_append]
 have h1 := askL_length (ops.filter OpM.noLoad) n
 have h2 := List.length_filter_le OpM.noLoad ops
 omega
theorem askL_kind (s : List OpM) (n : Int) : ∀ o, o ∈ askL s n → o.kind = 4 := by
 intro o ho
 obtain ⟨p, _, rfl⟩ := List.mem_map.1 ho
 rfl
theorem askedD_ok (ops : List OpM) (n : Int) : OkRun (askedD ops n) := by
 intro o ho
 rcases List.mem_append.1 ho with h | h
 ·have := (List.mem_filter.1 h).2
  simpa [OpM.noLoad] using this
 ·have := askL_kind _ _ o h; omega
theorem askedS_any (v : Value) (ops : List OpM) (q : Int) (w : World) (hv : ScriptW w v ops) (hlen : ops.length ≤ 325781223000) :
  Calls Tryz.prog 30 #[v, .int .i64 q] w fun r w' => ∃ v' base, r = .returned v' ∧ OwnS w' base v' (askedD ops q) ∧ w.heap.size ≤ base ∧ Keeps (fun _ => False) w w' := by
 have HV := hide hv
 clear hv
 go_enter Tryz.func30, Tryz.ntmps30
 go_wp2_with fail
 refine (without_any v ops w (uh HV) (by omega)).mono ?_
 rintro r w3 ⟨sv, rfl, hO, hk3, -⟩
 have HO3 := hide hO
 have HK3 := hide hk3
 have hle : (ops.filter OpM.noLoad).length ≤ 325781223000 := by have := List.length_filter_le OpM.noLoad ops; omega
 have HAD := hide (show askedD ops q = ops.filter OpM.noLoad ++ askL (ops.filter OpM.noLoad) q from rfl)
 clear hk3 hO
 generalize hs : ops.filter OpM.noLoad = s at *
 clear hs
 obtain ⟨sa, sc, es⟩ := row_form0 (uh HO3)
 generalize hn : s.length = n at *
 have HN := hide hn
 clear hn
 subst es
 go_wp2_with fail
 refine (with_any _ _ s [] w3 (by have h := own_scriptW (uh HO3); exact h) (.inl ⟨⟨none, 0, rfl⟩, rfl⟩) (by rw [uh HN]; simp; omega)).mono ?_
 rintro r w4 ⟨tv, rfl, hT4, hk4⟩
 rw [List.append_nil] at hT4
 have HT4 := hide hT4
 have HK4 := hide ((uh HK3).then hk4)
 have HS4 := hide (show ∃ base, w.heap.size ≤ base ∧ OwnS w4 base tv (s ++ askL (s.take 0) q) from ⟨_, (uh HK3).size, by rw [show askL (s.take 0) q = [] from rfl, List.append_nil]; exact hT4⟩)
 have HO4 := hide (owns_keeps (uh HO3) hk4 (fun _ _ h => h))
 obtain ⟨ta, tc, et⟩ := row_form0 (uh HT4)
 subst et
 clear hT4 hk4 HT4 HK3 HO3
 go_wp2_with fail
 go_loopw [6, 7] (fun l i wr => ∃ (k m c : Nat) (ad : Option Addr), k ≤ n ∧ i = .int .i64 k ∧ l = .slice ad m c ∧ Hid (∃ base, w.heap.size ≤ base ∧ OwnS wr base l (s ++ askL (s.take k) q)) ∧ Hid (Keeps (fun _ => False) w4 wr)) (fun _ i _ => n - (intOf i).toNat)
 case atStart => exact ⟨0, _, _, _, by omega, rfl, rfl, HS4, Keeps.refl _ _⟩
 case round =>
  obtain ⟨k, m, c, ad, hk, rfl, rfl, HB, HK⟩ := hrel
  by_cases hkn : k < n
  ·have hO4r : OwnS wr w.heap.size (.slice sa s.length sc) s := by rw [uh HN]; exact owns_keeps (uh HO4) (uh HK) (fun _ _ h => h)
   rcases own_script hO4r with ⟨_, h2⟩ | ⟨g, cap, e1, hcap, hsc, hltg, hbg, hmax⟩
   ·have := uh HN; rw [h2] at this; simp at this; omega
   rw [uh HN] at e1 hcap
   injection e1 with e2 _ e3
   subst e2 e3
   have hi : k < s.length := by rw [uh HN]; exact hkn
   obtain ⟨c0, c1, _⟩ := opAt_cells hsc hi
   rw [Nat.zero_add] at c0 c1
   have HTK := hide (show askL (s.take (k + 1)) q = askL (s.take k) q ++ if ((opAt s k).kind == 1) = true then [qOp (opAt s k).id q] else [] by rw [take_opAt hi, askL_snoc])
   generalize opAt s k = o at *
   have hk0 : (0 : Int) ≤ (k : Int) := by omega
   have hkn' : (k : Int) < (n : Int) := by omega
   have hal : (s ++ askL (s.take k) q).length ≤ n + k := by
    rw [List.length_append]
    have h1 := askL_length (s.take k) q
    rw [List.length_take] at h1
    have := uh HN
    omega
   clear hsc hbg hmax hcap hi hltg hO4r
   cases h1 : (o.kind == 1)
   ·rw [h1] at HTK
    go_wp2_with fail
    go_roundw
    case rel => exact ⟨k + 1, m, c, ad, by omega, by go_num, rfl, hide (by obtain ⟨base, b1, b2⟩ := uh HB; exact ⟨base, b1, by rw [uh HTK]; simpa using b2⟩), HK⟩
    case measure => simp [intOf]; omega
   ·rw [h1, if_pos rfl] at HTK
    go_wp2_with fail
    have HW := hide (show ScriptW (wr.alloc (.cells (qOp o.id q).cells.toArray 40)) (.slice ad m c) (s ++ askL (s.take k) q) by
       obtain ⟨base, b1, b2⟩ := uh HB
       exact own_scriptW (owns_keeps b2 ((Keeps.refl (fun _ => False) wr).alloc _) (fun _ _ h => h)))
    refine (with_any (.slice ad m c) (.slice (some ⟨wr.heap.size, 0, none⟩) 1 1) (s ++ askL (s.take k) q) [qOp o.id q] _ (uh HW) (blk_script (Blk.new wr (qOp o.id q).cells 40)) (by simp only [List.length_singleton]; omega)).mono ?_
    rintro r w9 ⟨uv, rfl, hU, hk9⟩
    have HU := hide hU
    have HK9 := hide (((uh HK).alloc (.cells (qOp o.id q).cells.toArray 40)).then hk9)
    obtain ⟨ua, uc, eu⟩ := row_form0 hU
    obtain ⟨ul, hul⟩ : ∃ ul, (s ++ askL (s.take k) q ++ [qOp o.id q]).length = ul := ⟨_, rfl⟩
    rw [hul] at eu
    subst eu
    clear hU hk9 hul
    go_wp2_with fail
    go_roundw
    case rel => exact ⟨k + 1, _, _, _, by omega, by go_num, rfl, hide ⟨(wr.alloc (.cells (qOp o.id q).cells.toArray 40)).heap.size, (by have h1 := (uh HK4).size; have h2 := (uh HK).size; simp; omega), (by rw [uh HTK, ← List.append_assoc]; exact uh HU)⟩, HK9⟩
    case measure => simp [intOf]; omega
  ·go_wp2_with fail
   go_ret
   obtain ⟨base, b1, b2⟩ := uh HB
   rw [List.take_of_length_le (by rw [uh HN]; omega), ← uh HAD] at b2
   exact ⟨_, base, rfl, b2, b1, (uh HK4).then (uh HK)⟩
end Go.Proofs.YtahnliehdjncdaaGreatDoor
namespace Go.Proofs.YtahnliehdjncdaaGreatDoor
structure OkI (c : Cfg) (k : Nat) (y : It) : Prop where
 t0 : 0 ≤ y.t
 t1 : y.t ≤ 4611686018427387904
 fit : kindE c k ⟨y.t, y.k, y.d, 0⟩ = 0
structure NLaw (k : Nat) (P : Cfg → Int → Note → List It → Prop) : Prop where
 zero : ∀ c m, validB c = true → c.kind = k → P c m note0 []
 later : ∀ c m m' nt R, validB c = true → c.kind = k → m ≤ m' → P c m nt R → P c m' nt R
 rel : ∀ c m nt R y, validB c = true → c.kind = k → P c m nt R → (∀ r ∈ R, OkI c k r ∧ leP r y ∧ r.n ≠ y.n) → OkI c k y → y.t ≤ m → P c m (relN k c nt y m) (R ++ [y])
 swp : ∀ c m nt R b, validB c = true → c.kind = k → P c m nt R → P c m (swpN k c nt m b).1 R
structure GS (P : Cfg → Int → Note → List It → Prop) (clock : Int) (x : Ser) (A : List It) : Prop where
 heap : HeapL x.l
 wait : ∀ y ∈ x.l, clock - x.c.lag < y.t
 okA : ∀ y ∈ A, OkI x.c x.k y
 num : ∀ (i : Nat) (y : It), A[i]? = some y → y.n = (i : Int) + 1
 acc : x.acc = (A.length : Int)
 whole : ∃ R, P x.c (clock - x.c.lag) x.nt R ∧ R.Pairwise leP ∧ (∀ r ∈ R, r.t ≤ clock - x.c.lag) ∧ (R ++ x.l).Perm A
theorem nums_nodup {A : List It} (h : ∀ (i : Nat) (y : It), A[i]? = some y → y.n = (i : Int) + 1) : (A.map (·.n)).Nodup := by
 refine List.pairwise_iff_getElem.2 (fun i j hi hj hij => ?_)
 rw [List.length_map] at hi hj
 rw [List.getElem_map, List.getElem_map]
 have h1 := h i _ (List.getElem?_eq_getElem hi)
 have h2 := h j _ (List.getElem?_eq_getElem hj)
 omega
theorem HeapL.first_leP {l : List It} (h : HeapL l) {y : It} (hy : y ∈ l) : leP (itAt l 0) y := by
 obtain ⟨j, hj, rfl⟩ := List.mem_iff_getElem.1 hy
 have := h.first j hj
 rw [show itAt l j = l[j] by simp [itAt, List.getD_eq_getElem?_getD, List.getElem?_eq_getElem hj]] at this
 exact this
theorem relS_acc (f : Nat) : ∀ (x : Ser) (m : Int), (relS f x m).acc = x.acc := by
 induction f with
 | zero => intro x m; rfl
 | succ f ih =>
  intro x m
  unfold relS
  split
  ·rfl
  ·split
   ·rfl
   ·exact ih _ _
theorem relS_GS {k : Nat} {P : Cfg → Int → Note → List It → Prop} (hP : NLaw k P) (m : Int) (f : Nat) : ∀ (x : Ser) (R : List It), x.l.length < f → HeapL x.l → validB x.c = true → x.c.kind = k → x.k = k →
  (∀ y ∈ R ++ x.l, OkI x.c k y) → ((R ++ x.l).map (·.n)).Nodup → P x.c m x.nt R → R.Pairwise leP → (∀ r ∈ R, r.t ≤ m) → (∀ r ∈ R, ∀ y ∈ x.l, leP r y) →
  ∃ R', P x.c m (relS f x m).nt R' ∧ R'.Pairwise leP ∧ (∀ r ∈ R', r.t ≤ m) ∧ (R' ++ (relS f x m).l).Perm (R ++ x.l) ∧ (∀ y ∈ (relS f x m).l, m < y.t) := by
 induction f with
 | zero => intro x R h; omega
 | succ f ih =>
  intro x R hf hh hv hck hk hok hnd hp hs hr hx
  unfold relS
  split
  ·rename_i he
   have hnil : x.l = [] := List.isEmpty_iff.1 he
   exact ⟨R, hp, hs, hr, List.Perm.refl _, by rw [hnil]; simp⟩
  ·rename_i he
   have hne : x.l ≠ [] := fun h => he (by rw [h]; rfl)
   split
   ·rename_i hm
    refine ⟨R, hp, hs, hr, List.Perm.refl _, fun y hy => ?_⟩
    have := hh.first_mem hy
    omega
   ·rename_i hm
    obtain ⟨th, tp⟩ := take_heap x.l hh hne
    have hlen : (relOne x m).l.length = x.l.length - 1 := takeL_length _
    have hpos : 0 < x.l.length := List.length_pos_iff.2 hne
    have hperm : ((R ++ [itAt x.l 0]) ++ takeL x.l).Perm (R ++ x.l) := by
     rw [List.append_assoc]; exact List.Perm.append_left R tp
    have hy0 : itAt x.l 0 ∈ x.l := tp.mem_iff.1 (by simp)
    have hnd2 : (((R ++ [itAt x.l 0]) ++ takeL x.l).map (·.n)).Nodup := (hperm.map (·.n)).nodup_iff.2 hnd
    have hfirst : ∀ y ∈ takeL x.l, leP (itAt x.l 0) y := fun y hy => hh.first_leP (tp.mem_iff.1 (by simp [hy]))
    have hnew := hP.rel x.c m x.nt R (itAt x.l 0) hv hck hp (fun r hrm => ⟨hok r (by simp [hrm]), hx r hrm _ hy0, fun e => by
         have h1 : (((R ++ [itAt x.l 0])).map (·.n)).Nodup := by
          rw [List.map_append] at hnd2
          exact (List.nodup_append.1 hnd2).1
         rw [List.map_append] at h1
         exact (List.nodup_append.1 h1).2.2 r.n (List.mem_map_of_mem hrm) (itAt x.l 0).n (by simp) e⟩) (hok _ (by simp [hy0])) (by omega)
    obtain ⟨R', p1, p2, p3, p4, p5⟩ := ih (relOne x m) (R ++ [itAt x.l 0]) (by omega) th hv hck hk
     (fun y hy => hok y (hperm.mem_iff.1 hy)) hnd2 (by
        show P x.c m (relN x.k x.c x.nt (itAt x.l 0) m) _
        rw [hk]; exact hnew)
     (List.pairwise_append.2 ⟨hs, by simp, fun a ha b hb => by rw [List.mem_singleton] at hb; rw [hb]; exact hx a ha _ hy0⟩)
     (fun r hrm => by
        rcases List.mem_append.1 hrm with h | h
        ·exact hr r h
        ·rw [List.mem_singleton] at h; rw [h]; omega)
     (fun r hrm y hy => by
        rcases List.mem_append.1 hrm with h | h
        ·exact hx r h y (tp.mem_iff.1 (by simp [show y ∈ takeL x.l from hy]))
        ·rw [List.mem_singleton] at h; rw [h]; exact hfirst y hy)
    exact ⟨R', p1, p2, p3, p4.trans hperm, p5⟩
theorem tick_GS {k : Nat} {P : Cfg → Int → Note → List It → Prop} (hP : NLaw k P) {clock nc : Int} {x : Ser} {A : List It} (h : GS P clock x A) (hk : x.k = k) (hck : x.c.kind = k) (hv : validB x.c = true) (hcn : clock ≤ nc) : GS P nc (tickOne nc x) A := by
 obtain ⟨R, hw, hs, hr, hp⟩ := h.whole
 have hkk := relS_keep (nc - x.c.lag) (x.l.length + 1) x (by omega) h.heap
 have hacc : (relS (x.l.length + 1) x (nc - x.c.lag)).acc = x.acc := relS_acc _ _ _
 obtain ⟨R', p1, p2, p3, p4, p5⟩ := relS_GS hP (nc - x.c.lag) (x.l.length + 1) x R (by omega) h.heap hv hck hk
  (fun y hy => by rw [← hk]; exact h.okA y (hp.mem_iff.1 hy)) ((hp.map (·.n)).nodup_iff.2 (nums_nodup h.num)) (hP.later _ _ _ _ _ hv hck (by omega) hw) hs (fun r hrm => by have := hr r hrm; omega)
  (fun r hrm y hy => .inl (by have h1 := hr r hrm; have h2 := h.wait y hy; omega))
 unfold tickOne
 refine ⟨hkk.1, fun y hy => ?_, fun y hy => ?_, h.num, ?_, R', ?_, p2, fun r hrm => ?_, p4.trans hp⟩
 ·rw [hkk.2.1]; exact p5 y hy
 ·rw [hkk.2.1, hkk.2.2.1]; exact h.okA y hy
 ·rw [hacc]; exact h.acc
 ·rw [hkk.2.1]; exact p1
 ·rw [hkk.2.1]; exact p3 r hrm
theorem sweep_GS {k : Nat} {P : Cfg → Int → Note → List It → Prop} (hP : NLaw k P) {nc b : Int} {x : Ser} {A : List It} (h : GS P nc x A) (hk : x.k = k) (hck : x.c.kind = k) (hv : validB x.c = true) : GS P nc (swpS nc b x) A := by
 obtain ⟨R, hw, hs, hr, hp⟩ := h.whole
 refine ⟨h.heap, h.wait, h.okA, h.num, h.acc, R, ?_, hs, hr, hp⟩
 show P x.c (nc - x.c.lag) (swpN x.k x.c x.nt (nc - x.c.lag) b).1 R
 rw [hk]; exact hP.swp _ _ _ _ _ hv hck hw
theorem add_GS {P : Cfg → Int → Note → List It → Prop} {clock : Int} {x : Ser} {A : List It} (h : GS P clock x A) (y : It) (hy : clock - x.c.lag < y.t) (hok : OkI x.c x.k (numbered y (x.acc + 1))) : GS P clock (accS x y) (A ++ [numbered y (x.acc + 1)]) := by
 obtain ⟨R, hw, hs, hr, hp⟩ := h.whole
 obtain ⟨h1, h2⟩ := put_heap x.l (numbered y (x.acc + 1)) h.heap
 refine ⟨h1, fun z hz => ?_, fun z hz => ?_, fun i z hz => ?_, ?_, R, hw, hs, hr, ?_⟩
 ·rcases List.mem_cons.1 (h2.mem_iff.1 hz) with e | e
  ·rw [e]; exact hy
  ·exact h.wait z e
 ·rcases List.mem_append.1 hz with e | e
  ·exact h.okA z e
  ·rw [List.mem_singleton] at e; rw [e]; exact hok
 ·by_cases hi : i < A.length
  ·rw [List.getElem?_append_left hi] at hz; exact h.num i z hz
  ·rw [List.getElem?_append_right (by omega)] at hz
   have hi2 : i - A.length = 0 := by
    have := (List.getElem?_eq_some_iff.1 hz).1
    simp at this; omega
   rw [hi2] at hz
   simp at hz
   rw [← hz]
   show x.acc + 1 = _
   rw [h.acc]; omega
 ·show x.acc + 1 = _
  rw [h.acc, List.length_append]; simp
 ·refine (List.Perm.append_left R h2).trans (List.perm_middle.trans ?_)
  exact (List.Perm.cons _ hp).trans (List.perm_append_singleton _ _).symm
theorem new_GS {k : Nat} {P : Cfg → Int → Note → List It → Prop} (hP : NLaw k P) (clock id : Int) (c : Cfg) (hv : validB c = true) (hck : c.kind = k) (j : Nat) : GS P clock (newSer id c j) [] :=
 ⟨fun i _ hi => by simp [newSer] at hi, fun t ht => by simp [newSer] at ht, fun y hy => by simp at hy, fun i y hy => by simp at hy, rfl, [], hP.zero _ _ hv hck, List.Pairwise.nil, fun r hr => by simp at hr, List.Perm.refl _⟩
def acci (s : WS) (o : OpM) (id : Int) : List It := if o.kind = 2 ∧ o.id = id ∧ (stepM s o).2.1 = 0 then [numbered o.item ((stepM s o).2.2.headD 0)] else []
structure GW (k : Nat) (P : Cfg → Int → Note → List It → Prop) (s : WS) (A : Int → List It) : Prop where
 ids : (s.xs.map (·.id)).Nodup
 none : ∀ id, id ∉ s.xs.map (·.id) → A id = []
 cnt : ∀ x, x ∈ s.xs → x.k = k → GS P s.clock x (A x.id)
theorem GW.same {k : Nat} {P : Cfg → Int → Note → List It → Prop} {s : WS} {A B : Int → List It} (h : GW k P s A) (he : ∀ id, B id = A id) : GW k P s B :=
 ⟨h.ids, fun id hid => (he id).trans (h.none id hid), fun x hx hk => by rw [he]; exact h.cnt x hx hk⟩
theorem acci_none {s : WS} {o : OpM} (h : o.kind ≠ 2 ∨ (stepM s o).2.1 ≠ 0) (id : Int) : acci s o id = [] := by
 unfold acci
 rw [if_neg]
 rintro ⟨h1, _, h3⟩
 rcases h with h | h
 ·exact h h1
 ·exact h h3
theorem upd_GW {k : Nat} {P : Cfg → Int → Note → List It → Prop} {s : WS} {A B : Int → List It} (h : GW k P s A) {id : Int} {x y : Ser} (hf : findS s.xs id = some x) (hid : y.id = x.id) (hb : ∀ i, i ≠ id → B i = A i) (hk : y.k = x.k) (hy : x.k = k → GS P s.clock x (A x.id) → GS P s.clock y (B id)) : GW k P ⟨s.clock, updS s.xs id y⟩ B := by
 obtain ⟨l1, l2, he, hx, hu⟩ := find_split hf
 have hm : (updS s.xs id y).map (·.id) = s.xs.map (·.id) := by
  rw [hu, he]; simp [hid]
 have hxm : x ∈ s.xs := by rw [he]; simp
 refine ⟨by show ((updS s.xs id y).map _).Nodup; rw [hm]; exact h.ids, fun i hi => ?_, fun z hz hzk => ?_⟩
 ·have hi' : i ∉ s.xs.map (·.id) := by rw [← hm]; exact hi
  have hne : i ≠ id := fun h0 => hi' (by rw [h0, ← hx]; exact List.mem_map_of_mem hxm)
  rw [hb i hne]; exact h.none i hi'
 ·have hz' : z ∈ l1 ++ y :: l2 := by rw [← hu]; exact hz
  have hnd := h.ids
  rw [he, List.map_append, List.map_cons] at hnd
  obtain ⟨_, n2, n3⟩ := List.nodup_append.1 hnd
  have n4 := (List.nodup_cons.1 n2).1
  rcases List.mem_append.1 hz' with hz1 | hz1
  ·have hne : z.id ≠ id := fun h0 => n3 z.id (List.mem_map_of_mem hz1) x.id (by simp) (by rw [h0, hx])
   show GS P s.clock z (B z.id)
   rw [hb _ hne]; exact h.cnt z (by rw [he]; simp [hz1]) hzk
  ·rcases List.mem_cons.1 hz1 with hz1 | hz1
   ·subst hz1
    show GS P s.clock z (B z.id)
    rw [hid, hx]
    exact hy (by rw [← hk]; exact hzk) (h.cnt x hxm (by rw [← hk]; exact hzk))
   ·have hne : z.id ≠ id := fun h0 => n4 (by rw [hx, ← h0]; exact List.mem_map_of_mem hz1)
    show GS P s.clock z (B z.id)
    rw [hb _ hne]; exact h.cnt z (by rw [he]; simp [hz1]) hzk
theorem step_GW {k : Nat} {P : Cfg → Int → Note → List It → Prop} (hP : NLaw k P) {n : Int} {s : WS} {A : Int → List It} (hi : EInv n s.clock s.xs) (h : GW k P s A) (o : OpM) (h7 : o.kind ≠ 7) : GW k P (stepM s o).1 (fun id => A id ++ acci s o id) := by
 by_cases h1 : o.kind = 1
 ·have ha := acci_none (s := s) (o := o) (.inl (by omega))
  simp only [ha, List.append_nil]
  unfold stepM
  rw [if_pos h1]
  unfold createM
  split
  ·rename_i hc
   split
   ·rename_i hv
    split
    ·have hnew : o.id ∉ s.xs.map (·.id) := fun hm => by
      obtain ⟨x, hx, hxi⟩ := List.mem_map.1 hm
      have := hc.2
      unfold findS at this
      rw [Option.isNone_iff_eq_none, List.find?_eq_none] at this
      exact this x hx (by simpa using hxi)
     refine ⟨?_, fun id hid => ?_, fun x hx hk => ?_⟩
     ·show ((s.xs ++ [newSer o.id o.cfg o.cfg.kind.toNat]).map (·.id)).Nodup
      rw [List.map_append]
      refine List.nodup_append.2 ⟨h.ids, by simp, fun a ha b hb => ?_⟩
      simp [newSer] at hb
      subst hb
      exact fun h0 => hnew (by rw [← h0]; exact ha)
     ·exact h.none id (fun h0 => hid (by show id ∈ (s.xs ++ [newSer o.id o.cfg o.cfg.kind.toNat]).map (·.id); rw [List.map_append]; exact List.mem_append.2 (.inl h0)))
     ·rcases List.mem_append.1 hx with hx | hx
      ·exact h.cnt x hx hk
      ·rw [List.mem_singleton] at hx; subst hx
       show GS P s.clock _ (A o.id)
       have hkd := (newSer_inv (n := 0) o.id o.cfg hv (by omega)).kind
       have hkk : (newSer o.id o.cfg o.cfg.kind.toNat).k = k := hk
       rw [hkk] at hkd
       rw [h.none o.id hnew]; exact new_GS hP _ _ _ hv hkd _
    ·exact h
   ·exact h
  ·exact h
 by_cases h2 : o.kind = 2
 ·have hs : stepM s o = addM s o := by unfold stepM; rw [if_neg h1, if_pos h2]
  cases hf : findS s.xs o.id with
  | none =>
   have e : addM s o = (s, 2, []) := by unfold addM; rw [hf]
   have ha := acci_none (s := s) (o := o) (.inr (by rw [hs, e]; simp))
   simp only [ha, List.append_nil]
   rw [hs, e]; exact h
  | some x =>
   by_cases hr : refE x s.clock o.item = 0
   ·have e : addM s o = (⟨s.clock, updS s.xs o.id (accS x o.item)⟩, 0, [x.acc + 1]) := by unfold addM; rw [hf]; simp only; rw [if_pos hr]
    have he2 := e
    rw [hs, e]
    refine upd_GW h hf rfl (fun i hne => ?_) rfl (fun _ hb => ?_)
    ·show A i ++ acci s o i = A i
     have : acci s o i = [] := by unfold acci; rw [if_neg (fun hh => hne hh.2.1.symm)]
     rw [this, List.append_nil]
    ·show GS P s.clock (accS x o.item) (A o.id ++ acci s o o.id)
     have : acci s o o.id = [numbered o.item (x.acc + 1)] := by unfold acci; rw [if_pos ⟨h2, rfl, by rw [hs, e]⟩, hs, e]; rfl
     rw [this]
     obtain ⟨_, _, _, hx, _⟩ := find_split hf
     rw [hx] at hb
     obtain ⟨z1, z2, _, _, _, z6, _⟩ := refE_zero hr
     exact add_GS hb o.item (refE_late hr) ⟨z1, z2, z6⟩
   ·have e : addM s o = (⟨s.clock, updS s.xs o.id (refS x (refE x s.clock o.item).toNat)⟩, refE x s.clock o.item, []) := by unfold addM; rw [hf]; simp only; rw [if_neg hr]
    have ha := acci_none (s := s) (o := o) (.inr (by rw [hs, e]; exact hr))
    simp only [ha, List.append_nil]
    rw [hs, e]
    refine upd_GW h hf rfl (fun i _ => rfl) rfl (fun _ hb => ?_)
    obtain ⟨_, _, _, hx, _⟩ := find_split hf
    rw [hx] at hb
    exact ⟨hb.heap, hb.wait, hb.okA, hb.num, hb.acc, hb.whole⟩
 have ha := acci_none (s := s) (o := o) (.inl h2)
 simp only [ha, List.append_nil]
 unfold stepM
 rw [if_neg h1, if_neg h2]
 split
 ·unfold tickM
  split
  ·split
   ·have hcn : s.clock ≤ maxC s.clock o.a := by unfold maxC; split <;> omega
    have hids : ((sweepL (maxC s.clock o.a) o.b (s.xs.map (tickOne (maxC s.clock o.a)))).1.map (·.id)) = s.xs.map (·.id) := by
     rw [sweepL_ids, List.map_map]
     refine List.map_congr_left fun x _ => ?_
     exact (relS_k _ _ _).2.2
    refine ⟨by show List.Nodup _; rw [hids]; exact h.ids, fun id hid => h.none id (by rw [← hids]; exact hid), fun z hz hk => ?_⟩
    obtain ⟨y, hy, b', rfl⟩ := sweepL_from _ _ _ hz
    obtain ⟨x, hx, rfl⟩ := List.mem_map.1 hy
    have htk : (tickOne (maxC s.clock o.a) x).k = x.k := (relS_k _ _ _).1
    have htc : (tickOne (maxC s.clock o.a) x).c = x.c := (relS_k _ _ _).2.1
    have hkx : x.k = k := by rw [← htk]; exact hk
    have hv := hi.sers x hx
    have hck : x.c.kind = k := by rw [hv.kind, hkx]
    have hid : (swpS (maxC s.clock o.a) b' (tickOne (maxC s.clock o.a) x)).id = x.id := (relS_k _ _ _).2.2
    rw [hid]
    exact sweep_GS hP (tick_GS hP (h.cnt x hx hkx) hkx hck hv.valid hcn) (htk.trans hkx) (by rw [htc]; exact hck) (by rw [htc]; exact hv.valid)
   ·exact h
  ·exact h
 ·split
  ·unfold queryM; split <;> exact h
  ·split
   ·unfold statsM; split <;> exact h
   ·split <;> exact h
def accI : WS → List OpM → Int → List It
 | _, [], _ => []
 | s, o :: r, id => acci s o id ++ accI (stepM s o).1 r id
theorem end_GW {k : Nat} {P : Cfg → Int → Note → List It → Prop} (hP : NLaw k P) (l : List OpM) : ∀ {n : Int} {s : WS} {A : Int → List It}, 0 ≤ n → EInv n s.clock s.xs → OkRun l → GW k P s A → GW k P (endM s l) (fun id => A id ++ accI s l id) := by
 induction l with
 | nil => intro n s A _ _ _ h; exact h.same (fun id => by simp [accI])
 | cons o l ih =>
  intro n s A hn hi hok h
  have ho := hok o (by simp)
  have := ih (n := n + 1) (by omega) (stepM_inv o hi hn (loadOk_none ho)) (fun p hp => hok p (by simp [hp])) (step_GW hP hi h o ho)
  exact this.same (fun id => by simp [accI, List.append_assoc])
theorem accI_snoc (l : List OpM) (o : OpM) (id : Int) : ∀ s, accI s (l ++ [o]) id = accI s l id ++ acci (endM s l) o id := by
 induction l with
 | nil => intro s; simp [accI, endM]
 | cons a l ih => intro s; simp only [List.cons_append, accI, ih, List.append_assoc]; rfl
def tri (y : It) : Int × Int × Int := (y.t, y.k, y.d)
def triO (o : OpM) : Int × Int × Int := (o.a, o.b, o.c)
theorem itemsI_is (ops : List OpM) (id fr to : Int) (n : Nat) (hn : n ≤ ops.length) : (itemsD ops (codesOf ops) id fr to n).map triO = ((accI ws0 (ops.take n) id).filter (fun y => decide (fr < y.t ∧ y.t ≤ to))).map tri := by
 induction n with
 | zero => rfl
 | succ n ih =>
  have hi : n < ops.length := by omega
  rw [itemsD_succ, take_opAt hi, accI_snoc, List.filter_append, List.map_append, List.map_append, ih (by omega), codeAt_is ops n hi]
  congr 1
  unfold acci
  by_cases h1 : (opAt ops n).kind = 2 ∧ (opAt ops n).id = id ∧ (stepM (endM ws0 (ops.take n)) (opAt ops n)).2.1 = 0
  ·rw [if_pos h1]
   by_cases h2 : fr < (opAt ops n).a ∧ (opAt ops n).a ≤ to
   ·rw [if_pos ⟨h1.1, h1.2.1, h1.2.2, h2⟩]
    rw [List.filter_cons_of_pos (by simpa [numbered, OpM.item] using h2)]
    rfl
   ·rw [if_neg (fun h => h2 h.2.2.2)]
    rw [List.filter_cons_of_neg (by simpa [numbered, OpM.item] using h2)]
    rfl
  ·rw [if_neg h1, if_neg (fun h => h1 ⟨h.1, h.2.1, h.2.2.1⟩)]
   rfl
theorem ask_data {k : Nat} {P : Cfg → Int → Note → List It → Prop} (hP : NLaw k P) (t : List OpM) (hok : OkRun t) (j : Nat) (hj : j < t.length) (h4 : (opAt t j).kind = 4) (c : Cfg) (hc : configD t (codesOf t) (opAt t j).id j = some c) (hk : c.kind = k) :
  (0 ≤ clockD t (codesOf t) j ∧ clockD t (codesOf t) j ≤ 4611686018427387904) ∧ (0 ≤ c.lag ∧ c.lag ≤ 100) ∧ validB c = true ∧
  ∃ (x : Ser) (R L A : List It), findS (endM ws0 (t.take j)).xs (opAt t j).id = some x ∧ x.c = c ∧ x.k = k ∧ (runM ws0 t)[j]? = some (qryN k c x.nt (opAt t j).a (clockD t (codesOf t) j - c.lag)) ∧ P c (clockD t (codesOf t) j - c.lag) x.nt R ∧ R.Pairwise leP ∧ (∀ r ∈ R, r.t ≤ clockD t (codesOf t) j - c.lag ∧ OkI c k r) ∧ (∀ y ∈ L, clockD t (codesOf t) j - c.lag < y.t) ∧ (R ++ L).Perm A ∧
   (A.length : Int) ≤ j ∧ (∃ n last, n ≤ (j : Int) ∧ NInv k c n last x.nt) ∧ A = accI ws0 (t.take j) (opAt t j).id := by
 have hjl : j ≤ t.length := by omega
 have hokj : OkRun (t.take j) := fun o ho => hok o (List.mem_of_mem_take ho)
 have hinv : EInv j (endM ws0 (t.take j)).clock (endM ws0 (t.take j)).xs := by
  have := endM_inv (t.take j) inv0 (by omega) (fun i o ho => loadOk_none (hokj o (List.mem_of_getElem? ho)))
  rw [List.length_take, Nat.min_eq_left hjl] at this
  simpa using this
 have hwb : GW k P (endM ws0 (t.take j)) (accI ws0 (t.take j)) := by
  have := end_GW hP (t.take j) (n := 0) (s := ws0) (A := fun _ => []) (by omega) inv0 hokj ⟨by simp [ws0], fun _ _ => rfl, fun x hx => by simp [ws0] at hx⟩
  exact this.same (fun id => by simp)
 rw [configD_is t hok _ j hjl] at hc
 cases hf : findS (endM ws0 (t.take j)).xs (opAt t j).id with
 | none => rw [hf] at hc; cases hc
 | some x =>
  rw [hf] at hc
  have hxc : x.c = c := by simpa using hc
  have hx : x ∈ (endM ws0 (t.take j)).xs := List.mem_of_find?_eq_some hf
  have hsi := hinv.sers x hx
  have hid : x.id = (opAt t j).id := by have := List.find?_some hf; simpa using this
  have hk1 : x.k = k := by have := hsi.kind; rw [hxc, hk] at this; omega
  obtain ⟨l0, l1, _⟩ := hsi.common
  have hclk := clockD_is t hok j hjl
  have hans := runM_at ws0 t j _ (opAt_get hj)
  have hstep : stepM (endM ws0 (t.take j)) (opAt t j) = (endM ws0 (t.take j), qryN x.k x.c x.nt (opAt t j).a ((endM ws0 (t.take j)).clock - x.c.lag)) := by
   unfold stepM
   rw [if_neg (by omega), if_neg (by omega), if_neg (by omega), if_pos h4]
   unfold queryM
   rw [hf]
  rw [hstep, hk1] at hans
  have hg := hwb.cnt x hx hk1
  obtain ⟨R, r1, r2, r3, r4⟩ := hg.whole
  rw [hclk, ← hxc]
  refine ⟨⟨hinv.c0, hinv.c1⟩, ⟨l0, l1⟩, hsi.valid, x, R, x.l, _, rfl, rfl, hk1, hans, r1, r2, fun r hr => ⟨r3 r hr, ?_⟩, hg.wait, r4, ?_, ⟨x.rel, x.last, ?_, ?_⟩, by rw [hid]⟩
  ·rw [← hk1]; exact hg.okA r (r4.mem_iff.1 (by simp [hr]))
  ·rw [← hg.acc]; exact hsi.accn
  ·have h1 := hsi.rela; have h2 := hsi.accn; omega
  ·rw [← hk1]; exact hsi.note
end Go.Proofs.YtahnliehdjncdaaGreatDoor
namespace Go.Proofs.YtahnliehdjncdaaGreatDoor
theorem items_rel {R L A : List It} {fr mk : Int} (hp : (R ++ L).Perm A) (hR : ∀ r ∈ R, r.t ≤ mk) (hL : ∀ y ∈ L, mk < y.t) : (A.filter (fun y => decide (fr < y.t ∧ y.t ≤ mk))).Perm (R.filter (fun y => decide (fr < y.t))) := by
 refine (hp.filter _).symm.trans ?_
 rw [List.filter_append]
 have h1 : L.filter (fun y => decide (fr < y.t ∧ y.t ≤ mk)) = [] := List.filter_eq_nil_iff.2 (fun y hy => by have := hL y hy; simp; omega)
 have h2 : R.filter (fun y => decide (fr < y.t ∧ y.t ≤ mk)) = R.filter (fun y => decide (fr < y.t)) := List.filter_congr (fun y hy => by have := hR y hy; simp; omega)
 rw [h1, h2, List.append_nil]
end Go.Proofs.YtahnliehdjncdaaGreatDoor
