import Derived.Test.YtahnliehdjncdaaGreatDoorXBT
import Derived.Test.YtahnliehdjncdaaGreatDoorXBS
import Derived.Laws.OwnMore
set_option maxRecDepth 100000
set_option maxHeartbeats 16000000
namespace Go.Proofs.YtahnliehdjncdaaGreatDoor
open Go.RowKit
attribute [local go_sem ↓] execOp_load38 execOp_load40 execOp_store40 execOp_bs22 execOp_build40 execOp_store38
attribute [local go_sem] run_load38 run_load40 bigVal_drew hasBig_drew bigVal_ne hasBig_ne bigVal_alloc hasBig_alloc run_bs1 run_q40 run_bsq
def askL (s : List OpM) (n : Int) : List OpM := (s.filter (fun o => o.kind == 1)).map (fun o => qOp o.id n)
def askedD (ops : List OpM) (n : Int) : List OpM := ops.filter OpM.noLoad ++ askL (ops.filter OpM.noLoad) n
theorem askL_snoc (s : List OpM) (o : OpM) (n : Int) : askL (s ++ [o]) n = askL s n ++ if (o.kind == 1) = true then [qOp o.id n] else [] := by
 unfold askL
 rw [List.filter_append, List.map_append, List.filter_cons]
 congr 1
 by_cases h : (o.kind == 1) = true
 ·rw [if_pos h, if_pos h]; rfl
 ·rw [if_neg h, if_neg h]; rfl
theorem askL_length (s : List OpM) (n : Int) : (askL s n).length ≤ s.length := by
 unfold askL; rw [List.length_map]; exact List.length_filter_le _ _
theorem askedD_length (ops : List OpM) (n : Int) : (askedD ops n).length ≤ 2 * ops.length := by
 unfold askedD
 rw [List.length_append]
 have h1 := askL_length (ops.filter OpM.noLoad) n
 have h2 := List.length_filter_le OpM.noLoad ops
 omega
theorem askL_kind (s : List OpM) (n : Int) : ∀ o, o ∈ askL s n → o.kind = 4 := by
 intro o ho
 obtain ⟨p, _, rfl⟩ := List.mem_map.1 ho
 rfl
theorem askedD_ok (ops : List OpM) (n : Int) : OkRun (askedD ops n) := by
 intro o ho
 rcases List.mem_append.1 ho with h | h
 ·have := (List.mem_filter.1 h).2
  simpa [OpM.noLoad] using this
 ·have := askL_kind _ _ o h; omega
theorem askedS_any (v : Value) (ops : List OpM) (q : Int) (w : World) (hv : ScriptW w v ops) (hlen : ops.length ≤ 325781223000) :
  Calls Tryz.prog 30 #[v, .int .i64 q] w fun r w' => ∃ v' base, r = .returned v' ∧ OwnS w' base v' (askedD ops q) ∧ w.heap.size ≤ base ∧ Keeps (fun _ => False) w w' := by
 have HV := hide hv
 clear hv
 go_enter Tryz.func30, Tryz.ntmps30
 go_wp2_with fail
 refine (without_any v ops w (uh HV) (by omega)).mono ?_
 rintro r w3 ⟨sv, rfl, hO, hk3, -⟩
 have HO3 := hide hO
 have HK3 := hide hk3
 have hle : (ops.filter OpM.noLoad).length ≤ 325781223000 := by have := List.length_filter_le OpM.noLoad ops; omega
 have HAD := hide (show askedD ops q = ops.filter OpM.noLoad ++ askL (ops.filter OpM.noLoad) q from rfl)
 clear hk3 hO
 generalize hs : ops.filter OpM.noLoad = s at *
 clear hs
 obtain ⟨sa, sc, es⟩ := row_form0 (uh HO3)
 generalize hn : s.length = n at *
 have HN := hide hn
 clear hn
 subst es
 go_wp2_with fail
 refine (with_any _ _ s [] w3 (by have h := own_scriptW (uh HO3); exact h) (.inl ⟨⟨none, 0, rfl⟩, rfl⟩) (by rw [uh HN]; simp; omega)).mono ?_
 rintro r w4 ⟨tv, rfl, hT4, hk4⟩
 rw [List.append_nil] at hT4
 have HT4 := hide hT4
 have HK4 := hide ((uh HK3).then hk4)
 have HS4 := hide (show ∃ base, w.heap.size ≤ base ∧ OwnS w4 base tv (s ++ askL (s.take 0) q) from ⟨_, (uh HK3).size, by rw [show askL (s.take 0) q = [] from rfl, List.append_nil]; exact hT4⟩)
 have HO4 := hide (owns_keeps (uh HO3) hk4 (fun _ _ h => h))
 obtain ⟨ta, tc, et⟩ := row_form0 (uh HT4)
 subst et
 clear hT4 hk4 HT4 HK3 HO3
 go_wp2_with fail
 go_loopw [6, 7] (fun l i wr => ∃ (k m c : Nat) (ad : Option Addr), k ≤ n ∧ i = .int .i64 k ∧ l = .slice ad m c ∧ Hid (∃ base, w.heap.size ≤ base ∧ OwnS wr base l (s ++ askL (s.take k) q)) ∧ Hid (Keeps (fun _ => False) w4 wr)) (fun _ i _ => n - (intOf i).toNat)
 case atStart => exact ⟨0, _, _, _, by omega, rfl, rfl, HS4, Keeps.refl _ _⟩
 case round =>
  obtain ⟨k, m, c, ad, hk, rfl, rfl, HB, HK⟩ := hrel
  by_cases hkn : k < n
  ·have hO4r : OwnS wr w.heap.size (.slice sa s.length sc) s := by rw [uh HN]; exact owns_keeps (uh HO4) (uh HK) (fun _ _ h => h)
   rcases own_script hO4r with ⟨_, h2⟩ | ⟨g, cap, e1, hcap, hsc, hltg, hbg, hmax⟩
   ·have := uh HN; rw [h2] at this; simp at this; omega
   rw [uh HN] at e1 hcap
   injection e1 with e2 _ e3
   subst e2 e3
   have hi : k < s.length := by rw [uh HN]; exact hkn
   obtain ⟨c0, c1, _⟩ := opAt_cells hsc hi
   rw [Nat.zero_add] at c0 c1
   have HTK := hide (show askL (s.take (k + 1)) q = askL (s.take k) q ++ if ((opAt s k).kind == 1) = true then [qOp (opAt s k).id q] else [] by rw [take_opAt hi, askL_snoc])
   generalize opAt s k = o at *
   have hk0 : (0 : Int) ≤ (k : Int) := by omega
   have hkn' : (k : Int) < (n : Int) := by omega
   have hal : (s ++ askL (s.take k) q).length ≤ n + k := by
    rw [List.length_append]
    have h1 := askL_length (s.take k) q
    rw [List.length_take] at h1
    have := uh HN
    omega
   clear hsc hbg hmax hcap hi hltg hO4r
   cases h1 : (o.kind == 1)
   ·rw [h1] at HTK
    go_wp2_with fail
    go_roundw
    case rel => exact ⟨k + 1, m, c, ad, by omega, by go_num, rfl, hide (by obtain ⟨base, b1, b2⟩ := uh HB; exact ⟨base, b1, by rw [uh HTK]; simpa using b2⟩), HK⟩
    case measure => simp [intOf]; omega
   ·rw [h1, if_pos rfl] at HTK
    go_wp2_with fail
    have HW := hide (show ScriptW (wr.alloc (.cells (qOp o.id q).cells.toArray 40)) (.slice ad m c) (s ++ askL (s.take k) q) by
       obtain ⟨base, b1, b2⟩ := uh HB
       exact own_scriptW (owns_keeps b2 ((Keeps.refl (fun _ => False) wr).alloc _) (fun _ _ h => h)))
    refine (with_any (.slice ad m c) (.slice (some ⟨wr.heap.size, 0, none⟩) 1 1) (s ++ askL (s.take k) q) [qOp o.id q] _ (uh HW) (blk_script (Blk.new wr (qOp o.id q).cells 40)) (by simp only [List.length_singleton]; omega)).mono ?_
    rintro r w9 ⟨uv, rfl, hU, hk9⟩
    have HU := hide hU
    have HK9 := hide (((uh HK).alloc (.cells (qOp o.id q).cells.toArray 40)).then hk9)
    obtain ⟨ua, uc, eu⟩ := row_form0 hU
    obtain ⟨ul, hul⟩ : ∃ ul, (s ++ askL (s.take k) q ++ [qOp o.id q]).length = ul := ⟨_, rfl⟩
    rw [hul] at eu
    subst eu
    clear hU hk9 hul
    go_wp2_with fail
    go_roundw
    case rel => exact ⟨k + 1, _, _, _, by omega, by go_num, rfl, hide ⟨(wr.alloc (.cells (qOp o.id q).cells.toArray 40)).heap.size, (by have h1 := (uh HK4).size; have h2 := (uh HK).size; simp; omega), (by rw [uh HTK, ← List.append_assoc]; exact uh HU)⟩, HK9⟩
    case measure => simp [intOf]; omega
  ·go_wp2_with fail
   go_ret
   obtain ⟨base, b1, b2⟩ := uh HB
   rw [List.take_of_length_le (by rw [uh HN]; omega), ← uh HAD] at b2
   exact ⟨_, base, rfl, b2, b1, (uh HK4).then (uh HK)⟩
end Go.Proofs.YtahnliehdjncdaaGreatDoor
namespace Go.Proofs.YtahnliehdjncdaaGreatDoor
structure OkI (c : Cfg) (k : Nat) (y : It) : Prop where
 t0 : 0 ≤ y.t
 t1 : y.t ≤ 4611686018427387904
 fit : kindE c k ⟨y.t, y.k, y.d, 0⟩ = 0
structure NLaw (k : Nat) (P : Cfg → Int → Note → List It → Prop) : Prop where
 zero : ∀ c m, validB c = true → c.kind = k → P c m note0 []
 later : ∀ c m m' nt R, validB c = true → c.kind = k → m ≤ m' → P c m nt R → P c m' nt R
 rel : ∀ c m nt R y, validB c = true → c.kind = k → P c m nt R → (∀ r ∈ R, OkI c k r ∧ leP r y ∧ r.n ≠ y.n) → OkI c k y → y.t ≤ m → P c m (relN k c nt y m) (R ++ [y])
 swp : ∀ c m nt R b, validB c = true → c.kind = k → P c m nt R → P c m (swpN k c nt m b).1 R
structure GS (P : Cfg → Int → Note → List It → Prop) (clock : Int) (x : Ser) (A : List It) : Prop where
 heap : HeapL x.l
 wait : ∀ y ∈ x.l, clock - x.c.lag < y.t
 okA : ∀ y ∈ A, OkI x.c x.k y
 num : ∀ (i : Nat) (y : It), A[i]? = some y → y.n = (i : Int) + 1
 acc : x.acc = (A.length : Int)
 whole : ∃ R, P x.c (clock - x.c.lag) x.nt R ∧ R.Pairwise leP ∧ (∀ r ∈ R, r.t ≤ clock - x.c.lag) ∧ (R ++ x.l).Perm A
theorem nums_nodup {A : List It} (h : ∀ (i : Nat) (y : It), A[i]? = some y → y.n = (i : Int) + 1) : (A.map (·.n)).Nodup := by
 refine List.pairwise_iff_getElem.2 (fun i j hi hj hij => ?_)
 rw [List.length_map] at hi hj
 rw [List.getElem_map, List.getElem_map]
 have h1 := h i _ (List.getElem?_eq_getElem hi)
 have h2 := h j _ (List.getElem?_eq_getElem hj)
 omega
theorem HeapL.first_leP {l : List It} (h : HeapL l) {y : It} (hy : y ∈ l) : leP (itAt l 0) y := by
 obtain ⟨j, hj, rfl⟩ := List.mem_iff_getElem.1 hy
 have := h.first j hj
 rw [show itAt l j = l[j] by simp [itAt, List.getD_eq_getElem?_getD, List.getElem?_eq_getElem hj]] at this
 exact this
theorem relS_acc (f : Nat) : ∀ (x : Ser) (m : Int), (relS f x m).acc = x.acc := by
 induction f with
 | zero => intro x m; rfl
 | succ f ih =>
  intro x m
  unfold relS
  split
  ·rfl
  ·split
   ·rfl
   ·exact ih _ _
theorem relS_GS {k : Nat} {P : Cfg → Int → Note → List It → Prop} (hP : NLaw k P) (m : Int) (f : Nat) : ∀ (x : Ser) (R : List It), x.l.length < f → HeapL x.l → validB x.c = true → x.c.kind = k → x.k = k →
  (∀ y ∈ R ++ x.l, OkI x.c k y) → ((R ++ x.l).map (·.n)).Nodup → P x.c m x.nt R → R.Pairwise leP → (∀ r ∈ R, r.t ≤ m) → (∀ r ∈ R, ∀ y ∈ x.l, leP r y) →
  ∃ R', P x.c m (relS f x m).nt R' ∧ R'.Pairwise leP ∧ (∀ r ∈ R', r.t ≤ m) ∧ (R' ++ (relS f x m).l).Perm (R ++ x.l) ∧ (∀ y ∈ (relS f x m).l, m < y.t) := by
 induction f with
 | zero => intro x R h; omega
 | succ f ih =>
  intro x R hf hh hv hck hk hok hnd hp hs hr hx
  unfold relS
  split
  ·rename_i he
   have hnil : x.l = [] := List.isEmpty_iff.1 he
   exact ⟨R, hp, hs, hr, List.Perm.refl _, by rw [hnil]; simp⟩
  ·rename_i he
   have hne : x.l ≠ [] := fun h => he (by rw [h]; rfl)
   split
   ·rename_i hm
    refine ⟨R, hp, hs, hr, List.Perm.refl _, fun y hy => ?_⟩
    have := hh.first_mem hy
    omega
   ·rename_i hm
    obtain ⟨th, tp⟩ := take_heap x.l hh hne
    have hlen : (relOne x m).l.length = x.l.length - 1 := takeL_length _
    have hpos : 0 < x.l.length := List.length_pos_iff.2 hne
    have hperm : ((R ++ [itAt x.l 0]) ++ takeL x.l).Perm (R ++ x.l) := by
     rw [List.append_assoc]; exact List.Perm.append_left R tp
    have hy0 : itAt x.l 0 ∈ x.l := tp.mem_iff.1 (by simp)
    have hnd2 : (((R ++ [itAt x.l 0]) ++ takeL x.l).map (·.n)).Nodup := (hperm.map (·.n)).nodup_iff.2 hnd
    have hfirst : ∀ y ∈ takeL x.l, leP (itAt x.l 0) y := fun y hy => hh.first_leP (tp.mem_iff.1 (by simp [hy]))
    have hnew := hP.rel x.c m x.nt R (itAt x.l 0) hv hck hp (fun r hrm => ⟨hok r (by simp [hrm]), hx r hrm _ hy0, fun e => by
         have h1 : (((R ++ [itAt x.l 0])).map (·.n)).Nodup := by
          rw [List.map_append] at hnd2
          exact (List.nodup_append.1 hnd2).1
         rw [List.map_append] at h1
         exact (List.nodup_append.1 h1).2.2 r.n (List.mem_map_of_mem hrm) (itAt x.l 0).n (by simp) e⟩) (hok _ (by simp [hy0])) (by omega)
    obtain ⟨R', p1, p2, p3, p4, p5⟩ := ih (relOne x m) (R ++ [itAt x.l 0]) (by omega) th hv hck hk
     (fun y hy => hok y (hperm.mem_iff.1 hy)) hnd2 (by
        show P x.c m (relN x.k x.c x.nt (itAt x.l 0) m) _
        rw [hk]; exact hnew)
     (List.pairwise_append.2 ⟨hs, by simp, fun a ha b hb => by rw [List.mem_singleton] at hb; rw [hb]; exact hx a ha _ hy0⟩)
     (fun r hrm => by
        rcases List.mem_append.1 hrm with h | h
        ·exact hr r h
        ·rw [List.mem_singleton] at h; rw [h]; omega)
     (fun r hrm y hy => by
        rcases List.mem_append.1 hrm with h | h
        ·exact hx r h y (tp.mem_iff.1 (by simp [show y ∈ takeL x.l from hy]))
        ·rw [List.mem_singleton] at h; rw [h]; exact hfirst y hy)
    exact ⟨R', p1, p2, p3, p4.trans hperm, p5⟩
theorem tick_GS {k : Nat} {P : Cfg → Int → Note → List It → Prop} (hP : NLaw k P) {clock nc : Int} {x : Ser} {A : List It} (h : GS P clock x A) (hk : x.k = k) (hck : x.c.kind = k) (hv : validB x.c = true) (hcn : clock ≤ nc) : GS P nc (tickOne nc x) A := by
 obtain ⟨R, hw, hs, hr, hp⟩ := h.whole
 have hkk := relS_keep (nc - x.c.lag) (x.l.length + 1) x (by omega) h.heap
 have hacc : (relS (x.l.length + 1) x (nc - x.c.lag)).acc = x.acc := relS_acc _ _ _
 obtain ⟨R', p1, p2, p3, p4, p5⟩ := relS_GS hP (nc - x.c.lag) (x.l.length + 1) x R (by omega) h.heap hv hck hk
  (fun y hy => by rw [← hk]; exact h.okA y (hp.mem_iff.1 hy)) ((hp.map (·.n)).nodup_iff.2 (nums_nodup h.num)) (hP.later _ _ _ _ _ hv hck (by omega) hw) hs (fun r hrm => by have := hr r hrm; omega)
  (fun r hrm y hy => .inl (by have h1 := hr r hrm; have h2 := h.wait y hy; omega))
 unfold tickOne
 refine ⟨hkk.1, fun y hy => ?_, fun y hy => ?_, h.num, ?_, R', ?_, p2, fun r hrm => ?_, p4.trans hp⟩
 ·rw [hkk.2.1]; exact p5 y hy
 ·rw [hkk.2.1, hkk.2.2.1]; exact h.okA y hy
 ·rw [hacc]; exact h.acc
 ·rw [hkk.2.1]; exact p1
 ·rw [hkk.2.1]; exact p3 r hrm
theorem sweep_GS {k : Nat} {P : Cfg → Int → Note → List It → Prop} (hP : NLaw k P) {nc b : Int} {x : Ser} {A : List It} (h : GS P nc x A) (hk : x.k = k) (hck : x.c.kind = k) (hv : validB x.c = true) : GS P nc (swpS nc b x) A := by
 obtain ⟨R, hw, hs, hr, hp⟩ := h.whole
 refine ⟨h.heap, h.wait, h.okA, h.num, h.acc, R, ?_, hs, hr, hp⟩
 show P x.c (nc - x.c.lag) (swpN x.k x.c x.nt (nc - x.c.lag) b).1 R
 rw [hk]; exact hP.swp _ _ _ _ _ hv hck hw
theorem add_GS {P : Cfg → Int → Note → List It → Prop} {clock : Int} {x : Ser} {A : List It} (h : GS P clock x A) (y : It) (hy : clock - x.c.lag < y.t) (hok : OkI x.c x.k (numbered y (x.acc + 1))) : GS P clock (accS x y) (A ++ [numbered y (x.acc + 1)]) := by
 obtain ⟨R, hw, hs, hr, hp⟩ := h.whole
 obtain ⟨h1, h2⟩ := put_heap x.l (numbered y (x.acc + 1)) h.heap
 refine ⟨h1, fun z hz => ?_, fun z hz => ?_, fun i z hz => ?_, ?_, R, hw, hs, hr, ?_⟩
 ·rcases List.mem_cons.1 (h2.mem_iff.1 hz) with e | e
  ·rw [e]; exact hy
  ·exact h.wait z e
 ·rcases List.mem_append.1 hz with e | e
  ·exact h.okA z e
  ·rw [List.mem_singleton] at e; rw [e]; exact hok
 ·by_cases hi : i < A.length
  ·rw [List.getElem?_append_left hi] at hz; exact h.num i z hz
  ·rw [List.getElem?_append_right (by omega)] at hz
   have hi2 : i - A.length = 0 := by
    have := (List.getElem?_eq_some_iff.1 hz).1
    simp at this; omega
   rw [hi2] at hz
   simp at hz
   rw [← hz]
   show x.acc + 1 = _
   rw [h.acc]; omega
 ·show x.acc + 1 = _
  rw [h.acc, List.length_append]; simp
 ·refine (List.Perm.append_left R h2).trans (List.perm_middle.trans ?_)
  exact (List.Perm.cons _ hp).trans (List.perm_append_singleton _ _).symm
theorem new_GS {k : Nat} {P : Cfg → Int → Note → List It → Prop} (hP : NLaw k P) (clock id : Int) (c : Cfg) (hv : validB c = true) (hck : c.kind = k) (j : Nat) : GS P clock (newSer id c j) [] :=
 ⟨fun i _ hi => by simp [newSer] at hi, fun t ht => by simp [newSer] at ht, fun y hy => by simp at hy, fun i y hy => by simp at hy, rfl, [], hP.zero _ _ hv hck, List.Pairwise.nil, fun r hr => by simp at hr, List.Perm.refl _⟩
def acci (s : WS) (o : OpM) (id : Int) : List It := if o.kind = 2 ∧ o.id = id ∧ (stepM s o).2.1 = 0 then [numbered o.item ((stepM s o).2.2.headD 0)] else []
structure GW (k : Nat) (P : Cfg → Int → Note → List It → Prop) (s : WS) (A : Int → List It) : Prop where
 ids : (s.xs.map (·.id)).Nodup
 none : ∀ id, id ∉ s.xs.map (·.id) → A id = []
 cnt : ∀ x, x ∈ s.xs → x.k = k → GS P s.clock x (A x.id)
theorem GW.same {k : Nat} {P : Cfg → Int → Note → List It → Prop} {s : WS} {A B : Int → List It} (h : GW k P s A) (he : ∀ id, B id = A id) : GW k P s B :=
 ⟨h.ids, fun id hid => (he id).trans (h.none id hid), fun x hx hk => by rw [he]; exact h.cnt x hx hk⟩
theorem acci_none {s : WS} {o : OpM} (h : o.kind ≠ 2 ∨ (stepM s o).2.1 ≠ 0) (id : Int) : acci s o id = [] := by
 unfold acci
 rw [if_neg]
 rintro ⟨h1, _, h3⟩
 rcases h with h | h
 ·exact h h1
 ·exact h h3
theorem upd_GW {k : Nat} {P : Cfg → Int → Note → List It → Prop} {s : WS} {A B : Int → List It} (h : GW k P s A) {id : Int} {x y : Ser} (hf : findS s.xs id = some x) (hid : y.id = x.id) (hb : ∀ i, i ≠ id → B i = A i) (hk : y.k = x.k) (hy : x.k = k → GS P s.clock x (A x.id) → GS P s.clock y (B id)) : GW k P ⟨s.clock, updS s.xs id y⟩ B := by
 obtain ⟨l1, l2, he, hx, hu⟩ := find_split hf
 have hm : (updS s.xs id y).map (·.id) = s.xs.map (·.id) := by
  rw [hu, he]; simp [hid]
 have hxm : x ∈ s.xs := by rw [he]; simp
 refine ⟨by show ((updS s.xs id y).map _).Nodup; rw [hm]; exact h.ids, fun i hi => ?_, fun z hz hzk => ?_⟩
 ·have hi' : i ∉ s.xs.map (·.id) := by rw [← hm]; exact hi
  have hne : i ≠ id := fun h0 => hi' (by rw [h0, ← hx]; exact List.mem_map_of_mem hxm)
  rw [hb i hne]; exact h.none i hi'
 ·have hz' : z ∈ l1 ++ y :: l2 := by rw [← hu]; exact hz
  have hnd := h.ids
  rw [he, List.map_append, List.map_cons] at hnd
  obtain ⟨_, n2, n3⟩ := List.nodup_append.1 hnd
  have n4 := (List.nodup_cons.1 n2).1
  rcases List.mem_append.1 hz' with hz1 | hz1
  ·have hne : z.id ≠ id := fun h0 => n3 z.id (List.mem_map_of_mem hz1) x.id (by simp) (by rw [h0, hx])
   show GS P s.clock z (B z.id)
   rw [hb _ hne]; exact h.cnt z (by rw [he]; simp [hz1]) hzk
  ·rcases List.mem_cons.1 hz1 with hz1 | hz1
   ·subst hz1
    show GS P s.clock z (B z.id)
    rw [hid, hx]
    exact hy (by rw [← hk]; exact hzk) (h.cnt x hxm (by rw [← hk]; exact hzk))
   ·have hne : z.id ≠ id := fun h0 => n4 (by rw [hx, ← h0]; exact List.mem_map_of_mem hz1)
    show GS P s.clock z (B z.id)
    rw [hb _ hne]; exact h.cnt z (by rw [he]; simp [hz1]) hzk
theorem step_GW {k : Nat} {P : Cfg → Int → Note → List It → Prop} (hP : NLaw k P) {n : Int} {s : WS} {A : Int → List It} (hi : EInv n s.clock s.xs) (h : GW k P s A) (o : OpM) (h7 : o.kind ≠ 7) : GW k P (stepM s o).1 (fun id => A id ++ acci s o id) := by
 by_cases h1 : o.kind = 1
 ·have ha := acci_none (s := s) (o := o) (.inl (by omega))
  simp only [ha, List.append_nil]
  unfold stepM
  rw [if_pos h1]
  unfold createM
  split
  ·rename_i hc
   split
   ·rename_i hv
    split
    ·have hnew : o.id ∉ s.xs.map (·.id) := fun hm => by
      obtain ⟨x, hx, hxi⟩ := List.mem_map.1 hm
      have := hc.2
      unfold findS at this
      rw [Option.isNone_iff_eq_none, List.find?_eq_none] at this
      exact this x hx (by simpa using hxi)
     refine ⟨?_, fun id hid => ?_, fun x hx hk => ?_⟩
     ·show ((s.xs ++ [newSer o.id o.cfg o.cfg.kind.toNat]).map (·.id)).Nodup
      rw [List.map_append]
      refine List.nodup_append.2 ⟨h.ids, by simp, fun a ha b hb => ?_⟩
      simp [newSer] at hb
      subst hb
      exact fun h0 => hnew (by rw [← h0]; exact ha)
     ·exact h.none id (fun h0 => hid (by show id ∈ (s.xs ++ [newSer o.id o.cfg o.cfg.kind.toNat]).map (·.id); rw [List.map_append]; exact List.mem_append.2 (.inl h0)))
     ·rcases List.mem_append.1 hx with hx | hx
      ·exact h.cnt x hx hk
      ·rw [List.mem_singleton] at hx; subst hx
       show GS P s.clock _ (A o.id)
       have hkd := (newSer_inv (n := 0) o.id o.cfg hv (by omega)).kind
       have hkk : (newSer o.id o.cfg o.cfg.kind.toNat).k = k := hk
       rw [hkk] at hkd
       rw [h.none o.id hnew]; exact new_GS hP _ _ _ hv hkd _
    ·exact h
   ·exact h
  ·exact h
 by_cases h2 : o.kind = 2
 ·have hs : stepM s o = addM s o := by unfold stepM; rw [if_neg h1, if_pos h2]
  cases hf : findS s.xs o.id with
  | none =>
   have e : addM s o = (s, 2, []) := by unfold addM; rw [hf]
   have ha := acci_none (s := s) (o := o) (.inr (by rw [hs, e]; simp))
   simp only [ha, List.append_nil]
   rw [hs, e]; exact h
  | some x =>
   by_cases hr : refE x s.clock o.item = 0
   ·have e : addM s o = (⟨s.clock, updS s.xs o.id (accS x o.item)⟩, 0, [x.acc + 1]) := by unfold addM; rw [hf]; simp only; rw [if_pos hr]
    have he2 := e
    rw [hs, e]
    refine upd_GW h hf rfl (fun i hne => ?_) rfl (fun _ hb => ?_)
    ·show A i ++ acci s o i = A i
     have : acci s o i = [] := by unfold acci; rw [if_neg (fun hh => hne hh.2.1.symm)]
     rw [this, List.append_nil]
    ·show GS P s.clock (accS x o.item) (A o.id ++ acci s o o.id)
     have : acci s o o.id = [numbered o.item (x.acc + 1)] := by unfold acci; rw [if_pos ⟨h2, rfl, by rw [hs, e]⟩, hs, e]; rfl
     rw [this]
     obtain ⟨_, _, _, hx, _⟩ := find_split hf
     rw [hx] at hb
     obtain ⟨z1, z2, _, _, _, z6, _⟩ := refE_zero hr
     exact add_GS hb o.item (refE_late hr) ⟨z1, z2, z6⟩
   ·have e : addM s o = (⟨s.clock, updS s.xs o.id (refS x (refE x s.clock o.item).toNat)⟩, refE x s.clock o.item, []) := by unfold addM; rw [hf]; simp only; rw [if_neg hr]
    have ha := acci_none (s := s) (o := o) (.inr (by rw [hs, e]; exact hr))
    simp only [ha, List.append_nil]
    rw [hs, e]
    refine upd_GW h hf rfl (fun i _ => rfl) rfl (fun _ hb => ?_)
    obtain ⟨_, _, _, hx, _⟩ := find_split hf
    rw [hx] at hb
    exact ⟨hb.heap, hb.wait, hb.okA, hb.num, hb.acc, hb.whole⟩
 have ha := acci_none (s := s) (o := o) (.inl h2)
 simp only [ha, List.append_nil]
 unfold stepM
 rw [if_neg h1, if_neg h2]
 split
 ·unfold tickM
  split
  ·split
   ·have hcn : s.clock ≤ maxC s.clock o.a := by unfold maxC; split <;> omega
    have hids : ((sweepL (maxC s.clock o.a) o.b (s.xs.map (tickOne (maxC s.clock o.a)))).1.map (·.id)) = s.xs.map (·.id) := by
     rw [sweepL_ids, List.map_map]
     refine List.map_congr_left fun x _ => ?_
     exact (relS_k _ _ _).2.2
    refine ⟨by show List.Nodup _; rw [hids]; exact h.ids, fun id hid => h.none id (by rw [← hids]; exact hid), fun z hz hk => ?_⟩
    obtain ⟨y, hy, b', rfl⟩ := sweepL_from _ _ _ hz
    obtain ⟨x, hx, rfl⟩ := List.mem_map.1 hy
    have htk : (tickOne (maxC s.clock o.a) x).k = x.k := (relS_k _ _ _).1
    have htc : (tickOne (maxC s.clock o.a) x).c = x.c := (relS_k _ _ _).2.1
    have hkx : x.k = k := by rw [← htk]; exact hk
    have hv := hi.sers x hx
    have hck : x.c.kind = k := by rw [hv.kind, hkx]
    have hid : (swpS (maxC s.clock o.a) b' (tickOne (maxC s.clock o.a) x)).id = x.id := (relS_k _ _ _).2.2
    rw [hid]
    exact sweep_GS hP (tick_GS hP (h.cnt x hx hkx) hkx hck hv.valid hcn) (htk.trans hkx) (by rw [htc]; exact hck) (by rw [htc]; exact hv.valid)
   ·exact h
  ·exact h
 ·split
  ·unfold queryM; split <;> exact h
  ·split
   ·unfold statsM; split <;> exact h
   ·split <;> exact h
def accI : WS → List OpM → Int → List It
 | _, [], _ => []
 | s, o :: r, id => acci s o id ++ accI (stepM s o).1 r id
theorem end_GW {k : Nat} {P : Cfg → Int → Note → List It → Prop} (hP : NLaw k P) (l : List OpM) : ∀ {n : Int} {s : WS} {A : Int → List It}, 0 ≤ n → EInv n s.clock s.xs → OkRun l → GW k P s A → GW k P (endM s l) (fun id => A id ++ accI s l id) := by
 induction l with
 | nil => intro n s A _ _ _ h; exact h.same (fun id => by simp [accI])
 | cons o l ih =>
  intro n s A hn hi hok h
  have ho := hok o (by simp)
  have := ih (n := n + 1) (by omega) (stepM_inv o hi hn (loadOk_none ho)) (fun p hp => hok p (by simp [hp])) (step_GW hP hi h o ho)
  exact this.same (fun id => by simp [accI, List.append_assoc])
theorem accI_snoc (l : List OpM) (o : OpM) (id : Int) : ∀ s, accI s (l ++ [o]) id = accI s l id ++ acci (endM s l) o id := by
 induction l with
 | nil => intro s; simp [accI, endM]
 | cons a l ih => intro s; simp only [List.cons_append, accI, ih, List.append_assoc]; rfl
def tri (y : It) : Int × Int × Int := (y.t, y.k, y.d)
def triO (o : OpM) : Int × Int × Int := (o.a, o.b, o.c)
theorem itemsI_is (ops : List OpM) (id fr to : Int) (n : Nat) (hn : n ≤ ops.length) : (itemsD ops (codesOf ops) id fr to n).map triO = ((accI ws0 (ops.take n) id).filter (fun y => decide (fr < y.t ∧ y.t ≤ to))).map tri := by
 induction n with
 | zero => rfl
 | succ n ih =>
  have hi : n < ops.length := by omega
  rw [itemsD_succ, take_opAt hi, accI_snoc, List.filter_append, List.map_append, List.map_append, ih (by omega), codeAt_is ops n hi]
  congr 1
  unfold acci
  by_cases h1 : (opAt ops n).kind = 2 ∧ (opAt ops n).id = id ∧ (stepM (endM ws0 (ops.take n)) (opAt ops n)).2.1 = 0
  ·rw [if_pos h1]
   by_cases h2 : fr < (opAt ops n).a ∧ (opAt ops n).a ≤ to
   ·rw [if_pos ⟨h1.1, h1.2.1, h1.2.2, h2⟩]
    rw [List.filter_cons_of_pos (by simpa [numbered, OpM.item] using h2)]
    rfl
   ·rw [if_neg (fun h => h2 h.2.2.2)]
    rw [List.filter_cons_of_neg (by simpa [numbered, OpM.item] using h2)]
    rfl
  ·rw [if_neg h1, if_neg (fun h => h1 ⟨h.1, h.2.1, h.2.2.1⟩)]
   rfl
theorem ask_data {k : Nat} {P : Cfg → Int → Note → List It → Prop} (hP : NLaw k P) (t : List OpM) (hok : OkRun t) (j : Nat) (hj : j < t.length) (h4 : (opAt t j).kind = 4) (c : Cfg) (hc : configD t (codesOf t) (opAt t j).id j = some c) (hk : c.kind = k) :
  (0 ≤ clockD t (codesOf t) j ∧ clockD t (codesOf t) j ≤ 4611686018427387904) ∧ (0 ≤ c.lag ∧ c.lag ≤ 100) ∧ validB c = true ∧
  ∃ (x : Ser) (R L A : List It), findS (endM ws0 (t.take j)).xs (opAt t j).id = some x ∧ x.c = c ∧ x.k = k ∧ (runM ws0 t)[j]? = some (qryN k c x.nt (opAt t j).a (clockD t (codesOf t) j - c.lag)) ∧ P c (clockD t (codesOf t) j - c.lag) x.nt R ∧ R.Pairwise leP ∧ (∀ r ∈ R, r.t ≤ clockD t (codesOf t) j - c.lag ∧ OkI c k r) ∧ (∀ y ∈ L, clockD t (codesOf t) j - c.lag < y.t) ∧ (R ++ L).Perm A ∧
   (A.length : Int) ≤ j ∧ (∃ n last, n ≤ (j : Int) ∧ NInv k c n last x.nt) ∧ A = accI ws0 (t.take j) (opAt t j).id := by
 have hjl : j ≤ t.length := by omega
 have hokj : OkRun (t.take j) := fun o ho => hok o (List.mem_of_mem_take ho)
 have hinv : EInv j (endM ws0 (t.take j)).clock (endM ws0 (t.take j)).xs := by
  have := endM_inv (t.take j) inv0 (by omega) (fun i o ho => loadOk_none (hokj o (List.mem_of_getElem? ho)))
  rw [List.length_take, Nat.min_eq_left hjl] at this
  simpa using this
 have hwb : GW k P (endM ws0 (t.take j)) (accI ws0 (t.take j)) := by
  have := end_GW hP (t.take j) (n := 0) (s := ws0) (A := fun _ => []) (by omega) inv0 hokj ⟨by simp [ws0], fun _ _ => rfl, fun x hx => by simp [ws0] at hx⟩
  exact this.same (fun id => by simp)
 rw [configD_is t hok _ j hjl] at hc
 cases hf : findS (endM ws0 (t.take j)).xs (opAt t j).id with
 | none => rw [hf] at hc; cases hc
 | some x =>
  rw [hf] at hc
  have hxc : x.c = c := by simpa using hc
  have hx : x ∈ (endM ws0 (t.take j)).xs := List.mem_of_find?_eq_some hf
  have hsi := hinv.sers x hx
  have hid : x.id = (opAt t j).id := by have := List.find?_some hf; simpa using this
  have hk1 : x.k = k := by have := hsi.kind; rw [hxc, hk] at this; omega
  obtain ⟨l0, l1, _⟩ := hsi.common
  have hclk := clockD_is t hok j hjl
  have hans := runM_at ws0 t j _ (opAt_get hj)
  have hstep : stepM (endM ws0 (t.take j)) (opAt t j) = (endM ws0 (t.take j), qryN x.k x.c x.nt (opAt t j).a ((endM ws0 (t.take j)).clock - x.c.lag)) := by
   unfold stepM
   rw [if_neg (by omega), if_neg (by omega), if_neg (by omega), if_pos h4]
   unfold queryM
   rw [hf]
  rw [hstep, hk1] at hans
  have hg := hwb.cnt x hx hk1
  obtain ⟨R, r1, r2, r3, r4⟩ := hg.whole
  rw [hclk, ← hxc]
  refine ⟨⟨hinv.c0, hinv.c1⟩, ⟨l0, l1⟩, hsi.valid, x, R, x.l, _, rfl, rfl, hk1, hans, r1, r2, fun r hr => ⟨r3 r hr, ?_⟩, hg.wait, r4, ?_, ⟨x.rel, x.last, ?_, ?_⟩, by rw [hid]⟩
  ·rw [← hk1]; exact hg.okA r (r4.mem_iff.1 (by simp [hr]))
  ·rw [← hg.acc]; exact hsi.accn
  ·have h1 := hsi.rela; have h2 := hsi.accn; omega
  ·rw [← hk1]; exact hsi.note
end Go.Proofs.YtahnliehdjncdaaGreatDoor
namespace Go.Proofs.YtahnliehdjncdaaGreatDoor
theorem items_rel {R L A : List It} {fr mk : Int} (hp : (R ++ L).Perm A) (hR : ∀ r ∈ R, r.t ≤ mk) (hL : ∀ y ∈ L, mk < y.t) : (A.filter (fun y => decide (fr < y.t ∧ y.t ≤ mk))).Perm (R.filter (fun y => decide (fr < y.t))) := by
 refine (hp.filter _).symm.trans ?_
 rw [List.filter_append]
 have h1 : L.filter (fun y => decide (fr < y.t ∧ y.t ≤ mk)) = [] := List.filter_eq_nil_iff.2 (fun y hy => by have := hL y hy; simp; omega)
 have h2 : R.filter (fun y => decide (fr < y.t ∧ y.t ≤ mk)) = R.filter (fun y => decide (fr < y.t)) := List.filter_congr (fun y hy => by have := hR y hy; simp; omega)
 rw [h1, h2, List.append_nil]
end Go.Proofs.YtahnliehdjncdaaGreatDoor
namespace Go.Proofs.YtahnliehdjncdaaGreatDoor
def isM (v : Int) (p : Int → Prop) : Prop := (v = 0 ∧ ∀ k, ¬ p k) ∨ (p v ∧ ∀ k, p k → k ≤ v)
theorem isM.to {v : Int} {p q : Int → Prop} (h : isM v p) (h1 : ∀ k, p k → q k) (h2 : ∀ k, q k → ∃ k', p k' ∧ k ≤ k') : isM v q := by
 rcases h with ⟨h, hn⟩ | ⟨h, hm⟩
 ·left
  refine ⟨h, fun k hk => ?_⟩
  obtain ⟨k', hp, _⟩ := h2 k hk
  exact hn k' hp
 ·right
  refine ⟨h1 v h, fun k hk => ?_⟩
  obtain ⟨k', hp, hle⟩ := h2 k hk
  have := hm k' hp
  omega
def rkI (c : Cfg) (n : Nat) (r : It) : Int := rankD (hashD c.s00 c.s01 r.k / n)
def hasK (c : Cfg) (n : Nat) (R : List It) (T : Int) (j : Nat) (k : Int) : Prop := ∃ r ∈ R, T < r.t ∧ regI c n r.k = j ∧ rkI c n r = k
def SortB (l : List Bk) : Prop := l.Pairwise (fun a b => a.sz < b.sz ∧ b.t < a.t)
theorem past_split (l : List Bk) (T : Int) : (∀ b ∈ l.take (Mk.pastN l T), b.sz ≤ T) ∧ (SortB l → ∀ b ∈ l.drop (Mk.pastN l T), T < b.sz) := by
 induction l with
 | nil => exact ⟨fun b hb => by simp at hb, fun _ b hb => by simp at hb⟩
 | cons a l ih =>
  unfold Mk.pastN at *
  rw [List.takeWhile_cons]
  split
  ·rename_i ha
   have ha' : a.sz ≤ T := by simpa using ha
   rw [List.length_cons, List.take_succ_cons, List.drop_succ_cons]
   refine ⟨fun b hb => ?_, fun hs => ih.2 (List.pairwise_cons.1 hs).2⟩
   rcases List.mem_cons.1 hb with e | e
   ·rw [e]; exact ha'
   ·exact ih.1 b e
  ·rename_i ha
   have ha' : T < a.sz := by simpa using ha
   refine ⟨fun b hb => by simp at hb, fun hs b hb => ?_⟩
   rw [List.length_nil, List.drop_zero] at hb
   rcases List.mem_cons.1 hb with e | e
   ·rw [e]; exact ha'
   ·have := (List.pairwise_cons.1 hs).1 b e; omega
theorem great_is (l : List Bk) (hs : SortB l) (T : Int) : isM (greatD l T) (fun k => ∃ b ∈ l, T < b.sz ∧ b.t = k) := by
 obtain ⟨h1, h2⟩ := past_split l T
 have h2 := h2 hs
 unfold greatD
 have hle := Mk.pastN_le l T
 by_cases h : Mk.pastN l T = l.length
 ·rw [if_pos h]
  left
  refine ⟨rfl, fun k hk => ?_⟩
  obtain ⟨b, hb, hT, _⟩ := hk
  rw [h, List.take_length] at h1
  have := h1 b hb
  omega
 ·rw [if_neg h]
  right
  have hlt : Mk.pastN l T < l.length := by omega
  have hd : l.drop (Mk.pastN l T) = bkAt l (Mk.pastN l T) :: l.drop (Mk.pastN l T + 1) := by
   rw [List.drop_eq_getElem_cons hlt]
   congr 1
   simp [bkAt, List.getD_eq_getElem?_getD, List.getElem?_eq_getElem hlt]
  have hm : bkAt l (Mk.pastN l T) ∈ l.drop (Mk.pastN l T) := by rw [hd]; simp
  refine ⟨⟨_, List.mem_of_mem_drop hm, h2 _ hm, rfl⟩, fun k hk => ?_⟩
  obtain ⟨b, hb, hT, rfl⟩ := hk
  have hb' : b ∈ l.drop (Mk.pastN l T) := by
   rw [← List.take_append_drop (Mk.pastN l T) l] at hb
   rcases List.mem_append.1 hb with e | e
   ·have := h1 b e; omega
   ·exact e
  have hs2 : SortB (l.drop (Mk.pastN l T)) := List.Pairwise.sublist (List.drop_sublist _ _) hs
  rw [hd] at hs2 hb'
  rcases List.mem_cons.1 hb' with e | e
  ·rw [e]; exact Int.le_refl _
  ·have := (List.pairwise_cons.1 hs2).1 b e; omega
theorem dropT_or (r : Int) (l : List Bk) : ∀ b ∈ l, b ∈ dropT r l ∨ b.t ≤ r := by
 intro b hb
 unfold dropT
 have hb' : b ∈ l.reverse := List.mem_reverse.2 hb
 rw [← List.takeWhile_append_dropWhile (p := fun b : Bk => decide (b.t ≤ r)) (l := l.reverse)] at hb'
 rcases List.mem_append.1 hb' with e | e
 ·right
  have : ∀ (l : List Bk), b ∈ l.takeWhile (fun b : Bk => decide (b.t ≤ r)) → b.t ≤ r := by
   intro l
   induction l with
   | nil => intro h; simp at h
   | cons a l ih =>
    intro h
    rw [List.takeWhile_cons] at h
    split at h
    ·rename_i ha
     rcases List.mem_cons.1 h with e | e
     ·rw [e]; simpa using ha
     ·exact ih e
    ·simp at h
  exact this _ e
 ·exact .inl (List.mem_reverse.2 e)
theorem dropT_last (r : Int) (l : List Bk) (h : 0 < (dropT r l).length) : r < (bkAt (dropT r l) ((dropT r l).length - 1)).t := by
 by_cases hl : 0 < l.length
 ·by_cases hb : (bkAt l (l.length - 1)).t ≤ r
  ·have e := dropT_step hl hb
   rw [e] at h ⊢
   have : (l.take (l.length - 1)).length < l.length := by rw [List.length_take]; omega
   exact dropT_last r (l.take (l.length - 1)) h
  ·rw [dropT_stop hl hb]; omega
 ·have : l = [] := List.eq_nil_of_length_eq_zero (by omega)
  rw [this] at h; simp [dropT_nil] at h
 termination_by l.length
theorem keep_dom {l : List Bk} {x : Bk} (hle : ∀ b ∈ l, b.sz ≤ x.sz) (b : Bk) (hb : b ∈ l ∨ b = x) : ∃ b' ∈ keepL l x, b.t ≤ b'.t ∧ b.sz ≤ b'.sz := by
 unfold keepL
 by_cases h : 0 < (dropT x.t l).length ∧ (bkAt (dropT x.t l) ((dropT x.t l).length - 1)).sz = x.sz
 ·rw [if_pos h]
  have hm : bkAt (dropT x.t l) ((dropT x.t l).length - 1) ∈ dropT x.t l := by
   have h1 : (dropT x.t l).length - 1 < (dropT x.t l).length := by omega
   simp [bkAt, List.getD_eq_getElem?_getD, List.getElem?_eq_getElem h1]
  have hlast := dropT_last x.t l h.1
  rcases hb with hb | hb
  ·rcases dropT_or x.t l b hb with e | e
   ·exact ⟨b, e, Int.le_refl _, Int.le_refl _⟩
   ·exact ⟨_, hm, by omega, by rw [h.2]; exact hle b hb⟩
  ·exact ⟨_, hm, by rw [hb]; omega, by rw [hb, h.2]; exact Int.le_refl _⟩
 ·rw [if_neg h]
  rcases hb with hb | hb
  ·rcases dropT_or x.t l b hb with e | e
   ·exact ⟨b, by simp [e], Int.le_refl _, Int.le_refl _⟩
   ·exact ⟨x, by simp, e, hle b hb⟩
  ·exact ⟨x, by simp, by rw [hb]; exact Int.le_refl _, by rw [hb]; exact Int.le_refl _⟩
theorem keep_sort {l : List Bk} {x : Bk} (hs : SortB l) (hle : ∀ b ∈ l, b.sz ≤ x.sz) : SortB (keepL l x) := by
 obtain ⟨k, hk, _⟩ := dropT_pre x.t l
 have hs2 : SortB (dropT x.t l) := by rw [hk]; exact List.Pairwise.sublist (List.take_sublist _ _) hs
 have hsub : ∀ b ∈ dropT x.t l, b ∈ l := fun b hb => by rw [hk] at hb; exact List.mem_of_mem_take hb
 unfold keepL
 by_cases h : 0 < (dropT x.t l).length ∧ (bkAt (dropT x.t l) ((dropT x.t l).length - 1)).sz = x.sz
 ·rw [if_pos h]; exact hs2
 ·rw [if_neg h]
  refine List.pairwise_append.2 ⟨hs2, by simp, fun a ha b hb => ?_⟩
  rw [List.mem_singleton] at hb
  subst hb
  have hpos : 0 < (dropT b.t l).length := List.length_pos_of_mem ha
  have hlast := dropT_last b.t l hpos
  have hne : (bkAt (dropT b.t l) ((dropT b.t l).length - 1)).sz ≠ b.sz := fun e => h ⟨hpos, e⟩
  have hm : bkAt (dropT b.t l) ((dropT b.t l).length - 1) ∈ dropT b.t l := by
   have h1 : (dropT b.t l).length - 1 < (dropT b.t l).length := by omega
   simp [bkAt, List.getD_eq_getElem?_getD, List.getElem?_eq_getElem h1]
  have hlz := hle _ (hsub _ hm)
  have hsp := last_split (dropT b.t l) hpos
  generalize bkAt (dropT b.t l) ((dropT b.t l).length - 1) = z at *
  generalize (dropT b.t l).take ((dropT b.t l).length - 1) = fr at *
  rw [hsp] at ha hs2
  rcases List.mem_append.1 ha with e | e
  ·have := (List.pairwise_append.1 hs2).2.2 a e z (by simp); omega
  ·rw [List.mem_singleton] at e; rw [e]; omega
structure DG (c : Cfg) (n : Nat) (m : Int) (ls : Nat → List Bk) (R : List It) : Prop where
 srt : ∀ j, SortB (ls j)
 src : ∀ j, ∀ b ∈ ls j, ∃ r ∈ R, r.t = b.sz ∧ regI c n r.k = j ∧ rkI c n r = b.t
 ex : ∀ j T, m - c.window ≤ T → isM (greatD (ls j) T) (hasK c n R T j)
theorem DG.rel {c : Cfg} {n : Nat} {m : Int} {ls : Nat → List Bk} {R : List It} (h : DG c n m ls R) (y : It) (hy : ∀ r ∈ R, r.t ≤ y.t) : DG c n m (relD c n ls y m) (R ++ [y]) := by
 have hsub : ∀ j T k, hasK c n R T j k → hasK c n (R ++ [y]) T j k := fun j T k ⟨r, hr, h1⟩ => ⟨r, by simp [hr], h1⟩
 have hl1 : ∀ b ∈ (ls (regI c n y.k)).drop (Mk.pastN (ls (regI c n y.k)) (m - c.window)), b.sz ≤ y.t := fun b hb => by
  obtain ⟨r, hr, h1, _⟩ := h.src _ b (List.mem_of_mem_drop hb)
  rw [← h1]; exact hy r hr
 have hs1 : SortB ((ls (regI c n y.k)).drop (Mk.pastN (ls (regI c n y.k)) (m - c.window))) := List.Pairwise.sublist (List.drop_sublist _ _) (h.srt _)
 refine ⟨fun j => ?_, fun j b hb => ?_, fun j T hT => ?_⟩
 ·unfold relD
  split
  ·rename_i hj
   rw [hj]
   exact keep_sort hs1 hl1
  ·exact h.srt j
 ·unfold relD at hb
  split at hb
  ·rename_i hj
   rcases keepL_mem hb with e | e
   ·obtain ⟨r, hr, h1⟩ := h.src j b (List.mem_of_mem_drop e)
    exact ⟨r, by simp [hr], h1⟩
   ·rw [e]; exact ⟨y, by simp, rfl, hj.symm, rfl⟩
  ·obtain ⟨r, hr, h1⟩ := h.src j b hb
   exact ⟨r, by simp [hr], h1⟩
 ·by_cases hj : j = regI c n y.k
  ·subst hj
   have e : relD c n ls y m (regI c n y.k) = keepL ((ls (regI c n y.k)).drop (Mk.pastN (ls (regI c n y.k)) (m - c.window))) ⟨y.t, rkI c n y⟩ := by unfold relD; rw [if_pos rfl]; rfl
   rw [e]
   refine (great_is _ (keep_sort hs1 hl1) T).to (fun k ⟨b, hb, hbT, hbk⟩ => ?_) (fun k ⟨r, hr, hrT, hrj, hrk⟩ => ?_)
   ·rcases keepL_mem hb with e2 | e2
    ·obtain ⟨r, hr, h1, h2, h3⟩ := h.src _ b (List.mem_of_mem_drop e2)
     exact ⟨r, by simp [hr], by rw [h1]; exact hbT, h2, h3.trans hbk⟩
    ·subst e2; exact ⟨y, by simp, hbT, rfl, hbk⟩
   ·have key : ∃ b, (b ∈ (ls (regI c n y.k)).drop (Mk.pastN (ls (regI c n y.k)) (m - c.window)) ∨ b = ⟨y.t, rkI c n y⟩) ∧ T < b.sz ∧ k ≤ b.t := by
     rcases List.mem_append.1 hr with hr | hr
     ·have hk0 := (rankD_bd (hashD c.s00 c.s01 r.k / n)).1
      have hk1 : 1 ≤ k := by rw [← hrk]; exact hk0
      have hold : hasK c n R T (regI c n y.k) k := ⟨r, hr, hrT, hrj, hrk⟩
      have hv : k ≤ greatD (ls (regI c n y.k)) T := by
       rcases h.ex (regI c n y.k) T hT with ⟨_, hn⟩ | ⟨_, hm⟩
       ·exact absurd hold (hn k)
       ·exact hm k hold
      rcases great_is (ls (regI c n y.k)) (h.srt _) T with ⟨h0, _⟩ | ⟨⟨b, hb, hbT, hbk⟩, _⟩
      ·omega
      ·refine ⟨b, .inl ?_, hbT, by omega⟩
       rw [← List.take_append_drop (Mk.pastN (ls (regI c n y.k)) (m - c.window)) (ls (regI c n y.k))] at hb
       rcases List.mem_append.1 hb with e2 | e2
       ·have := (past_split (ls (regI c n y.k)) (m - c.window)).1 b e2; omega
       ·exact e2
     ·rw [List.mem_singleton] at hr
      subst hr
      exact ⟨_, .inr rfl, hrT, by show k ≤ rkI c n r; omega⟩
    obtain ⟨b, hb, hbT, hbk⟩ := key
    obtain ⟨b', hb', h1, h2⟩ := keep_dom hl1 b hb
    exact ⟨b'.t, ⟨b', hb', by omega, rfl⟩, by omega⟩
  ·have e : relD c n ls y m j = ls j := by unfold relD; rw [if_neg hj]
   rw [e]
   refine (h.ex j T hT).to (fun k hk => hsub _ _ _ hk) (fun k ⟨r, hr, hrT, hrj, hrk⟩ => ⟨k, ⟨r, ?_, hrT, hrj, hrk⟩, Int.le_refl _⟩)
   rcases List.mem_append.1 hr with hr | hr
   ·exact hr
   ·rw [List.mem_singleton] at hr; rw [hr] at hrj; exact absurd hrj.symm hj
def PD (c : Cfg) (m : Int) (nt : Note) (R : List It) : Prop := DG c (regN c) m nt.rg R
theorem PD_law : NLaw 2 PD where
 zero := fun c m _ _ => ⟨fun j => List.Pairwise.nil, fun j b hb => by simp [note0] at hb, fun j T _ => .inl ⟨rfl, fun k hk => by obtain ⟨r, hr, _⟩ := hk; simp at hr⟩⟩
 later := fun c m m' nt R _ _ hm h => ⟨h.srt, h.src, fun j T hT => h.ex j T (by omega)⟩
 rel := fun c m nt R y hv hk h hr hy _ => DG.rel h y (fun r hrm => by have := (hr r hrm).2.1; unfold leP at this; omega)
 swp := fun c m nt R b _ _ h => h
end Go.Proofs.YtahnliehdjncdaaGreatDoor
namespace Go.Proofs.YtahnliehdjncdaaGreatDoor
def posN (l : List Int) : Nat := (l.filter (fun g => decide (0 < g))).length
theorem posN_snoc (l : List Int) (g : Int) : posN (l ++ [g]) = posN l + if decide (0 < g) = true then 1 else 0 := by
 unfold posN
 rw [List.filter_append, List.length_append, List.filter_cons]
 by_cases h : decide (0 < g) = true
 ·rw [if_pos h, if_pos h]; simp
 ·rw [if_neg h, if_neg h]; simp
theorem nodup_len (l : List Nat) : ∀ S : List Nat, l.Nodup → (∀ x ∈ l, x ∈ S) → l.length ≤ S.length := by
 induction l with
 | nil => intro S _ _; simp
 | cons x l ih =>
  intro S hn hs
  have hx := hs x (by simp)
  have hn2 := List.nodup_cons.1 hn
  have h1 := ih (S.erase x) hn2.2 (fun y hy => (List.mem_erase_of_ne (fun e => hn2.1 (by rw [← e]; exact hy))).2 (hs y (by simp [hy])))
  rw [List.length_erase_of_mem hx] at h1
  have := List.length_pos_of_mem hx
  simp only [List.length_cons]; omega
theorem posN_greats (ls : Nat → List Bk) (n : Nat) (T : Int) : posN (greats ls n T) = ((List.range n).filter (fun i => decide (0 < greatD (ls i) T))).length := by
 unfold posN greats
 rw [List.filter_map, List.length_map]; rfl
theorem DG.pos {c : Cfg} {n : Nat} {m : Int} {ls : Nat → List Bk} {R : List It} (h : DG c n m ls R) (hn : 1 ≤ n) (T : Int) (hT : m - c.window ≤ T) :
  posN (greats ls n T) ≤ (R.filter (fun y => decide (T < y.t))).length ∧ (0 < (R.filter (fun y => decide (T < y.t))).length → 0 < posN (greats ls n T)) := by
 rw [posN_greats]
 refine ⟨?_, fun hp => ?_⟩
 ·have := nodup_len ((List.range n).filter (fun i => decide (0 < greatD (ls i) T))) ((R.filter (fun y => decide (T < y.t))).map (fun r => regI c n r.k)) (List.Nodup.sublist List.filter_sublist List.nodup_range) (fun i hi => ?_)
  ·rwa [List.length_map] at this
  ·have hi2 := (List.mem_filter.1 hi).2
   have hg : 0 < greatD (ls i) T := by simpa using hi2
   rcases h.ex i T hT with ⟨h0, _⟩ | ⟨⟨r, hr, hrT, hri, _⟩, _⟩
   ·omega
   ·exact List.mem_map.2 ⟨r, List.mem_filter.2 ⟨hr, by simpa using hrT⟩, hri⟩
 ·obtain ⟨r, hr⟩ := List.exists_mem_of_length_pos hp
  obtain ⟨hrm, hrT⟩ := List.mem_filter.1 hr
  have hrT' : T < r.t := by simpa using hrT
  have hlt : regI c n r.k < n := by
   unfold regI
   have := Int.emod_lt_of_pos (hashD c.s00 c.s01 r.k) (b := (n : Int)) (by omega)
   have := Int.emod_nonneg (hashD c.s00 c.s01 r.k) (b := (n : Int)) (by omega)
   omega
  have hk : hasK c n R T (regI c n r.k) (rkI c n r) := ⟨r, hrm, hrT', rfl, rfl⟩
  have hg : 0 < greatD (ls (regI c n r.k)) T := by
   have h1 : 1 ≤ rkI c n r := (rankD_bd _).1
   rcases h.ex (regI c n r.k) T hT with ⟨_, hno⟩ | ⟨_, hm⟩
   ·exact absurd hk (hno _)
   ·have := hm _ hk; omega
  exact List.length_pos_of_mem (List.mem_filter.2 ⟨List.mem_range.2 hlt, by simpa using hg⟩)
theorem DG.wider {c : Cfg} {n : Nat} {m : Int} {ls : Nat → List Bk} {R : List It} (h : DG c n m ls R) (T T' : Int) (hT : m - c.window ≤ T) (hle : T ≤ T') (j : Nat) : greatD (ls j) T' ≤ greatD (ls j) T := by
 rcases h.ex j T' (by omega) with ⟨h0, _⟩ | ⟨⟨r, hr, hrT, hrj, hrk⟩, _⟩
 ·rw [h0]
  rcases h.ex j T hT with ⟨h1, _⟩ | ⟨⟨r, _, _, _, hrk⟩, _⟩
  ·omega
  ·rw [← hrk]; have := (rankD_bd (hashD c.s00 c.s01 r.k / n)).1; unfold rkI; omega
 ·rcases h.ex j T hT with ⟨_, hno⟩ | ⟨_, hm⟩
  ·exact absurd ⟨r, hr, by omega, hrj, hrk⟩ (hno (greatD (ls j) T'))
  ·exact hm _ ⟨r, hr, by omega, hrj, hrk⟩
theorem take_queries (t : List OpM) (i : Nat) : ∀ j, i ≤ j → j ≤ t.length → (∀ k, i ≤ k → k < j → (opAt t k).kind = 4) → endM ws0 (t.take j) = endM ws0 (t.take i) := by
 intro j
 induction j with
 | zero =>
  intro hij _ _
  have : i = 0 := by omega
  subst this
  rfl
 | succ j ih =>
  intro hij hjl hq
  by_cases h : i = j + 1
  ·rw [h]
  ·have hj : j < t.length := by omega
   rw [take_opAt hj, endM_snoc, ih (by omega) (by omega) (fun k h1 h2 => hq k h1 (by omega))]
   have h4 := hq j (by omega) (by omega)
   unfold stepM
   rw [if_neg (by omega), if_neg (by omega), if_neg (by omega), if_pos h4]
   unfold queryM
   split <;> rfl
theorem windows_data (t : List OpM) (hok : OkRun t) (i : Nat) (hi : i < t.length) (h4 : (opAt t i).kind = 4) (c : Cfg) (hc : configD t (codesOf t) (opAt t i).id i = some c) (hk : c.kind = 2) (h0 : codeAt (codesOf t) i = 0) :
  (0 ≤ clockD t (codesOf t) i ∧ clockD t (codesOf t) i ≤ 4611686018427387904) ∧ (0 ≤ c.lag ∧ c.lag ≤ 100) ∧ (1 ≤ c.bits ∧ c.bits ≤ 4) ∧ (1 ≤ (opAt t i).a ∧ (opAt t i).a ≤ 1000) ∧
  ∃ (G : List Int) (e : Int), (runM ws0 t)[i]? = some (0, G ++ [e]) ∧ G.length = 2 ^ c.bits.toNat ∧
   posN G ≤ (itemsD t (codesOf t) (opAt t i).id (clockD t (codesOf t) i - c.lag - (opAt t i).a) (clockD t (codesOf t) i - c.lag) i).length ∧
   (0 < (itemsD t (codesOf t) (opAt t i).id (clockD t (codesOf t) i - c.lag - (opAt t i).a) (clockD t (codesOf t) i - c.lag) i).length → 0 < posN G) ∧
   ∀ j, i ≤ j → j < t.length → (∀ k, i ≤ k → k ≤ j → (opAt t k).kind = 4) → (opAt t j).id = (opAt t i).id → codeAt (codesOf t) j = 0 →
    ∃ (H : List Int) (e' : Int), (runM ws0 t)[j]? = some (0, H ++ [e']) ∧ H.length = 2 ^ c.bits.toNat ∧ ((opAt t j).a ≤ (opAt t i).a → ∀ k, k < 2 ^ c.bits.toNat → H.getD k 0 ≤ G.getD k 0) ∧ ((opAt t i).a ≤ (opAt t j).a → ∀ k, k < 2 ^ c.bits.toNat → G.getD k 0 ≤ H.getD k 0) := by
 obtain ⟨b1, b2, hv, x, R, L, A, hfx, hxc, hxk, hans, hP, hs, hR, hL, hperm, hAl, _, hA⟩ := ask_data PD_law t hok i hi h4 c hc hk
 obtain ⟨_, bt1, bt2, w1, w2⟩ := valid_distinct (k := 2) hv hk rfl
 have hcode := codeAt_is t i hi
 rw [h0] at hcode
 have hq : ∀ a m, qryN 2 c x.nt a m = qryD c (regN c) x.nt.rg a m := fun a m => by unfold qryN; rw [if_neg (by omega), if_neg (by omega), if_pos rfl]
 rw [hq] at hans
 have hn1 : 1 ≤ regN c := Nat.one_le_two_pow
 have hin : inB (opAt t i).a 1 c.window = true := by
  cases hb : inB (opAt t i).a 1 c.window with
  | true => rfl
  | false =>
   exfalso
   have h1 := runM_at ws0 t i _ (opAt_get hi)
   rw [hans] at h1
   unfold qryD at h1
   rw [hb] at h1
   simp at h1
   rw [← h1] at hcode
   simp at hcode
 have hab := inB_iff hin
 have hat : ∀ a, inB a 1 c.window = true → qryD c (regN c) x.nt.rg a (clockD t (codesOf t) i - c.lag) = (0, greats x.nt.rg (regN c) (clockD t (codesOf t) i - c.lag - a) ++ [7 * (regN c) * (regN c) * 1099511627776 / (10 * sumG (greats x.nt.rg (regN c) (clockD t (codesOf t) i - c.lag - a)))]) := fun a ha => by unfold qryD; rw [if_pos ha]
 rw [hat _ hin] at hans
 have hgd : ∀ T k, k < regN c → (greats x.nt.rg (regN c) T).getD k 0 = greatD (x.nt.rg k) T := fun T k hk => by
  rw [List.getD_eq_getElem?_getD, List.getElem?_eq_getElem (by rw [greats_length]; exact hk)]
  simp [greats]
 have hitems := itemsI_is t (opAt t i).id (clockD t (codesOf t) i - c.lag - (opAt t i).a) (clockD t (codesOf t) i - c.lag) i (by omega)
 rw [← hA] at hitems
 have h3 := congrArg List.length hitems
 rw [List.length_map, List.length_map, (items_rel (fr := clockD t (codesOf t) i - c.lag - (opAt t i).a) hperm (fun r hr => (hR r hr).1) hL).length_eq] at h3
 have hpos := DG.pos hP hn1 (clockD t (codesOf t) i - c.lag - (opAt t i).a) (by omega)
 refine ⟨b1, b2, ⟨bt1, bt2⟩, ⟨hab.1, by omega⟩, _, _, hans, greats_length _ _ _, by rw [h3]; exact hpos.1, by rw [h3]; exact hpos.2, fun j hij hj hqs hid hcj => ?_⟩
 have hsame := take_queries t i j hij (by omega) (fun k h1 h2 => hqs k h1 (by omega))
 have h4j := hqs j hij (Nat.le_refl _)
 have hansj := runM_at ws0 t j _ (opAt_get hj)
 have hstep : stepM (endM ws0 (t.take j)) (opAt t j) = (endM ws0 (t.take j), qryD c (regN c) x.nt.rg (opAt t j).a (clockD t (codesOf t) i - c.lag)) := by
  unfold stepM
  rw [if_neg (by omega), if_neg (by omega), if_neg (by omega), if_pos h4j]
  unfold queryM
  rw [hsame, hid, hfx]
  simp only [hxk, hxc, hq]
  rw [clockD_is t hok i (by omega)]
 have hcodej := codeAt_is t j hj
 rw [hcj, hstep] at hcodej
 rw [hstep] at hansj
 have hinj : inB (opAt t j).a 1 c.window = true := by
  cases hb : inB (opAt t j).a 1 c.window with
  | true => rfl
  | false =>
   exfalso
   unfold qryD at hcodej
   rw [hb] at hcodej
   simp at hcodej
 have habj := inB_iff hinj
 rw [hat _ hinj] at hansj
 refine ⟨_, _, hansj, greats_length _ _ _, fun hle k hk => ?_, fun hle k hk => ?_⟩
 ·rw [hgd _ k hk, hgd _ k hk]
  exact DG.wider hP _ _ (by omega) (by omega) k
 ·rw [hgd _ k hk, hgd _ k hk]
  exact DG.wider hP _ _ (by omega) (by omega) k
end Go.Proofs.YtahnliehdjncdaaGreatDoor
namespace Go.Proofs.YtahnliehdjncdaaGreatDoor
open Go.RowKit
def noMoreB (G H : List Int) : Bool := decide (∀ k, k < G.length → G.getD k 0 ≤ H.getD k 0)
theorem noMore_any (a b m ca cb : Nat) (G H : List Int) (w : World) (hG : G.length = m) (hm : m ≤ 1000) (h1 : ∀ i, i < m → w.cell? ⟨a, i, none⟩ = some (.int .i64 (G.getD i 0))) (h2 : ∀ i, i < m → w.cell? ⟨b, i, none⟩ = some (.int .i64 (H.getD i 0))) :
  Calls Tryz.prog 32 #[.slice (some ⟨a, 0, none⟩) m ca, .slice (some ⟨b, 0, none⟩) m cb] w fun e w' => e = .returned (.bool (noMoreB G H)) ∧ ∃ n, w' = w.drewN n := by
 have H1 := hide h1
 have H2 := hide h2
 have HG := hide hG
 clear h1 h2 hG
 go_enter Tryz.func32, Tryz.ntmps32
 go_wp2_with fail
 go_loopw [5] (fun i wr => ∃ k n : Nat, k ≤ m ∧ i = .int .i64 k ∧ Hid (∀ x, x < k → G.getD x 0 ≤ H.getD x 0) ∧ wr = w.drewN n) (fun i _ => m - (intOf i).toNat)
 case atStart => exact ⟨0, 0, by omega, rfl, fun x hx => by omega, rfl⟩
 case round =>
  obtain ⟨k, n, hk, rfl, HL, rfl⟩ := hrel
  by_cases hkm : k < m
  ·have c1 : (w.drewN n).cell? ⟨a, k, none⟩ = some (.int .i64 (G.getD k 0)) := (Keeps.drewN (fun _ => False) w n).cell (uh H1 k hkm) (fun h => h)
   have c2 : (w.drewN n).cell? ⟨b, k, none⟩ = some (.int .i64 (H.getD k 0)) := (Keeps.drewN (fun _ => False) w n).cell (uh H2 k hkm) (fun h => h)
   have HX := hide (show ∀ x y : Int, G.getD k 0 = x → H.getD k 0 = y → (x ≤ y → ∀ z, z < k + 1 → G.getD z 0 ≤ H.getD z 0) ∧ (y < x → noMoreB G H = false) from fun x y hx hy => ⟨fun hle z hz => by
        by_cases hzk : z = k
        ·rw [hzk, hx, hy]; exact hle
        ·exact uh HL z (by omega), fun hlt => by
        unfold noMoreB
        refine decide_eq_false (fun hall => ?_)
        have := hall k (by rw [uh HG]; exact hkm)
        rw [hx, hy] at this
        omega⟩)
   have HX2 := hide (uh HX _ _ rfl rfl)
   clear HX
   generalize G.getD k 0 = x at *
   generalize H.getD k 0 = y at *
   generalize hW : w.drewN n = W at *
   have hk0 : (0 : Int) ≤ (k : Int) := by omega
   have hk1 : (k : Int) < (m : Int) := by omega
   cases hd : decide (y < x)
   ·have hle : x ≤ y := by simpa using hd
    go_wp2_with fail
    go_quiet (fail)
    go_wp2
    go_roundw
    case rel => exact ⟨k + 1, n + nq, by omega, by go_num, hide ((uh HX2).1 hle), by rw [← hW, World.drewN_drewN]⟩
    case measure => simp [intOf]; omega
   ·have hlt : y < x := by simpa using hd
    have hno := (uh HX2).2 hlt
    have HNO := hide hno
    clear hno
    go_wp2_with fail
    go_quiet (fail)
    go_wp2
    go_ret
    exact ⟨by rw [uh HNO]; rfl, n + nq, by rw [← hW, World.drewN_drewN]⟩
  ·have hkE : k = m := by omega
   subst hkE
   have hf : decide ((k : Int) < (k : Int)) = false := by simp
   have HY := hide (show noMoreB G H = true from decide_eq_true (fun z hz => uh HL z (by rw [uh HG] at hz; exact hz)))
   go_wp2
   go_ret
   exact ⟨by rw [uh HY]; rfl, n, rfl⟩
theorem pick_exact (c n : Int) (w : World) (c0 : 0 ≤ c) (cn : c < n) :
  Calls Tryz.prog 18 #[.int .i64 c, .int .i64 n] w fun e w' => e = .returned (.int .i64 c) ∧ w' = w := by
 have hm : c % n = c := Int.emod_eq_of_lt c0 cn
 have ht : c.tmod n = c := by rw [Int.tmod_eq_emod_of_nonneg c0]; exact hm
 have hc : decide (c < 0) = false := by simp; omega
 go_enter Tryz.func18, Tryz.ntmps18
 go_wp2
 go_ret
 exact ⟨by first | rfl | (rw [hm]) | (rw [ht]) | exact ret_int hm | exact ret_int ht, rfl⟩
end Go.Proofs.YtahnliehdjncdaaGreatDoor
namespace Go.Proofs.YtahnliehdjncdaaGreatDoor
open Go.RowKit
attribute [local go_sem ↓] execOp_load38 execOp_load40 execOp_build38 execOp_build40 execOp_bs22 execOp_store38
def nd : Cfg := ⟨2, 0, 9, 8, 0, 5, 1, 0, 0, 0, 0, 0, 0, 0, 1, 0, 0, 0, 0, 0⟩
def no : Cfg := ⟨3, 0, 9, 8, 0, 5, 0, 1, 4, 1, 0, 0, 0, 0, 1, 0, 0, 0, 0, 0⟩
def nw : Cfg := ⟨5, 0, 9, 8, 0, 0, 0, 0, 0, 0, 1, 0, 0, 0, 0, 0, 0, 0, 0, 0⟩
def n1 : OpM := ⟨1, 1, 0, 0, 0, nd, noBytes⟩
def n2 : OpM := ⟨1, 2, 0, 0, 0, no, noBytes⟩
def n3 : OpM := ⟨1, 3, 0, 0, 0, nw, noBytes⟩
def nA (i : Int) : OpM := ⟨2, i, 3, 1, 1, cz, noBytes⟩
def nT : OpM := ⟨3, 0, 5, 0, 0, cz, noBytes⟩
def nQ1 : OpM := ⟨4, 1, 5, 0, 0, cz, noBytes⟩
def nQ2 : OpM := ⟨4, 2, 1, 0, 0, cz, noBytes⟩
def nQ3 : OpM := ⟨4, 3, 0, 0, 0, cz, noBytes⟩
def nAs (k : Nat) : List OpM := (List.range k).map (fun i : Nat => nA ((i : Int) + 1))
theorem nAs_succ (k : Nat) : nAs (k + 1) = nAs k ++ [nA ((k : Int) + 1)] := by simp [nAs, List.range_succ]
def threeC : List Value := n1.cells ++ (n2.cells ++ n3.cells)
def lastC : List Value := nT.cells ++ (nQ1.cells ++ (nQ2.cells ++ nQ3.cells))
def tenO : List OpM := ([n1, n2, n3] ++ nAs 3) ++ [nT, nQ1, nQ2, nQ3]
theorem ten_run : runM ws0 tenO = [(0, []), (0, []), (0, []), (0, [1]), (0, [1]), (0, [1]), (0, [0]), (0, [0, 40, 2]), (0, [1]), (0, [3, 1, 1, 0, 0])] := by kernel_rfl
theorem ten_ok : OkRun tenO := by
 intro o ho
 have : o.kind = 1 ∨ o.kind = 2 ∨ o.kind = 3 ∨ o.kind = 4 := by
  simp [tenO, nAs, List.range_succ] at ho
  rcases ho with h | h | h | h | h | h | h | h | h | h <;> subst h <;> simp [n1, n2, n3, nA, nT, nQ1, nQ2, nQ3]
 omega
theorem execOp_build35 (ρ : Operand → Value) (dst : Option Tmp) (x : Array (Nat × Operand)) (ty : TypeId) (pos : String) (after : Array Edge) (guard : Option (Nat × Bool)) :
  execOp ρ { dst, op := .build 35 x, type := ty, pos, after, guard } = buildBig 35 (x.map fun (i, y) => (i, ρ y)) := rfl
theorem execOp_build36 (ρ : Operand → Value) (dst : Option Tmp) (x : Array (Nat × Operand)) (ty : TypeId) (pos : String) (after : Array Edge) (guard : Option (Nat × Bool)) :
  execOp ρ { dst, op := .build 36 x, type := ty, pos, after, guard } = buildBig 36 (x.map fun (i, y) => (i, ρ y)) := rfl
def pairV : Value := .agg #[.int .i64 1, .int .i64 0]
def pairsV : Value := .agg #[.int .i64 1, .int .i64 0, .int .i64 0, .int .i64 0, .int .i64 0, .int .i64 0]
theorem run_n35 (w : World) : (buildBig 35 #[(0, .int .i64 1), (1, .int .i64 0)]).run Tryz.prog w = .ok (.value pairV) w := by kernel_rfl
theorem run_n36 (w : World) : (buildBig 36 #[(0, pairV)]).run Tryz.prog w = .ok (.value pairsV) w := by kernel_rfl
theorem run_nd (w : World) : (buildBig 38 #[(0, .int .i64 2), (2, .int .i64 9), (3, .int .i64 8), (6, .int .i64 1), (5, .int .i64 5), (14, pairsV)]).run Tryz.prog w = .ok (.value (.agg nd.cells.toArray)) w := by kernel_rfl
theorem run_no (w : World) : (buildBig 38 #[(0, .int .i64 3), (2, .int .i64 9), (3, .int .i64 8), (7, .int .i64 1), (8, .int .i64 4), (9, .int .i64 1), (5, .int .i64 5), (14, pairsV)]).run Tryz.prog w = .ok (.value (.agg no.cells.toArray)) w := by kernel_rfl
theorem run_nw (w : World) : (buildBig 38 #[(0, .int .i64 5), (2, .int .i64 9), (3, .int .i64 8), (10, .int .i64 1)]).run Tryz.prog w = .ok (.value (.agg nw.cells.toArray)) w := by kernel_rfl
theorem run_n1 (w : World) : (buildBig 40 #[(0, .int .i64 1), (1, .int .i64 1), (5, .agg nd.cells.toArray)]).run Tryz.prog w = .ok (.value (.agg n1.cells.toArray)) w := by kernel_rfl
theorem run_n2 (w : World) : (buildBig 40 #[(0, .int .i64 1), (1, .int .i64 2), (5, .agg no.cells.toArray)]).run Tryz.prog w = .ok (.value (.agg n2.cells.toArray)) w := by kernel_rfl
theorem run_n3 (w : World) : (buildBig 40 #[(0, .int .i64 1), (1, .int .i64 3), (5, .agg nw.cells.toArray)]).run Tryz.prog w = .ok (.value (.agg n3.cells.toArray)) w := by kernel_rfl
theorem run_nA (i : Int) (w : World) : (buildBig 40 #[(0, .int .i64 2), (1, .int .i64 i), (2, .int .i64 3), (3, .int .i64 1), (4, .int .i64 1)]).run Tryz.prog w = .ok (.value (.agg (nA i).cells.toArray)) w := by kernel_rfl
theorem run_nT (w : World) : (buildBig 40 #[(0, .int .i64 3), (2, .int .i64 5)]).run Tryz.prog w = .ok (.value (.agg nT.cells.toArray)) w := by kernel_rfl
theorem run_nQ1 (w : World) : (buildBig 40 #[(0, .int .i64 4), (1, .int .i64 1), (2, .int .i64 5)]).run Tryz.prog w = .ok (.value (.agg nQ1.cells.toArray)) w := by kernel_rfl
theorem run_nQ2 (w : World) : (buildBig 40 #[(0, .int .i64 4), (1, .int .i64 2), (2, .int .i64 1)]).run Tryz.prog w = .ok (.value (.agg nQ2.cells.toArray)) w := by kernel_rfl
theorem run_nQ3 (w : World) : (buildBig 40 #[(0, .int .i64 4), (1, .int .i64 3)]).run Tryz.prog w = .ok (.value (.agg nQ3.cells.toArray)) w := by kernel_rfl
theorem run_nb3 (w : World) : (bsBig 22 3 #[(0, .agg n1.cells.toArray), (1, .agg n2.cells.toArray), (2, .agg n3.cells.toArray)]).run Tryz.prog w =
  .ok (.value (.slice (some ⟨w.heap.size, 0, none⟩) 3 3)) (w.alloc (.cells threeC.toArray 40)) := by kernel_rfl
theorem run_nb4 (w : World) : (bsBig 22 4 #[(0, .agg nT.cells.toArray), (1, .agg nQ1.cells.toArray), (2, .agg nQ2.cells.toArray), (3, .agg nQ3.cells.toArray)]).run Tryz.prog w =
  .ok (.value (.slice (some ⟨w.heap.size, 0, none⟩) 4 4)) (w.alloc (.cells lastC.toArray 40)) := by kernel_rfl
theorem last_at (w : World) (b : Nat) (h : Blk w b lastC 40) : ScriptW w (.slice (some ⟨b, 0, none⟩) 4 4) [nT, nQ1, nQ2, nQ3] := by
 refine .inr ⟨b, 0, 4, rfl, by simp, ?_, h.lt⟩
 intro i o ho
 have hi : i < 4 := (List.getElem?_eq_some_iff.1 ho).1
 have hi' : i = 0 ∨ i = 1 ∨ i = 2 ∨ i = 3 := by omega
 have hr : ∀ (off : Nat) (cs : List Value), (lastC.drop off).take 26 = cs → w.rangeAt b off cs := by
  intro off cs hcs j v hv
  rw [← hcs, List.getElem?_take] at hv
  split at hv
  ·exact h.cell (by simpa using hv)
  ·cases hv
 rcases hi' with h' | h' | h' | h'
 all_goals
  subst h'
  injection ho with ho
  subst ho
 ·exact hr 0 _ rfl
 ·exact hr 26 _ rfl
 ·exact hr 52 _ rfl
 ·exact hr 78 _ rfl
theorem three_own (w : World) (base : Nat) (hb : base ≤ w.heap.size) : OwnS (w.alloc (.cells threeC.toArray 40)) base (.slice (some ⟨w.heap.size, 0, none⟩) 3 3) [n1, n2, n3] :=
 World.ownsRow_lit w threeC.toArray 3 hb (by unfold maxLen; omega) rfl
theorem list_ten {α : Type _} (l : List α) (h : l.length = 10) : ∃ a b c d e f g i j k, l = [a, b, c, d, e, f, g, i, j, k] := by
 match l, h with
 | [a, b, c, d, e, f, g, i, j, k], _ => exact ⟨a, b, c, d, e, f, g, i, j, k, rfl⟩
attribute [local go_sem ↓] execOp_build35 execOp_build36
attribute [local go_sem] run_load38 run_load40 bigVal_drew hasBig_drew bigVal_ne hasBig_ne bigVal_alloc hasBig_alloc run_n35 run_n36 run_nd run_no run_nw run_n1 run_n2 run_n3 run_nA run_nT run_nQ1 run_nQ2 run_nQ3 run_nb3 run_nb4 run_bs1
theorem big_keep {w w' : World} {b n : Nat} {v : Value} (hk : Keeps (fun _ => False) w w') (hlt : b < w.heap.size) (h1 : bigVal w b 0 n = v) (h2 : hasBig w b 0 n = true) : bigVal w' b 0 n = v ∧ hasBig w' b 0 n = true := by
 obtain ⟨a, b⟩ := bigVal_M (o := 0) (n := n) hk hlt (fun h => h)
 exact ⟨a.trans h1, b.trans h2⟩
theorem noting_any (w : World) (hT : Tab w) : Calls Tryz.prog 29 #[] w fun e w' => e = .returned (.bool true) ∧ Keeps (fun _ => False) w w' := by
 have one : ∀ c : Cfg, (c.cells.toArray.all fun x => x.oneCell') = true := fun c => by simp [Cfg.cells, Value.oneCell']
 obtain ⟨A1, hA1⟩ : ∃ A1, A1 = Obj.cells nd.cells.toArray 38 := ⟨_, rfl⟩
 obtain ⟨A2, hA2⟩ : ∃ A2, A2 = Obj.cells no.cells.toArray 38 := ⟨_, rfl⟩
 obtain ⟨A3, hA3⟩ : ∃ A3, A3 = Obj.cells nw.cells.toArray 38 := ⟨_, rfl⟩
 have z1 : (w.alloc A1).heap.size = w.heap.size + 1 := by simp
 have z2 : ((w.alloc A1).alloc A2).heap.size = w.heap.size + 2 := by simp
 have hst1 : ∀ zs : List Value, zs.length = 20 → (storeBig 38 (.pointer (some ⟨w.heap.size, 0, none⟩)) (.agg nd.cells.toArray)).run Tryz.prog (w.alloc (.cells zs.toArray 38)) = .ok .skip (w.alloc A1) := fun zs hz => by rw [hA1]; exact run_store38 w zs nd.cells hz rfl (one nd)
 have hst2 : ∀ zs : List Value, zs.length = 20 → (storeBig 38 (.pointer (some ⟨w.heap.size + 1, 0, none⟩)) (.agg no.cells.toArray)).run Tryz.prog ((w.alloc A1).alloc (.cells zs.toArray 38)) = .ok .skip ((w.alloc A1).alloc A2) := fun zs hz => by
  have := run_store38 (w.alloc A1) zs no.cells hz rfl (one no)
  rw [z1] at this
  rw [hA2]; exact this
 have hst3 : ∀ zs : List Value, zs.length = 20 → (storeBig 38 (.pointer (some ⟨w.heap.size + 2, 0, none⟩)) (.agg nw.cells.toArray)).run Tryz.prog (((w.alloc A1).alloc A2).alloc (.cells zs.toArray 38)) = .ok .skip (((w.alloc A1).alloc A2).alloc A3) := fun zs hz => by
  have := run_store38 ((w.alloc A1).alloc A2) zs nw.cells hz rfl (one nw)
  rw [z2] at this
  rw [hA3]; exact this
 have hb1 : bigVal (((w.alloc A1).alloc A2).alloc A3) w.heap.size 0 20 = .agg nd.cells.toArray ∧ hasBig (((w.alloc A1).alloc A2).alloc A3) w.heap.size 0 20 = true :=
  big_keep (((Keeps.refl _ (w.alloc A1)).alloc A2).alloc A3) (by simp) (by rw [hA1]; exact bigVal_new w nd.cells _ 20 rfl) (by rw [hA1]; exact hasBig_new w nd.cells _ 20 rfl)
 have hb2 : bigVal (((w.alloc A1).alloc A2).alloc A3) (w.heap.size + 1) 0 20 = .agg no.cells.toArray ∧ hasBig (((w.alloc A1).alloc A2).alloc A3) (w.heap.size + 1) 0 20 = true :=
  big_keep ((Keeps.refl _ ((w.alloc A1).alloc A2)).alloc A3) (by simp) (by rw [← z1, hA2]; exact bigVal_new (w.alloc A1) no.cells _ 20 rfl) (by rw [← z1, hA2]; exact hasBig_new (w.alloc A1) no.cells _ 20 rfl)
 have hb3 : bigVal (((w.alloc A1).alloc A2).alloc A3) (w.heap.size + 2) 0 20 = .agg nw.cells.toArray ∧ hasBig (((w.alloc A1).alloc A2).alloc A3) (w.heap.size + 2) 0 20 = true :=
  ⟨by rw [← z2, hA3]; exact bigVal_new ((w.alloc A1).alloc A2) nw.cells _ 20 rfl, by rw [← z2, hA3]; exact hasBig_new ((w.alloc A1).alloc A2) nw.cells _ 20 rfl⟩
 obtain ⟨v1, h1⟩ := hb1
 obtain ⟨v2, h2⟩ := hb2
 obtain ⟨v3, h3⟩ := hb3
 have HTT := hide hT
 clear hT hA1 hA2 hA3
 go_enter Tryz.func29, Tryz.ntmps29
 go_wp2_with fail
 go_loopw [4, 5] (fun l i wr => ∃ (k m c : Nat) (ad : Option Addr), k ≤ 3 ∧ i = .int .i64 ((k : Int) + 1) ∧ l = .slice ad m c ∧ Hid (OwnS wr w.heap.size l ([n1, n2, n3] ++ nAs k)) ∧ Hid (Keeps (fun _ => False) w wr)) (fun _ i _ => 4 - (intOf i).toNat)
 case atStart => exact ⟨0, 3, 3, _, by omega, rfl, rfl, (by have := three_own (((w.alloc A1).alloc A2).alloc A3) w.heap.size (by simp; omega); rw [show (((w.alloc A1).alloc A2).alloc A3).heap.size = w.heap.size + 2 + 1 by simp] at this; exact this), ((((Keeps.refl _ w).alloc _).alloc _).alloc _).alloc _⟩
 case round =>
  obtain ⟨k, m, c, ad, hk, rfl, rfl, HO, HK⟩ := hrel
  have hm : m = ([n1, n2, n3] ++ nAs k).length := by
   obtain ⟨_, _, e⟩ := row_form0 (uh HO)
   injection e
  have hml : ([n1, n2, n3] ++ nAs k).length = 3 + k := by simp [nAs]; omega
  have HNX := hide (nAs_succ k)
  by_cases hkn : k < 3
  ·have hlt : ((k : Int) + 1 < 4) := by omega
   generalize hAA : [n1, n2, n3] ++ nAs k = AA at *
   go_wp2_with (at_builtin; refine wpList_append_ops rfl _ _ rfl w.heap.size (.slice ad m c) AA rfl (by exact owns_keeps (uh HO) ((Keeps.refl (fun _ => False) wr).alloc _) (fun _ _ h => h)) _ [nA ((k : Int) + 1)] rfl (by exact blk_script (Blk.new wr (nA ((k : Int) + 1)).cells 40)) (by simp; omega) (by have := (uh HK).size; simp; omega) ?_; intro ad2 c2 w2 hown2 hk2 hat2)
   go_roundw
   case rel =>
    rw [hml] at hown2
    refine ⟨k + 1, _, c2, ad2, by omega, by go_num, rfl, ?_, ?_⟩
    ·show OwnS _ _ _ _; rw [uh HNX, ← List.append_assoc, hAA]; exact hown2
    ·refine (((uh HK).alloc _).trans hk2 (fun i hi hlt => ?_))
     have := ((uh HO).lt i hi).1
     omega
   case measure => simp [intOf]; omega
  ·have hk3 : k = 3 := by omega
   subst hk3
   generalize hAA : [n1, n2, n3] ++ nAs 3 = AA at *
   have HTEN := hide (show AA ++ [nT, nQ1, nQ2, nQ3] = tenO by rw [← hAA]; rfl)
   clear hAA HNX
   go_wp2_with (at_builtin; refine wpList_append_ops rfl _ _ rfl w.heap.size (.slice ad m c) AA rfl (by exact owns_keeps (uh HO) ((Keeps.refl (fun _ => False) wr).alloc _) (fun _ _ h => h)) _ [nT, nQ1, nQ2, nQ3] rfl (by exact last_at _ _ (Blk.new wr lastC 40)) (by simp; omega) (by have := (uh HK).size; simp; omega) ?_; intro ad2 c2 w2 hown2 hk2 hat2; rw [uh HTEN, hml] at hown2)
   have HK2 := hide (((uh HK).alloc (.cells lastC.toArray 40)).trans hk2 (fun i hi hlt => by
        have := ((uh HO).lt i hi).1
        omega))
   refine (run_script' _ tenO w2 (by have h := own_scriptW hown2; exact h) (by rw [show tenO.length = 10 from rfl]; omega) ((uh HTT).keeps (uh HK2) (fun h => h)) ten_ok).mono ?_
   rintro r w1 ⟨v, l, rfl, hA, hM, _, hk1⟩
   rw [ten_run] at hM
   obtain ⟨x0, x1, x2, x3, x4, x5, x6, x7, x8, x9, hl5⟩ := list_ten l (by have := congrArg List.length hM; simpa using this)
   subst hl5
   simp only [List.map_cons, List.map_nil, List.cons.injEq, Prod.mk.injEq, and_true] at hM
   obtain ⟨_, _, _, _, _, _, _, ⟨_, m7⟩, ⟨_, m8⟩, _, m9⟩ := hM
   obtain ⟨g, cap, hv, hc⟩ := ans_row hA (by simp)
   have n7 := hA.nums x7 (by simp)
   have n8 := hA.nums x8 (by simp)
   have n9 := hA.nums x9 (by simp)
   rw [m7] at n7
   rw [m8] at n8
   rw [m9] at n9
   rcases num_cells n7 with ⟨h, _⟩ | ⟨g7, cp7, hv7, hn7⟩
   ·cases h
   rcases num_cells n8 with ⟨h, _⟩ | ⟨g8, cp8, hv8, hn8⟩
   ·cases h
   rcases num_cells n9 with ⟨h, _⟩ | ⟨g9, cp9, hv9, hn9⟩
   ·cases h
   have e7 : w1.cell? ⟨g, 22, none⟩ = some (.slice (some ⟨g7, 0, none⟩) 3 cp7) := (hc 22 _ rfl).trans (by rw [hv7]; rfl)
   have e8 : w1.cell? ⟨g, 25, none⟩ = some (.slice (some ⟨g8, 0, none⟩) 1 cp8) := (hc 25 _ rfl).trans (by rw [hv8]; rfl)
   have e9 : w1.cell? ⟨g, 28, none⟩ = some (.slice (some ⟨g9, 0, none⟩) 5 cp9) := (hc 28 _ rfl).trans (by rw [hv9]; rfl)
   have q7 : w1.cell? ⟨g7, 1, none⟩ = some (.int .i64 40) := hn7 1 (by simp)
   have q8 : w1.cell? ⟨g8, 0, none⟩ = some (.int .i64 1) := hn8 0 (by simp)
   have q9 : w1.cell? ⟨g9, 0, none⟩ = some (.int .i64 3) := hn9 0 (by simp)
   have r9 : w1.cell? ⟨g9, 1, none⟩ = some (.int .i64 1) := hn9 1 (by simp)
   have HK1 := hide ((uh HK2).then hk1)
   rw [hv]
   clear hA hk1 hc n7 n8 n9 hn7 hn8 hn9 hv hv7 hv8 hv9 m7 m8 m9 hst1 hst2 hst3 v1 v2 v3 h1 h2 h3 HK HO HK2
   show _
   go_wp2
   go_ret
   exact ⟨rfl, uh HK1⟩
end Go.Proofs.YtahnliehdjncdaaGreatDoor
