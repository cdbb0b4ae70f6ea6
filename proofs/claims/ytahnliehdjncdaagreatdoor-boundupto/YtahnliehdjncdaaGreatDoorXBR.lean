import Derived.Test.YtahnliehdjncdaaGreatDoorXBP
import Derived.Test.YtahnliehdjncdaaGreatDoorXBQ
set_option maxRecDepth 100000
set_option maxHeartbeats 16000000
namespace Go.Proofs.YtahnliehdjncdaaGreatDoor
structure BS (clock : Int) (x : Ser) (A : List Int) : Prop where
 heap : HeapL x.l
 wait : ∀ t, t ∈ x.l.map (·.t) → clock - x.c.lag < t
 whole : ∃ R, Whole x.c (clock - x.c.lag - x.c.window) x.nt.bs R ∧ (∀ r, r ∈ R → r ≤ clock - x.c.lag) ∧ (R ++ x.l.map (·.t)).Perm A
 pb : PB x.nt.bs
theorem relS_keep (m : Int) (f : Nat) : ∀ x : Ser, x.l.length < f → HeapL x.l → HeapL (relS f x m).l ∧ (relS f x m).c = x.c ∧ (relS f x m).k = x.k ∧ (relS f x m).id = x.id := by
 induction f with
 | zero => intro x h; omega
 | succ f ih =>
  intro x hf hh
  unfold relS
  split
  ·exact ⟨hh, rfl, rfl, rfl⟩
  ·rename_i he
   have hne : x.l ≠ [] := fun h => he (by rw [h]; rfl)
   split
   ·exact ⟨hh, rfl, rfl, rfl⟩
   ·obtain ⟨th, tp⟩ := take_heap x.l hh hne
    have hlen : (relOne x m).l.length = x.l.length - 1 := takeL_length _
    have hpos : 0 < x.l.length := List.length_pos_iff.2 hne
    obtain ⟨h1, h2, h3, h4⟩ := ih (relOne x m) (by omega) th
    exact ⟨h1, h2, h3, h4⟩
theorem fold_PB {c : Cfg} (hK : 0 ≤ c.k) (m : Int) : ∀ (N : List Int) (l : List Bk), PB l → PB (N.foldl (fun l t => relB c l t m) l) := by
 intro N
 induction N with
 | nil => intro l h; exact h
 | cons t N ih => intro l h; exact ih _ (relB_PB hK h t m)
theorem tick_BS {clock nc : Int} {x : Ser} {A : List Int} (h : BS clock x A) (hk : x.k = 1) (hcn : clock ≤ nc) (hK : 1 ≤ x.c.k) : BS nc (tickOne nc x) A := by
 obtain ⟨g1, g2, g3, g4, g5⟩ := relTimes_spec (nc - x.c.lag) (x.l.length + 1) x (by omega) h.heap
 obtain ⟨k1, k2, _, _⟩ := relS_keep (nc - x.c.lag) (x.l.length + 1) x (by omega) h.heap
 obtain ⟨R, hw, hr, hp⟩ := h.whole
 have hbs := g5 hk
 have hN : ∀ t, t ∈ relTimes (x.l.length + 1) x (nc - x.c.lag) → clock - x.c.lag < t := fun t ht => h.wait t (g1.mem_iff.2 (List.mem_append.2 (.inl ht)))
 unfold tickOne
 generalize relTimes (x.l.length + 1) x (nc - x.c.lag) = N at *
 refine ⟨k1, ?_, ⟨R ++ N, ?_, ?_, ?_⟩, ?_⟩
 ·rw [k2]; exact g3
 ·rw [k2, hbs]
  refine (hw.later (by omega)).fold hK N (List.pairwise_append.2 ⟨hw.sorted, g4, fun a ha b hb => ?_⟩)
  have h1 := hr a ha
  have h2 := hN b hb
  omega
 ·rw [k2]
  intro r hrm
  rcases List.mem_append.1 hrm with hrm | hrm
  ·have := hr r hrm; omega
  ·exact g2 r hrm
 ·rw [List.append_assoc]
  exact (List.Perm.append_left R g1.symm).trans hp
 ·rw [hbs]; exact fold_PB (by omega) _ _ _ h.pb
theorem sweep_BS {nc b : Int} {x : Ser} {A : List Int} (h : BS nc x A) (hk : x.k = 1) : BS nc (swpS nc b x) A := by
 obtain ⟨R, hw, hr, hp⟩ := h.whole
 have e : (swpS nc b x).nt.bs = x.nt.bs.drop (thrownB x.c x.nt.bs (nc - x.c.lag) b).toNat := by
  unfold swpS swpN; rw [if_pos hk]
 have hle : (thrownB x.c x.nt.bs (nc - x.c.lag) b).toNat ≤ pastN x.nt.bs (nc - x.c.lag - x.c.window) := by unfold thrownB; omega
 refine ⟨h.heap, h.wait, ⟨R, ?_, hr, hp⟩, ?_⟩
 ·rw [e]; exact hw.drop _ hle
 ·rw [e]; exact h.pb.drop _
theorem add_BS {clock : Int} {x : Ser} {A : List Int} (h : BS clock x A) (y : It) (hy : clock - x.c.lag < y.t) : BS clock (accS x y) (A ++ [y.t]) := by
 obtain ⟨R, hw, hr, hp⟩ := h.whole
 obtain ⟨h1, h2⟩ := put_heap x.l (numbered y (x.acc + 1)) h.heap
 have h3 : ((accS x y).l.map (·.t)).Perm (y.t :: x.l.map (·.t)) := h2.map (·.t)
 refine ⟨h1, ?_, ⟨R, hw, hr, ?_⟩, h.pb⟩
 ·intro t ht
  rcases List.mem_cons.1 (h3.mem_iff.1 ht) with ht | ht
  ·rw [ht]; exact hy
  ·exact h.wait t ht
 ·refine (List.Perm.append_left R h3).trans (List.perm_middle.trans ?_)
  exact (List.Perm.cons _ hp).trans (List.perm_append_singleton _ _).symm
theorem new_BS (clock id : Int) (c : Cfg) (k : Nat) : BS clock (newSer id c k) [] :=
 ⟨fun i _ hi => by simp [newSer] at hi, fun t ht => by simp [newSer] at ht, ⟨[], Whole.nil _ _, fun r hr => by simp at hr, List.Perm.refl _⟩, ⟨fun i j _ hj => absurd hj (Nat.not_lt_zero _), fun i hi => absurd hi (Nat.not_lt_zero _)⟩⟩
theorem BS.bound {clock a : Int} {x : Ser} {A : List Int} (h : BS clock x A) (hK : 0 ≤ x.c.k) (ha : a ≤ x.c.window) (T : Int) (hT : T = clock - x.c.lag - a) :
  ∃ n : Int, n = ((A.filter (fun t => decide (T < t ∧ t ≤ clock - x.c.lag))).length : Int) ∧ x.c.k * (estN x.nt.bs T - n) ≤ n ∧ x.c.k * (n - estN x.nt.bs T) ≤ n := by
 obtain ⟨R, hw, hr, hp⟩ := h.whole
 refine ⟨_, rfl, ?_⟩
 have e : ((A.filter (fun t => decide (T < t ∧ t ≤ clock - x.c.lag))).length : Int) = cntA T R := by
  rw [← (hp.filter _).length_eq, List.filter_append, List.length_append]
  have h1 : (x.l.map (·.t)).filter (fun t => decide (T < t ∧ t ≤ clock - x.c.lag)) = [] := List.filter_eq_nil_iff.2 (fun t ht => by have := h.wait t ht; simp; omega)
  have h2 : R.filter (fun t => decide (T < t ∧ t ≤ clock - x.c.lag)) = R.filter (fun t => decide (T < t)) := List.filter_congr (fun t ht => by have := hr t ht; simp; omega)
  rw [h1, h2]; unfold cntA; simp
 rw [e]
 refine hw.bound hK (by omega) (fun b hb => ?_)
 obtain ⟨i, hi, rfl⟩ := List.mem_iff_getElem.1 hb
 obtain ⟨k, hk⟩ := h.pb.pow i hi
 have hbk : bkAt x.nt.bs i = x.nt.bs[i] := by simp [bkAt, List.getD_eq_getElem?_getD, List.getElem?_eq_getElem hi]
 rw [hbk] at hk
 cases k with
 | zero => left; simpa using hk
 | succ k =>
  right
  rw [Int.pow_succ] at hk
  have := pow_pos2 k
  omega
end Go.Proofs.YtahnliehdjncdaaGreatDoor
namespace Go.Proofs.YtahnliehdjncdaaGreatDoor
def accd (s : WS) (o : OpM) (id : Int) : List Int := if o.kind = 2 ∧ o.id = id ∧ (stepM s o).2.1 = 0 then [o.a] else []
structure WB (s : WS) (A : Int → List Int) : Prop where
 ids : (s.xs.map (·.id)).Nodup
 none : ∀ id, id ∉ s.xs.map (·.id) → A id = []
 cnt : ∀ x, x ∈ s.xs → x.k = 1 → BS s.clock x (A x.id)
theorem WB.same {s : WS} {A B : Int → List Int} (h : WB s A) (he : ∀ id, B id = A id) : WB s B :=
 ⟨h.ids, fun id hid => (he id).trans (h.none id hid), fun x hx hk => by rw [he]; exact h.cnt x hx hk⟩
theorem accd_none {s : WS} {o : OpM} (h : o.kind ≠ 2 ∨ (stepM s o).2.1 ≠ 0) (id : Int) : accd s o id = [] := by
 unfold accd
 rw [if_neg]
 rintro ⟨h1, _, h3⟩
 rcases h with h | h
 ·exact h h1
 ·exact h h3
theorem sweepL_from {c : Int} (xs : List Ser) : ∀ (b : Int) (z : Ser), z ∈ (sweepL c b xs).1 → ∃ y, y ∈ xs ∧ ∃ b', z = swpS c b' y := by
 induction xs with
 | nil => intro b z hz; simp [sweepL] at hz
 | cons x xs ih =>
  intro b z hz
  simp only [sweepL] at hz
  rcases List.mem_cons.1 hz with hz | hz
  ·exact ⟨x, by simp, b, hz⟩
  ·obtain ⟨y, hy, h⟩ := ih _ z hz
   exact ⟨y, by simp [hy], h⟩
theorem sweepL_ids (c : Int) (xs : List Ser) : ∀ b, (sweepL c b xs).1.map (·.id) = xs.map (·.id) := by
 induction xs with
 | nil => intro b; rfl
 | cons x xs ih => intro b; simp only [sweepL, List.map_cons, ih]; rfl
theorem find_split {xs : List Ser} {id : Int} {x : Ser} (h : findS xs id = some x) : ∃ l1 l2, xs = l1 ++ x :: l2 ∧ x.id = id ∧ ∀ y : Ser, updS xs id y = l1 ++ y :: l2 := by
 obtain ⟨hp, l1, l2, he, hn⟩ := List.find?_eq_some_iff_append.1 h
 refine ⟨l1, l2, he, by simpa using hp, fun y => ?_⟩
 subst he
 clear h
 induction l1 with
 | nil => simp [updS]; intro h0; exact absurd (by simpa using hp) h0
 | cons a l1 ih =>
  have ha := hn a (by simp)
  simp only [List.cons_append, updS]
  rw [if_neg (by simpa using ha), ih (fun z hz => hn z (by simp [hz]))]
theorem upd_WB {s : WS} {A B : Int → List Int} (h : WB s A) {id : Int} {x y : Ser} (hf : findS s.xs id = some x) (hid : y.id = x.id) (hb : ∀ i, i ≠ id → B i = A i) (hk : y.k = x.k) (hy : x.k = 1 → BS s.clock x (A x.id) → BS s.clock y (B id)) : WB ⟨s.clock, updS s.xs id y⟩ B := by
 obtain ⟨l1, l2, he, hx, hu⟩ := find_split hf
 have hm : (updS s.xs id y).map (·.id) = s.xs.map (·.id) := by
  rw [hu, he]; simp [hid]
 have hxm : x ∈ s.xs := by rw [he]; simp
 refine ⟨by show ((updS s.xs id y).map _).Nodup; rw [hm]; exact h.ids, fun i hi => ?_, fun z hz hzk => ?_⟩
 ·have hi' : i ∉ s.xs.map (·.id) := by rw [← hm]; exact hi
  have hne : i ≠ id := fun h0 => hi' (by rw [h0, ← hx]; exact List.mem_map_of_mem hxm)
  rw [hb i hne]; exact h.none i hi'
 ·have hz' : z ∈ l1 ++ y :: l2 := by rw [← hu]; exact hz
  have hnd := h.ids
  rw [he, List.map_append, List.map_cons] at hnd
  obtain ⟨_, n2, n3⟩ := List.nodup_append.1 hnd
  have n4 := (List.nodup_cons.1 n2).1
  rcases List.mem_append.1 hz' with hz1 | hz1
  ·have hne : z.id ≠ id := fun h0 => n3 z.id (List.mem_map_of_mem hz1) x.id (by simp) (by rw [h0, hx])
   show BS s.clock z (B z.id)
   rw [hb _ hne]; exact h.cnt z (by rw [he]; simp [hz1]) hzk
  ·rcases List.mem_cons.1 hz1 with hz1 | hz1
   ·subst hz1
    show BS s.clock z (B z.id)
    rw [hid, hx]
    exact hy (by rw [← hk]; exact hzk) (h.cnt x hxm (by rw [← hk]; exact hzk))
   ·have hne : z.id ≠ id := fun h0 => n4 (by rw [hx, ← h0]; exact List.mem_map_of_mem hz1)
    show BS s.clock z (B z.id)
    rw [hb _ hne]; exact h.cnt z (by rw [he]; simp [hz1]) hzk
theorem refE_late {x : Ser} {clock : Int} {y : It} (h : refE x clock y = 0) : clock - x.c.lag < y.t := by
 unfold refE at h
 split at h
 ·split at h
  ·omega
  ·omega
 ·omega
theorem step_WB {n : Int} {s : WS} {A : Int → List Int} (hi : EInv n s.clock s.xs) (h : WB s A) (o : OpM) (h7 : o.kind ≠ 7) : WB (stepM s o).1 (fun id => A id ++ accd s o id) := by
 by_cases h1 : o.kind = 1
 ·have ha := accd_none (s := s) (o := o) (.inl (by omega))
  simp only [ha, List.append_nil]
  unfold stepM
  rw [if_pos h1]
  unfold createM
  split
  ·rename_i hc
   split
   ·split
    ·have hnew : o.id ∉ s.xs.map (·.id) := fun hm => by
      obtain ⟨x, hx, hxi⟩ := List.mem_map.1 hm
      have := hc.2
      unfold findS at this
      rw [Option.isNone_iff_eq_none, List.find?_eq_none] at this
      exact this x hx (by simpa using hxi)
     refine ⟨?_, fun id hid => ?_, fun x hx hk => ?_⟩
     ·show ((s.xs ++ [newSer o.id o.cfg o.cfg.kind.toNat]).map (·.id)).Nodup
      rw [List.map_append]
      refine List.nodup_append.2 ⟨h.ids, by simp, fun a ha b hb => ?_⟩
      simp [newSer] at hb
      subst hb
      exact fun h0 => hnew (by rw [← h0]; exact ha)
     ·exact h.none id (fun h0 => hid (by show id ∈ (s.xs ++ [newSer o.id o.cfg o.cfg.kind.toNat]).map (·.id); rw [List.map_append]; exact List.mem_append.2 (.inl h0)))
     ·rcases List.mem_append.1 hx with hx | hx
      ·exact h.cnt x hx hk
      ·rw [List.mem_singleton] at hx; subst hx
       show BS s.clock _ (A o.id)
       rw [h.none o.id hnew]; exact new_BS _ _ _ _
    ·exact h
   ·exact h
  ·exact h
 by_cases h2 : o.kind = 2
 ·have hs : stepM s o = addM s o := by unfold stepM; rw [if_neg h1, if_pos h2]
  cases hf : findS s.xs o.id with
  | none =>
   have e : addM s o = (s, 2, []) := by unfold addM; rw [hf]
   have ha := accd_none (s := s) (o := o) (.inr (by rw [hs, e]; simp))
   simp only [ha, List.append_nil]
   rw [hs, e]; exact h
  | some x =>
   by_cases hr : refE x s.clock o.item = 0
   ·have e : addM s o = (⟨s.clock, updS s.xs o.id (accS x o.item)⟩, 0, [x.acc + 1]) := by unfold addM; rw [hf]; simp only; rw [if_pos hr]
    rw [hs, e]
    refine upd_WB h hf rfl (fun i hne => ?_) rfl (fun _ hb => ?_)
    ·show A i ++ accd s o i = A i
     have : accd s o i = [] := by unfold accd; rw [if_neg (fun hh => hne hh.2.1.symm)]
     rw [this, List.append_nil]
    ·show BS s.clock (accS x o.item) (A o.id ++ accd s o o.id)
     have : accd s o o.id = [o.a] := by unfold accd; rw [if_pos ⟨h2, rfl, by rw [hs, e]⟩]
     rw [this]
     obtain ⟨_, _, _, hx, _⟩ := find_split hf
     rw [hx] at hb
     exact add_BS hb o.item (refE_late hr)
   ·have e : addM s o = (⟨s.clock, updS s.xs o.id (refS x (refE x s.clock o.item).toNat)⟩, refE x s.clock o.item, []) := by unfold addM; rw [hf]; simp only; rw [if_neg hr]
    have ha := accd_none (s := s) (o := o) (.inr (by rw [hs, e]; exact hr))
    simp only [ha, List.append_nil]
    rw [hs, e]
    refine upd_WB h hf rfl (fun i _ => rfl) rfl (fun _ hb => ?_)
    obtain ⟨_, _, _, hx, _⟩ := find_split hf
    rw [hx] at hb
    exact ⟨hb.heap, hb.wait, hb.whole, hb.pb⟩
 have ha := accd_none (s := s) (o := o) (.inl h2)
 simp only [ha, List.append_nil]
 unfold stepM
 rw [if_neg h1, if_neg h2]
 split
 ·unfold tickM
  split
  ·split
   ·have hcn : s.clock ≤ maxC s.clock o.a := by unfold maxC; split <;> omega
    have hids : ((sweepL (maxC s.clock o.a) o.b (s.xs.map (tickOne (maxC s.clock o.a)))).1.map (·.id)) = s.xs.map (·.id) := by
     rw [sweepL_ids, List.map_map]
     refine List.map_congr_left fun x _ => ?_
     exact (relS_k _ _ _).2.2
    refine ⟨by show List.Nodup _; rw [hids]; exact h.ids, fun id hid => h.none id (by rw [← hids]; exact hid), fun z hz hk => ?_⟩
    obtain ⟨y, hy, b', rfl⟩ := sweepL_from _ _ _ hz
    obtain ⟨x, hx, rfl⟩ := List.mem_map.1 hy
    have hkx : x.k = 1 := by
     have : (tickOne (maxC s.clock o.a) x).k = x.k := (relS_k _ _ _).1
     rw [← this]; exact hk
    have hv := hi.sers x hx
    have hvc := valid_count (k := 1) hv.valid (by rw [hv.kind, hkx]) rfl
    have hid : (swpS (maxC s.clock o.a) b' (tickOne (maxC s.clock o.a) x)).id = x.id := (relS_k _ _ _).2.2
    rw [hid]
    exact sweep_BS (tick_BS (h.cnt x hx hkx) hkx hcn hvc.1) ((relS_k _ _ _).1.trans hkx)
   ·exact h
  ·exact h
 ·split
  ·unfold queryM; split <;> exact h
  ·split
   ·unfold statsM; split <;> exact h
   ·split <;> exact h
end Go.Proofs.YtahnliehdjncdaaGreatDoor
