import Derived.Test.YtahnliehdjncdaaGreatDoorXBR
import Derived.Test.YtahnliehdjncdaaGreatDoorXBQ
set_option maxRecDepth 100000
set_option maxHeartbeats 16000000
namespace Go.Proofs.YtahnliehdjncdaaGreatDoor
def accd (s : WS) (o : OpM) (id : Int) : List Int := if o.kind = 2 ∧ o.id = id ∧ (stepM s o).2.1 = 0 then [o.a] else []
structure WB (s : WS) (A : Int → List Int) : Prop where
 ids : (s.xs.map (·.id)).Nodup
 none : ∀ id, id ∉ s.xs.map (·.id) → A id = []
 cnt : ∀ x, x ∈ s.xs → x.k = 1 → BS s.clock x (A x.id)
theorem WB.same {s : WS} {A B : Int → List Int} (h : WB s A) (he : ∀ id, B id = A id) : WB s B :=
 ⟨h.ids, fun id hid => (he id).trans (h.none id hid), fun x hx hk => by rw [he]; exact h.cnt x hx hk⟩
theorem accd_none {s : WS} {o : OpM} (h : o.kind ≠ 2 ∨ (stepM s o).2.1 ≠ 0) (id : Int) : accd s o id = [] := by
 unfold accd
 rw [if_neg]
 rintro ⟨h1, _, h3⟩
 rcases h with h | h
 ·exact h h1
 ·exact h h3
theorem sweepL_from {c : Int} (xs : List Ser) : ∀ (b : Int) (z : Ser), z ∈ (sweepL c b xs).1 → ∃ y, y ∈ xs ∧ ∃ b', z = swpS c b' y := by
 induction xs with
 | nil => intro b z hz; simp [sweepL] at hz
 | cons x xs ih =>
  intro b z hz
  simp only [sweepL] at hz
  rcases List.mem_cons.1 hz with hz | hz
  ·exact ⟨x, by simp, b, hz⟩
  ·obtain ⟨y, hy, h⟩ := ih _ z hz
   exact ⟨y, by simp [hy], h⟩
theorem sweepL_ids (c : Int) (xs : List Ser) : ∀ b, (sweepL c b xs).1.map (·.id) = xs.map (·.id) := by
 induction xs with
 | nil => intro b; rfl
 | cons x xs ih => intro b; simp only [sweepL, List.map_cons, ih]; rfl
theorem find_split {xs : List Ser} {id : Int} {x : Ser} (h : findS xs id = some x) : ∃ l1 l2, xs = l1 ++ x :: l2 ∧ x.id = id ∧ ∀ y : Ser, updS xs id y = l1 ++ y :: l2 := by
 obtain ⟨hp, l1, l2, he, hn⟩ := List.find?_eq_some_iff_append.1 h
 refine ⟨l1, l2, he, by simpa using hp, fun y => ?_⟩
 subst he
 clear h
 induction l1 with
 | nil => simp [updS]; intro h0; exact absurd (by simpa using hp) h0
 | cons a l1 ih =>
  have ha := hn a (by simp)
  simp only [List.cons_append, updS]
  rw [if_neg (by simpa using ha), ih (fun z hz => hn z (by simp [hz]))]
theorem upd_WB {s : WS} {A B : Int → List Int} (h : WB s A) {id : Int} {x y : Ser} (hf : findS s.xs id = some x) (hid : y.id = x.id) (hb : ∀ i, i ≠ id → B i = A i) (hk : y.k = x.k) (hy : x.k = 1 → BS s.clock x (A x.id) → BS s.clock y (B id)) : WB ⟨s.clock, updS s.xs id y⟩ B := by
 obtain ⟨l1, l2, he, hx, hu⟩ := find_split hf
 have hm : (updS s.xs id y).map (·.id) = s.xs.map (·.id) := by
  rw [hu, he]; simp [hid]
 have hxm : x ∈ s.xs := by rw [he]; simp
 refine ⟨by show ((updS s.xs id y).map _).Nodup; rw [hm]; exact h.ids, fun i hi => ?_, fun z hz hzk => ?_⟩
 ·have hi' : i ∉ s.xs.map (·.id) := by rw [← hm]; exact hi
  have hne : i ≠ id := fun h0 => hi' (by rw [h0, ← hx]; exact List.mem_map_of_mem hxm)
  rw [hb i hne]; exact h.none i hi'
 ·have hz' : z ∈ l1 ++ y :: l2 := by rw [← hu]; exact hz
  have hnd := h.ids
  rw [he, List.map_append, List.map_cons] at hnd
  obtain ⟨_, n2, n3⟩ := List.nodup_append.1 hnd
  have n4 := (List.nodup_cons.1 n2).1
  rcases List.mem_append.1 hz' with hz1 | hz1
  ·have hne : z.id ≠ id := fun h0 => n3 z.id (List.mem_map_of_mem hz1) x.id (by simp) (by rw [h0, hx])
   show BS s.clock z (B z.id)
   rw [hb _ hne]; exact h.cnt z (by rw [he]; simp [hz1]) hzk
  ·rcases List.mem_cons.1 hz1 with hz1 | hz1
   ·subst hz1
    show BS s.clock z (B z.id)
    rw [hid, hx]
    exact hy (by rw [← hk]; exact hzk) (h.cnt x hxm (by rw [← hk]; exact hzk))
   ·have hne : z.id ≠ id := fun h0 => n4 (by rw [hx, ← h0]; exact List.mem_map_of_mem hz1)
    show BS s.clock z (B z.id)
    rw [hb _ hne]; exact h.cnt z (by rw [he]; simp [hz1]) hzk
theorem refE_late {x : Ser} {clock : Int} {y : It} (h : refE x clock y = 0) : clock - x.c.lag < y.t := by
 unfold refE at h
 split at h
 ·split at h
  ·omega
  ·omega
 ·omega
theorem step_WB {n : Int} {s : WS} {A : Int → List Int} (hi : EInv n s.clock s.xs) (h : WB s A) (o : OpM) (h7 : o.kind ≠ 7) : WB (stepM s o).1 (fun id => A id ++ accd s o id) := by
 by_cases h1 : o.kind = 1
 ·have ha := accd_none (s := s) (o := o) (.inl (by omega))
  simp only [ha, List.append_nil]
  unfold stepM
  rw [if_pos h1]
  unfold createM
  split
  ·rename_i hc
   split
   ·split
    ·have hnew : o.id ∉ s.xs.map (·.id) := fun hm => by
      obtain ⟨x, hx, hxi⟩ := List.mem_map.1 hm
      have := hc.2
      unfold findS at this
      rw [Option.isNone_iff_eq_none, List.find?_eq_none] at this
      exact this x hx (by simpa using hxi)
     refine ⟨?_, fun id hid => ?_, fun x hx hk => ?_⟩
     ·show ((s.xs ++ [newSer o.id o.cfg o.cfg.kind.toNat]).map (·.id)).Nodup
      rw [List.map_append]
      refine List.nodup_append.2 ⟨h.ids, by simp, fun a ha b hb => ?_⟩
      simp [newSer] at hb
      subst hb
      exact fun h0 => hnew (by rw [← h0]; exact ha)
     ·exact h.none id (fun h0 => hid (by show id ∈ (s.xs ++ [newSer o.id o.cfg o.cfg.kind.toNat]).map (·.id); rw [List.map_append]; exact List.mem_append.2 (.inl h0)))
     ·rcases List.mem_append.1 hx with hx | hx
      ·exact h.cnt x hx hk
      ·rw [List.mem_singleton] at hx; subst hx
       show BS s.clock _ (A o.id)
       rw [h.none o.id hnew]; exact new_BS _ _ _ _
    ·exact h
   ·exact h
  ·exact h
 by_cases h2 : o.kind = 2
 ·have hs : stepM s o = addM s o := by unfold stepM; rw [if_neg h1, if_pos h2]
  cases hf : findS s.xs o.id with
  | none =>
   have e : addM s o = (s, 2, []) := by unfold addM; rw [hf]
   have ha := accd_none (s := s) (o := o) (.inr (by rw [hs, e]; simp))
   simp only [ha, List.append_nil]
   rw [hs, e]; exact h
  | some x =>
   by_cases hr : refE x s.clock o.item = 0
   ·have e : addM s o = (⟨s.clock, updS s.xs o.id (accS x o.item)⟩, 0, [x.acc + 1]) := by unfold addM; rw [hf]; simp only; rw [if_pos hr]
    rw [hs, e]
    refine upd_WB h hf rfl (fun i hne => ?_) rfl (fun _ hb => ?_)
    ·show A i ++ accd s o i = A i
     have : accd s o i = [] := by unfold accd; rw [if_neg (fun hh => hne hh.2.1.symm)]
     rw [this, List.append_nil]
    ·show BS s.clock (accS x o.item) (A o.id ++ accd s o o.id)
     have : accd s o o.id = [o.a] := by unfold accd; rw [if_pos ⟨h2, rfl, by rw [hs, e]⟩]
     rw [this]
     obtain ⟨_, _, _, hx, _⟩ := find_split hf
     rw [hx] at hb
     exact add_BS hb o.item (refE_late hr)
   ·have e : addM s o = (⟨s.clock, updS s.xs o.id (refS x (refE x s.clock o.item).toNat)⟩, refE x s.clock o.item, []) := by unfold addM; rw [hf]; simp only; rw [if_neg hr]
    have ha := accd_none (s := s) (o := o) (.inr (by rw [hs, e]; exact hr))
    simp only [ha, List.append_nil]
    rw [hs, e]
    refine upd_WB h hf rfl (fun i _ => rfl) rfl (fun _ hb => ?_)
    obtain ⟨_, _, _, hx, _⟩ := find_split hf
    rw [hx] at hb
    exact ⟨hb.heap, hb.wait, hb.whole, hb.pb⟩
 have ha := accd_none (s := s) (o := o) (.inl h2)
 simp only [ha, List.append_nil]
 unfold stepM
 rw [if_neg h1, if_neg h2]
 split
 ·unfold tickM
  split
  ·split
   ·have hcn : s.clock ≤ maxC s.clock o.a := by unfold maxC; split <;> omega
    have hids : ((sweepL (maxC s.clock o.a) o.b (s.xs.map (tickOne (maxC s.clock o.a)))).1.map (·.id)) = s.xs.map (·.id) := by
     rw [sweepL_ids, List.map_map]
     refine List.map_congr_left fun x _ => ?_
     exact (relS_k _ _ _).2.2
    refine ⟨by show List.Nodup _; rw [hids]; exact h.ids, fun id hid => h.none id (by rw [← hids]; exact hid), fun z hz hk => ?_⟩
    obtain ⟨y, hy, b', rfl⟩ := sweepL_from _ _ _ hz
    obtain ⟨x, hx, rfl⟩ := List.mem_map.1 hy
    have hkx : x.k = 1 := by
     have : (tickOne (maxC s.clock o.a) x).k = x.k := (relS_k _ _ _).1
     rw [← this]; exact hk
    have hv := hi.sers x hx
    have hvc := valid_count (k := 1) hv.valid (by rw [hv.kind, hkx]) rfl
    have hid : (swpS (maxC s.clock o.a) b' (tickOne (maxC s.clock o.a) x)).id = x.id := (relS_k _ _ _).2.2
    rw [hid]
    exact sweep_BS (tick_BS (h.cnt x hx hkx) hkx hcn hvc.1) ((relS_k _ _ _).1.trans hkx)
   ·exact h
  ·exact h
 ·split
  ·unfold queryM; split <;> exact h
  ·split
   ·unfold statsM; split <;> exact h
   ·split <;> exact h
end Go.Proofs.YtahnliehdjncdaaGreatDoor
namespace Go.Proofs.YtahnliehdjncdaaGreatDoor
def accOf : WS → List OpM → Int → List Int
 | _, [], _ => []
 | s, o :: r, id => accd s o id ++ accOf (stepM s o).1 r id
theorem end_WB (l : List OpM) : ∀ {n : Int} {s : WS} {A : Int → List Int}, 0 ≤ n → EInv n s.clock s.xs → OkRun l → WB s A → WB (endM s l) (fun id => A id ++ accOf s l id) := by
 induction l with
 | nil => intro n s A _ _ _ h; exact h.same (fun id => by simp [accOf])
 | cons o l ih =>
  intro n s A hn hi hok h
  have ho := hok o (by simp)
  have := ih (n := n + 1) (by omega) (stepM_inv o hi hn (loadOk_none ho)) (fun p hp => hok p (by simp [hp])) (step_WB hi h o ho)
  exact this.same (fun id => by simp [accOf, List.append_assoc])
theorem accOf_snoc (l : List OpM) (o : OpM) (id : Int) : ∀ s, accOf s (l ++ [o]) id = accOf s l id ++ accd (endM s l) o id := by
 induction l with
 | nil => intro s; simp [accOf, endM]
 | cons a l ih => intro s; simp only [List.cons_append, accOf, ih, List.append_assoc]; rfl
theorem step_clock (s : WS) (o : OpM) (h7 : o.kind ≠ 7) : (stepM s o).1.clock = if o.kind = 3 ∧ (stepM s o).2.1 = 0 ∧ s.clock < o.a then o.a else s.clock := by
 by_cases h3 : o.kind = 3
 ·have hs : stepM s o = tickM s o := by unfold stepM; rw [if_neg (by omega), if_neg (by omega), if_pos h3]
  rw [hs]
  unfold tickM
  by_cases ha : inB o.a 0 4611686018427387904 = true
  ·rw [if_pos ha]
   by_cases hb : inB o.b 0 100 = true
   ·rw [if_pos hb]
    show maxC s.clock o.a = _
    unfold maxC
    by_cases hc : s.clock < o.a
    ·rw [if_pos hc, if_pos ⟨h3, rfl, hc⟩]
    ·rw [if_neg hc, if_neg (fun h => hc h.2.2)]
   ·rw [if_neg hb, if_neg (fun h => by have := h.2.1; simp at this)]
  ·rw [if_neg ha, if_neg (fun h => by have := h.2.1; simp at this)]
 ·rw [if_neg (fun h => h3 h.1)]
  unfold stepM
  split
  ·unfold createM; split
   ·split
    ·split <;> rfl
    ·rfl
   ·rfl
  ·split
   ·unfold addM; split
    ·rfl
    ·split <;> rfl
   ·split
    ·unfold queryM; split <;> rfl
    ·split
     ·unfold statsM; split <;> rfl
     ·first | (rw [if_neg h7]; split <;> rfl) | (split <;> rfl)
theorem find_c (id : Int) : ∀ (l l' : List Ser), l.map (fun x => (x.id, x.c)) = l'.map (fun x => (x.id, x.c)) → (findS l id).map (·.c) = (findS l' id).map (·.c) := by
 intro l
 induction l with
 | nil => intro l' h; cases l' with
  | nil => rfl
  | cons a l' => simp at h
 | cons a l ih =>
  intro l' h
  cases l' with
  | nil => simp at h
  | cons b l' =>
   simp only [List.map_cons, List.cons.injEq, Prod.mk.injEq] at h
   obtain ⟨⟨h1, h2⟩, h3⟩ := h
   have := ih l' h3
   unfold findS at *
   rw [List.find?_cons, List.find?_cons, h1]
   cases (b.id == id)
   ·exact this
   ·simp [h2]
theorem upd_c {xs : List Ser} {id : Int} {x y : Ser} (hf : findS xs id = some x) (h1 : y.id = x.id) (h2 : y.c = x.c) : (updS xs id y).map (fun x => (x.id, x.c)) = xs.map (fun x => (x.id, x.c)) := by
 obtain ⟨l1, l2, he, _, hu⟩ := find_split hf
 rw [hu, he]; simp [h1, h2]
theorem sweepL_c (c : Int) (xs : List Ser) : ∀ b, (sweepL c b xs).1.map (fun x => (x.id, x.c)) = xs.map (fun x => (x.id, x.c)) := by
 induction xs with
 | nil => intro b; rfl
 | cons x xs ih => intro b; simp only [sweepL, List.map_cons, ih]; rfl
theorem step_cfg (s : WS) (o : OpM) (id : Int) (h7 : o.kind ≠ 7) : (findS (stepM s o).1.xs id).map (·.c) = match (findS s.xs id).map (·.c) with
  | some c => some c
  | none => if o.kind = 1 ∧ o.id = id ∧ (stepM s o).2.1 = 0 then some o.cfg else none := by
 have key : ∀ (p : Prop) [Decidable p] (r : Option Cfg), ¬ p → r = match r with | some c => some c | none => if p then some o.cfg else none := by
  intro p _ r hp; cases r with
  | none => simp [hp]
  | some c => rfl
 by_cases h1 : o.kind = 1
 ·have hs : stepM s o = createM s o := by unfold stepM; rw [if_pos h1]
  rw [hs]
  unfold createM
  by_cases ha : inB o.id 0 99 = true ∧ (findS s.xs o.id).isNone = true
  ·rw [if_pos ha]
   by_cases hv : validB o.cfg = true
   ·rw [if_pos hv]
    by_cases h6 : s.xs.length < 6
    ·rw [if_pos h6]
     show (findS (s.xs ++ [newSer o.id o.cfg o.cfg.kind.toNat]) id).map (·.c) = _
     have e : findS (s.xs ++ [newSer o.id o.cfg o.cfg.kind.toNat]) id = (findS s.xs id).or (findS [newSer o.id o.cfg o.cfg.kind.toNat] id) := List.find?_append
     rw [e]
     cases hf : findS s.xs id with
     | some x => rfl
     | none =>
      simp only [Option.none_or, Option.map_none]
      by_cases hid : o.id = id
      ·rw [if_pos ⟨h1, hid, by simp⟩]
       simp [findS, newSer, hid]
      ·rw [if_neg (fun h => hid h.2.1)]
       simp [findS, newSer, hid]
    ·rw [if_neg h6]; exact key _ _ (fun h => by have := h.2.2; simp at this)
   ·rw [if_neg hv]; exact key _ _ (fun h => by have := h.2.2; simp at this)
  ·rw [if_neg ha]; exact key _ _ (fun h => by have := h.2.2; simp at this)
 ·have hsame : (findS (stepM s o).1.xs id).map (·.c) = (findS s.xs id).map (·.c) := by
   refine find_c id _ _ ?_
   unfold stepM
   rw [if_neg h1]
   split
   ·unfold addM
    split
    ·rfl
    ·rename_i x hf
     split
     ·exact upd_c hf rfl rfl
     ·exact upd_c hf rfl rfl
   ·split
    ·unfold tickM
     split
     ·split
      ·show (sweepL _ _ _).1.map _ = _
       rw [sweepL_c, List.map_map]
       refine List.map_congr_left fun x _ => ?_
       have h := relS_k (x.l.length + 1) x (maxC s.clock o.a - x.c.lag)
       show ((tickOne _ x).id, (tickOne _ x).c) = _
       unfold tickOne
       rw [h.2.1, h.2.2]
      ·rfl
     ·rfl
    ·split
     ·unfold queryM; split <;> rfl
     ·split
      ·unfold statsM; split <;> rfl
      ·first | (rw [if_neg h7]; split <;> rfl) | (split <;> rfl)
  rw [hsame]; exact key _ _ (fun h => h1 h.1)
end Go.Proofs.YtahnliehdjncdaaGreatDoor
namespace Go.Proofs.YtahnliehdjncdaaGreatDoor
open Go.RowKit
attribute [local go_sem ↓] execOp_load38 execOp_load40 execOp_store40
attribute [local go_sem] run_load38 run_load40 bigVal_drew hasBig_drew bigVal_ne hasBig_ne bigVal_alloc hasBig_alloc bigVal_new hasBig_newB
def opAt (ops : List OpM) (i : Nat) : OpM := ops.getD i ⟨0, 0, 0, 0, 0, ⟨0, 0, 0, 0, 0, 0, 0, 0, 0, 0, 0, 0, 0, 0, 0, 0, 0, 0, 0, 0⟩, noBytes⟩
def codeAt (cs : List Int) (i : Nat) : Int := cs.getD i 1
def CodesAt (w : World) (g : Nat) (cs : List Int) : Prop := ∀ (i : Nat), i < cs.length → w.cell? ⟨g, i * 3, none⟩ = some (.int .i64 (codeAt cs i))
theorem CodesAt.keeps {M : Nat → Prop} {w w' : World} {g : Nat} {cs : List Int} (h : CodesAt w g cs) (hk : Keeps M w w') (hn : ¬ M g) : CodesAt w' g cs := fun i hi => hk.cell (h i hi) hn
theorem opAt_cells {w : World} {sb so : Nat} {ops : List OpM} (h : ScriptAt w sb so ops) {i : Nat} (hi : i < ops.length) : w.cell? ⟨sb, so + i * 26, none⟩ = some (.int .i64 (opAt ops i).kind) ∧ w.cell? ⟨sb, so + i * 26 + 1, none⟩ = some (.int .i64 (opAt ops i).id) ∧ w.cell? ⟨sb, so + i * 26 + 2, none⟩ = some (.int .i64 (opAt ops i).a) := by
 have e : opAt ops i = ops[i] := by simp [opAt, List.getD_eq_getElem?_getD, List.getElem?_eq_getElem hi]
 have h1 := h i ops[i] (List.getElem?_eq_getElem hi)
 rw [e]
 exact ⟨by simpa using h1 0 _ rfl, h1 1 _ rfl, h1 2 _ rfl⟩
def clockD (ops : List OpM) (cs : List Int) : Nat → Int
 | 0 => 0
 | n + 1 => if (opAt ops n).kind = 3 ∧ codeAt cs n = 0 ∧ clockD ops cs n < (opAt ops n).a then (opAt ops n).a else clockD ops cs n
theorem clockD_succ (ops : List OpM) (cs : List Int) (n : Nat) : clockD ops cs (n + 1) = if (opAt ops n).kind = 3 ∧ codeAt cs n = 0 ∧ clockD ops cs n < (opAt ops n).a then (opAt ops n).a else clockD ops cs n := rfl
theorem clock_any (sb so cap g acap : Nat) (ops : List OpM) (cs : List Int) (n : Nat) (w : World) (hs : ScriptAt w sb so ops) (ha : CodesAt w g cs) (hn : n ≤ ops.length) (hc : cs.length = ops.length) (hl : ops.length ≤ 1099511627776) :
  Calls Tryz.prog 26 #[.slice (some ⟨sb, so, none⟩) ops.length cap, .slice (some ⟨g, 0, none⟩) ops.length acap, .int .i64 n] w fun r w' => r = .returned (.int .i64 (clockD ops cs n)) ∧ w' = w := by
 have HS := hide hs
 have HA := hide ha
 have HC := hide hc
 clear hs ha hc
 generalize hm : ops.length = m at *
 have HM := hide hm
 clear hm
 go_enter Tryz.func26, Tryz.ntmps26
 go_wp2
 go_loopw [7, 8] (fun t i wr => ∃ k : Nat, i = .int .i64 k ∧ k ≤ n ∧ t = .int .i64 (clockD ops cs k) ∧ wr = w) (fun _ i _ => n - (intOf i).toNat)
 case atStart => exact ⟨0, rfl, Nat.zero_le _, rfl, rfl⟩
 case round =>
  obtain ⟨k, rfl, hk, rfl, hwr⟩ := hrel
  rw [hwr]
  clear hwr wr
  by_cases hlk : k < n
  ·obtain ⟨c0, _, c2⟩ := opAt_cells (uh HS) (i := k) (by rw [uh HM]; omega)
   have ca := uh HA k (by rw [uh HC]; omega)
   have HN := hide (clockD_succ ops cs k)
   generalize opAt ops k = o at *
   generalize codeAt cs k = c at *
   generalize clockD ops cs k = T at *
   have hk0 : (0 : Int) ≤ (k : Int) := by omega
   have hkn : (k : Int) < (n : Int) := by omega
   have hkm : (k : Int) < (m : Int) := by omega
   cases h1 : (o.kind == 3)
   ·have h1' : ¬ o.kind = 3 := by simpa using h1
    have HN' := hide (show clockD ops cs (k + 1) = T by rw [uh HN, if_neg (fun h => h1' h.1)])
    clear h1'
    go_wp2
    go_roundw
    case rel => exact ⟨k + 1, by go_num, by omega, by rw [uh HN'], by simp⟩
    case measure => simp [intOf]; omega
   ·have h1' : o.kind = 3 := by simpa using h1
    cases h2 : (c == 0)
    ·have h2' : ¬ c = 0 := by simpa using h2
     have HN' := hide (show clockD ops cs (k + 1) = T by rw [uh HN, if_neg (fun h => h2' h.2.1)])
     clear h2' h1'
     go_wp2
     go_roundw
     case rel => exact ⟨k + 1, by go_num, by omega, by rw [uh HN'], by simp⟩
     case measure => simp [intOf]; omega
    ·have h2' : c = 0 := by simpa using h2
     cases h3 : decide (T < o.a)
     ·have h3' : ¬ T < o.a := by simpa using h3
      have HN' := hide (show clockD ops cs (k + 1) = T by rw [uh HN, if_neg (fun h => h3' h.2.2)])
      clear h3' h2' h1'
      go_wp2
      go_roundw
      case rel => exact ⟨k + 1, by go_num, by omega, by rw [uh HN'], by simp⟩
      case measure => simp [intOf]; omega
     ·have h3' : T < o.a := by simpa using h3
      have HN' := hide (show clockD ops cs (k + 1) = o.a by rw [uh HN, if_pos ⟨h1', h2', h3'⟩])
      clear h3' h2' h1'
      go_wp2
      go_roundw
      case rel => exact ⟨k + 1, by go_num, by omega, by rw [uh HN'], by simp⟩
      case measure => simp [intOf]; omega
  ·have hkn : k = n := by omega
   subst hkn
   have hf : decide ((k : Int) < (k : Int)) = false := by simp
   go_wp2
   go_ret
   exact ⟨rfl, rfl⟩
def configD (ops : List OpM) (cs : List Int) (id : Int) : Nat → Option Cfg
 | 0 => none
 | n + 1 => match configD ops cs id n with
  | some c => some c
  | none => if (opAt ops n).kind = 1 ∧ (opAt ops n).id = id ∧ codeAt cs n = 0 then some (opAt ops n).cfg else none
theorem configD_none (ops : List OpM) (cs : List Int) (id : Int) (n : Nat) (h : configD ops cs id n = none) : configD ops cs id (n + 1) = if (opAt ops n).kind = 1 ∧ (opAt ops n).id = id ∧ codeAt cs n = 0 then some (opAt ops n).cfg else none := by
 show (match configD ops cs id n with | some c => some c | none => _) = _
 rw [h]
theorem configD_some (ops : List OpM) (cs : List Int) (id : Int) (n m : Nat) (c : Cfg) (h : configD ops cs id n = some c) (hm : n ≤ m) : configD ops cs id m = some c := by
 induction m with
 | zero =>
  have : n = 0 := by omega
  subst this
  exact h
 | succ m ih =>
  by_cases e : n = m + 1
  ·rw [← e]; exact h
  ·show (match configD ops cs id m with | some c => some c | none => _) = _
   rw [ih (by omega)]
theorem range_cfg {w : World} {sb so : Nat} {ops : List OpM} (h : ScriptAt w sb so ops) {i : Nat} (hi : i < ops.length) : bigVal w sb (so + i * 26 + 5) 20 = .agg (opAt ops i).cfg.cells.toArray ∧ hasBig w sb (so + i * 26 + 5) 20 = true := by
 have e : opAt ops i = ops[i] := by simp [opAt, List.getD_eq_getElem?_getD, List.getElem?_eq_getElem hi]
 have h1 := h i ops[i] (List.getElem?_eq_getElem hi)
 rw [e]
 have h2 : w.rangeAt sb (so + i * 26 + 5) ops[i].cfg.cells := by
  intro j v hv
  have hj : j < 20 := by have := (List.getElem?_eq_some_iff.1 hv).1; simpa [Cfg.cells] using this
  have h3 : ops[i].cells[5 + j]? = some v := by
   have e2 : (ops[i].cells.drop 5).take 20 = ops[i].cfg.cells := rfl
   rw [← e2, List.getElem?_take, if_pos hj, List.getElem?_drop] at hv
   exact hv
  have := h1 (5 + j) v h3
  rw [show so + i * 26 + 5 + j = so + i * 26 + (5 + j) by omega]
  exact this
 have h3 := bigCells_of_range h2
 have e3 : ops[i].cfg.cells.length = 20 := rfl
 rw [e3] at h3
 exact ⟨by unfold bigVal; rw [h3.1], h3.2⟩
def cfg0 : Cfg := ⟨0, 0, 0, 0, 0, 0, 0, 0, 0, 0, 0, 0, 0, 0, 0, 0, 0, 0, 0, 0⟩
attribute [local go_sem ↓] execOp_store38 execOp_build38
theorem run_z38 (w : World) : (buildBig 38 #[]).run Tryz.prog w = .ok (.value (.agg cfg0.cells.toArray)) w := by kernel_rfl
attribute [local go_sem] run_z38
theorem config_any (sb so cap g acap : Nat) (ops : List OpM) (cs : List Int) (n : Nat) (id : Int) (w : World) (hs : ScriptAt w sb so ops) (ha : CodesAt w g cs) (hn : n ≤ ops.length) (hc : cs.length = ops.length) (hl : ops.length ≤ 1099511627776) :
  Calls Tryz.prog 25 #[.slice (some ⟨sb, so, none⟩) ops.length cap, .slice (some ⟨g, 0, none⟩) ops.length acap, .int .i64 n, .int .i64 id] w fun r w' => r = .returned (.tuple #[((configD ops cs id n).getD cfg0).val, .bool (configD ops cs id n).isSome]) ∧ Keeps (fun _ => False) w w' := by
 obtain ⟨W, hW⟩ : ∃ W, W = w.alloc (.cells cfg0.cells.toArray 38) := ⟨_, rfl⟩
 have hkW : Keeps (fun _ => False) w W := by rw [hW]; exact (Keeps.refl _ _).alloc _
 have HS := hide (show ScriptAt W sb so ops from fun i o ho j v hv => hkW.cell (hs i o ho j v hv) (fun h => h))
 have HA := hide (ha.keeps hkW (fun h => h))
 have HC := hide hc
 have HK := hide hkW
 have HW := hide (show w.alloc (.cells #[.int .i64 0, .int .i64 0, .int .i64 0, .int .i64 0, .int .i64 0, .int .i64 0, .int .i64 0, .int .i64 0, .int .i64 0, .int .i64 0, .int .i64 0, .int .i64 0, .int .i64 0, .int .i64 0, .int .i64 0, .int .i64 0, .int .i64 0, .int .i64 0, .int .i64 0, .int .i64 0] 38) = W from hW.symm)
 have HWW := hide hW
 have HST := hide (show ∀ c : Cfg, (storeBig 38 (.pointer (some ⟨w.heap.size, 0, none⟩)) (.agg c.cells.toArray)).run Tryz.prog W = .ok .skip (w.alloc (.cells c.cells.toArray 38)) from fun c => by
    rw [hW]; exact run_store38 w cfg0.cells c.cells rfl rfl (by simp [Cfg.cells, Value.oneCell']))
 clear hs ha hc hkW hW
 generalize hm : ops.length = m at *
 have HM := hide hm
 clear hm
 go_enter Tryz.func25, Tryz.ntmps25
 go_wp2_with fail
 rw [uh HW]
 go_loopw [10] (fun i wr => ∃ k : Nat, i = .int .i64 k ∧ k ≤ n ∧ Hid (configD ops cs id k = none) ∧ wr = W) (fun i _ => n - (intOf i).toNat)
 case atStart => exact ⟨0, rfl, Nat.zero_le _, rfl, rfl⟩
 case round =>
  obtain ⟨k, rfl, hk, HNO, hwr⟩ := hrel
  rw [hwr]
  clear hwr wr
  by_cases hlk : k < n
  ·obtain ⟨c0, c1, _⟩ := opAt_cells (uh HS) (i := k) (by rw [uh HM]; omega)
   have ca := uh HA k (by rw [uh HC]; omega)
   have HN := hide (configD_none ops cs id k (uh HNO))
   have HCF := hide (range_cfg (uh HS) (i := k) (by rw [uh HM]; omega))
   generalize opAt ops k = o at *
   generalize codeAt cs k = c at *
   have hk0 : (0 : Int) ≤ (k : Int) := by omega
   have hkn : (k : Int) < (n : Int) := by omega
   have hkm : (k : Int) < (m : Int) := by omega
   by_cases hh : o.kind = 1 ∧ o.id = id ∧ c = 0
   ·obtain ⟨h1, h2, h3⟩ := hh
    have HN' := hide (show configD ops cs id n = some o.cfg from configD_some ops cs id (k + 1) n _ (by rw [uh HN, if_pos ⟨h1, h2, h3⟩]) (by omega))
    obtain ⟨hv, hb⟩ := uh HCF
    have hst := uh HST o.cfg
    have e1 : (o.kind == 1) = true := by simpa using h1
    have e2 : (o.id == id) = true := by simpa using h2
    have e3 : (c == 0) = true := by simpa using h3
    clear h1 h2 h3
    have hv1 : bigVal (w.alloc (.cells o.cfg.cells.toArray 38)) w.heap.size 0 20 = .agg o.cfg.cells.toArray := bigVal_new w o.cfg.cells 38 20 rfl
    have hh1 : hasBig (w.alloc (.cells o.cfg.cells.toArray 38)) w.heap.size 0 20 = true := hasBig_new w o.cfg.cells 38 20 rfl
    go_wp2
    have hb9 := Blk.new w o.cfg.cells 38
    have HK9 := hide ((Keeps.refl (fun _ => False) w).alloc (.cells o.cfg.cells.toArray 38))
    generalize w.alloc (.cells o.cfg.cells.toArray 38) = W9 at *
    have HLV := hide (show (loadVar 38 ⟨w.heap.size, 0, none⟩).run Tryz.prog W9 = .ok (.agg o.cfg.cells.toArray) W9 from run_loadVar_mid W9 w.heap.size 0 38 o.cfg.cells _ (fun j v hv => by rw [Nat.zero_add]; exact hb9.cell hv) Tryz.underlying38 rfl (by rw [size38]; rfl))
    clear hb9
    refine bodyPost_ret (v := .tuple #[o.cfg.val, .bool true]) (by simp [results, Tryz.results25, asAddr, uh HLV]; rfl) rfl ?_
    exact ⟨by rw [uh HN']; rfl, uh HK9⟩
   ·have HN' := hide (show configD ops cs id (k + 1) = none by rw [uh HN, if_neg hh])
    cases h1 : (o.kind == 1)
    ·clear hh
     go_wp2
     go_roundw
     case rel => exact ⟨k + 1, by go_num, by omega, HN', by simp⟩
     case measure => simp [intOf]; omega
    ·cases h2 : (o.id == id)
     ·clear hh
      go_wp2
      go_roundw
      case rel => exact ⟨k + 1, by go_num, by omega, HN', by simp⟩
      case measure => simp [intOf]; omega
     ·have h3 : (c == 0) = false := by
       cases h3 : (c == 0)
       ·rfl
       ·exact absurd ⟨by simpa using h1, by simpa using h2, by simpa using h3⟩ hh
      clear hh
      go_wp2
      go_roundw
      case rel => exact ⟨k + 1, by go_num, by omega, HN', by simp⟩
      case measure => simp [intOf]; omega
  ·have hkn : k = n := by omega
   subst hkn
   have hf : decide ((k : Int) < (k : Int)) = false := by simp
   have hst := uh HST cfg0
   go_wp2
   have hb9 := Blk.new w cfg0.cells 38
   have HK9 := hide ((Keeps.refl (fun _ => False) w).alloc (.cells cfg0.cells.toArray 38))
   generalize w.alloc (.cells cfg0.cells.toArray 38) = W9 at *
   have HLV := hide (show (loadVar 38 ⟨w.heap.size, 0, none⟩).run Tryz.prog W9 = .ok (.agg cfg0.cells.toArray) W9 from run_loadVar_mid W9 w.heap.size 0 38 cfg0.cells _ (fun j v hv => by rw [Nat.zero_add]; exact hb9.cell hv) Tryz.underlying38 rfl (by rw [size38]; rfl))
   clear hb9
   refine bodyPost_ret (v := .tuple #[cfg0.val, .bool false]) (by simp [results, Tryz.results25, asAddr, uh HLV]; rfl) rfl ?_
   exact ⟨by rw [uh HNO]; rfl, uh HK9⟩
end Go.Proofs.YtahnliehdjncdaaGreatDoor
namespace Go.Proofs.YtahnliehdjncdaaGreatDoor
open Go.RowKit
attribute [local go_sem ↓] execOp_load38 execOp_load40 execOp_store40 execOp_bs22
attribute [local go_sem] run_load38 run_load40 bigVal_drew hasBig_drew bigVal_ne hasBig_ne bigVal_alloc hasBig_alloc bigVal_new hasBig_newB run_bs1
def itemsD (ops : List OpM) (cs : List Int) (id fr to : Int) : Nat → List OpM
 | 0 => []
 | n + 1 => itemsD ops cs id fr to n ++ (if (opAt ops n).kind = 2 ∧ (opAt ops n).id = id ∧ codeAt cs n = 0 ∧ fr < (opAt ops n).a ∧ (opAt ops n).a ≤ to then [opAt ops n] else [])
theorem itemsD_succ (ops : List OpM) (cs : List Int) (id fr to : Int) (n : Nat) : itemsD ops cs id fr to (n + 1) = itemsD ops cs id fr to n ++ (if (opAt ops n).kind = 2 ∧ (opAt ops n).id = id ∧ codeAt cs n = 0 ∧ fr < (opAt ops n).a ∧ (opAt ops n).a ≤ to then [opAt ops n] else []) := rfl
theorem itemsD_length (ops : List OpM) (cs : List Int) (id fr to : Int) (n : Nat) : (itemsD ops cs id fr to n).length ≤ n := by
 induction n with
 | zero => simp [itemsD]
 | succ n ih => rw [itemsD_succ, List.length_append]; split <;> simp <;> omega
theorem range_op {w : World} {sb so : Nat} {ops : List OpM} (h : ScriptAt w sb so ops) {i : Nat} (hi : i < ops.length) : bigVal w sb (so + i * 26) 26 = .agg (opAt ops i).cells.toArray ∧ hasBig w sb (so + i * 26) 26 = true := by
 have e : opAt ops i = ops[i] := by simp [opAt, List.getD_eq_getElem?_getD, List.getElem?_eq_getElem hi]
 have h3 := bigCells_of_range (h i ops[i] (List.getElem?_eq_getElem hi))
 have e3 : ops[i].cells.length = 26 := rfl
 rw [e3] at h3
 rw [e]
 exact ⟨by unfold bigVal; rw [h3.1], h3.2⟩
theorem ScriptAt.keepsM {M : Nat → Prop} {w w' : World} {sb so : Nat} {ops : List OpM} (h : ScriptAt w sb so ops) (hk : Keeps M w w') (hn : ¬ M sb) : ScriptAt w' sb so ops := fun i o ho j v hv => hk.cell (h i o ho j v hv) hn
theorem items_any (sb so cap g acap : Nat) (ops : List OpM) (cs : List Int) (n : Nat) (id fr to : Int) (w : World) (hs : ScriptAt w sb so ops) (hgl : g < w.heap.size) (ha : CodesAt w g cs) (hn : n ≤ ops.length) (hc : cs.length = ops.length) (hl : ops.length ≤ 651562446088) :
  Calls Tryz.prog 27 #[.slice (some ⟨sb, so, none⟩) ops.length cap, .slice (some ⟨g, 0, none⟩) ops.length acap, .int .i64 n, .int .i64 id, .int .i64 fr, .int .i64 to] w fun r w' => ∃ v, r = .returned v ∧ OwnS w' w.heap.size v (itemsD ops cs id fr to n) ∧ Keeps (fun _ => False) w w' := by
 have HS := hide hs
 have HA := hide ha
 have HC := hide hc
 clear hs ha hc
 generalize hm : ops.length = m at *
 have HM := hide hm
 clear hm
 go_enter Tryz.func27, Tryz.ntmps27
 go_wp2_with fail
 go_loopw [13, 14] (fun l i wr => ∃ (k mm cp : Nat) (ad : Option Addr), k ≤ n ∧ i = .int .i64 k ∧ l = .slice ad mm cp ∧ Hid (OwnS wr w.heap.size l (itemsD ops cs id fr to k)) ∧ Hid (Keeps (fun _ => False) w wr)) (fun _ i _ => n - (intOf i).toNat)
 case atStart => exact ⟨0, 0, 0, none, by omega, rfl, rfl, World.ownsRow_nil _ _ _ _, Keeps.refl _ _⟩
 case round =>
  obtain ⟨k, mm, cp, ad, hk, rfl, rfl, HO, HK⟩ := hrel
  by_cases hlk : k < n
  ·have HSr := hide ((uh HS).keepsM (uh HK) (fun h => h))
   obtain ⟨hv0, hh0⟩ := range_op (uh HSr) (i := k) (by rw [uh HM]; omega)
   have ca : wr.cell? ⟨g, k * 3, none⟩ = some (.int .i64 (codeAt cs k)) := (uh HK).cell (uh HA k (by rw [uh HC]; omega)) (fun h => h)
   have HN := hide (itemsD_succ ops cs id fr to k)
   have hAl := itemsD_length ops cs id fr to k
   have hm' : mm = (itemsD ops cs id fr to k).length := by
    obtain ⟨_, _, e⟩ := row_form0 (uh HO)
    injection e
   generalize opAt ops k = o at *
   generalize codeAt cs k = c at *
   have hst : ∀ zs : List Value, zs.length = 26 → (storeBig 40 (.pointer (some ⟨wr.heap.size, 0, none⟩)) (.agg o.cells.toArray)).run Tryz.prog (wr.alloc (.cells zs.toArray 40)) = .ok .skip (wr.alloc (.cells o.cells.toArray 40)) := fun zs hz => run_store40 wr zs o.cells hz rfl (op_oneCell o)
   have hv1 : bigVal (wr.alloc (.cells o.cells.toArray 40)) wr.heap.size 0 26 = .agg o.cells.toArray := bigVal_new wr o.cells 40 26 rfl
   have hh1 : hasBig (wr.alloc (.cells o.cells.toArray 40)) wr.heap.size 0 26 = true := hasBig_new wr o.cells 40 26 rfl
   have o0 : o.cells[0]? = some (.int .i64 o.kind) := rfl
   have o1 : o.cells[1]? = some (.int .i64 o.id) := rfl
   have o2 : o.cells[2]? = some (.int .i64 o.a) := rfl
   have hgne : g < wr.heap.size := by have := (uh HK).size; omega
   have ca2 : (wr.alloc (.cells o.cells.toArray 40)).cell? ⟨g, k * 3, none⟩ = some (.int .i64 c) := ((Keeps.refl (fun _ => False) wr).alloc _).cell ca (fun h => h)
   have hk0 : (0 : Int) ≤ (k : Int) := by omega
   have hkn : (k : Int) < (n : Int) := by omega
   have hkm : (k : Int) < (m : Int) := by omega
   cases h0 : (o.kind == 2)
   ·have hx : ¬ o.kind = 2 := by simpa using h0
    have HH := hide (show itemsD ops cs id fr to (k + 1) = itemsD ops cs id fr to k by rw [uh HN, if_neg (fun h => hx h.1), List.append_nil])
    clear hx
    have HK2 := hide ((uh HK).alloc (.cells o.cells.toArray 40))
    have HO2 := hide (owns_keeps (uh HO) ((Keeps.refl (fun _ => False) wr).alloc (.cells o.cells.toArray 40)) (fun _ _ h => h))
    go_wp2_with fail
    go_roundw
    case rel => exact ⟨k + 1, _, _, _, by omega, by go_num, rfl, by show OwnS _ _ _ _; rw [uh HH]; exact uh HO2, HK2⟩
    case measure => simp [intOf]; omega
   ·skip
    cases h1 : (o.id == id)
    ·have hx : ¬ o.id = id := by simpa using h1
     have HH := hide (show itemsD ops cs id fr to (k + 1) = itemsD ops cs id fr to k by rw [uh HN, if_neg (fun h => hx h.2.1), List.append_nil])
     clear hx
     have HK2 := hide ((uh HK).alloc (.cells o.cells.toArray 40))
     have HO2 := hide (owns_keeps (uh HO) ((Keeps.refl (fun _ => False) wr).alloc (.cells o.cells.toArray 40)) (fun _ _ h => h))
     go_wp2_with fail
     go_roundw
     case rel => exact ⟨k + 1, _, _, _, by omega, by go_num, rfl, by show OwnS _ _ _ _; rw [uh HH]; exact uh HO2, HK2⟩
     case measure => simp [intOf]; omega
    ·skip
     cases h2 : (c == 0)
     ·have hx : ¬ c = 0 := by simpa using h2
      have HH := hide (show itemsD ops cs id fr to (k + 1) = itemsD ops cs id fr to k by rw [uh HN, if_neg (fun h => hx h.2.2.1), List.append_nil])
      clear hx
      have HK2 := hide ((uh HK).alloc (.cells o.cells.toArray 40))
      have HO2 := hide (owns_keeps (uh HO) ((Keeps.refl (fun _ => False) wr).alloc (.cells o.cells.toArray 40)) (fun _ _ h => h))
      go_wp2_with fail
      go_roundw
      case rel => exact ⟨k + 1, _, _, _, by omega, by go_num, rfl, by show OwnS _ _ _ _; rw [uh HH]; exact uh HO2, HK2⟩
      case measure => simp [intOf]; omega
     ·skip
      cases h3 : decide (fr < o.a)
      ·have hx : ¬ fr < o.a := by simpa using h3
       have HH := hide (show itemsD ops cs id fr to (k + 1) = itemsD ops cs id fr to k by rw [uh HN, if_neg (fun h => hx h.2.2.2.1), List.append_nil])
       clear hx
       have HK2 := hide ((uh HK).alloc (.cells o.cells.toArray 40))
       have HO2 := hide (owns_keeps (uh HO) ((Keeps.refl (fun _ => False) wr).alloc (.cells o.cells.toArray 40)) (fun _ _ h => h))
       go_wp2_with fail
       go_roundw
       case rel => exact ⟨k + 1, _, _, _, by omega, by go_num, rfl, by show OwnS _ _ _ _; rw [uh HH]; exact uh HO2, HK2⟩
       case measure => simp [intOf]; omega
      ·skip
       cases h4 : decide (o.a ≤ to)
       ·have hx : ¬ o.a ≤ to := by simpa using h4
        have HH := hide (show itemsD ops cs id fr to (k + 1) = itemsD ops cs id fr to k by rw [uh HN, if_neg (fun h => hx h.2.2.2.2), List.append_nil])
        clear hx
        have HK2 := hide ((uh HK).alloc (.cells o.cells.toArray 40))
        have HO2 := hide (owns_keeps (uh HO) ((Keeps.refl (fun _ => False) wr).alloc (.cells o.cells.toArray 40)) (fun _ _ h => h))
        go_wp2_with fail
        go_roundw
        case rel => exact ⟨k + 1, _, _, _, by omega, by go_num, rfl, by show OwnS _ _ _ _; rw [uh HH]; exact uh HO2, HK2⟩
        case measure => simp [intOf]; omega
       ·skip
        have HH := hide (show itemsD ops cs id fr to (k + 1) = itemsD ops cs id fr to k ++ [o] by rw [uh HN, if_pos ⟨by simpa using h0, by simpa using h1, by simpa using h2, by simpa using h3, by simpa using h4⟩])
        generalize itemsD ops cs id fr to k = A at *
        go_wp2_with (at_builtin; refine wpList_append_ops rfl _ _ rfl w.heap.size (.slice ad mm cp) A rfl (by exact owns_keeps (uh HO) (((Keeps.refl (fun _ => False) wr).alloc _).alloc _) (fun _ _ h => h)) _ [o] rfl (by exact blk_script (Blk.newAt (by simp) o.cells 40)) (by simp; omega) (by have := (uh HK).size; simp; omega) ?_; intro ad2 c2 w2 hown2 hk2 hat2)
        have HK2 := hide ((((uh HK).alloc (.cells o.cells.toArray 40)).alloc (.cells o.cells.toArray 40)).trans hk2 (fun i hi hlt => by have := ((uh HO).lt i hi).1; omega))
        go_roundw
        case rel => exact ⟨k + 1, _, _, _, by omega, by go_num, rfl, by show OwnS _ _ _ _; rw [uh HH]; exact hown2, HK2⟩
        case measure => simp [intOf]; omega
  ·have hkn : k = n := by omega
   subst hkn
   have hf : decide ((k : Int) < (k : Int)) = false := by simp
   go_wp2
   go_ret
   exact ⟨_, rfl, uh HO, uh HK⟩
end Go.Proofs.YtahnliehdjncdaaGreatDoor
namespace Go.Proofs.YtahnliehdjncdaaGreatDoor
theorem runM_at (s : WS) (ops : List OpM) (i : Nat) (o : OpM) (h : ops[i]? = some o) : (runM s ops)[i]? = some (stepM (endM s (ops.take i)) o).2 := by
 induction ops generalizing s i with
 | nil => simp at h
 | cons a l ih =>
  cases i with
  | zero =>
   have : a = o := by simpa using h
   subst this
   rfl
  | succ i =>
   have := ih (stepM s a).1 i (by simpa using h)
   simpa [runM, endM] using this
def codesOf (ops : List OpM) : List Int := (runM ws0 ops).map (·.1)
theorem codesOf_length (ops : List OpM) : (codesOf ops).length = ops.length := by simp [codesOf, runM_length]
theorem opAt_get {ops : List OpM} {i : Nat} (hi : i < ops.length) : ops[i]? = some (opAt ops i) := by
 simp [opAt, List.getD_eq_getElem?_getD, List.getElem?_eq_getElem hi]
theorem codeAt_is (ops : List OpM) (i : Nat) (hi : i < ops.length) : codeAt (codesOf ops) i = (stepM (endM ws0 (ops.take i)) (opAt ops i)).2.1 := by
 unfold codeAt codesOf
 rw [List.getD_eq_getElem?_getD, List.getElem?_map, runM_at ws0 ops i _ (opAt_get hi)]
 rfl
theorem take_opAt {ops : List OpM} {i : Nat} (hi : i < ops.length) : ops.take (i + 1) = ops.take i ++ [opAt ops i] := by
 rw [List.take_add_one, opAt_get hi]; rfl
theorem opAt_mem {ops : List OpM} {i : Nat} (hi : i < ops.length) : opAt ops i ∈ ops := List.mem_of_getElem? (opAt_get hi)
theorem clockD_is (ops : List OpM) (hok : OkRun ops) (n : Nat) (hn : n ≤ ops.length) : clockD ops (codesOf ops) n = (endM ws0 (ops.take n)).clock := by
 induction n with
 | zero => rfl
 | succ n ih =>
  have hi : n < ops.length := by omega
  rw [clockD_succ, ih (by omega), codeAt_is ops n hi, take_opAt hi, endM_snoc, step_clock _ _ (hok _ (opAt_mem hi))]
theorem configD_is (ops : List OpM) (hok : OkRun ops) (id : Int) (n : Nat) (hn : n ≤ ops.length) : configD ops (codesOf ops) id n = (findS (endM ws0 (ops.take n)).xs id).map (·.c) := by
 induction n with
 | zero => rfl
 | succ n ih =>
  have hi : n < ops.length := by omega
  rw [take_opAt hi, endM_snoc, step_cfg _ _ _ (hok _ (opAt_mem hi)), ← ih (by omega), ← codeAt_is ops n hi]
  rfl
theorem itemsD_is (ops : List OpM) (id fr to : Int) (n : Nat) (hn : n ≤ ops.length) : (itemsD ops (codesOf ops) id fr to n).map (·.a) = (accOf ws0 (ops.take n) id).filter (fun t => decide (fr < t ∧ t ≤ to)) := by
 induction n with
 | zero => rfl
 | succ n ih =>
  have hi : n < ops.length := by omega
  rw [itemsD_succ, take_opAt hi, accOf_snoc, List.filter_append, List.map_append, ih (by omega), codeAt_is ops n hi]
  congr 1
  unfold accd
  by_cases h1 : (opAt ops n).kind = 2 ∧ (opAt ops n).id = id ∧ (stepM (endM ws0 (ops.take n)) (opAt ops n)).2.1 = 0
  ·rw [if_pos h1]
   by_cases h2 : fr < (opAt ops n).a ∧ (opAt ops n).a ≤ to
   ·rw [if_pos ⟨h1.1, h1.2.1, h1.2.2, h2⟩]
    simp [h2.1, h2.2]
   ·rw [if_neg (fun h => h2 h.2.2.2)]
    rw [List.filter_cons_of_neg (by simpa using h2)]
    rfl
  ·rw [if_neg h1, if_neg (fun h => h1 ⟨h.1, h.2.1, h.2.2.1⟩)]
   rfl
end Go.Proofs.YtahnliehdjncdaaGreatDoor
namespace Go.Proofs.YtahnliehdjncdaaGreatDoor
open Go.RowKit
attribute [local go_sem ↓] execOp_load38 execOp_load40 execOp_build38 execOp_build40 execOp_bs22 execOp_store38
def cc : Cfg := ⟨1, 0, 9, 8, 1, 5, 0, 0, 0, 0, 0, 0, 0, 0, 0, 0, 0, 0, 0, 0⟩
def p1 : OpM := ⟨1, 7, 0, 0, 0, cc, noBytes⟩
def p4 : OpM := ⟨4, 7, 5, 0, 0, cz, noBytes⟩
def fourO : List OpM := [p1, o2, o3, p4]
def fourCells : List Value := p1.cells ++ (o2.cells ++ (o3.cells ++ p4.cells))
theorem four_run : runM ws0 fourO = [(0, []), (0, [1]), (0, [0]), (0, [1])] := by kernel_rfl
theorem run_c38 (w : World) : (buildBig 38 #[(0, .int .i64 1), (2, .int .i64 9), (3, .int .i64 8), (4, .int .i64 1), (5, .int .i64 5)]).run Tryz.prog w = .ok (.value (.agg cc.cells.toArray)) w := by kernel_rfl
theorem run_c1 (w : World) : (buildBig 40 #[(0, .int .i64 1), (1, .int .i64 7), (5, .agg cc.cells.toArray)]).run Tryz.prog w = .ok (.value (.agg p1.cells.toArray)) w := by kernel_rfl
theorem run_c4 (w : World) : (buildBig 40 #[(0, .int .i64 4), (1, .int .i64 7), (2, .int .i64 5)]).run Tryz.prog w = .ok (.value (.agg p4.cells.toArray)) w := by kernel_rfl
theorem run_cs (w : World) : (bsBig 22 4 #[(0, .agg p1.cells.toArray), (1, .agg o2.cells.toArray), (2, .agg o3.cells.toArray), (3, .agg p4.cells.toArray)]).run Tryz.prog w =
  .ok (.value (.slice (some ⟨w.heap.size, 0, none⟩) 4 4)) (w.alloc (.cells fourCells.toArray 40)) := by kernel_rfl
attribute [local go_sem] run_load38 run_load40 bigVal_drew hasBig_drew bigVal_ne hasBig_ne bigVal_alloc hasBig_alloc run_c38 run_c1 run_b2 run_b3 run_c4 run_cs
theorem four_at (w : World) (b : Nat) (h : Blk w b fourCells 40) : ScriptAt w b 0 fourO := by
 intro i o ho
 have hi : i < 4 := (List.getElem?_eq_some_iff.1 ho).1
 have hi' : i = 0 ∨ i = 1 ∨ i = 2 ∨ i = 3 := by omega
 have hr : ∀ (off : Nat) (cs : List Value), (fourCells.drop off).take 26 = cs → w.rangeAt b off cs := by
  intro off cs hcs j v hv
  rw [← hcs, List.getElem?_take] at hv
  split at hv
  ·exact h.cell (by simpa using hv)
  ·cases hv
 rcases hi' with h' | h' | h' | h'
 all_goals
  subst h'
  injection ho with ho
  subst ho
 ·exact hr 0 _ rfl
 ·exact hr 26 _ rfl
 ·exact hr 52 _ rfl
 ·exact hr 78 _ rfl
theorem list_four {α : Type _} (l : List α) (h : l.length = 4) : ∃ a b c d, l = [a, b, c, d] := by
 match l, h with
 | [a, b, c, d], _ => exact ⟨a, b, c, d, rfl⟩
theorem four_ok : OkRun fourO := by
 intro o ho
 simp [fourO, p1, o2, o3, p4] at ho
 rcases ho with h | h | h | h <;> subst h <;> simp
theorem counting_any (w : World) (hT : Tab w) : Calls Tryz.prog 24 #[] w fun e w' => e = .returned (.bool true) ∧ Keeps (fun _ => False) w w' := by
 have hst : ∀ zs : List Value, zs.length = 20 → (storeBig 38 (.pointer (some ⟨w.heap.size, 0, none⟩)) (.agg cc.cells.toArray)).run Tryz.prog (w.alloc (.cells zs.toArray 38)) = .ok .skip (w.alloc (.cells cc.cells.toArray 38)) := fun zs hz => run_store38 w zs cc.cells hz rfl (by simp [Cfg.cells, Value.oneCell'])
 have hv1 : bigVal (w.alloc (.cells cc.cells.toArray 38)) w.heap.size 0 20 = .agg cc.cells.toArray := bigVal_new w cc.cells 38 20 rfl
 have hh1 : hasBig (w.alloc (.cells cc.cells.toArray 38)) w.heap.size 0 20 = true := hasBig_new w cc.cells 38 20 rfl
 have HK0 := hide (((Keeps.refl (fun _ => False) w).alloc (.cells cc.cells.toArray 38)).alloc (.cells fourCells.toArray 40))
 have HB0 := hide (show Blk ((w.alloc (.cells cc.cells.toArray 38)).alloc (.cells fourCells.toArray 40)) (w.heap.size + 1) fourCells 40 from Blk.newAt (by simp) _ _)
 have HTT := hide hT
 clear hT
 go_enter Tryz.func24, Tryz.ntmps24
 go_wp2_with fail
 refine (run_all (w.heap.size + 1) 0 4 fourO _ (four_at _ _ (uh HB0)) (uh HB0).lt (by decide) ((uh HTT).keeps (uh HK0) (fun h => h)) four_ok).mono ?_
 rintro r w1 ⟨v, l, rfl, hA, hM, _, hk1⟩
 rw [four_run] at hM
 obtain ⟨x0, x1, x2, x3, hl5⟩ := list_four l (by have := congrArg List.length hM; simpa using this)
 subst hl5
 simp only [List.map_cons, List.map_nil, List.cons.injEq, Prod.mk.injEq, and_true] at hM
 obtain ⟨⟨k0, m0⟩, ⟨k1, m1⟩, ⟨k2, m2⟩, k3, m3⟩ := hM
 obtain ⟨g, cap, hv, hc⟩ := ans_row hA (by simp)
 have n3 := hA.nums x3 (by simp)
 rw [m3] at n3
 rcases num_cells n3 with ⟨h, _⟩ | ⟨g1, cp1, hv1', hn1⟩
 ·cases h
 have y3 : w1.cell? ⟨g, 9, none⟩ = some (.int .i64 0) := (hc 9 _ rfl).trans (by rw [k3])
 have z3 : w1.cell? ⟨g, 10, none⟩ = some (.slice (some ⟨g1, 0, none⟩) 1 cp1) := (hc 10 _ rfl).trans (by rw [hv1']; rfl)
 have q1 : w1.cell? ⟨g1, 0, none⟩ = some (.int .i64 1) := hn1 0 (by simp)
 have HK1 := hide ((uh HK0).then hk1)
 rw [hv]
 clear hA hk1 hc n3 hn1 hv hv1' k0 k1 k2 k3 m0 m1 m2 m3 hst hv1 hh1 HK0 HB0
 show _
 go_wp2
 go_ret
 exact ⟨rfl, uh HK1⟩
end Go.Proofs.YtahnliehdjncdaaGreatDoor
namespace Go.Proofs.YtahnliehdjncdaaGreatDoor
open Go.RowKit
def distD (a b : Int) : Int := if a < b then b - a else a - b
theorem distance_any (a b : Int) (w : World) (a0 : 0 ≤ a) (a1 : a ≤ 4611686018427387904) (b0 : 0 ≤ b) (b1 : b ≤ 4611686018427387904) :
  Calls Tryz.prog 28 #[.int .i64 a, .int .i64 b] w fun r w' => r = .returned (.int .i64 (distD a b)) ∧ w' = w := by
 have h1 : IntKind.i64.wrap (b - a) = b - a := by rw [IntKind.wrap_i64]; omega
 have h2 : IntKind.i64.wrap (a - b) = a - b := by rw [IntKind.wrap_i64]; omega
 by_cases h : a < b
 ·have HD := hide (show distD a b = b - a by unfold distD; rw [if_pos h])
  go_enter Tryz.func28, Tryz.ntmps28
  go_wp2
  go_ret
  exact ⟨ret_int (uh HD).symm, rfl⟩
 ·have HD := hide (show distD a b = a - b by unfold distD; rw [if_neg h])
  have hd : decide (a < b) = false := by simpa using h
  clear h
  go_enter Tryz.func28, Tryz.ntmps28
  go_wp2
  go_ret
  exact ⟨ret_int (uh HD).symm, rfl⟩
theorem emod_le' (c n : Int) (hc : 0 ≤ c) (hn : 1 ≤ n) : c % n ≤ c := by
 have h1 := Int.mul_nonneg (show 0 ≤ n by omega) (Int.ediv_nonneg hc (show 0 ≤ n by omega))
 have h2 := Int.emod_add_mul_ediv c n
 omega
theorem pick_big (c n : Int) (w : World) (hn : 1 ≤ n) (c0 : -9223372036854775808 ≤ c) (c1 : c ≤ 9223372036854775807) :
  Calls Tryz.prog 18 #[.int .i64 c, .int .i64 n] w fun e w' => ∃ k : Nat, (k : Int) < n ∧ e = .returned (.int .i64 k) ∧ w' = w := by
 by_cases h : c < 0
 ·obtain ⟨k, hk⟩ : ∃ k : Nat, (k : Int) = (-(c + 1)) % n := ⟨((-(c + 1)) % n).toNat, Int.toNat_of_nonneg (Int.emod_nonneg _ (by omega))⟩
  have hlt := Int.emod_lt_of_pos (-(c + 1)) (show 0 < n by omega)
  have hke := emod_le' (-(c + 1)) n (by omega) hn
  have HK := hide hk
  clear hk
  go_enter Tryz.func18, Tryz.ntmps18
  go_wp2
  go_ret
  exact ⟨k, by rw [uh HK]; exact hlt, ret_int ((Int.neg_tmod (c + 1) n).symm.trans ((Int.tmod_eq_emod_of_nonneg (by omega)).trans (uh HK).symm)), rfl⟩
 ·obtain ⟨k, hk⟩ : ∃ k : Nat, (k : Int) = c % n := ⟨(c % n).toNat, Int.toNat_of_nonneg (Int.emod_nonneg _ (by omega))⟩
  have hlt := Int.emod_lt_of_pos c (show 0 < n by omega)
  have hke := emod_le' c n (by omega) hn
  have HK := hide hk
  clear hk
  go_enter Tryz.func18, Tryz.ntmps18
  go_wp2
  go_ret
  exact ⟨k, by rw [uh HK]; exact hlt, ret_int (uh HK).symm, rfl⟩
def appS (t : TypeId) (x y : Value) : Sem Next := do pure (.value (← Builtin.append_ #[22, 22] t #[x, y]))
theorem execOp_appS (ρ : Operand → Value) (dst : Option Tmp) (x y : Operand) (ty : TypeId) (pos : String) (after : Array Edge) (guard : Option (Nat × Bool)) :
  execOp ρ { dst, op := .call { callee := .builtin .append, args := #[x, y], argTypes := #[22, 22] }, type := ty, pos, after, guard } = appS ty (ρ x) (ρ y) := by
 rw [BigFrame.execOp_builtin, BigFrame.builtin_append]
 simp [appS]
theorem run_appS (w : World) (base : Nat) (v : Value) (A : List OpM) (g0 : Nat) (q : OpM) (hown : OwnS w base v A) (hu : w.heap[g0]? = some (.cells q.cells.toArray 40)) (hm : A.length + 1 ≤ 651562446089) (hb : base ≤ w.heap.size) :
  ∃ gg cap' w3, (∀ t, (appS t v (.slice (some ⟨g0, 0, none⟩) 1 1)).run Tryz.prog w = .ok (.value (.slice (some ⟨gg, 0, none⟩) (A.length + 1) cap')) w3) ∧
   OwnS w3 base (.slice (some ⟨gg, 0, none⟩) (A.length + 1) cap') (A ++ [q]) ∧ w.grownBy w3 v.ownBlock := by
 obtain ⟨i0, hi0, hz0, hz1, hz2⟩ := info_parts info40
 obtain ⟨gg, cap', w3, e1, e2, e3, _, _⟩ := run_append_lies (P := Tryz.prog) w 22 22 base 40 i0 _ 26 216 Tryz.underlying22 hi0 hz0 hz1 hz2 rfl (by omega) v A.length (opFlat A) hown ⟨g0, 0, none⟩ 1 1 q.cells rfl (World.news_of_block hu) (fun u hu' => by have := op_oneCell q; simp only [List.all_toArray] at this; exact List.all_eq_true.1 this u hu') (by omega) (by unfold maxLen; omega) (by omega) hb w.heap.size rfl
 refine ⟨gg, cap', w3, fun t => ?_, ?_, e3⟩
 ·unfold appS
  rw [Sem.run_bind]
  have ht : Builtin.append_ #[22, 22] t #[v, .slice (some ⟨g0, 0, none⟩) 1 1] = Builtin.append_ #[22, 22] 22 #[v, .slice (some ⟨g0, 0, none⟩) 1 1] := rfl
  rw [ht, e1]
  rfl
 ·show w3.ownsRow base 40 26 _ (A ++ [q]).length (opFlat (A ++ [q]))
  rw [opFlat_append, List.length_append]
  have : opFlat [q] = q.cells := by simp [opFlat]
  rw [this]
  exact e2
end Go.Proofs.YtahnliehdjncdaaGreatDoor
namespace Go.Proofs.YtahnliehdjncdaaGreatDoor
theorem estN_bd {l : List Bk} (h : BInv l) (t : Int) : 0 ≤ estN l t ∧ estN l t ≤ 4398046511104 := by
 have hs := sumB_split l (pastN l t)
 have h1 := sumB_nonneg (l := l.take (pastN l t)) (fun b hb => h.one b (List.mem_of_mem_take hb))
 have h2 := sumB_nonneg (l := l.drop (pastN l t)) (fun b hb => h.one b (List.mem_of_mem_drop hb))
 have h3 := h.sum
 have hle := pastN_le l t
 unfold estN
 split
 ·omega
 ·rename_i hne
  have hlt : pastN l t < l.length := by omega
  have e := bkAt_dropc l (pastN l t) hlt
  have hb := h.one _ (bkAt_mem hlt)
  have h4 := sumB_nonneg (l := l.drop (pastN l t + 1)) (fun b hb => h.one b (List.mem_of_mem_drop hb))
  rw [e] at h2 hs ⊢
  simp only [sumB] at h2 hs ⊢
  omega
theorem bound_data (t : List OpM) (hok : OkRun t) (hlen : t.length ≤ 651562446090) (j : Nat) (hj : j < t.length) (h4 : (opAt t j).kind = 4) (c : Cfg) (hc : configD t (codesOf t) (opAt t j).id j = some c) (hk : c.kind = 1) :
  (0 ≤ clockD t (codesOf t) j ∧ clockD t (codesOf t) j ≤ 4611686018427387904) ∧ (0 ≤ c.lag ∧ c.lag ≤ 100) ∧ (1 ≤ c.k ∧ c.k ≤ 10) ∧ (1 ≤ c.window ∧ c.window ≤ 1000) ∧
  (inB (opAt t j).a 1 c.window = false → (runM ws0 t)[j]? = some (13, [])) ∧
  (inB (opAt t j).a 1 c.window = true → ∃ est : Int, (runM ws0 t)[j]? = some (0, [est]) ∧ 0 ≤ est ∧ est ≤ 4398046511104 ∧
     c.k * distD est ((itemsD t (codesOf t) (opAt t j).id (clockD t (codesOf t) j - c.lag - (opAt t j).a) (clockD t (codesOf t) j - c.lag) j).length : Int) ≤ ((itemsD t (codesOf t) (opAt t j).id (clockD t (codesOf t) j - c.lag - (opAt t j).a) (clockD t (codesOf t) j - c.lag) j).length : Int)) := by
 have hjl : j ≤ t.length := by omega
 have hokj : OkRun (t.take j) := fun o ho => hok o (List.mem_of_mem_take ho)
 have hinv : EInv j (endM ws0 (t.take j)).clock (endM ws0 (t.take j)).xs := by
  have := endM_inv (t.take j) inv0 (by omega) (fun i o ho => loadOk_none (hokj o (List.mem_of_getElem? ho)))
  rw [List.length_take, Nat.min_eq_left hjl] at this
  simpa using this
 have hwb : WB (endM ws0 (t.take j)) (accOf ws0 (t.take j)) := by
  have := end_WB (t.take j) (n := 0) (s := ws0) (A := fun _ => []) (by omega) inv0 hokj ⟨by simp [ws0], fun _ _ => rfl, fun x hx => by simp [ws0] at hx⟩
  exact this.same (fun id => by simp)
 rw [configD_is t hok _ j hjl] at hc
 cases hf : findS (endM ws0 (t.take j)).xs (opAt t j).id with
 | none => rw [hf] at hc; cases hc
 | some x =>
  rw [hf] at hc
  have hxc : x.c = c := by simpa using hc
  have hx : x ∈ (endM ws0 (t.take j)).xs := List.mem_of_find?_eq_some hf
  have hsi := hinv.sers x hx
  have hid : x.id = (opAt t j).id := by have := List.find?_some hf; simpa using this
  have hk1 : x.k = 1 := by have := hsi.kind; rw [hxc, hk] at this; omega
  obtain ⟨a1, a2, a3, a4⟩ := valid_count hsi.valid hsi.kind hk1
  obtain ⟨l0, l1, _⟩ := hsi.common
  have hclk := clockD_is t hok j hjl
  have hans := runM_at ws0 t j _ (opAt_get hj)
  have hstep : stepM (endM ws0 (t.take j)) (opAt t j) = (endM ws0 (t.take j), qryN x.k x.c x.nt (opAt t j).a ((endM ws0 (t.take j)).clock - x.c.lag)) := by
   unfold stepM
   rw [if_neg (by omega), if_neg (by omega), if_neg (by omega), if_pos h4]
   unfold queryM
   rw [hf]
  rw [hstep] at hans
  have hq : qryN x.k x.c x.nt (opAt t j).a ((endM ws0 (t.take j)).clock - x.c.lag) = if inB (opAt t j).a 1 x.c.window = true then (0, [estN x.nt.bs ((endM ws0 (t.take j)).clock - x.c.lag - (opAt t j).a)]) else (13, []) := by
   unfold qryN
   rw [if_neg (by omega), if_pos hk1]
  rw [hq] at hans
  rw [hclk, ← hxc]
  refine ⟨⟨hinv.c0, hinv.c1⟩, ⟨l0, l1⟩, ⟨a1, a2⟩, ⟨a3, a4⟩, fun hb => ?_, fun hb => ?_⟩
  ·rw [hb] at hans
   simpa using hans
  ·rw [if_pos hb] at hans
   have hab := inB_iff hb
   obtain ⟨n, hn, b1, b2⟩ := (hwb.cnt x hx hk1).bound (a := (opAt t j).a) (by omega) (by omega) _ rfl
   have hlen2 := congrArg List.length (itemsD_is t (opAt t j).id ((endM ws0 (t.take j)).clock - x.c.lag - (opAt t j).a) ((endM ws0 (t.take j)).clock - x.c.lag) j hjl)
   rw [List.length_map] at hlen2
   rw [hid] at hn
   rw [← hlen2] at hn
   have hbi := hsi.note.binv (by have h1 := hsi.rela; have h2 := hsi.accn; omega)
   have hest : 0 ≤ estN x.nt.bs ((endM ws0 (t.take j)).clock - x.c.lag - (opAt t j).a) ∧ estN x.nt.bs ((endM ws0 (t.take j)).clock - x.c.lag - (opAt t j).a) ≤ 4398046511104 := estN_bd hbi _
   refine ⟨_, hans, hest.1, hest.2, ?_⟩
   rw [← hn]
   unfold distD
   split
   ·exact b2
   ·exact b1
end Go.Proofs.YtahnliehdjncdaaGreatDoor
