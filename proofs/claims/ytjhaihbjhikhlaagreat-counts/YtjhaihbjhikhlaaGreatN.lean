import Derived.Test.YtjhaihbjhikhlaaGreatE9
namespace Go.Proofs.YtjhaihbjhikhlaaGreat
open Go.RowKit

/-- The whole, as data. -/
structure WS where
  clock : Int
  xs : List Ser

def createM (s : WS) (o : OpM) : WS × Int × List Int :=
  if inB o.id 0 99 = true ∧ (findS s.xs o.id).isNone = true then
    if validB o.cfg = true then (if s.xs.length < 6 then (⟨s.clock, s.xs ++ [newSer o.id o.cfg o.cfg.kind.toNat]⟩, 0, []) else (s, 4, [])) else (s, 3, [])
  else (s, 2, [])
def addM (s : WS) (o : OpM) : WS × Int × List Int :=
  match findS s.xs o.id with
  | none => (s, 2, [])
  | some x => if refE x s.clock o.item = 0 then (⟨s.clock, updS s.xs o.id (accS x o.item)⟩, 0, [x.acc + 1])
    else (⟨s.clock, updS s.xs o.id (refS x (refE x s.clock o.item).toNat)⟩, refE x s.clock o.item, [])
def tickM (s : WS) (o : OpM) : WS × Int × List Int :=
  if inB o.a 0 4611686018427387904 = true then
    if inB o.b 0 100 = true then (⟨maxC s.clock o.a, (sweepL (maxC s.clock o.a) o.b (s.xs.map (tickOne (maxC s.clock o.a)))).1⟩, 0, [(sweepL (maxC s.clock o.a) o.b (s.xs.map (tickOne (maxC s.clock o.a)))).2]) else (s, 12, [])
  else (s, 5, [])
def queryM (s : WS) (o : OpM) : WS × Int × List Int :=
  match findS s.xs o.id with
  | none => (s, 2, [])
  | some x => (s, qryN x.k x.c x.nt o.a (s.clock - x.c.lag))
def statsM (s : WS) (o : OpM) : WS × Int × List Int :=
  match findS s.xs o.id with
  | none => (s, 2, [])
  | some x => (s, 0, statsL x)
def stepM (s : WS) (o : OpM) : WS × Int × List Int :=
  if o.kind = 1 then createM s o else if o.kind = 2 then addM s o else if o.kind = 3 then tickM s o else if o.kind = 4 then queryM s o else if o.kind = 5 then statsM s o else (s, 1, [])

theorem SInv.mono {n m : Int} {x : Ser} (h : SInv n x) (hm : n ≤ m) : SInv m x := by
  have h1 := h.accn
  exact ⟨h.valid, h.kind, h.k1, h.k5, h.acc0, by omega, h.rel0, h.rela, h.reflen, fun v hv => by have := h.refn v hv; omega, h.cap, h.times, h.note⟩
theorem newSer_inv {n : Int} (id : Int) (c : Cfg) (h : validB c = true) (hn : 0 ≤ n) : SInv n (newSer id c c.kind.toNat) := by
  obtain ⟨k, hk, h1, h5, hc, _⟩ := valid_parts h
  have hkn : c.kind.toNat = k := by omega
  simp only [commonB, inB, Bool.and_eq_true, decide_eq_true_eq] at hc
  refine ⟨h, ?_, ?_, ?_, by simp [newSer], by simpa [newSer] using hn, by simp [newSer], by simp [newSer], rfl, ?_, ?_, by simp [newSer], ⟨by simp [newSer, note0], by simp [newSer, note0], by simp [newSer, note0], by simp [newSer, note0], by simp [newSer, note0], by simp [newSer, note0, sumB]⟩⟩
  · show c.kind = (c.kind.toNat : Int); omega
  · show 1 ≤ c.kind.toNat; omega
  · show c.kind.toNat ≤ 5; omega
  · intro v hv
    have : v = 0 := by simpa [newSer] using hv
    omega
  · show ((0 : Nat) : Int) ≤ c.cap; omega
theorem updS_mem {xs : List Ser} {id : Int} {y z : Ser} (h : z ∈ updS xs id y) : z ∈ xs ∨ z = y := by
  induction xs with
  | nil => simp [updS] at h
  | cons a l ih =>
    unfold updS at h
    split at h
    · rcases List.mem_cons.1 h with h | h
      · exact .inr h
      · exact .inl (by simp [h])
    · rcases List.mem_cons.1 h with h | h
      · exact .inl (by simp [h])
      · rcases ih h with h | h
        · exact .inl (by simp [h])
        · exact .inr h
theorem updS_length (xs : List Ser) (id : Int) (y : Ser) : (updS xs id y).length = xs.length := by
  induction xs with
  | nil => rfl
  | cons a l ih =>
    unfold updS
    split
    · rfl
    · simp [ih]
theorem EInv.mono {n m clock : Int} {xs : List Ser} (h : EInv n clock xs) (hm : n ≤ m) : EInv m clock xs := ⟨h.c0, h.c1, h.six, fun x hx => (h.sers x hx).mono hm⟩
theorem refE_zero {x : Ser} {clock : Int} {y : It} (h : refE x clock y = 0) : 0 ≤ y.t ∧ y.t ≤ 4611686018427387904 ∧ (x.l.length : Int) < x.c.cap := by
  unfold refE at h
  cases h1 : inB y.t 0 4611686018427387904 with
  | false => rw [h1] at h; simp at h
  | true =>
    obtain ⟨a, b⟩ := inB_iff h1
    rw [h1] at h
    simp only [if_true] at h
    split at h
    · omega
    · split at h
      · omega
      · split at h
        · rename_i h2; exact absurd h h2
        · split at h
          · omega
          · omega
theorem sweepL_mem {P : Ser → Prop} (clock : Int) (h : ∀ b x, P x → P (swpS clock b x)) (b : Int) (xs : List Ser) (hx : ∀ x, x ∈ xs → P x) : ∀ x, x ∈ (sweepL clock b xs).1 → P x := by
  induction xs generalizing b with
  | nil => intro x hx; simp [sweepL] at hx
  | cons a l ih =>
    intro x hx'
    simp only [sweepL, List.mem_cons] at hx'
    rcases hx' with hx' | hx'
    · rw [hx']; exact h b a (hx a (by simp))
    · exact ih _ (fun y hy => hx y (by simp [hy])) x hx'
theorem sweepL_length (clock b : Int) (xs : List Ser) : (sweepL clock b xs).1.length = xs.length := by
  induction xs generalizing b with
  | nil => rfl
  | cons a l ih => simp [sweepL, ih]
theorem stepM_inv {n : Int} {s : WS} (o : OpM) (h : EInv n s.clock s.xs) (hn : 0 ≤ n) : EInv (n + 1) (stepM s o).1.clock (stepM s o).1.xs := by
  have hs : EInv (n + 1) s.clock s.xs := h.mono (by omega)
  unfold stepM
  split
  · unfold createM
    split
    · split
      · split
        · rename_i h2 h3
          refine ⟨h.c0, h.c1, by simp; omega, fun x hx => ?_⟩
          rcases List.mem_append.1 hx with hx | hx
          · exact hs.sers x hx
          · rw [List.mem_singleton] at hx; subst hx; exact newSer_inv _ _ h2 (by omega)
        · exact hs
      · exact hs
    · exact hs
  · split
    · unfold addM
      split
      · exact hs
      · rename_i x hf
        have hx : x ∈ s.xs := List.mem_of_find?_eq_some hf
        have hxi := h.sers x hx
        split
        · rename_i hr
          obtain ⟨t0, t1, hc⟩ := refE_zero hr
          refine ⟨h.c0, h.c1, by show (updS _ _ _).length ≤ 6; rw [updS_length]; exact h.six, fun z hz => ?_⟩
          rcases updS_mem hz with hz | hz
          · exact hs.sers z hz
          · subst hz; exact accS_inv (hxi.mono (by omega)) o.item t0 t1 hc (by have := hxi.accn; omega)
        · refine ⟨h.c0, h.c1, by show (updS _ _ _).length ≤ 6; rw [updS_length]; exact h.six, fun z hz => ?_⟩
          rcases updS_mem hz with hz | hz
          · exact hs.sers z hz
          · subst hz
            have hrr := refE_range x s.clock o.item
            exact refS_inv (hxi.mono (by omega)) _ (fun v hv => by have := hxi.refn v hv; omega) (by omega)
    · split
      · unfold tickM
        split
        · rename_i ha
          obtain ⟨a0, a1⟩ := inB_iff ha
          have hc0 := h.c0
          have hc1 := h.c1
          split
          · refine ⟨?_, ?_, by show (sweepL _ _ _).1.length ≤ 6; rw [sweepL_length]; simpa using h.six, fun z hz => ?_⟩
            · show 0 ≤ maxC s.clock o.a; unfold maxC; split <;> omega
            · show maxC s.clock o.a ≤ _; unfold maxC; split <;> omega
            · refine sweepL_mem (P := SInv (n + 1)) _ (fun b x hx => swpS_inv _ b hx) _ _ (fun z hz => ?_) z hz
              obtain ⟨x, hx, rfl⟩ := List.mem_map.1 hz
              exact relS_inv _ (hs.sers x hx) _
          · exact hs
        · exact hs
      · split
        · unfold queryM
          split
          · exact hs
          · exact hs
        · split
          · unfold statsM
            split <;> exact hs
          · exact hs

end Go.Proofs.YtjhaihbjhikhlaaGreat
