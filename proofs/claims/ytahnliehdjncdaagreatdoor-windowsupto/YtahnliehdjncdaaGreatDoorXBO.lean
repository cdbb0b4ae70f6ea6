import Derived.Test.YtahnliehdjncdaaGreatDoorXBF
import Derived.Test.YtahnliehdjncdaaGreatDoorXBN
import Derived.Test.YtahnliehdjncdaaGreatDoorXBH
set_option maxRecDepth 100000
set_option maxHeartbeats 16000000
namespace Go.Proofs.YtahnliehdjncdaaGreatDoor
open Go.RowKit
theorem Qi.allL_length : ∀ (f : Nat) (l : List It), (Qi.allL f l).length ≤ l.length
 | 0, _ => Nat.zero_le _
 | f + 1, l => by
  unfold Qi.allL
  split
  ·simp
  ·have := Qi.allL_length f (takeL l)
   rw [Qi.takeL_length] at this
   rw [List.length_cons]; omega
theorem Dr.allL_length : ∀ (f : Nat) (l : List Dr.It), (Dr.allL f l).length ≤ l.length
 | 0, _ => Nat.zero_le _
 | f + 1, l => by
  unfold Dr.allL
  split
  ·simp
  ·have := Dr.allL_length f (Dr.takeL l)
   rw [Dr.takeL_length] at this
   rw [List.length_cons]; omega
theorem savB_length (l : List Bk) (f s : Nat) (h : s ≤ l.length) : (savB l f s).length ≤ f + (l.length - s) := by
 induction f generalizing s with
 | zero => simp [savB]
 | succ f ih =>
  have he := endZ_le l (2 ^ f) s h
  have := ih (endZ l (2 ^ f) s) he.2
  rw [savB_succ, List.length_cons, List.length_append, List.length_map, List.length_take, List.length_drop]
  omega
theorem sizesC_le {l : List Bk} (hsz : ∀ x ∈ l, 1 ≤ x.sz ∧ x.sz < 4611686018427387904) : sizesC l ≤ 62 := by
 unfold sizesC
 split
 ·omega
 ·rename_i h0
  have hb := hsz (bkAt l 0) (bkAt_mem (by omega))
  have hs := bitLen_spec (bkAt l 0).sz.toNat
  have h2 := hs.2 (by omega)
  rcases Nat.lt_or_ge (bitLen (bkAt l 0).sz.toNat - 1) 62 with h3 | h3
  ·omega
  ·have := Nat.pow_le_pow_right (show 1 ≤ 2 by omega) h3
   have e : (2 : Nat) ^ 62 = 4611686018427387904 := by decide
   omega
theorem savN_length {k : Nat} {c : Cfg} {nt : Note} (h : SavOk k c nt) (hv : validB c = true) (hk : c.kind = k) (m : Int) : (savN k c nt m).length ≤ nt.bs.length + 50000 := by
 unfold savN
 split
 ·simp
 ·split
  ·have h1 := savB_length nt.bs (sizesC nt.bs) 0 (Nat.zero_le _)
   have h2 := sizesC_le h.bz
   unfold savC
   rw [List.length_cons]; omega
  ·split
   ·rename_i h2
    obtain ⟨_, a2, a3, _⟩ := valid_distinct hv hk h2
    have h1 := savD_length nt.rg (regN c) (m - c.window) h.rl
    have h3 : regN c ≤ 2 ^ 4 := Nat.pow_le_pow_right (n := 2) (by omega) (show c.bits.toNat ≤ 4 by omega)
    omega
   ·split
    ·rename_i h3
     obtain ⟨_, hrw, _⟩ := valid_often hv hk h3
     obtain ⟨o1, _⟩ := h.oc h3
     have h1 := panesN_length c (panesO c nt.op nt.cl (m - c.window)) (by have := hrw.r1; omega) (by have := hrw.w1; omega)
     have h2 : (panesO c nt.op nt.cl (m - c.window)).length ≤ 1001 := by
      unfold panesO
      rw [List.length_append, List.length_drop]
      split <;> simp <;> omega
     unfold savO
     rw [List.length_cons]; omega
    ·split
     ·rename_i h5
      have h1 := h.tl h5
      have h2 := Dr.allL_length (nt.tk.length + 1) nt.tk
      rw [savT_length]; omega
     ·simp
theorem serNums_length {x : Ser} (h : SerOk x) (clock : Int) : (serNums clock x).length ≤ x.nt.bs.length + 51000 := by
 have h1 := savN_length h.note h.valid h.kind (clock - x.c.lag)
 have h2 := bufN_length x.k (Qi.allL (x.l.length + 1) x.l)
 have h3 := Qi.allL_length (x.l.length + 1) x.l
 have h4 := h.len
 have h5 := cfgNums_length x.k x.c h.p3
 unfold serNums serHead
 rw [List.length_append, List.length_append, List.length_cons, List.length_append, List.length_append, List.length_map]
 have h6 : toldL.length = 7 := rfl
 simp only [List.length_cons, List.length_nil]
 omega
def sersN (clock : Int) (xs : List Ser) : List Int := xs.flatMap (serNums clock)
def wholeNums (clock : Int) (xs : List Ser) : List Int := clock :: (xs.length : Int) :: sersN clock xs
def bodyB (clock : Int) (xs : List Ser) : List Nat := formB ++ encL (wholeNums clock xs)
def savedL (clock : Int) (xs : List Ser) : List Nat := bodyB clock xs ++ enc (sumH (bodyB clock xs))
def savedB (clock : Int) (xs : List Ser) : ByteArray := strB (savedL clock xs)
theorem sersN_append (clock : Int) (a b : List Ser) : sersN clock (a ++ b) = sersN clock a ++ sersN clock b := by simp [sersN]
theorem sersN_length (clock : Int) (xs : List Ser) (h : ∀ x, x ∈ xs → SerOk x) : (sersN clock xs).length ≤ 1000000051000 * xs.length := by
 induction xs with
 | nil => simp [sersN]
 | cons x l ih =>
  have h1 := serNums_length (h x (by simp)) clock
  have h2 := (h x (by simp)).note.bn
  have h3 := ih (fun y hy => h y (by simp [hy]))
  have e : sersN clock (x :: l) = serNums clock x ++ sersN clock l := by simp [sersN]
  rw [e, List.length_append, List.length_cons]; omega
theorem ERep.keepsM {M : Nat → Prop} {w w' : World} {e : Nat} {v : Value} {clock : Int} {ps : List (SB × Ser)} (h : ERep w e v clock ps) (hk : Keeps M w w') (hn : ∀ i, EFoot e v ps i → ¬ M i) : ERep w' e v clock ps :=
 ⟨h.blk.keeps hk (hn e (.inl rfl)), ownsM h.row hk (fun i hi => hn i (.inr (.inl hi))), fun p hp => (h.reps p hp).keeps hk (fun i hi => hn i (.inr (.inr ⟨p, hp, hi⟩))), h.apart, h.ev, h.ef⟩
theorem saved_any (e : Nat) (v : Value) (clock : Int) (ps : List (SB × Ser)) (w : World) (h : ERep w e v clock ps) (hok : ∀ x, x ∈ ps.map (·.2) → SerOk x) (six : ps.length ≤ 6) (c0 : 0 ≤ clock) (c1 : clock ≤ 4611686018427387904) :
  Calls Tryz.prog 47 #[.pointer (some ⟨e, 0, none⟩)] w fun r w' => r = .returned (.string (savedB clock (ps.map (·.2)))) ∧ Keeps (fun _ => False) w w' := by
 have HE := hide h
 have HOK := hide hok
 have HLT := hide (show ∀ i, EFoot e v ps i → i < w.heap.size from h.lt)
 obtain ⟨va, vcap, hv, hva⟩ := row_form h.row
 have HV := hide hv
 have HVA := hide hva
 have HNEW := hide (newWriter_any w)
 clear h hok hv hva
 obtain ⟨n, hn⟩ : ∃ n, ps.length = n := ⟨_, rfl⟩
 have HN := hide hn
 rw [hn] at six
 clear hn
 go_enter Tryz.func47, Tryz.ntmps47
 go_wp2_with fail
 refine (uh HNEW).mono ?_
 rintro r w1 ⟨b, u, rfl, hw1, hb1, hk1⟩
 have HNF := hide (show ∀ i, EFoot e v ps i → ¬ WFoot b u i from fun i hi h => by have h1 := uh HLT i hi; have h2 := hb1 i h; omega)
 have HE1 := hide (show ∀ w', Keeps (WFoot b u) w1 w' → ERep w' e v clock ps from fun w' hk' => ((uh HE).still hk1).keepsM hk' (uh HNF))
 have HW1 := hide (Wrote.refl hw1)
 have HK1 := hide hk1
 have HB1 := hide hb1
 have hc0 : w1.cell? ⟨e, 0, none⟩ = some (.int .i64 clock) := (uh HE1 w1 (Keeps.refl _ _)).blk.cell rfl
 clear hw1 hb1 hk1 HNEW
 go_wp2_with fail
 refine (number_w b u formB clock w1 w1 (uh HW1) c0 (by omega) (by decide)).mono ?_
 rintro r w2 ⟨rfl, hw2⟩
 have HO2 := hide hw2
 clear hw2 hc0 HW1
 have hc1 : w2.cell? ⟨e, 1, none⟩ = some (.slice va n vcap) := by
  have := (uh HE1 w2 (uh HO2).kp).blk.cell (i := 1) rfl
  rw [this, uh HV, uh HN]
 have hf8 : formB.length = 8 := rfl
 go_wp2_with fail
 refine (number_w b u _ n w1 w2 (uh HO2) (by omega) (by omega) (by have := enc_length clock; rw [List.length_append]; omega)).mono ?_
 rintro r w3 ⟨rfl, hw3⟩
 have HO3 := hide hw3
 clear hw3 hc1 HO2
 have hc1 : w3.cell? ⟨e, 1, none⟩ = some (.slice va n vcap) := by
  have := (uh HE1 w3 (uh HO3).kp).blk.cell (i := 1) rfl
  rw [this, uh HV, uh HN]
 have hl3 : (formB ++ enc clock ++ enc (n : Int)).length ≤ 28 := by
  have h1 := enc_length clock
  have h2 := enc_length (n : Int)
  rw [List.length_append, List.length_append]; omega
 obtain ⟨b0, hb0⟩ : ∃ b0, formB ++ enc clock ++ enc (n : Int) = b0 := ⟨_, rfl⟩
 rw [hb0] at HO3 hl3
 have HB0 := hide hb0
 clear hb0
 go_wp2_with fail
 clear hc1
 go_loopw [25] (fun i wr => ∃ k : Nat, i = .int .i64 k ∧ k ≤ n ∧ Hid (Wrote w1 b u (b0 ++ encL (sersN clock ((ps.take k).map (·.2)))) wr)) (fun i _ => n - (intOf i).toNat)
 case atStart => exact ⟨0, rfl, Nat.zero_le _, by show Wrote _ _ _ _ _; simp only [List.take_zero, List.map_nil, sersN, List.flatMap_nil, encL_nil, List.append_nil]; exact uh HO3⟩
 case round =>
  obtain ⟨k, rfl, hk, HOr⟩ := hrel
  have hk0 : (0 : Int) ≤ (k : Int) := by omega
  have HLB := hide (show (b0 ++ encL (sersN clock ((ps.take k).map (·.2)))).length ≤ 28 + 10 * (1000000051000 * k) by
     have h1 := encL_length (sersN clock ((ps.take k).map (·.2)))
     have h2 := sersN_length clock ((ps.take k).map (·.2)) (fun x hx => uh HOK x (by
          obtain ⟨p, hp, rfl⟩ := List.mem_map.1 hx
          exact List.mem_map_of_mem (List.mem_of_mem_take hp)))
     have h3 : ((ps.take k).map (·.2)).length = k := by rw [List.length_map, List.length_take, uh HN]; omega
     rw [h3] at h2
     rw [List.length_append]; omega)
  by_cases hlk : k < n
  ·obtain ⟨g, hg, _⟩ := uh HVA (by rw [uh HN]; omega)
   subst hg
   have hkp : k < ps.length := by rw [uh HN]; exact hlk
   obtain ⟨p, hp⟩ : ∃ p, ps[k]? = some p := ⟨_, List.getElem?_eq_getElem hkp⟩
   have HEr := hide (uh HE1 wr (uh HOr).kp)
   have hcg : wr.cell? ⟨g, k, none⟩ = some (.pointer (some ⟨p.1.s, 0, none⟩)) := by
    rcases row_cells (uh HEr).row with ⟨h0, _⟩ | ⟨g', cap', hv', hc⟩
    ·omega
    ·rw [uh HV] at hv'
     cases hv'
     exact hc k _ (by unfold ptrs; rw [List.getElem?_map, hp]; rfl)
   have hce : wr.cell? ⟨e, 0, none⟩ = some (.int .i64 clock) := (uh HEr).blk.cell rfl
   have HTK := hide (show sersN clock ((ps.take (k + 1)).map (·.2)) = sersN clock ((ps.take k).map (·.2)) ++ serNums clock p.2 by
      rw [List.take_add_one, hp, List.map_append, sersN_append]
      simp [sersN])
   have hpm : p ∈ ps := List.mem_of_getElem? hp
   have HSR := hide ((uh HEr).reps p hpm)
   have HSK := hide (uh HOK p.2 (List.mem_map_of_mem hpm))
   have HSF := hide (show ∀ i, p.1.foot p.2.k i → EFoot e v ps i from fun i hi => .inr (.inr ⟨p, hpm, hi⟩))
   have hbn := (uh HSK).note.bn
   have hlb := uh HLB
   have hkE : (k : Int) < (n : Int) := by omega
   obtain ⟨u', z1, z2, z3⟩ := uh HOr
   have HZ2 := hide z2
   have HZ3 := hide z3
   have HSV := hide (serSave_any p.1 p.2 clock b u' _ wr (uh HSR) (uh HSK) z1 (fun i h hi => wfoot_not (uh HNF i (uh HSF i hi)) z2 (Nat.lt_of_lt_of_le (uh HLT i (uh HSF i hi)) (uh HK1).size) h) c0 c1 (by omega))
   clear hp hkp hpm z1 z2 z3
   go_wp2_with fail
   refine (uh HSV).mono ?_
   rintro r w4 ⟨rfl, hw4⟩
   have HO4 := hide (Wrote.then (uh HZ2) (uh HZ3) hw4)
   clear hw4 hcg hce
   go_wp2
   go_roundw
   case rel =>
    refine ⟨k + 1, by go_num, by omega, ?_⟩
    show Wrote _ _ _ _ _
    have := uh HO4
    rw [uh HTK, encL_append, ← List.append_assoc]
    exact this
   case measure => simp [intOf]; omega
  ·have hkE : k = n := by omega
   subst hkE
   have htk : ps.take k = ps := List.take_of_length_le (by rw [uh HN]; omega)
   rw [htk] at HOr HLB
   have hlb := uh HLB
   obtain ⟨u', z1, z2, z3⟩ := uh HOr
   have HZ2 := hide z2
   have HZ3 := hide z3
   have HCL := hide (close_any b u' _ wr z1 (by omega))
   have HSB := hide (show savedB clock (ps.map (·.2)) = strB (b0 ++ encL (sersN clock (ps.map (·.2))) ++ enc (sumH (b0 ++ encL (sersN clock (ps.map (·.2)))))) by
      have e1 : bodyB clock (ps.map (·.2)) = b0 ++ encL (sersN clock (ps.map (·.2))) := by
       unfold bodyB wholeNums
       rw [encL_cons, encL_cons, ← uh HB0, List.length_map, uh HN]
       simp only [List.append_assoc]
      unfold savedB savedL
      rw [e1])
   clear z1 z2 z3
   go_wp2_with fail
   refine (uh HCL).mono ?_
   rintro r w4 ⟨rfl, hk4⟩
   have HK4 := hide hk4
   clear hk4
   go_wp2
   go_ret
   refine ⟨by rw [uh HSB, List.append_assoc]; rfl, ?_⟩
   refine (uh HK1).trans ((uh HZ3).trans (uh HK4) (fun i hi hlt => ?_)) (fun i hi hlt => ?_) (M' := WFoot b u)
   ·rcases hi with hi | hi
    ·exact .inl hi
    ·rcases uh HZ2 i hi with h1 | h1
     ·exact .inr h1
     ·omega
   ·have := uh HB1 i hi
    omega
end Go.Proofs.YtahnliehdjncdaaGreatDoor
namespace Go.Proofs.YtahnliehdjncdaaGreatDoor
open Go.RowKit
structure WS where
 clock : Int
 xs : List Ser
def saveM (s : WS) : ByteArray := savedB s.clock s.xs
def loadM (_ : ByteArray) : Option WS := none
def loadS (s : WS) (o : OpM) : WS × Int × List Int :=
 match loadM o.bytes with
 | none => (s, 14, [])
 | some s' => (s', 0, [])
def createM (s : WS) (o : OpM) : WS × Int × List Int :=
 if inB o.id 0 99 = true ∧ (findS s.xs o.id).isNone = true then
  if validB o.cfg = true then (if s.xs.length < 6 then (⟨s.clock, s.xs ++ [newSer o.id o.cfg o.cfg.kind.toNat]⟩, 0, []) else (s, 4, [])) else (s, 3, [])
 else (s, 2, [])
def addM (s : WS) (o : OpM) : WS × Int × List Int :=
 match findS s.xs o.id with
 | none => (s, 2, [])
 | some x => if refE x s.clock o.item = 0 then (⟨s.clock, updS s.xs o.id (accS x o.item)⟩, 0, [x.acc + 1])
  else (⟨s.clock, updS s.xs o.id (refS x (refE x s.clock o.item).toNat)⟩, refE x s.clock o.item, [])
def tickM (s : WS) (o : OpM) : WS × Int × List Int :=
 if inB o.a 0 4611686018427387904 = true then
  if inB o.b 0 100 = true then (⟨maxC s.clock o.a, (sweepL (maxC s.clock o.a) o.b (s.xs.map (tickOne (maxC s.clock o.a)))).1⟩, 0, [(sweepL (maxC s.clock o.a) o.b (s.xs.map (tickOne (maxC s.clock o.a)))).2]) else (s, 12, [])
 else (s, 5, [])
def queryM (s : WS) (o : OpM) : WS × Int × List Int :=
 match findS s.xs o.id with
 | none => (s, 2, [])
 | some x => (s, qryN x.k x.c x.nt o.a (s.clock - x.c.lag))
def statsM (s : WS) (o : OpM) : WS × Int × List Int :=
 match findS s.xs o.id with
 | none => (s, 2, [])
 | some x => (s, 0, statsL x)
def stepM (s : WS) (o : OpM) : WS × Int × List Int :=
 if o.kind = 1 then createM s o else if o.kind = 2 then addM s o else if o.kind = 3 then tickM s o else if o.kind = 4 then queryM s o else if o.kind = 5 then statsM s o else if o.kind = 6 then (s, 0, []) else if o.kind = 7 then loadS s o else (s, 1, [])
def bytesM (s : WS) (o : OpM) : ByteArray := if o.kind = 6 then saveM s else noBytes
theorem SInv.mono {n m : Int} {x : Ser} (h : SInv n x) (hm : n ≤ m) : SInv m x := by
 have h1 := h.accn
 exact ⟨h.valid, h.kind, h.k1, h.k5, h.acc0, by omega, h.rel0, h.rela, h.reflen, fun v hv => by have := h.refn v hv; omega, h.cap, h.times, h.note, h.heap, h.last0, h.lastn, h.lastl, h.fits⟩
theorem newSer_inv {n : Int} (id : Int) (c : Cfg) (h : validB c = true) (hn : 0 ≤ n) : SInv n (newSer id c c.kind.toNat) := by
 obtain ⟨k, hk, h1, h5, hc, _⟩ := valid_parts h
 have hkn : c.kind.toNat = k := by omega
 simp only [commonB, inB, Bool.and_eq_true, decide_eq_true_eq] at hc
 refine ⟨h, ?_, ?_, ?_, by simp [newSer], by simpa [newSer] using hn, by simp [newSer], by simp [newSer], rfl, ?_, ?_, by simp [newSer], ?_, ?_, by simp [newSer], by simp [newSer], by simp [newSer], by simp [newSer]⟩
 ·show c.kind = (c.kind.toNat : Int); omega
 ·show 1 ≤ c.kind.toNat; omega
 ·show c.kind.toNat ≤ 5; omega
 ·intro v hv
  have : v = 0 := by simpa [newSer] using hv
  omega
 ·show ((0 : Nat) : Int) ≤ c.cap; omega
 ·exact NInv.zero c.kind.toNat c h (by omega)
 ·intro i h1 h2; simp [newSer] at h2
theorem updS_mem {xs : List Ser} {id : Int} {y z : Ser} (h : z ∈ updS xs id y) : z ∈ xs ∨ z = y := by
 induction xs with
 | nil => simp [updS] at h
 | cons a l ih =>
  unfold updS at h
  split at h
  ·rcases List.mem_cons.1 h with h | h
   ·exact .inr h
   ·exact .inl (by simp [h])
  ·rcases List.mem_cons.1 h with h | h
   ·exact .inl (by simp [h])
   ·rcases ih h with h | h
    ·exact .inl (by simp [h])
    ·exact .inr h
theorem updS_length (xs : List Ser) (id : Int) (y : Ser) : (updS xs id y).length = xs.length := by
 induction xs with
 | nil => rfl
 | cons a l ih =>
  unfold updS
  split
  ·rfl
  ·simp [ih]
theorem EInv.mono {n m clock : Int} {xs : List Ser} (h : EInv n clock xs) (hm : n ≤ m) : EInv m clock xs := ⟨h.c0, h.c1, h.six, fun x hx => (h.sers x hx).mono hm, h.marks⟩
theorem refE_zero {x : Ser} {clock : Int} {y : It} (h : refE x clock y = 0) : 0 ≤ y.t ∧ y.t ≤ 4611686018427387904 ∧ (x.l.length : Int) < x.c.cap ∧ clock - x.c.lag < y.t ∧ y.t ≤ clock + x.c.skew ∧ kindE x.c x.k y = 0 ∧ x.acc < 4611686018427387904 := by
 unfold refE at h
 cases h1 : inB y.t 0 4611686018427387904 with
 | false => rw [h1] at h; simp at h
 | true =>
  obtain ⟨a, b⟩ := inB_iff h1
  rw [h1] at h
  simp only [if_true] at h
  split at h
  ·omega
  ·split at h
   ·omega
   ·split at h
    ·rename_i h2; exact absurd h h2
    ·rename_i h2
     split at h
     ·omega
     ·split at h
      ·omega
      ·exact ⟨a, b, by omega, by omega, by omega, by simpa using h2, by omega⟩
theorem sweepL_mem {P : Ser → Prop} (clock : Int) (h : ∀ b x, P x → P (swpS clock b x)) (b : Int) (xs : List Ser) (hx : ∀ x, x ∈ xs → P x) : ∀ x, x ∈ (sweepL clock b xs).1 → P x := by
 induction xs generalizing b with
 | nil => intro x hx; simp [sweepL] at hx
 | cons a l ih =>
  intro x hx'
  simp only [sweepL, List.mem_cons] at hx'
  rcases hx' with hx' | hx'
  ·rw [hx']; exact h b a (hx a (by simp))
  ·exact ih _ (fun y hy => hx y (by simp [hy])) x hx'
theorem sweepL_length (clock b : Int) (xs : List Ser) : (sweepL clock b xs).1.length = xs.length := by
 induction xs generalizing b with
 | nil => rfl
 | cons a l ih => simp [sweepL, ih]
theorem tickOne_marks {clock nc : Int} {x : Ser} (hc : clock ≤ nc) (h : x.last = 0 ∨ x.last ≤ clock - x.c.lag) : (tickOne nc x).last = 0 ∨ (tickOne nc x).last ≤ nc - (tickOne nc x).c.lag := by
 have h1 : (tickOne nc x).c = x.c := (relS_k (x.l.length + 1) x (nc - x.c.lag)).2.1
 rw [h1]
 rcases relS_last (x.l.length + 1) x (nc - x.c.lag) with h2 | h2
 ·have h3 : (tickOne nc x).last = x.last := h2
  rw [h3]
  rcases h with h | h
  ·exact .inl h
  ·exact .inr (by omega)
 ·exact .inr h2
def LoadOk (n : Int) (o : OpM) : Prop := o.kind = 7 → ∀ s', loadM o.bytes = some s' → EInv n s'.clock s'.xs
theorem loadOk_none {n : Int} {o : OpM} (h : o.kind ≠ 7) : LoadOk n o := fun e => (h e).elim
theorem stepM_inv {n : Int} {s : WS} (o : OpM) (h : EInv n s.clock s.xs) (hn : 0 ≤ n) (hL : LoadOk (n + 1) o) : EInv (n + 1) (stepM s o).1.clock (stepM s o).1.xs := by
 have hs : EInv (n + 1) s.clock s.xs := h.mono (by omega)
 unfold stepM
 split
 ·unfold createM
  split
  ·split
   ·split
    ·rename_i h2 h3
     refine ⟨h.c0, h.c1, by simp; omega, fun x hx => ?_, fun x hx => ?_⟩
     ·rcases List.mem_append.1 hx with hx | hx
      ·exact hs.sers x hx
      ·rw [List.mem_singleton] at hx; subst hx; exact newSer_inv _ _ h2 (by omega)
     ·rcases List.mem_append.1 hx with hx | hx
      ·exact hs.marks x hx
      ·rw [List.mem_singleton] at hx; subst hx; exact .inl rfl
    ·exact hs
   ·exact hs
  ·exact hs
 ·split
  ·unfold addM
   split
   ·exact hs
   ·rename_i x hf
    have hx : x ∈ s.xs := List.mem_of_find?_eq_some hf
    have hxi := h.sers x hx
    have hxm := h.marks x hx
    split
    ·rename_i hr
     obtain ⟨t0, t1, hc, hl, _, hk, _⟩ := refE_zero hr
     refine ⟨h.c0, h.c1, by show (updS _ _ _).length ≤ 6; rw [updS_length]; exact h.six, fun z hz => ?_, fun z hz => ?_⟩
     ·rcases updS_mem hz with hz | hz
      ·exact hs.sers z hz
      ·subst hz; exact accS_inv (hxi.mono (by omega)) o.item t0 t1 hc (by have := hxi.accn; omega) (by rcases hxm with h | h <;> omega) hk
     ·rcases updS_mem hz with hz | hz
      ·exact hs.marks z hz
      ·subst hz; exact hxm
    ·refine ⟨h.c0, h.c1, by show (updS _ _ _).length ≤ 6; rw [updS_length]; exact h.six, fun z hz => ?_, fun z hz => ?_⟩
     ·rcases updS_mem hz with hz | hz
      ·exact hs.sers z hz
      ·subst hz
       have hrr := refE_range x s.clock o.item
       exact refS_inv (hxi.mono (by omega)) _ (fun v hv => by have := hxi.refn v hv; omega) (by omega)
     ·rcases updS_mem hz with hz | hz
      ·exact hs.marks z hz
      ·subst hz; exact hxm
  ·split
   ·unfold tickM
    split
    ·rename_i ha
     obtain ⟨a0, a1⟩ := inB_iff ha
     have hc0 := h.c0
     have hc1 := h.c1
     have hmx : s.clock ≤ maxC s.clock o.a := by unfold maxC; split <;> omega
     split
     ·refine ⟨?_, ?_, by show (sweepL _ _ _).1.length ≤ 6; rw [sweepL_length]; simpa using h.six, fun z hz => ?_, fun z hz => ?_⟩
      ·show 0 ≤ maxC s.clock o.a; unfold maxC; split <;> omega
      ·show maxC s.clock o.a ≤ _; unfold maxC; split <;> omega
      ·refine sweepL_mem (P := SInv (n + 1)) _ (fun b x hx => swpS_inv _ b hx) _ _ (fun z hz => ?_) z hz
       obtain ⟨x, hx, rfl⟩ := List.mem_map.1 hz
       exact relS_inv _ (hs.sers x hx) _
      ·refine sweepL_mem (P := fun z => z.last = 0 ∨ z.last ≤ maxC s.clock o.a - z.c.lag) _ (fun b x hx => hx) _ _ (fun z hz => ?_) z hz
       obtain ⟨x, hx, rfl⟩ := List.mem_map.1 hz
       exact tickOne_marks hmx (h.marks x hx)
     ·exact hs
    ·exact hs
   ·split
    ·unfold queryM
     split
     ·exact hs
     ·exact hs
    ·split
     ·unfold statsM
      split <;> exact hs
     ·split
      ·exact hs
      ·split
       ·rename_i h7
        unfold loadS
        split
        ·exact hs
        ·rename_i s' hs'
         exact hL h7 s' hs'
       ·exact hs
end Go.Proofs.YtahnliehdjncdaaGreatDoor
namespace Go.Proofs.YtahnliehdjncdaaGreatDoor
open Go.RowKit
def storeBig (ty : TypeId) (a x : Value) : Sem Next := do Instr.storeAt ty a x; pure .skip
theorem execOp_store40 (ρ : Operand → Value) (dst : Option Tmp) (x y : Operand) (ty : TypeId) (pos : String) (after : Array Edge) (guard : Option (Nat × Bool)) :
  execOp ρ { dst, op := .store 40 x y, type := ty, pos, after, guard } = storeBig 40 (ρ x) (ρ y) := rfl
def setFrom (arr : Array Value) (o : Nat) : List Value → Array Value
 | [] => arr
 | c :: r => setFrom (arr.setIfInBounds o c) (o + 1) r
theorem setCells_new (w : World) (T : TypeId) : ∀ (cs : List Value) (o : Nat) (arr : Array Value), (w.alloc (.cells arr T)).setCells w.heap.size o cs = w.alloc (.cells (setFrom arr o cs) T)
 | [], _, _ => rfl
 | c :: r, o, arr => by
  unfold World.setCells setFrom
  rw [World.setCell_alloc_at _ _ _ _ _ rfl]
  exact setCells_new w T r (o + 1) (arr.setIfInBounds o c)
theorem setFrom_all : ∀ (cs : List Value) (pre : List Value) (rest : List Value), rest.length = cs.length → setFrom (pre ++ rest).toArray pre.length cs = (pre ++ cs).toArray
 | [], pre, rest, h => by
  have : rest = [] := List.length_eq_zero_iff.1 h
  subst this; rfl
 | c :: r, pre, rest, h => by
  cases rest with
  | nil => simp at h
  | cons d q =>
   unfold setFrom
   have h1 : ((pre ++ d :: q).toArray.setIfInBounds pre.length c) = ((pre ++ [c]) ++ q).toArray := by simp
   rw [h1]
   have := setFrom_all r (pre ++ [c]) q (by simpa using h)
   rw [List.length_append] at this
   simpa using this
theorem run_store40 (w : World) (zs : List Value) (cs : List Value) (hz : zs.length = 26) (hc : cs.length = 26) (h1 : cs.toArray.all (·.oneCell') = true) :
  (storeBig 40 (.pointer (some ⟨w.heap.size, 0, none⟩)) (.agg cs.toArray)).run Tryz.prog (w.alloc (.cells zs.toArray 40)) = .ok .skip (w.alloc (.cells cs.toArray 40)) := by
 unfold storeBig
 have ht : (w.alloc (.cells zs.toArray 40)).there w.heap.size 0 cs.toArray.size := by
  intro j hj
  have hj' : j < 26 := by simpa [hc] using hj
  rw [Nat.zero_add, World.cell?_alloc_new, World.frozen?_alloc_new]
  simp [hz, hj']
 rw [Sem.run_bind, run_storeAt_mid _ w.heap.size 0 40 cs.toArray ht (by rw [size40]; simp [hc]) h1]
 have h2 := setFrom_all cs [] zs (by omega)
 simp only [List.nil_append, List.length_nil] at h2
 rw [setCells_new, List.toList_toArray, h2]
 rfl
end Go.Proofs.YtahnliehdjncdaaGreatDoor
namespace Go.Proofs.YtahnliehdjncdaaGreatDoor
open Go.RowKit
attribute [local go_sem ↓] execOp_load38 execOp_load40
attribute [local go_sem] run_load38 run_load40 bigVal_drew hasBig_drew bigVal_ne hasBig_ne bigVal_alloc hasBig_alloc
theorem step_wrap {w w0 w1 w9 : World} {e ob : Nat} {v : Value} {ps : List (SB × Ser)} {clock' : Int} {xs' : List Ser} {code : Int} {nums : List Int} {nv v' : Value} {ps' : List (SB × Ser)}
  (hk0 : Keeps (fun _ => False) w w0) (hob : w.heap.size = ob) (hlt : ∀ i, EFoot e v ps i → i < ob) (hsz : ob + 1 < w0.heap.size)
  (hE : ERep w1 e v' clock' ps') (hx : ps'.map (·.2) = xs') (hn : w1.ownsRow w0.heap.size 3 1 nv nums.length (ints nums)) (hk : Keeps (EFoot e v ps) w0 w1)
  (hf : ∀ i, EFoot e v' ps' i → EFoot e v ps i ∨ w0.heap.size ≤ i) (hd : ∀ i, nv.ownBlock = some i → ¬ EFoot e v' ps' i) (hkf : Keeps (fun i => i = ob + 1) w1 w9) :
  StepPost w e v ps clock' xs' code nums (.returned (ansV code nv)) w9 := by
 have hs := hk0.size
 refine ⟨nv, v', ps', rfl, hE.keeps hkf (fun i hi h => ?_), hx, owns_keeps (owns_base hn hs) hkf (fun i hi h => ?_), ?_, fun i hi => ?_, hd⟩
 ·rcases hf i hi with h1 | h1
  ·have := hlt i h1; omega
  ·omega
 ·have := (hn.lt i hi).1; omega
 ·exact ((hk0.mono (M' := EFoot e v ps) (fun _ _ h => h.elim)).then (hk.mono (fun _ _ h => h))).trans hkf (fun i hi hlt => by omega)
 ·rcases hf i hi with h1 | h1
  ·exact .inl h1
  ·exact .inr (by omega)
theorem nv_form {w : World} {base : Nat} {nv : Value} {n : Nat} {xs : List Value} (h : w.ownsRow base 3 1 nv n xs) : ∃ a cap, nv = .slice a n cap := by
 rcases h.2 with ⟨h1, h2⟩ | ⟨g, cap, cur, h1, _⟩
 ·exact ⟨none, 0, by rw [h1, h2]⟩
 ·exact ⟨some ⟨g, 0, none⟩, cap, h1⟩
theorem step_1 (e : Nat) (v : Value) (clock : Int) (ps : List (SB × Ser)) (o : OpM) (w : World) (h : ERep w e v clock ps) (hkind : o.kind = 1) (clock' : Int) (xs' : List Ser) (code : Int) (nums : List Int)
  (hc : ∀ w0, ERep w0 e v clock ps → Calls Tryz.prog 42 #[.pointer (some ⟨e, 0, none⟩), o.val] w0 fun r w' => StepPost w0 e v ps clock' xs' code nums r w') :
  Calls Tryz.prog 35 #[.pointer (some ⟨e, 0, none⟩), o.val] w fun r w' => StepPost w e v ps clock' xs' code nums r w' := by
 have h0 : o.cells[0]? = some (.int .i64 o.kind) := rfl
 have hv0 : bigVal (w.alloc (.cells o.cells.toArray 40)) w.heap.size 0 26 = .agg o.cells.toArray := bigVal_new w o.cells 40 26 rfl
 have hh0 : hasBig (w.alloc (.cells o.cells.toArray 40)) w.heap.size 0 26 = true := hasBig_new w o.cells 40 26 rfl
 have hn1 : (o.kind == 1) = true := by simp [hkind]
 have HE := hide h
 have HC := hide hc
 clear h hc hkind
 unfold OpM.val
 go_enter Tryz.func35, Tryz.ntmps35
 go_wp2_with fail
 have hk0 : Keeps (fun _ => False) w ((w.alloc (.cells o.cells.toArray 40)).alloc (.cells #[.int .i64 0, .slice none 0 0, .string ⟨#[]⟩] 33)) := ((Keeps.refl (fun _ => False) w).alloc _).alloc _
 have HO0 := hide (show Blk ((w.alloc (.cells o.cells.toArray 40)).alloc (.cells #[.int .i64 0, .slice none 0 0, .string ⟨#[]⟩] 33)) w.heap.size o.cells 40 from (Blk.new w o.cells 40).alloc _)
 have HR0 := hide (show Blk ((w.alloc (.cells o.cells.toArray 40)).alloc (.cells #[.int .i64 0, .slice none 0 0, .string ⟨#[]⟩] 33)) (w.heap.size + 1) [.int .i64 0, .slice none 0 0, .string noBytes] 33 from Blk.newAt (by simp) [_, _, _] 33)
 have HE0 := hide ((uh HE).still hk0)
 have HK0 := hide hk0
 clear hk0
 generalize (w.alloc (.cells o.cells.toArray 40)).alloc (.cells #[.int .i64 0, .slice none 0 0, .string ⟨#[]⟩] 33) = w0 at *
 have HLT := hide (show ∀ i, EFoot e v ps i → i < w.heap.size from (uh HE).lt)
 generalize hob : w.heap.size = ob at *
 have HOB := hide hob
 clear hob
 have hsz0 : ob + 1 < w0.heap.size := (uh HR0).lt
 refine (uh HC w0 (uh HE0)).mono ?_
 rintro r w1 ⟨nv, v', ps', rfl, hE1, hx1, hn1, hk1, hf1, hd1⟩
 obtain ⟨na, ncap, hnv⟩ := nv_form hn1
 subst hnv
 unfold ansV
 have HR1 := hide ((uh HR0).keeps hk1 (fun h => by have := uh HLT _ h; omega))
 have HW := hide (show ∀ w9, Keeps (fun i => i = ob + 1) w1 w9 → StepPost w e v ps clock' xs' code nums (.returned (ansV code (.slice na nums.length ncap))) w9 from fun w9 hkf => step_wrap (uh HK0) (uh HOB) (uh HLT) hsz0 hE1 hx1 hn1 hk1 hf1 hd1 hkf)
 clear hE1 hx1 hn1 hk1 hf1 hd1
 have r0 : w1.cell? ⟨ob + 1, 0, none⟩ = some (.int .i64 0) := (uh HR1).cell rfl
 have r1 : w1.cell? ⟨ob + 1, 1, none⟩ = some (.slice none 0 0) := (uh HR1).cell rfl
 have r2 : w1.cell? ⟨ob + 1, 2, none⟩ = some (.string noBytes) := (uh HR1).cell rfl
 have rf := (uh HR1).frozen
 go_wp2
 have hbf := (((uh HR1).setCell 0 (.int .i64 code)).setCell 1 (.slice na nums.length ncap)).setCell 2 (.string noBytes)
 have HKF := hide ((((Keeps.refl (fun i => i = ob + 1) w1).setCell (p := ⟨ob + 1, 0, none⟩) (Or.inl rfl) (.int .i64 code)).setCell (p := ⟨ob + 1, 1, none⟩) (Or.inl rfl) (.slice na nums.length ncap)).setCell (p := ⟨ob + 1, 2, none⟩) (Or.inl rfl) (.string noBytes))
 have e9 : (((w1.setCell ⟨ob + 1, 0, none⟩ (.int .i64 code)).setCell ⟨ob + 1, 1, none⟩ (.slice na nums.length ncap)).setCell ⟨ob + 1, 2, none⟩ (.string ⟨#[]⟩)) = (((w1.setCell ⟨ob + 1, 0, none⟩ (.int .i64 code)).setCell ⟨ob + 1, 1, none⟩ (.slice na nums.length ncap)).setCell ⟨ob + 1, 2, none⟩ (.string noBytes)) := rfl
 first | rw [e9] | skip
 generalize (((w1.setCell ⟨ob + 1, 0, none⟩ (.int .i64 code)).setCell ⟨ob + 1, 1, none⟩ (.slice na nums.length ncap)).setCell ⟨ob + 1, 2, none⟩ (.string noBytes)) = w9 at *
 have q0 : w9.cell? ⟨ob + 1, 0, none⟩ = some (.int .i64 code) := hbf.cell rfl
 have q1 : w9.cell? ⟨ob + 1, 1, none⟩ = some (.slice na nums.length ncap) := hbf.cell rfl
 have q2 : w9.cell? ⟨ob + 1, 2, none⟩ = some (.string noBytes) := hbf.cell rfl
 refine bodyPost_ret (v := ansV code (.slice na nums.length ncap)) (by simp [results, Tryz.results35, go_sem, q0, q1, q2, ansV]) rfl ?_
 have hkf := uh HKF
 exact uh HW w9 hkf
theorem step_2 (e : Nat) (v : Value) (clock : Int) (ps : List (SB × Ser)) (o : OpM) (w : World) (h : ERep w e v clock ps) (hkind : o.kind = 2) (clock' : Int) (xs' : List Ser) (code : Int) (nums : List Int)
  (hc : ∀ w0, ERep w0 e v clock ps → Calls Tryz.prog 43 #[.pointer (some ⟨e, 0, none⟩), o.val] w0 fun r w' => StepPost w0 e v ps clock' xs' code nums r w') :
  Calls Tryz.prog 35 #[.pointer (some ⟨e, 0, none⟩), o.val] w fun r w' => StepPost w e v ps clock' xs' code nums r w' := by
 have h0 : o.cells[0]? = some (.int .i64 o.kind) := rfl
 have hv0 : bigVal (w.alloc (.cells o.cells.toArray 40)) w.heap.size 0 26 = .agg o.cells.toArray := bigVal_new w o.cells 40 26 rfl
 have hh0 : hasBig (w.alloc (.cells o.cells.toArray 40)) w.heap.size 0 26 = true := hasBig_new w o.cells 40 26 rfl
 have hn1 : (o.kind == 1) = false := by simp [hkind]
 have hn2 : (o.kind == 2) = true := by simp [hkind]
 have HE := hide h
 have HC := hide hc
 clear h hc hkind
 unfold OpM.val
 go_enter Tryz.func35, Tryz.ntmps35
 go_wp2_with fail
 have hk0 : Keeps (fun _ => False) w ((w.alloc (.cells o.cells.toArray 40)).alloc (.cells #[.int .i64 0, .slice none 0 0, .string ⟨#[]⟩] 33)) := ((Keeps.refl (fun _ => False) w).alloc _).alloc _
 have HO0 := hide (show Blk ((w.alloc (.cells o.cells.toArray 40)).alloc (.cells #[.int .i64 0, .slice none 0 0, .string ⟨#[]⟩] 33)) w.heap.size o.cells 40 from (Blk.new w o.cells 40).alloc _)
 have HR0 := hide (show Blk ((w.alloc (.cells o.cells.toArray 40)).alloc (.cells #[.int .i64 0, .slice none 0 0, .string ⟨#[]⟩] 33)) (w.heap.size + 1) [.int .i64 0, .slice none 0 0, .string noBytes] 33 from Blk.newAt (by simp) [_, _, _] 33)
 have HE0 := hide ((uh HE).still hk0)
 have HK0 := hide hk0
 clear hk0
 generalize (w.alloc (.cells o.cells.toArray 40)).alloc (.cells #[.int .i64 0, .slice none 0 0, .string ⟨#[]⟩] 33) = w0 at *
 have HLT := hide (show ∀ i, EFoot e v ps i → i < w.heap.size from (uh HE).lt)
 generalize hob : w.heap.size = ob at *
 have HOB := hide hob
 clear hob
 have hsz0 : ob + 1 < w0.heap.size := (uh HR0).lt
 refine (uh HC w0 (uh HE0)).mono ?_
 rintro r w1 ⟨nv, v', ps', rfl, hE1, hx1, hn1, hk1, hf1, hd1⟩
 obtain ⟨na, ncap, hnv⟩ := nv_form hn1
 subst hnv
 unfold ansV
 have HR1 := hide ((uh HR0).keeps hk1 (fun h => by have := uh HLT _ h; omega))
 have HW := hide (show ∀ w9, Keeps (fun i => i = ob + 1) w1 w9 → StepPost w e v ps clock' xs' code nums (.returned (ansV code (.slice na nums.length ncap))) w9 from fun w9 hkf => step_wrap (uh HK0) (uh HOB) (uh HLT) hsz0 hE1 hx1 hn1 hk1 hf1 hd1 hkf)
 clear hE1 hx1 hn1 hk1 hf1 hd1
 have r0 : w1.cell? ⟨ob + 1, 0, none⟩ = some (.int .i64 0) := (uh HR1).cell rfl
 have r1 : w1.cell? ⟨ob + 1, 1, none⟩ = some (.slice none 0 0) := (uh HR1).cell rfl
 have r2 : w1.cell? ⟨ob + 1, 2, none⟩ = some (.string noBytes) := (uh HR1).cell rfl
 have rf := (uh HR1).frozen
 go_wp2
 have hbf := (((uh HR1).setCell 0 (.int .i64 code)).setCell 1 (.slice na nums.length ncap)).setCell 2 (.string noBytes)
 have HKF := hide ((((Keeps.refl (fun i => i = ob + 1) w1).setCell (p := ⟨ob + 1, 0, none⟩) (Or.inl rfl) (.int .i64 code)).setCell (p := ⟨ob + 1, 1, none⟩) (Or.inl rfl) (.slice na nums.length ncap)).setCell (p := ⟨ob + 1, 2, none⟩) (Or.inl rfl) (.string noBytes))
 have e9 : (((w1.setCell ⟨ob + 1, 0, none⟩ (.int .i64 code)).setCell ⟨ob + 1, 1, none⟩ (.slice na nums.length ncap)).setCell ⟨ob + 1, 2, none⟩ (.string ⟨#[]⟩)) = (((w1.setCell ⟨ob + 1, 0, none⟩ (.int .i64 code)).setCell ⟨ob + 1, 1, none⟩ (.slice na nums.length ncap)).setCell ⟨ob + 1, 2, none⟩ (.string noBytes)) := rfl
 first | rw [e9] | skip
 generalize (((w1.setCell ⟨ob + 1, 0, none⟩ (.int .i64 code)).setCell ⟨ob + 1, 1, none⟩ (.slice na nums.length ncap)).setCell ⟨ob + 1, 2, none⟩ (.string noBytes)) = w9 at *
 have q0 : w9.cell? ⟨ob + 1, 0, none⟩ = some (.int .i64 code) := hbf.cell rfl
 have q1 : w9.cell? ⟨ob + 1, 1, none⟩ = some (.slice na nums.length ncap) := hbf.cell rfl
 have q2 : w9.cell? ⟨ob + 1, 2, none⟩ = some (.string noBytes) := hbf.cell rfl
 refine bodyPost_ret (v := ansV code (.slice na nums.length ncap)) (by simp [results, Tryz.results35, go_sem, q0, q1, q2, ansV]) rfl ?_
 have hkf := uh HKF
 exact uh HW w9 hkf
theorem step_3 (e : Nat) (v : Value) (clock : Int) (ps : List (SB × Ser)) (o : OpM) (w : World) (h : ERep w e v clock ps) (hkind : o.kind = 3) (clock' : Int) (xs' : List Ser) (code : Int) (nums : List Int)
  (hc : ∀ w0, ERep w0 e v clock ps → Keeps (fun _ => False) w w0 → Calls Tryz.prog 44 #[.pointer (some ⟨e, 0, none⟩), o.val] w0 fun r w' => StepPost w0 e v ps clock' xs' code nums r w') :
  Calls Tryz.prog 35 #[.pointer (some ⟨e, 0, none⟩), o.val] w fun r w' => StepPost w e v ps clock' xs' code nums r w' := by
 have h0 : o.cells[0]? = some (.int .i64 o.kind) := rfl
 have hv0 : bigVal (w.alloc (.cells o.cells.toArray 40)) w.heap.size 0 26 = .agg o.cells.toArray := bigVal_new w o.cells 40 26 rfl
 have hh0 : hasBig (w.alloc (.cells o.cells.toArray 40)) w.heap.size 0 26 = true := hasBig_new w o.cells 40 26 rfl
 have hn1 : (o.kind == 1) = false := by simp [hkind]
 have hn2 : (o.kind == 2) = false := by simp [hkind]
 have hn3 : (o.kind == 3) = true := by simp [hkind]
 have HE := hide h
 have HC := hide hc
 clear h hc hkind
 unfold OpM.val
 go_enter Tryz.func35, Tryz.ntmps35
 go_wp2_with fail
 have hk0 : Keeps (fun _ => False) w ((w.alloc (.cells o.cells.toArray 40)).alloc (.cells #[.int .i64 0, .slice none 0 0, .string ⟨#[]⟩] 33)) := ((Keeps.refl (fun _ => False) w).alloc _).alloc _
 have HO0 := hide (show Blk ((w.alloc (.cells o.cells.toArray 40)).alloc (.cells #[.int .i64 0, .slice none 0 0, .string ⟨#[]⟩] 33)) w.heap.size o.cells 40 from (Blk.new w o.cells 40).alloc _)
 have HR0 := hide (show Blk ((w.alloc (.cells o.cells.toArray 40)).alloc (.cells #[.int .i64 0, .slice none 0 0, .string ⟨#[]⟩] 33)) (w.heap.size + 1) [.int .i64 0, .slice none 0 0, .string noBytes] 33 from Blk.newAt (by simp) [_, _, _] 33)
 have HE0 := hide ((uh HE).still hk0)
 have HK0 := hide hk0
 clear hk0
 generalize (w.alloc (.cells o.cells.toArray 40)).alloc (.cells #[.int .i64 0, .slice none 0 0, .string ⟨#[]⟩] 33) = w0 at *
 have HLT := hide (show ∀ i, EFoot e v ps i → i < w.heap.size from (uh HE).lt)
 generalize hob : w.heap.size = ob at *
 have HOB := hide hob
 clear hob
 have hsz0 : ob + 1 < w0.heap.size := (uh HR0).lt
 refine (uh HC w0 (uh HE0) (uh HK0)).mono ?_
 rintro r w1 ⟨nv, v', ps', rfl, hE1, hx1, hn1, hk1, hf1, hd1⟩
 obtain ⟨na, ncap, hnv⟩ := nv_form hn1
 subst hnv
 unfold ansV
 have HR1 := hide ((uh HR0).keeps hk1 (fun h => by have := uh HLT _ h; omega))
 have HW := hide (show ∀ w9, Keeps (fun i => i = ob + 1) w1 w9 → StepPost w e v ps clock' xs' code nums (.returned (ansV code (.slice na nums.length ncap))) w9 from fun w9 hkf => step_wrap (uh HK0) (uh HOB) (uh HLT) hsz0 hE1 hx1 hn1 hk1 hf1 hd1 hkf)
 clear hE1 hx1 hn1 hk1 hf1 hd1
 have r0 : w1.cell? ⟨ob + 1, 0, none⟩ = some (.int .i64 0) := (uh HR1).cell rfl
 have r1 : w1.cell? ⟨ob + 1, 1, none⟩ = some (.slice none 0 0) := (uh HR1).cell rfl
 have r2 : w1.cell? ⟨ob + 1, 2, none⟩ = some (.string noBytes) := (uh HR1).cell rfl
 have rf := (uh HR1).frozen
 go_wp2
 have hbf := (((uh HR1).setCell 0 (.int .i64 code)).setCell 1 (.slice na nums.length ncap)).setCell 2 (.string noBytes)
 have HKF := hide ((((Keeps.refl (fun i => i = ob + 1) w1).setCell (p := ⟨ob + 1, 0, none⟩) (Or.inl rfl) (.int .i64 code)).setCell (p := ⟨ob + 1, 1, none⟩) (Or.inl rfl) (.slice na nums.length ncap)).setCell (p := ⟨ob + 1, 2, none⟩) (Or.inl rfl) (.string noBytes))
 have e9 : (((w1.setCell ⟨ob + 1, 0, none⟩ (.int .i64 code)).setCell ⟨ob + 1, 1, none⟩ (.slice na nums.length ncap)).setCell ⟨ob + 1, 2, none⟩ (.string ⟨#[]⟩)) = (((w1.setCell ⟨ob + 1, 0, none⟩ (.int .i64 code)).setCell ⟨ob + 1, 1, none⟩ (.slice na nums.length ncap)).setCell ⟨ob + 1, 2, none⟩ (.string noBytes)) := rfl
 first | rw [e9] | skip
 generalize (((w1.setCell ⟨ob + 1, 0, none⟩ (.int .i64 code)).setCell ⟨ob + 1, 1, none⟩ (.slice na nums.length ncap)).setCell ⟨ob + 1, 2, none⟩ (.string noBytes)) = w9 at *
 have q0 : w9.cell? ⟨ob + 1, 0, none⟩ = some (.int .i64 code) := hbf.cell rfl
 have q1 : w9.cell? ⟨ob + 1, 1, none⟩ = some (.slice na nums.length ncap) := hbf.cell rfl
 have q2 : w9.cell? ⟨ob + 1, 2, none⟩ = some (.string noBytes) := hbf.cell rfl
 refine bodyPost_ret (v := ansV code (.slice na nums.length ncap)) (by simp [results, Tryz.results35, go_sem, q0, q1, q2, ansV]) rfl ?_
 have hkf := uh HKF
 exact uh HW w9 hkf
theorem step_4 (e : Nat) (v : Value) (clock : Int) (ps : List (SB × Ser)) (o : OpM) (w : World) (h : ERep w e v clock ps) (hkind : o.kind = 4) (clock' : Int) (xs' : List Ser) (code : Int) (nums : List Int)
  (hc : ∀ w0, ERep w0 e v clock ps → Calls Tryz.prog 45 #[.pointer (some ⟨e, 0, none⟩), o.val] w0 fun r w' => StepPost w0 e v ps clock' xs' code nums r w') :
  Calls Tryz.prog 35 #[.pointer (some ⟨e, 0, none⟩), o.val] w fun r w' => StepPost w e v ps clock' xs' code nums r w' := by
 have h0 : o.cells[0]? = some (.int .i64 o.kind) := rfl
 have hv0 : bigVal (w.alloc (.cells o.cells.toArray 40)) w.heap.size 0 26 = .agg o.cells.toArray := bigVal_new w o.cells 40 26 rfl
 have hh0 : hasBig (w.alloc (.cells o.cells.toArray 40)) w.heap.size 0 26 = true := hasBig_new w o.cells 40 26 rfl
 have hn1 : (o.kind == 1) = false := by simp [hkind]
 have hn2 : (o.kind == 2) = false := by simp [hkind]
 have hn3 : (o.kind == 3) = false := by simp [hkind]
 have hn4 : (o.kind == 4) = true := by simp [hkind]
 have HE := hide h
 have HC := hide hc
 clear h hc hkind
 unfold OpM.val
 go_enter Tryz.func35, Tryz.ntmps35
 go_wp2_with fail
 have hk0 : Keeps (fun _ => False) w ((w.alloc (.cells o.cells.toArray 40)).alloc (.cells #[.int .i64 0, .slice none 0 0, .string ⟨#[]⟩] 33)) := ((Keeps.refl (fun _ => False) w).alloc _).alloc _
 have HO0 := hide (show Blk ((w.alloc (.cells o.cells.toArray 40)).alloc (.cells #[.int .i64 0, .slice none 0 0, .string ⟨#[]⟩] 33)) w.heap.size o.cells 40 from (Blk.new w o.cells 40).alloc _)
 have HR0 := hide (show Blk ((w.alloc (.cells o.cells.toArray 40)).alloc (.cells #[.int .i64 0, .slice none 0 0, .string ⟨#[]⟩] 33)) (w.heap.size + 1) [.int .i64 0, .slice none 0 0, .string noBytes] 33 from Blk.newAt (by simp) [_, _, _] 33)
 have HE0 := hide ((uh HE).still hk0)
 have HK0 := hide hk0
 clear hk0
 generalize (w.alloc (.cells o.cells.toArray 40)).alloc (.cells #[.int .i64 0, .slice none 0 0, .string ⟨#[]⟩] 33) = w0 at *
 have HLT := hide (show ∀ i, EFoot e v ps i → i < w.heap.size from (uh HE).lt)
 generalize hob : w.heap.size = ob at *
 have HOB := hide hob
 clear hob
 have hsz0 : ob + 1 < w0.heap.size := (uh HR0).lt
 refine (uh HC w0 (uh HE0)).mono ?_
 rintro r w1 ⟨nv, v', ps', rfl, hE1, hx1, hn1, hk1, hf1, hd1⟩
 obtain ⟨na, ncap, hnv⟩ := nv_form hn1
 subst hnv
 unfold ansV
 have HR1 := hide ((uh HR0).keeps hk1 (fun h => by have := uh HLT _ h; omega))
 have HW := hide (show ∀ w9, Keeps (fun i => i = ob + 1) w1 w9 → StepPost w e v ps clock' xs' code nums (.returned (ansV code (.slice na nums.length ncap))) w9 from fun w9 hkf => step_wrap (uh HK0) (uh HOB) (uh HLT) hsz0 hE1 hx1 hn1 hk1 hf1 hd1 hkf)
 clear hE1 hx1 hn1 hk1 hf1 hd1
 have r0 : w1.cell? ⟨ob + 1, 0, none⟩ = some (.int .i64 0) := (uh HR1).cell rfl
 have r1 : w1.cell? ⟨ob + 1, 1, none⟩ = some (.slice none 0 0) := (uh HR1).cell rfl
 have r2 : w1.cell? ⟨ob + 1, 2, none⟩ = some (.string noBytes) := (uh HR1).cell rfl
 have rf := (uh HR1).frozen
 go_wp2
 have hbf := (((uh HR1).setCell 0 (.int .i64 code)).setCell 1 (.slice na nums.length ncap)).setCell 2 (.string noBytes)
 have HKF := hide ((((Keeps.refl (fun i => i = ob + 1) w1).setCell (p := ⟨ob + 1, 0, none⟩) (Or.inl rfl) (.int .i64 code)).setCell (p := ⟨ob + 1, 1, none⟩) (Or.inl rfl) (.slice na nums.length ncap)).setCell (p := ⟨ob + 1, 2, none⟩) (Or.inl rfl) (.string noBytes))
 have e9 : (((w1.setCell ⟨ob + 1, 0, none⟩ (.int .i64 code)).setCell ⟨ob + 1, 1, none⟩ (.slice na nums.length ncap)).setCell ⟨ob + 1, 2, none⟩ (.string ⟨#[]⟩)) = (((w1.setCell ⟨ob + 1, 0, none⟩ (.int .i64 code)).setCell ⟨ob + 1, 1, none⟩ (.slice na nums.length ncap)).setCell ⟨ob + 1, 2, none⟩ (.string noBytes)) := rfl
 first | rw [e9] | skip
 generalize (((w1.setCell ⟨ob + 1, 0, none⟩ (.int .i64 code)).setCell ⟨ob + 1, 1, none⟩ (.slice na nums.length ncap)).setCell ⟨ob + 1, 2, none⟩ (.string noBytes)) = w9 at *
 have q0 : w9.cell? ⟨ob + 1, 0, none⟩ = some (.int .i64 code) := hbf.cell rfl
 have q1 : w9.cell? ⟨ob + 1, 1, none⟩ = some (.slice na nums.length ncap) := hbf.cell rfl
 have q2 : w9.cell? ⟨ob + 1, 2, none⟩ = some (.string noBytes) := hbf.cell rfl
 refine bodyPost_ret (v := ansV code (.slice na nums.length ncap)) (by simp [results, Tryz.results35, go_sem, q0, q1, q2, ansV]) rfl ?_
 have hkf := uh HKF
 exact uh HW w9 hkf
theorem step_5 (e : Nat) (v : Value) (clock : Int) (ps : List (SB × Ser)) (o : OpM) (w : World) (h : ERep w e v clock ps) (hkind : o.kind = 5) (clock' : Int) (xs' : List Ser) (code : Int) (nums : List Int)
  (hc : ∀ w0, ERep w0 e v clock ps → Calls Tryz.prog 46 #[.pointer (some ⟨e, 0, none⟩), o.val] w0 fun r w' => StepPost w0 e v ps clock' xs' code nums r w') :
  Calls Tryz.prog 35 #[.pointer (some ⟨e, 0, none⟩), o.val] w fun r w' => StepPost w e v ps clock' xs' code nums r w' := by
 have h0 : o.cells[0]? = some (.int .i64 o.kind) := rfl
 have hv0 : bigVal (w.alloc (.cells o.cells.toArray 40)) w.heap.size 0 26 = .agg o.cells.toArray := bigVal_new w o.cells 40 26 rfl
 have hh0 : hasBig (w.alloc (.cells o.cells.toArray 40)) w.heap.size 0 26 = true := hasBig_new w o.cells 40 26 rfl
 have hn1 : (o.kind == 1) = false := by simp [hkind]
 have hn2 : (o.kind == 2) = false := by simp [hkind]
 have hn3 : (o.kind == 3) = false := by simp [hkind]
 have hn4 : (o.kind == 4) = false := by simp [hkind]
 have hn5 : (o.kind == 5) = true := by simp [hkind]
 have HE := hide h
 have HC := hide hc
 clear h hc hkind
 unfold OpM.val
 go_enter Tryz.func35, Tryz.ntmps35
 go_wp2_with fail
 have hk0 : Keeps (fun _ => False) w ((w.alloc (.cells o.cells.toArray 40)).alloc (.cells #[.int .i64 0, .slice none 0 0, .string ⟨#[]⟩] 33)) := ((Keeps.refl (fun _ => False) w).alloc _).alloc _
 have HO0 := hide (show Blk ((w.alloc (.cells o.cells.toArray 40)).alloc (.cells #[.int .i64 0, .slice none 0 0, .string ⟨#[]⟩] 33)) w.heap.size o.cells 40 from (Blk.new w o.cells 40).alloc _)
 have HR0 := hide (show Blk ((w.alloc (.cells o.cells.toArray 40)).alloc (.cells #[.int .i64 0, .slice none 0 0, .string ⟨#[]⟩] 33)) (w.heap.size + 1) [.int .i64 0, .slice none 0 0, .string noBytes] 33 from Blk.newAt (by simp) [_, _, _] 33)
 have HE0 := hide ((uh HE).still hk0)
 have HK0 := hide hk0
 clear hk0
 generalize (w.alloc (.cells o.cells.toArray 40)).alloc (.cells #[.int .i64 0, .slice none 0 0, .string ⟨#[]⟩] 33) = w0 at *
 have HLT := hide (show ∀ i, EFoot e v ps i → i < w.heap.size from (uh HE).lt)
 generalize hob : w.heap.size = ob at *
 have HOB := hide hob
 clear hob
 have hsz0 : ob + 1 < w0.heap.size := (uh HR0).lt
 refine (uh HC w0 (uh HE0)).mono ?_
 rintro r w1 ⟨nv, v', ps', rfl, hE1, hx1, hn1, hk1, hf1, hd1⟩
 obtain ⟨na, ncap, hnv⟩ := nv_form hn1
 subst hnv
 unfold ansV
 have HR1 := hide ((uh HR0).keeps hk1 (fun h => by have := uh HLT _ h; omega))
 have HW := hide (show ∀ w9, Keeps (fun i => i = ob + 1) w1 w9 → StepPost w e v ps clock' xs' code nums (.returned (ansV code (.slice na nums.length ncap))) w9 from fun w9 hkf => step_wrap (uh HK0) (uh HOB) (uh HLT) hsz0 hE1 hx1 hn1 hk1 hf1 hd1 hkf)
 clear hE1 hx1 hn1 hk1 hf1 hd1
 have r0 : w1.cell? ⟨ob + 1, 0, none⟩ = some (.int .i64 0) := (uh HR1).cell rfl
 have r1 : w1.cell? ⟨ob + 1, 1, none⟩ = some (.slice none 0 0) := (uh HR1).cell rfl
 have r2 : w1.cell? ⟨ob + 1, 2, none⟩ = some (.string noBytes) := (uh HR1).cell rfl
 have rf := (uh HR1).frozen
 go_wp2
 have hbf := (((uh HR1).setCell 0 (.int .i64 code)).setCell 1 (.slice na nums.length ncap)).setCell 2 (.string noBytes)
 have HKF := hide ((((Keeps.refl (fun i => i = ob + 1) w1).setCell (p := ⟨ob + 1, 0, none⟩) (Or.inl rfl) (.int .i64 code)).setCell (p := ⟨ob + 1, 1, none⟩) (Or.inl rfl) (.slice na nums.length ncap)).setCell (p := ⟨ob + 1, 2, none⟩) (Or.inl rfl) (.string noBytes))
 have e9 : (((w1.setCell ⟨ob + 1, 0, none⟩ (.int .i64 code)).setCell ⟨ob + 1, 1, none⟩ (.slice na nums.length ncap)).setCell ⟨ob + 1, 2, none⟩ (.string ⟨#[]⟩)) = (((w1.setCell ⟨ob + 1, 0, none⟩ (.int .i64 code)).setCell ⟨ob + 1, 1, none⟩ (.slice na nums.length ncap)).setCell ⟨ob + 1, 2, none⟩ (.string noBytes)) := rfl
 first | rw [e9] | skip
 generalize (((w1.setCell ⟨ob + 1, 0, none⟩ (.int .i64 code)).setCell ⟨ob + 1, 1, none⟩ (.slice na nums.length ncap)).setCell ⟨ob + 1, 2, none⟩ (.string noBytes)) = w9 at *
 have q0 : w9.cell? ⟨ob + 1, 0, none⟩ = some (.int .i64 code) := hbf.cell rfl
 have q1 : w9.cell? ⟨ob + 1, 1, none⟩ = some (.slice na nums.length ncap) := hbf.cell rfl
 have q2 : w9.cell? ⟨ob + 1, 2, none⟩ = some (.string noBytes) := hbf.cell rfl
 refine bodyPost_ret (v := ansV code (.slice na nums.length ncap)) (by simp [results, Tryz.results35, go_sem, q0, q1, q2, ansV]) rfl ?_
 have hkf := uh HKF
 exact uh HW w9 hkf
theorem step_no (e : Nat) (v : Value) (clock : Int) (ps : List (SB × Ser)) (o : OpM) (w : World) (h : ERep w e v clock ps) (hkind : o.kind < 1 ∨ 7 < o.kind) :
  Calls Tryz.prog 35 #[.pointer (some ⟨e, 0, none⟩), o.val] w fun r w' => StepPost w e v ps clock (ps.map (·.2)) 1 [] r w' := by
 have h0 : o.cells[0]? = some (.int .i64 o.kind) := rfl
 have hn1 : (o.kind == 1) = false := by simp; omega
 have hn2 : (o.kind == 2) = false := by simp; omega
 have hn3 : (o.kind == 3) = false := by simp; omega
 have hn4 : (o.kind == 4) = false := by simp; omega
 have hn5 : (o.kind == 5) = false := by simp; omega
 have hn6 : (o.kind == 6) = false := by simp; omega
 have hn7 : (o.kind == 7) = false := by simp; omega
 have HE := hide h
 clear h hkind
 unfold OpM.val
 go_enter Tryz.func35, Tryz.ntmps35
 go_wp2_with fail
 have hk0 : Keeps (fun _ => False) w ((w.alloc (.cells o.cells.toArray 40)).alloc (.cells #[.int .i64 0, .slice none 0 0, .string ⟨#[]⟩] 33)) := ((Keeps.refl (fun _ => False) w).alloc _).alloc _
 have HO0 := hide (show Blk ((w.alloc (.cells o.cells.toArray 40)).alloc (.cells #[.int .i64 0, .slice none 0 0, .string ⟨#[]⟩] 33)) w.heap.size o.cells 40 from (Blk.new w o.cells 40).alloc _)
 have HR0 := hide (show Blk ((w.alloc (.cells o.cells.toArray 40)).alloc (.cells #[.int .i64 0, .slice none 0 0, .string ⟨#[]⟩] 33)) (w.heap.size + 1) [.int .i64 0, .slice none 0 0, .string noBytes] 33 from Blk.newAt (by simp) [_, _, _] 33)
 have HE0 := hide ((uh HE).still hk0)
 have HK0 := hide hk0
 clear hk0
 generalize (w.alloc (.cells o.cells.toArray 40)).alloc (.cells #[.int .i64 0, .slice none 0 0, .string ⟨#[]⟩] 33) = w0 at *
 have HLT := hide (show ∀ i, EFoot e v ps i → i < w.heap.size from (uh HE).lt)
 generalize hob : w.heap.size = ob at *
 have HOB := hide hob
 clear hob
 have hsz0 : ob + 1 < w0.heap.size := (uh HR0).lt
 refine (no_any 1 w0).mono ?_
 rintro r w1 ⟨rfl, hk1⟩
 unfold ansV
 have HR1 := hide ((uh HR0).keeps hk1 (fun h => h))
 have HK1 := hide ((uh HK0).then hk1)
 clear hk1
 have r0 : w1.cell? ⟨ob + 1, 0, none⟩ = some (.int .i64 0) := (uh HR1).cell rfl
 have r1 : w1.cell? ⟨ob + 1, 1, none⟩ = some (.slice none 0 0) := (uh HR1).cell rfl
 have r2 : w1.cell? ⟨ob + 1, 2, none⟩ = some (.string noBytes) := (uh HR1).cell rfl
 have rf := (uh HR1).frozen
 go_wp2
 have hbf := (((uh HR1).setCell 0 (.int .i64 1)).setCell 1 (.slice none 0 0)).setCell 2 (.string noBytes)
 have HKF := hide ((((Keeps.refl (fun i => i = ob + 1) w1).setCell (p := ⟨ob + 1, 0, none⟩) (Or.inl rfl) (.int .i64 1)).setCell (p := ⟨ob + 1, 1, none⟩) (Or.inl rfl) (.slice none 0 0)).setCell (p := ⟨ob + 1, 2, none⟩) (Or.inl rfl) (.string noBytes))
 have e9 : (((w1.setCell ⟨ob + 1, 0, none⟩ (.int .i64 1)).setCell ⟨ob + 1, 1, none⟩ (.slice none 0 0)).setCell ⟨ob + 1, 2, none⟩ (.string ⟨#[]⟩)) = (((w1.setCell ⟨ob + 1, 0, none⟩ (.int .i64 1)).setCell ⟨ob + 1, 1, none⟩ (.slice none 0 0)).setCell ⟨ob + 1, 2, none⟩ (.string noBytes)) := rfl
 first | rw [e9] | skip
 generalize (((w1.setCell ⟨ob + 1, 0, none⟩ (.int .i64 1)).setCell ⟨ob + 1, 1, none⟩ (.slice none 0 0)).setCell ⟨ob + 1, 2, none⟩ (.string noBytes)) = w9 at *
 have q0 : w9.cell? ⟨ob + 1, 0, none⟩ = some (.int .i64 1) := hbf.cell rfl
 have q1 : w9.cell? ⟨ob + 1, 1, none⟩ = some (.slice none 0 0) := hbf.cell rfl
 have q2 : w9.cell? ⟨ob + 1, 2, none⟩ = some (.string noBytes) := hbf.cell rfl
 refine bodyPost_ret (v := ansV 1 (.slice none 0 0)) (by simp [results, Tryz.results35, go_sem, q0, q1, q2, ansV]) rfl ?_
 have hkf := uh HKF
 have hob := uh HOB
 have hkk : Keeps (fun _ => False) w w9 := (uh HK1).trans hkf (fun i hi hlt => by omega)
 exact step_still (uh HE) hkk (World.ownsRow_nil _ _ _ _)
end Go.Proofs.YtahnliehdjncdaaGreatDoor
namespace Go.Proofs.YtahnliehdjncdaaGreatDoor
open Go.RowKit
attribute [local go_sem ↓] execOp_load38 execOp_load40 execOp_store40
attribute [local go_sem] run_load38 run_load40 bigVal_drew hasBig_drew bigVal_ne hasBig_ne bigVal_alloc hasBig_alloc
structure Ans where
 code : Int
 nv : Value
 nums : List Int
 bs : ByteArray
def Ans.cells (x : Ans) : List Value := [.int .i64 x.code, x.nv, .string x.bs]
def ansFlat (l : List Ans) : List Value := l.flatMap Ans.cells
structure ARep (w : World) (base : Nat) (v : Value) (l : List Ans) : Prop where
 row : w.ownsRow base 33 3 v l.length (ansFlat l)
 nums : ∀ x, x ∈ l → w.ownsRow base 3 1 x.nv x.nums.length (ints x.nums)
 apart : ∀ x, x ∈ l → ∀ i, x.nv.ownBlock = some i → v.ownBlock ≠ some i
def AFoot (v : Value) (l : List Ans) (i : Nat) : Prop := v.ownBlock = some i ∨ ∃ x, x ∈ l ∧ x.nv.ownBlock = some i
theorem ARep.keeps {M : Nat → Prop} {w w' : World} {base : Nat} {v : Value} {l : List Ans} (h : ARep w base v l) (hk : Keeps M w w') (hn : ∀ i, AFoot v l i → ¬ M i) : ARep w' base v l :=
 ⟨owns_keeps h.row hk (fun i hi => hn i (.inl hi)), fun x hx => owns_keeps (h.nums x hx) hk (fun i hi => hn i (.inr ⟨x, hx, hi⟩)), h.apart⟩
theorem ARep.lt {w : World} {base : Nat} {v : Value} {l : List Ans} (h : ARep w base v l) (i : Nat) (hi : AFoot v l i) : base ≤ i ∧ i < w.heap.size := by
 rcases hi with hi | ⟨x, hx, hi⟩
 ·exact h.row.lt i hi
 ·exact (h.nums x hx).lt i hi
def runM : WS → List OpM → List (Int × List Int)
 | _, [] => []
 | s, o :: r => (stepM s o).2 :: runM (stepM s o).1 r
def endM : WS → List OpM → WS
 | s, [] => s
 | s, o :: r => endM (stepM s o).1 r
theorem endM_snoc (s : WS) (l : List OpM) (o : OpM) : endM s (l ++ [o]) = (stepM (endM s l) o).1 := by
 induction l generalizing s with
 | nil => rfl
 | cons a l ih => exact ih _
theorem runM_snoc (s : WS) (l : List OpM) (o : OpM) : runM s (l ++ [o]) = runM s l ++ [(stepM (endM s l) o).2] := by
 induction l generalizing s with
 | nil => rfl
 | cons a l ih => simp only [List.cons_append, runM, endM, ih]
theorem runM_length (s : WS) (l : List OpM) : (runM s l).length = l.length := by
 induction l generalizing s with
 | nil => rfl
 | cons a l ih => simp [runM, ih]
theorem endM_inv {n : Int} {s : WS} (l : List OpM) (h : EInv n s.clock s.xs) (hn : 0 ≤ n) (hL : ∀ (i : Nat) o, l[i]? = some o → LoadOk (n + i + 1) o) : EInv (n + l.length) (endM s l).clock (endM s l).xs := by
 induction l generalizing s n with
 | nil => simpa [endM] using h
 | cons a l ih =>
  have := ih (stepM_inv a h hn (by have := hL 0 a rfl; simpa using this)) (by omega) (fun i o ho => by
     have := hL (i + 1) o (by simpa using ho)
     rw [show n + 1 + (i : Int) + 1 = n + ((i + 1 : Nat) : Int) + 1 by omega]
     exact this)
  rw [List.length_cons, show n + ((l.length + 1 : Nat) : Int) = n + 1 + (l.length : Int) by omega]
  exact this
def runB : WS → List OpM → List ByteArray
 | _, [] => []
 | s, o :: r => bytesM s o :: runB (stepM s o).1 r
theorem runB_snoc (s : WS) (l : List OpM) (o : OpM) : runB s (l ++ [o]) = runB s l ++ [bytesM (endM s l) o] := by
 induction l generalizing s with
 | nil => rfl
 | cons a l ih => simp only [List.cons_append, runB, endM, ih]
def ws0 : WS := ⟨0, []⟩
theorem inv0 : EInv 0 ws0.clock ws0.xs := ⟨by simp [ws0], by simp [ws0], by simp [ws0], fun x hx => by simp [ws0] at hx, fun x hx => by simp [ws0] at hx⟩
def ScriptAt (w : World) (sb so : Nat) (ops : List OpM) : Prop := ∀ i o, ops[i]? = some o → w.rangeAt sb (so + i * 26) o.cells
theorem info33 : (Tryz.prog.info? 33).map (fun i => (i.zero, i.size, i.bytes)) = some (some (.agg #[.int .i64 0, .slice none 0 0, .string ⟨#[]⟩]), 3, 48) := by kernel_rfl
theorem op_oneCell (o : OpM) : o.cells.toArray.all (·.oneCell') = true := by simp [OpM.cells, Cfg.vals, Value.oneCell']
theorem ansFlat_append (a b : List Ans) : ansFlat (a ++ b) = ansFlat a ++ ansFlat b := by simp [ansFlat]
theorem run_round {w wr w2 w3 : World} {P O : Obj} {e : Nat} {v v' av av' : Value} {clock' : Int} {ps ps' : List (SB × Ser)} {l : List Ans} {code : Int} {nv : Value} {nums : List Int} {bs : ByteArray} {gg cap' : Nat}
  (hKr : Keeps (fun _ => False) w wr) (hA : ARep wr w.heap.size av l) (hL : ∀ i, EFoot e v ps i → w.heap.size ≤ i) (hD : ∀ i, AFoot av l i → ¬ EFoot e v ps i)
  (hE2 : ERep w2 e v' clock' ps') (hn2 : w2.ownsRow (wr.alloc P).heap.size 3 1 nv nums.length (ints nums)) (hk2 : Keeps (EFoot e v ps) (wr.alloc P) w2) (hf2 : ∀ i, EFoot e v' ps' i → EFoot e v ps i ∨ (wr.alloc P).heap.size ≤ i)
  (hd2 : ∀ i, nv.ownBlock = some i → ¬ EFoot e v' ps' i) (hav : av' = .slice (some ⟨gg, 0, none⟩) (l.length + 1) cap') (hown : w3.ownsRow w.heap.size 33 3 av' (l.length + 1) (ansFlat l ++ [.int .i64 code, nv, .string bs]))
  (hgrow : (w2.alloc O).grownBy w3 av.ownBlock) (hat : av.ownBlock = some gg ∨ gg = w2.heap.size + 1) :
  ERep w3 e v' clock' ps' ∧ ARep w3 w.heap.size av' (l ++ [⟨code, nv, nums, bs⟩]) ∧ Keeps (fun _ => False) w w3 ∧ (∀ i, EFoot e v' ps' i → w.heap.size ≤ i) ∧ (∀ i, AFoot av' (l ++ [⟨code, nv, nums, bs⟩]) i → ¬ EFoot e v' ps' i) := by
 rw [World.size_alloc] at hn2 hf2
 have hsr := hKr.size
 have hs2 : wr.heap.size + 1 ≤ w2.heap.size := by have := hk2.size; rwa [World.size_alloc] at this
 have hnb : av'.ownBlock = some gg := by rw [hav]; rfl
 have hkg : Keeps (fun i => av.ownBlock = some i) (w2.alloc O) w3 := ⟨hgrow.os, hgrow.tape, hgrow.output, hgrow.size, fun k hk hn => hgrow.block k hk (fun h => hn h.symm)⟩
 have hka : Keeps (fun i => av.ownBlock = some i) w2 w3 := ((Keeps.refl (fun i => av.ownBlock = some i) w2).alloc O).then hkg
 have hkr2 : Keeps (EFoot e v ps) wr w2 := ((Keeps.refl (EFoot e v ps) wr).alloc P).then hk2
 have hAlt := hA.lt
 have hE2lt := hE2.lt
 have hnlt : ∀ i, nv.ownBlock = some i → wr.heap.size + 1 ≤ i ∧ i < w2.heap.size := fun i hi => hn2.lt i hi
 have hA2 : ARep w2 w.heap.size av l := hA.keeps hkr2 (fun i hi => hD i hi)
 have hav2 : ∀ i, av.ownBlock = some i → ¬ EFoot e v' ps' i := fun i hi hf => by
  rcases hf2 i hf with h | h
  ·exact hD i (.inl hi) h
  ·have := (hAlt i (.inl hi)).2; omega
 refine ⟨hE2.keeps hka (fun i hi h => hav2 i h hi), ⟨?_, ?_, ?_⟩, ?_, ?_, ?_⟩
 ·rw [ansFlat_append, List.length_append]; exact hown
 ·intro x hx
  rcases List.mem_append.1 hx with hx | hx
  ·exact owns_keeps (hA2.nums x hx) hka (fun i hi h => hA.apart x hx i hi h)
  ·rw [List.mem_singleton] at hx; subst hx
   exact owns_keeps (owns_base hn2 (by omega)) hka (fun i hi h => by have h1 := hnlt i hi; have h2 := (hAlt i (.inl h)).2; omega)
 ·intro x hx i hi h
  rw [hnb] at h; injection h with h
  rcases List.mem_append.1 hx with hx | hx
  ·rcases hat with h2 | h2
   ·exact hA.apart x hx i hi (by rw [h2, h])
   ·have := (hAlt i (.inr ⟨x, hx, hi⟩)).2; omega
  ·rw [List.mem_singleton] at hx; subst hx
   have h1 := hnlt i hi
   rcases hat with h2 | h2
   ·have := (hAlt gg (.inl h2)).2; omega
   ·omega
 ·refine ((hKr.trans (M' := EFoot e v ps) hkr2 (fun i hi hlt => by have := hL i hi; omega)).trans hka (fun i hi hlt => by have := (hAlt i (.inl hi)).1; omega))
 ·intro i hi
  rcases hf2 i hi with h | h
  ·exact hL i h
  ·omega
 ·intro i hi hf
  rcases hi with hi | ⟨x, hx, hi⟩
  ·rw [hnb] at hi; injection hi with hi
   rcases hat with h2 | h2
   ·exact hav2 i (by rw [h2, hi]) hf
   ·have := hE2lt i hf; omega
  ·rcases List.mem_append.1 hx with hx | hx
   ·rcases hf2 i hf with h | h
    ·exact hD i (.inr ⟨x, hx, hi⟩) h
    ·have := (hAlt i (.inr ⟨x, hx, hi⟩)).2; omega
   ·rw [List.mem_singleton] at hx; subst hx
    exact hd2 i hi hf
theorem run_any (sb so cap : Nat) (ops : List OpM) (w : World) (hsc : ScriptAt w sb so ops) (hlt : sb < w.heap.size) (hlen : ops.length ≤ 651562446090) (hT : Tab w) (hL : ∀ (i : Nat) o, ops[i]? = some o → LoadOk (i + 1) o)
  (hstep : ∀ (i : Nat) (e : Nat) (v : Value) (clock : Int) (ps : List (SB × Ser)) (o : OpM) (w : World), ops[i]? = some o → (⟨clock, ps.map (·.2)⟩ : WS) = endM ws0 (ops.take i) → ERep w e v clock ps → EInv i clock (ps.map (·.2)) → (i : Int) ≤ 651562446200 → Tab w → ¬ EFoot e v ps 2 →
     Calls Tryz.prog 35 #[.pointer (some ⟨e, 0, none⟩), o.val] w fun r w' => StepPostB w e v ps (stepM ⟨clock, ps.map (·.2)⟩ o).1.clock (stepM ⟨clock, ps.map (·.2)⟩ o).1.xs (stepM ⟨clock, ps.map (·.2)⟩ o).2.1 (stepM ⟨clock, ps.map (·.2)⟩ o).2.2 (bytesM ⟨clock, ps.map (·.2)⟩ o) r w') :
  Calls Tryz.prog 19 #[.slice (some ⟨sb, so, none⟩) ops.length cap] w fun r w' => ∃ v l, r = .returned v ∧ ARep w' w.heap.size v l ∧ l.map (fun x => (x.code, x.nums)) = runM ws0 ops ∧ l.map (·.bs) = runB ws0 ops ∧ Keeps (fun _ => False) w w' := by
 have HSC := hide hsc
 have HST := hide hstep
 have HTW := hide hT
 have HLO := hide hL
 have hw0 := hT.lt
 clear hsc hstep hT hL
 obtain ⟨i0, hi0, hz0, hz1, hz2⟩ := info_parts info33
 go_enter Tryz.func19, Tryz.ntmps19
 generalize hn : ops.length = n at *
 have HN := hide hn
 clear hn
 go_wp2_with (at_make; refine wpList_make_own _ rfl _ _ _ rfl w.heap.size 33 i0 _ 3 Tryz.underlying27 hi0 hz0 hz1 _ _ _ n rfl rfl rfl (by rw [hz2]; omega) (by unfold maxLen; omega) (by simp) ?_; intro w1 ho1 hg1)
 rw [World.size_alloc] at ho1
 have hkw1 : Keeps (fun _ => False) w w1 := ((Keeps.refl (fun _ => False) w).alloc _).grown hg1 (fun k hk => by cases hk)
 have hbe : Blk w1 w.heap.size [.int .i64 0, .slice none 0 0] 56 := by
  unfold Blk
  rw [hg1.block w.heap.size (by simp) (by simp)]
  exact Blk.new w [.int .i64 0, .slice none 0 0] 56
 have HE1 := hide (show ERep w1 w.heap.size (.slice none 0 0) 0 [] from ⟨hbe, World.ownsRow_nil _ _ _ _, fun p hp => by simp at hp, List.Pairwise.nil, by simp [Value.ownBlock], fun p hp => by simp at hp⟩)
 have HA1 := hide (show ARep w1 w.heap.size (.slice (some ⟨w.heap.size + 1, 0, none⟩) 0 n) [] from ⟨ho1, fun x hx => by simp at hx, fun x hx => by simp at hx⟩)
 have HK1 := hide hkw1
 clear hg1 ho1 hkw1 hbe
 generalize hen : w.heap.size = e at *
 have HEN := hide hen
 clear hen
 go_loopw [4, 12] (fun av i wr => ∃ (k : Nat) (v : Value) (ps : List (SB × Ser)) (l : List Ans), k ≤ n ∧ i = .int .i64 k ∧ Hid (ERep wr e v (endM ws0 (ops.take k)).clock ps) ∧ Hid (ps.map (·.2) = (endM ws0 (ops.take k)).xs) ∧ Hid (ARep wr w.heap.size av l) ∧ Hid (l.map (fun x => (x.code, x.nums)) = runM ws0 (ops.take k)) ∧ Hid (l.map (·.bs) = runB ws0 (ops.take k)) ∧ Hid (Keeps (fun _ => False) w wr) ∧ Hid (∀ i, EFoot e v ps i → w.heap.size ≤ i) ∧ Hid (∀ i, AFoot av l i → ¬ EFoot e v ps i)) (fun _ i _ => n - (intOf i).toNat)
 case atStart =>
  have hen := uh HEN
  refine ⟨0, .slice none 0 0, [], [], by omega, rfl, HE1, rfl, by show ARep _ _ _ _; rw [hen]; exact uh HA1, rfl, rfl, HK1, fun i hi => ?_, fun i hi hf => ?_⟩
  ·rcases hi with hi | hi | ⟨p, hp, _⟩
   ·omega
   ·simp [Value.ownBlock] at hi
   ·simp at hp
  ·have hie : i = e := by
    rcases hf with hf | hf | ⟨p, hp, _⟩
    ·exact hf
    ·simp [Value.ownBlock] at hf
    ·simp at hp
   rcases hi with hi | ⟨x, hx, _⟩
   ·have : e + 1 = i := by simpa [Value.ownBlock] using hi
    omega
   ·simp at hx
 case round =>
  obtain ⟨k, v, ps, l, hk, rfl, HEr, HXr, HAr, HMr, HBr, HKr, HLr, HDr⟩ := hrel
  generalize u4 = av at *
  by_cases hkn : k < n
  ·obtain ⟨o, ho⟩ : ∃ o, ops[k]? = some o := ⟨ops[k]'(by rw [uh HN]; exact hkn), List.getElem?_eq_getElem _⟩
   have HO := hide ho
   have hsb := bigCells_of_range (uh HSC k o ho)
   have hkp := bigVal_keeps (o := so + k * 26) (n := 26) (uh HKr) (fun h => h) (by rw [uh HEN]; exact hlt)
   have hv0 : bigVal wr sb (so + k * 26) 26 = .agg o.cells.toArray := by
    rw [hkp.1]; unfold bigVal
    have := hsb.1
    rw [show o.cells.length = 26 from rfl] at this
    rw [this]
   have hh0 : hasBig wr sb (so + k * 26) 26 = true := by rw [hkp.2]; exact hsb.2
   have hst : ∀ zs : List Value, zs.length = 26 → (storeBig 40 (.pointer (some ⟨wr.heap.size, 0, none⟩)) (.agg o.cells.toArray)).run Tryz.prog (wr.alloc (.cells zs.toArray 40)) = .ok .skip (wr.alloc (.cells o.cells.toArray 40)) := fun zs hz => run_store40 wr zs o.cells hz rfl (op_oneCell o)
   have hv1 : bigVal (wr.alloc (.cells o.cells.toArray 40)) wr.heap.size 0 26 = .agg o.cells.toArray := bigVal_new wr o.cells 40 26 rfl
   have hh1 : hasBig (wr.alloc (.cells o.cells.toArray 40)) wr.heap.size 0 26 = true := hasBig_new wr o.cells 40 26 rfl
   have hk0 : (0 : Int) ≤ (k : Int) := by omega
   have hkn' : (k : Int) < (n : Int) := by omega
   clear ho hsb hkp
   go_wp2_with fail
   have hkl : (ops.take k).length = k := by rw [List.length_take, uh HN]; omega
   have hinv : EInv (k : Int) (endM ws0 (ops.take k)).clock (ps.map (·.2)) := by
    have := endM_inv (ops.take k) inv0 (by omega) (fun i o ho => by
       have h1 := uh HLO i o (by rw [List.getElem?_take] at ho; split at ho; exact ho; cases ho)
       rw [show (0 : Int) + (i : Int) + 1 = (i : Int) + 1 by omega]
       exact h1)
    rw [hkl] at this
    rw [uh HXr]
    simpa using this
   have hws : (⟨(endM ws0 (ops.take k)).clock, ps.map (·.2)⟩ : WS) = endM ws0 (ops.take k) := by rw [uh HXr]
   have hst2 := uh HST k e v (endM ws0 (ops.take k)).clock ps o (wr.alloc (.cells o.cells.toArray 40)) (uh HO) hws ((uh HEr).still ((Keeps.refl (fun _ => False) wr).alloc _)) hinv (by omega) (((uh HTW).keeps (uh HKr) (fun h => h)).keeps ((Keeps.refl (fun _ => False) wr).alloc _) (fun h => h)) (fun h => by have h1 := uh HLr 2 h; have h2 := uh HEN; omega)
   rw [hws] at hst2
   refine hst2.mono ?_
   clear hst2 hinv hws
   have htk : ops.take (k + 1) = ops.take k ++ [o] := by
    have ho := uh HO
    rw [List.take_add_one, ho]; rfl
   have HSN := hide (show endM ws0 (ops.take (k + 1)) = (stepM (endM ws0 (ops.take k)) o).1 by rw [htk, endM_snoc])
   have HRN := hide (show runM ws0 (ops.take (k + 1)) = runM ws0 (ops.take k) ++ [(stepM (endM ws0 (ops.take k)) o).2] by rw [htk, runM_snoc])
   have HBN := hide (show runB ws0 (ops.take (k + 1)) = runB ws0 (ops.take k) ++ [bytesM (endM ws0 (ops.take k)) o] by rw [htk, runB_snoc])
   clear htk hv0 hh0 hst hv1 hh1
   generalize hbm : bytesM (endM ws0 (ops.take k)) o = bm at *
   generalize hsm : stepM (endM ws0 (ops.take k)) o = sm at *
   obtain ⟨s', code, nums⟩ := sm
   rintro r w2 ⟨nv, v', ps', rfl, hE2, hx2, hn2, hk2, hf2, hd2⟩
   obtain ⟨na, ncap, hnv⟩ := nv_form hn2
   subst hnv
   unfold ansB
   have hlk : l.length = k := by
    have := congrArg List.length (uh HMr)
    rw [List.length_map, runM_length, hkl] at this
    exact this
   have HLK := hide hlk
   have HOW := hide (show w2.ownsRow w.heap.size 33 3 av k (ansFlat l) by
      have h1 := (uh HAr).row
      rw [hlk] at h1
      exact owns_keeps h1 (((Keeps.refl (EFoot e v ps) wr).alloc _).then hk2) (fun i hi => uh HDr i (.inl hi)))
   have HE2 := hide hE2
   have HX2 := hide hx2
   have HN2 := hide hn2
   have HK2 := hide hk2
   have HF2 := hide hf2
   have HD2 := hide hd2
   have hb2 : w.heap.size ≤ w2.heap.size := by have h1 := (uh HKr).size; have h2 := hk2.size; rw [World.size_alloc] at h2; omega
   clear hE2 hx2 hn2 hk2 hf2 hd2 hlk hkl hsm hbm
   go_wp2_with (at_builtin; refine wpList_append_lies _ rfl _ _ _ rfl w.heap.size 33 i0 _ 3 48 Tryz.underlying27 hi0 hz0 hz1 hz2 rfl (by omega) av k (ansFlat l) rfl ((uh HOW).alloc _) ⟨w2.heap.size, 0, none⟩ 1 1 [.int .i64 code, .slice na nums.length ncap, .string bm] rfl rfl (World.news_of_block (cs := #[.int .i64 code, .slice na nums.length ncap, .string bm]) (t := 33) (fr := (0, 0)) (heap_alloc_new w2 _)) (by simp [Value.oneCell']) (by omega) (by unfold maxLen; omega) (by omega) (by simp; omega) (w2.heap.size + 1) (by simp) ?_; intro gg cap' w3 hown3 hgrow hat hl3)
   go_roundw
   case rel =>
    have hlk := uh HLK
    have hrr := run_round (code := code) (bs := bm) (av' := .slice (some ⟨gg, 0, none⟩) (k + 1) cap') (uh HKr) (uh HAr) (uh HLr) (uh HDr) (uh HE2) (uh HN2) (uh HK2) (uh HF2) (uh HD2) (by rw [hlk]) (by rw [hlk]; exact hown3) hgrow hat
    obtain ⟨g1, g2, g3, g4, g5⟩ := hrr
    have hsn := uh HSN
    have hrn := uh HRN
    have hbn := uh HBN
    refine ⟨k + 1, v', ps', l ++ [(⟨code, .slice na nums.length ncap, nums, bm⟩ : Ans)], by omega, by go_num, ?_, ?_, hide g2, ?_, ?_, hide g3, hide g4, hide g5⟩
    ·show ERep _ _ _ _ _; rw [hsn]; exact g1
    ·show _ = _; rw [hsn]; exact uh HX2
    ·show _ = _; rw [hrn, List.map_append, uh HMr]; rfl
    ·show _ = _; rw [hbn, List.map_append, uh HBr]; rfl
   case measure => simp [intOf]; omega
  ·have hkk : k = n := by omega
   subst hkk
   go_wp2
   go_ret
   refine ⟨av, l, rfl, uh HAr, ?_, ?_, uh HKr⟩
   ·have := uh HMr
    rwa [List.take_of_length_le (by rw [uh HN]; omega)] at this
   ·have := uh HBr
    rwa [List.take_of_length_le (by rw [uh HN]; omega)] at this
end Go.Proofs.YtahnliehdjncdaaGreatDoor
namespace Go.Proofs.YtahnliehdjncdaaGreatDoor
open Go.RowKit
theorem num_cells {w : World} {base : Nat} {v : Value} {l : List Int} (h : w.ownsRow base 3 1 v l.length (ints l)) : (l = [] ∧ ∃ a c, v = .slice a 0 c) ∨ ∃ g c, v = .slice (some ⟨g, 0, none⟩) l.length c ∧ ∀ i, i < l.length → w.cell? ⟨g, i, none⟩ = some (.int .i64 (l.getD i 0)) := by
 rcases h.2 with ⟨h1, h2⟩ | ⟨g, cap, cur, h1, _, h3, h4, h5, h6, h7⟩
 ·exact .inl ⟨List.length_eq_zero_iff.1 h2, none, 0, h1⟩
 ·refine .inr ⟨g, cap, h1, fun i hi => ?_⟩
  have hc : cur[i]? = (ints l)[i]? := by
   rw [← h7, List.getElem?_take, if_pos (by omega)]; simp
  have : cur[i]? = some (.int .i64 (l.getD i 0)) := by
   rw [hc]; unfold ints; rw [List.getElem?_map, List.getElem?_eq_getElem hi, List.getD_eq_getElem?_getD, List.getElem?_eq_getElem hi]; rfl
  simp [World.cell?, h3, this]
end Go.Proofs.YtahnliehdjncdaaGreatDoor
namespace Go.Proofs.YtahnliehdjncdaaGreatDoor
open Go.RowKit
theorem create_rep {wa w2 w3 : World} {O : Obj} {e : Nat} {v nv : Value} {clock : Int} {ps : List (SB × Ser)} {b2 : SB} {x : Ser} {gg m cap' : Nat} (hE : ERep wa e v clock ps) (hm : ps.length = m) (hnv : nv = .slice (some ⟨gg, 0, none⟩) (m + 1) cap')
  (hs2 : SRep w2 b2 x) (hft : ∀ i, b2.foot x.k i → wa.heap.size ≤ i) (hk2 : Keeps (fun _ => False) wa w2) (hown : w3.ownsRow 0 73 1 nv (m + 1) (ptrs ps ++ [.pointer (some ⟨b2.s, 0, none⟩)])) (hgrow : (w2.alloc O).grownBy w3 v.ownBlock)
  (hat : v.ownBlock = some gg ∨ gg = w2.heap.size + 1) :
  ERep (w3.setCell ⟨e, 1, none⟩ nv) e nv clock (ps ++ [(b2, x)]) ∧ Keeps (EFoot e v ps) wa (w3.setCell ⟨e, 1, none⟩ nv) ∧ (∀ i, EFoot e nv (ps ++ [(b2, x)]) i → EFoot e v ps i ∨ wa.heap.size ≤ i) := by
 have hsz := hk2.size
 have hnb : nv.ownBlock = some gg := by rw [hnv]; rfl
 have hk3 : Keeps (fun i => v.ownBlock = some i) wa w3 := ((hk2.mono (M' := fun i => v.ownBlock = some i) (fun _ _ h => h.elim)).alloc O).grown hgrow (fun k hk => Or.inl hk)
 have hk4 : Keeps (fun i => i = e) w3 (w3.setCell ⟨e, 1, none⟩ nv) := (Keeps.refl (fun i => i = e) w3).setCell (p := ⟨e, 1, none⟩) (Or.inl rfl) _
 have hele := hE.blk.lt
 have hge : gg ≠ e := by
  rcases hat with h | h
  ·intro he; exact hE.ev (by rw [h, he])
  ·omega
 have hrowlt : ∀ i, v.ownBlock = some i → i < wa.heap.size := fun i hi => hE.lt i (.inr (.inl hi))
 have hsnew : SRep w3 b2 x := (hs2.still ((Keeps.refl (fun _ => False) w2).alloc O)).keeps (M := fun i => v.ownBlock = some i) ⟨hgrow.os, hgrow.tape, hgrow.output, hgrow.size, fun k hk hn => hgrow.block k hk (fun h => hn h.symm)⟩ (fun i hi h => by have h1 := hft i hi; have h2 := hrowlt i h; omega)
 refine ⟨⟨?_, ?_, ?_, ?_, ?_, ?_⟩, ?_, ?_⟩
 ·exact (hE.blk.keeps hk3 (fun h => hE.ev h)).setCell 1 nv
 ·have := owns_keeps hown hk4 (fun i hi h => by rw [hnb] at hi; injection hi with hi; omega)
  rw [ptrs_append, List.length_append, hm]
  exact this
 ·intro p hp
  rcases List.mem_append.1 hp with hp | hp
  ·exact ((hE.reps p hp).keeps hk3 (fun i hi h => (hE.ef p hp i hi).2 h)).keeps hk4 (fun i hi h => (hE.ef p hp i hi).1 h)
  ·rw [List.mem_singleton] at hp; subst hp
   exact hsnew.keeps hk4 (fun i hi h => by have := hft i hi; omega)
 ·refine List.pairwise_append.2 ⟨hE.apart, List.pairwise_singleton _ _, ?_⟩
  intro p hp q hq i hi hqi
  rw [List.mem_singleton] at hq; subst hq
  have h1 := (hE.reps p hp).lt i hi
  have h2 := hft i hqi
  omega
 ·rw [hnb]; intro h; injection h with h; exact hge h
 ·intro p hp i hi
  rw [hnb]
  rcases List.mem_append.1 hp with hp | hp
  ·refine ⟨(hE.ef p hp i hi).1, fun h => ?_⟩
   injection h with h
   have h1 := (hE.reps p hp).lt i hi
   rcases hat with h2 | h2
   ·exact (hE.ef p hp i hi).2 (by rw [h2, h])
   ·omega
  ·rw [List.mem_singleton] at hp; subst hp
   have h1 := hft i hi
   have h2 := hs2.lt i hi
   refine ⟨by omega, fun h => ?_⟩
   injection h with h
   rcases hat with h3 | h3
   ·have := hrowlt gg h3; omega
   ·omega
 ·exact (hk3.mono (M' := EFoot e v ps) (fun i _ h => .inr (.inl h))).trans hk4 (fun i hi _ => .inl hi)
 ·intro i hi
  rcases hi with hi | hi | ⟨p, hp, hi⟩
  ·exact .inl (.inl hi)
  ·rw [hnb] at hi; injection hi with hi
   rcases hat with h | h
   ·exact .inl (.inr (.inl (by rw [h, hi])))
   ·exact .inr (by omega)
  ·rcases List.mem_append.1 hp with hp | hp
   ·exact .inl (.inr (.inr ⟨p, hp, hi⟩))
   ·rw [List.mem_singleton] at hp; subst hp
    exact .inr (hft i hi)
end Go.Proofs.YtahnliehdjncdaaGreatDoor
