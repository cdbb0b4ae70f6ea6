import Derived.Test.YtahnliehdjncdaaGreatDoorXBU
set_option maxRecDepth 100000
set_option maxHeartbeats 16000000
namespace Go.Proofs.YtahnliehdjncdaaGreatDoor
def celA (cs : List Int) (j pl : Nat) : Int := cs.getD (j * 16 + pl) 0
def cntI (f : It → Bool) (R : List It) : Int := ((R.filter f).length : Int)
theorem cntI_snoc (f : It → Bool) (R : List It) (y : It) : cntI f (R ++ [y]) = cntI f R + if f y = true then 1 else 0 := by
 unfold cntI
 rw [List.filter_append, List.length_append]
 by_cases h : f y = true
 ·rw [if_pos h, List.filter_cons_of_pos h]; simp
 ·rw [if_neg h, List.filter_cons_of_neg h]; simp
theorem cntI_none {f : It → Bool} {R : List It} (h : ∀ r ∈ R, f r = false) : cntI f R = 0 := by
 unfold cntI
 rw [List.filter_eq_nil_iff.2 (fun r hr => by rw [h r hr]; simp)]; rfl
theorem cntI_zero {f : It → Bool} {R : List It} (h : cntI f R = 0) : ∀ r ∈ R, f r = false := by
 intro r hr
 unfold cntI at h
 have : R.filter f = [] := List.eq_nil_of_length_eq_zero (by omega)
 have := List.filter_eq_nil_iff.1 this r hr
 simpa using this
theorem cntI_le (f : It → Bool) (R : List It) : cntI f R ≤ R.length := by
 have := List.length_filter_le f R
 unfold cntI; omega
theorem cntI_mono {f g : It → Bool} {R : List It} (h : ∀ r ∈ R, f r = true → g r = true) : cntI f R ≤ cntI g R := by
 induction R with
 | nil => exact Int.le_refl _
 | cons r R ih =>
  have ih := ih (fun a ha => h a (by simp [ha]))
  have h1 := h r (by simp)
  unfold cntI at *
  rw [List.filter_cons, List.filter_cons]
  by_cases hf : f r = true
  ·rw [if_pos hf, if_pos (h1 hf)]; simp only [List.length_cons]; omega
  ·rw [if_neg hf]
   split
   ·simp only [List.length_cons]; omega
   ·exact ih
theorem cntI_congr {f g : It → Bool} {R : List It} (h : ∀ r ∈ R, f r = g r) : cntI f R = cntI g R := by
 unfold cntI; rw [List.filter_congr h]
theorem cntI_or {f g e : It → Bool} {R : List It} (h : ∀ r ∈ R, e r = (f r || g r)) (hd : ∀ r ∈ R, ¬ (f r = true ∧ g r = true)) : cntI e R = cntI f R + cntI g R := by
 induction R with
 | nil => rfl
 | cons r R ih =>
  have ih := ih (fun a ha => h a (by simp [ha])) (fun a ha => hd a (by simp [ha]))
  have h1 := h r (by simp)
  have h2 := hd r (by simp)
  unfold cntI at *
  rw [List.filter_cons, List.filter_cons, List.filter_cons]
  cases hf : f r <;> cases hg : g r <;> simp_all <;> omega
def pnoO (c : Cfg) (r : It) : Int := r.t / longO c
def fallB (c : Cfg) (j pl : Nat) (r : It) : Bool := decide (placeO c r.k j = (pl : Int))
def cnt1 (c : Cfg) (R : List It) (no : Int) (j pl : Nat) : Int := cntI (fun r => decide (pnoO c r = no) && fallB c j pl r) R
structure OG (c : Cfg) (m : Int) (o : Pa.Pn) (cl : List Pa.Pn) (R : List It) : Prop where
 asc : cl.Pairwise (fun a b => a.no < b.no)
 lt : ∀ p ∈ cl, p.no < o.no
 ex : ∀ p, p ∈ cl ∨ p = o → ∀ (j pl : Nat), (j : Int) < c.rows → pl < 16 → celA p.cs j pl = cnt1 c R p.no j pl
 inn : ∀ r ∈ R, (∃ p, (p ∈ cl ∨ p = o) ∧ p.no = pnoO c r) ∨ (pnoO c r + 1) * longO c - 1 ≤ m - c.window
 top : ∀ r ∈ R, pnoO c r ≤ o.no
 cur : o.no = 0 ∨ ∃ r ∈ R, pnoO c r = o.no
theorem celA_zeros (j pl : Nat) : celA zeros48 j pl = 0 := by
 unfold celA zeros48
 rw [List.getD_eq_getElem?_getD, List.getElem?_replicate]
 split <;> rfl
theorem OG.zero (c : Cfg) (m : Int) : OG c m Pa.pn0 [] [] := by
 refine ⟨List.Pairwise.nil, fun p hp => by simp at hp, fun p hp j pl _ _ => ?_, fun r hr => by simp at hr, fun r hr => by simp at hr, .inl rfl⟩
 rcases hp with hp | hp
 ·simp at hp
 ·rw [hp]; exact celA_zeros j pl
theorem OG.later {c : Cfg} {m m' : Int} {o : Pa.Pn} {cl : List Pa.Pn} {R : List It} (h : OG c m o cl R) (hm : m ≤ m') : OG c m' o cl R :=
 ⟨h.asc, h.lt, h.ex, fun r hr => (h.inn r hr).imp id (fun h => by omega), h.top, h.cur⟩
theorem celA_up (cs : List Int) (hl : cs.length = 48) (j pl a b : Nat) (hpl : pl < 16) (ha : a < 3) (hb : b < 16) : celA (upAt cs (a * 16 + b)) j pl = celA cs j pl + if j = a ∧ pl = b then 1 else 0 := by
 unfold celA upAt
 rw [List.getD_eq_getElem?_getD, List.getElem?_set]
 by_cases h : j = a ∧ pl = b
 ·rw [if_pos h, h.1, h.2, if_pos rfl, if_pos (by omega)]; rfl
 ·rw [if_neg h, if_neg (by omega), Int.add_zero, List.getD_eq_getElem?_getD]
theorem celA_bump (c : Cfg) (hc : c.rowed) (key : Int) (cs : List Int) (hl : cs.length = 48) (j pl : Nat) (hpl : pl < 16) : ∀ n : Nat, n ≤ 3 → celA (bumpN c key n cs) j pl = celA cs j pl + if j < n ∧ placeO c key j = (pl : Int) then 1 else 0 := by
 intro n
 induction n with
 | zero => intro _; simp [bumpN]
 | succ n ih =>
  intro hn
  have hb := placeO_bd c hc key n
  rw [show bumpN c key (n + 1) cs = upAt (bumpN c key n cs) (n * 16 + (placeO c key n).toNat) from rfl, celA_up _ (by rw [bumpN_length, hl]) j pl n _ hpl (by omega) (by omega), ih (by omega)]
  by_cases h1 : j = n
  ·subst h1
   rw [if_neg (by omega)]
   by_cases h2 : placeO c key j = (pl : Int)
   ·rw [if_pos ⟨rfl, by omega⟩, if_pos ⟨by omega, h2⟩]; omega
   ·rw [if_neg (fun h => h2 (by omega)), if_neg (fun h => h2 h.2)]; omega
  ·have e1 : (if j = n ∧ pl = (placeO c key n).toNat then (1 : Int) else 0) = 0 := if_neg (fun h => h1 h.1)
   rw [e1]
   by_cases h2 : j < n ∧ placeO c key j = (pl : Int)
   ·rw [if_pos h2, if_pos ⟨by omega, h2.2⟩]; omega
   ·rw [if_neg h2, if_neg (fun h => h2 ⟨by omega, h.2⟩)]; omega
theorem pastP_take (c : Cfg) (t : Int) : ∀ l : List Pa.Pn, ∀ p ∈ l, p ∈ l.drop (pastP c l t) ∨ lastO c p ≤ t
 | [], p, hp => by simp at hp
 | q :: l, p, hp => by
  unfold pastP
  rw [List.takeWhile_cons]
  split
  ·rename_i hq
   rw [List.length_cons, List.drop_succ_cons]
   rcases List.mem_cons.1 hp with e | e
   ·right; rw [e]; simpa using hq
   ·exact pastP_take c t l p e
  ·left; rw [List.length_nil, List.drop_zero]; exact hp
theorem OG.rel {c : Cfg} {m : Int} {o : Pa.Pn} {cl : List Pa.Pn} {R : List It} (h : OG c m o cl R) (hL : 1 ≤ longO c) (hrw : c.rowed) (hr1 : 1 ≤ c.rows) (hr3 : c.rows ≤ 3) (y : It) (y0 : 0 ≤ y.t) (hy : ∀ r ∈ R, r.t ≤ y.t) :
  OG c m (relO c o cl y m).1 (relO c o cl y m).2 (R ++ [y]) := by
 obtain ⟨n, hn⟩ : ∃ n, n = pnoO c y := ⟨_, rfl⟩
 have hn0 : 0 ≤ n := by rw [hn]; exact Int.ediv_nonneg y0 (by omega)
 have hle : ∀ r ∈ R, pnoO c r ≤ n := fun r hr => by rw [hn]; exact Int.ediv_le_ediv (by omega) (hy r hr)
 have hon : o.no ≤ n := by
  rcases h.cur with h0 | ⟨r, hr, h0⟩
  ·omega
  ·rw [← h0]; exact hle r hr
 -- behind the turn
 have ht : ∃ o2 l2, turnO o cl n = (o2, l2) ∧ o2.no = n ∧ l2.Pairwise (fun a b => a.no < b.no) ∧ (∀ p ∈ l2, p.no < n) ∧
   (∀ p, p ∈ l2 ∨ p = o2 → ∀ (j pl : Nat), (j : Int) < c.rows → pl < 16 → celA p.cs j pl = cnt1 c R p.no j pl) ∧ (∀ r ∈ R, (∃ p, (p ∈ l2 ∨ p = o2) ∧ p.no = pnoO c r) ∨ (pnoO c r + 1) * longO c - 1 ≤ m - c.window) := by
  unfold turnO
  by_cases h1 : o.no = n
  ·rw [if_pos h1]
   exact ⟨o, cl, rfl, h1, h.asc, fun p hp => by rw [← h1]; exact h.lt p hp, h.ex, h.inn⟩
  ·rw [if_neg h1]
   have hnew : ∀ j pl, cnt1 c R n j pl = 0 := fun j pl => cntI_none (fun r hr => by
      have h2 := h.top r hr
      rw [decide_eq_false (by omega)]; rfl)
   by_cases h2 : o.cs = zeros48
   ·rw [if_pos h2]
    refine ⟨newP n, cl, rfl, rfl, h.asc, fun p hp => by have := h.lt p hp; omega, fun p hp j pl hj hpl => ?_, fun r hr => ?_⟩
    ·rcases hp with hp | hp
     ·exact h.ex p (.inl hp) j pl hj hpl
     ·rw [hp]; exact (celA_zeros j pl).trans (hnew j pl).symm
    ·rcases h.inn r hr with ⟨p, hp, hpn⟩ | h3
     ·rcases hp with hp | hp
      ·exact .inl ⟨p, .inl hp, hpn⟩
      ·exfalso
       have hb := placeO_bd c hrw r.k 0
       have h3 := h.ex o (.inr rfl) 0 (placeO c r.k 0).toNat (by omega) (by omega)
       rw [h2, celA_zeros] at h3
       have h4 := cntI_zero h3.symm r hr
       rw [hp] at hpn
       rw [decide_eq_true hpn.symm] at h4
       unfold fallB at h4
       rw [decide_eq_true (by omega)] at h4
       simp at h4
     ·exact .inr h3
   ·rw [if_neg h2]
    refine ⟨newP n, cl ++ [o], rfl, rfl, ?_, fun p hp => ?_, fun p hp j pl hj hpl => ?_, fun r hr => ?_⟩
    ·exact List.pairwise_append.2 ⟨h.asc, by simp, fun a ha b hb => by rw [List.mem_singleton] at hb; rw [hb]; exact h.lt a ha⟩
    ·rcases List.mem_append.1 hp with hp | hp
     ·have := h.lt p hp; omega
     ·rw [List.mem_singleton] at hp; rw [hp]; omega
    ·rcases hp with hp | hp
     ·rcases List.mem_append.1 hp with hp | hp
      ·exact h.ex p (.inl hp) j pl hj hpl
      ·rw [List.mem_singleton] at hp; exact h.ex p (.inr hp) j pl hj hpl
     ·rw [hp]; exact (celA_zeros j pl).trans (hnew j pl).symm
    ·rcases h.inn r hr with ⟨p, hp, hpn⟩ | h3
     ·refine .inl ⟨p, .inl ?_, hpn⟩
      rcases hp with hp | hp
      ·simp [hp]
      ·simp [hp]
     ·exact .inr h3
 obtain ⟨o2, l2, e, e1, e2, e3, e4, e5⟩ := ht
 have er : relO c o cl y m = (bumpP c y.k c.rows.toNat o2, l2.drop (pastP c l2 (m - c.window))) := by
  unfold relO
  show (bumpP c y.k c.rows.toNat (turnO o cl (y.t / longO c)).1, _) = _
  rw [show y.t / longO c = n from hn.symm, e]
 rw [er]
 have hsub : ∀ p, p ∈ l2.drop (pastP c l2 (m - c.window)) → p ∈ l2 := fun p hp => List.mem_of_mem_drop hp
 have hbn : (bumpP c y.k c.rows.toNat o2).no = n := e1
 refine ⟨e2.sublist (List.drop_sublist _ _), fun p hp => ?_, fun p hp j pl hj hpl => ?_, fun r hr => ?_, fun r hr => ?_, .inr ⟨y, by simp, by rw [hbn, hn]⟩⟩
 ·show p.no < (bumpP c y.k c.rows.toNat o2).no
  rw [hbn]; exact e3 p (hsub p hp)
 ·unfold cnt1
  rw [cntI_snoc]
  rcases hp with hp | hp
  ·have hne : pnoO c y ≠ p.no := by have := e3 p (hsub p hp); omega
   rw [decide_eq_false hne, if_neg (by simp)]
   rw [e4 p (.inl (hsub p hp)) j pl hj hpl]; unfold cnt1; omega
  ·subst hp
   show celA (bumpN c y.k c.rows.toNat o2.cs) j pl = _
   rw [celA_bump c hrw y.k o2.cs o2.len j pl hpl _ (by omega), e4 o2 (.inr rfl) j pl hj hpl]
   unfold cnt1
   rw [show (bumpP c y.k c.rows.toNat o2).no = o2.no from rfl, decide_eq_true (show pnoO c y = o2.no by omega)]
   unfold fallB
   by_cases h1 : placeO c y.k j = (pl : Int)
   ·rw [if_pos ⟨by omega, h1⟩, if_pos (by simp [h1])]
   ·rw [if_neg (fun h => h1 h.2), if_neg (by simp [h1])]
 ·rcases List.mem_append.1 hr with hr | hr
  ·rcases e5 r hr with ⟨p, hp, hpn⟩ | h3
   ·rcases hp with hp | hp
    ·rcases pastP_take c (m - c.window) l2 p hp with h3 | h3
     ·exact .inl ⟨p, .inl h3, hpn⟩
     ·right; rw [← hpn]; exact h3
    ·exact .inl ⟨_, .inr rfl, by rw [hbn, ← e1, ← hpn, hp]⟩
   ·exact .inr h3
  ·rw [List.mem_singleton] at hr
   exact .inl ⟨_, .inr rfl, by rw [hbn, hn, hr]⟩
 ·rw [hbn]
  rcases List.mem_append.1 hr with hr | hr
  ·exact hle r hr
  ·rw [List.mem_singleton] at hr; rw [hr, hn]; exact Int.le_refl _
def PO (c : Cfg) (m : Int) (nt : Note) (R : List It) : Prop := OG c m nt.op nt.cl R
theorem PO_law : NLaw 3 PO where
 zero := fun c m _ _ => OG.zero c m
 later := fun c m m' nt R _ _ hm h => OG.later h hm
 rel := fun c m nt R y hv hk h hr hy _ => by
  obtain ⟨_, hrw, hL, _, _⟩ := valid_often (k := 3) hv hk rfl
  exact OG.rel h hL hrw hrw.r0 hrw.r1 y hy.t0 (fun r hrm => by have := (hr r hrm).2.1; unfold leP at this; omega)
 swp := fun c m nt R b _ _ h => h
theorem celA_plus (a b : List Int) (ha : a.length = 48) (hb : b.length = 48) (j pl : Nat) (hj : j < 3) (hpl : pl < 16) : celA (List.zipWith (· + ·) a b) j pl = celA a j pl + celA b j pl := by
 unfold celA
 have h1 : j * 16 + pl < a.length := by omega
 have h2 : j * 16 + pl < b.length := by omega
 have h3 : j * 16 + pl < (List.zipWith (· + ·) a b).length := by rw [List.length_zipWith]; omega
 simp [List.getD_eq_getElem?_getD, List.getElem?_eq_getElem h1, List.getElem?_eq_getElem h2, List.getElem?_eq_getElem h3]
theorem cel_sum {c : Cfg} {R : List It} {j pl : Nat} (hj : (j : Int) < c.rows) (hr3 : c.rows ≤ 3) (hpl : pl < 16) : ∀ (l : List Pa.Pn), l.Pairwise (fun a b => a.no < b.no) → (∀ p ∈ l, celA p.cs j pl = cnt1 c R p.no j pl) → ∀ a : List Int, a.length = 48 →
  celA (l.foldl plusC a) j pl = celA a j pl + cntI (fun r => decide (pnoO c r ∈ l.map (·.no)) && fallB c j pl r) R := by
 intro l
 induction l with
 | nil => intro _ _ a _; simp [cntI_none]
 | cons p l ih =>
  intro hp he a ha
  have hp2 := List.pairwise_cons.1 hp
  rw [List.foldl_cons, ih hp2.2 (fun q hq => he q (by simp [hq])) _ (plusC_length ha)]
  unfold plusC
  rw [celA_plus _ _ ha p.len j pl (by omega) hpl, he p (by simp), Int.add_assoc]
  congr 1
  refine (cntI_or (fun r _ => ?_) (fun r _ hh => ?_)).symm
  ·cases fallB c j pl r <;> simp
   try by_cases h1 : pnoO c r = p.no <;> simp [h1]
  ·have h1 : pnoO c r = p.no := by have := hh.1; simp at this; exact this.1
   have h2 := hh.2
   simp only [Bool.and_eq_true, decide_eq_true_eq, List.mem_map] at h2
   obtain ⟨⟨q, hq, hqn⟩, _⟩ := h2
   have := hp2.1 q hq
   omega
theorem OG.counted {c : Cfg} {m : Int} {o : Pa.Pn} {cl : List Pa.Pn} {R : List It} (h : OG c m o cl R) (hL : 1 ≤ longO c) (hr3 : c.rows ≤ 3) (T : Int) (hT : m - c.window ≤ T) (j pl : Nat) (hj : (j : Int) < c.rows) (hpl : pl < 16) :
  celA (countedO c o cl T) j pl = cntI (fun r => decide (T < (pnoO c r + 1) * longO c - 1) && fallB c j pl r) R := by
 obtain ⟨l, hl⟩ : ∃ l, l = cl.drop (pastP c cl T) ++ (if T < lastO c o then [o] else []) := ⟨_, rfl⟩
 have e : countedO c o cl T = l.foldl plusC zeros48 := by
  unfold countedO sumP
  rw [hl]
  by_cases h1 : T < lastO c o
  ·rw [if_pos h1, if_pos h1, List.foldl_append]; rfl
  ·rw [if_neg h1, if_neg h1, List.append_nil]
 have hmem : ∀ p, p ∈ l → p ∈ cl ∨ p = o := fun p hp => by
  rw [hl] at hp
  rcases List.mem_append.1 hp with hp | hp
  ·exact .inl (List.mem_of_mem_drop hp)
  ·split at hp
   ·rw [List.mem_singleton] at hp; exact .inr hp
   ·simp at hp
 have hpw : l.Pairwise (fun a b => a.no < b.no) := by
  rw [hl]
  refine List.pairwise_append.2 ⟨h.asc.sublist (List.drop_sublist _ _), by split <;> simp, fun a ha b hb => ?_⟩
  split at hb
  ·rw [List.mem_singleton] at hb; rw [hb]; exact h.lt a (List.mem_of_mem_drop ha)
  ·simp at hb
 have hlast : ∀ p, p ∈ l → T < lastO c p := fun p hp => by
  rw [hl] at hp
  rcases List.mem_append.1 hp with hp | hp
  ·exact pastP_drop c (by omega) T cl h.asc p hp
  ·split at hp
   ·rename_i h1; rw [List.mem_singleton] at hp; rw [hp]; exact h1
   ·simp at hp
 have hin : ∀ p, p ∈ cl ∨ p = o → T < lastO c p → p ∈ l := fun p hp h1 => by
  rw [hl]
  rcases hp with hp | hp
  ·rcases pastP_take c T cl p hp with h2 | h2
   ·exact List.mem_append.2 (.inl h2)
   ·omega
  ·rw [hp] at h1; rw [if_pos h1, hp]; simp
 rw [e, cel_sum hj hr3 hpl l hpw (fun p hp => h.ex p (hmem p hp) j pl hj hpl) _ zeros48_length, celA_zeros, Int.zero_add]
 refine cntI_congr (fun r hr => ?_)
 congr 1
 refine decide_eq_decide.2 ⟨fun h1 => ?_, fun h1 => ?_⟩
 ·obtain ⟨p, hp, hpn⟩ := List.mem_map.1 h1
  rw [← hpn]; exact hlast p hp
 ·rcases h.inn r hr with ⟨p, hp, hpn⟩ | h2
  ·exact List.mem_map.2 ⟨p, hin p hp (by unfold lastO; rw [hpn]; exact h1), hpn⟩
  ·omega
theorem leastN_ge {c : Cfg} {cnt : List Int} {key n : Int} : ∀ k : Nat, (∀ j, j < k ∨ j = 0 → n ≤ cntAt c cnt key j) → n ≤ leastN c cnt key k
 | 0, h => h 0 (.inr rfl)
 | k + 1, h => by
  have h1 := leastN_ge k (fun j hj => h j (by omega))
  have h2 := h k (.inl (by omega))
  show n ≤ min _ _
  omega
theorem leastN_le {c : Cfg} {cnt : List Int} {key : Int} : ∀ k : Nat, leastN c cnt key k ≤ cntAt c cnt key 0
 | 0 => Int.le_refl _
 | k + 1 => by
  have := leastN_le (c := c) (cnt := cnt) (key := key) k
  show min _ _ ≤ _
  omega
theorem OG.least {c : Cfg} {m : Int} {o : Pa.Pn} {cl : List Pa.Pn} {R : List It} (h : OG c m o cl R) (hL : 1 ≤ longO c) (hrw : c.rowed) (hr1 : 1 ≤ c.rows) (hr3 : c.rows ≤ 3) (key : Int) :
  cntI (fun r => decide (m - c.window < r.t) && decide (r.k = key)) R ≤ qryO c o cl key m ∧ qryO c o cl key m ≤ R.length := by
 have hat : ∀ j : Nat, (j : Int) < c.rows → cntAt c (countedO c o cl (m - c.window)) key j = cntI (fun r => decide (m - c.window < (pnoO c r + 1) * longO c - 1) && fallB c j (placeO c key j).toNat r) R := fun j hj => by
  have hb := placeO_bd c hrw key j
  exact h.counted hL hr3 _ (Int.le_refl _) j _ hj (by omega)
 refine ⟨leastN_ge _ (fun j hj => ?_), Int.le_trans (leastN_le _) ?_⟩
 ·have hb := placeO_bd c hrw key j
  rw [hat j (by omega)]
  refine cntI_mono (fun r _ hr => ?_)
  simp only [Bool.and_eq_true, decide_eq_true_eq] at hr ⊢
  have hlt : r.t < (pnoO c r + 1) * longO c := Int.lt_ediv_add_one_mul_self _ (by omega)
  refine ⟨by omega, ?_⟩
  unfold fallB
  rw [hr.2]
  exact decide_eq_true (by omega)
 ·rw [hat 0 (by omega)]; exact cntI_le _ _
end Go.Proofs.YtahnliehdjncdaaGreatDoor
namespace Go.Proofs.YtahnliehdjncdaaGreatDoor
def keyN (key : Int) (l : List OpM) : Int := ((l.filter (fun o => o.b == key)).length : Int)
theorem keyN_snoc (key : Int) (l : List OpM) (o : OpM) : keyN key (l ++ [o]) = keyN key l + if (o.b == key) = true then 1 else 0 := by
 unfold keyN
 rw [List.filter_append, List.length_append, List.filter_cons]
 by_cases h : (o.b == key) = true
 ·rw [if_pos h, if_pos h]; simp
 ·rw [if_neg h, if_neg h]; simp
theorem keyN_le (key : Int) (l : List OpM) : 0 ≤ keyN key l ∧ keyN key l ≤ l.length := by
 have := List.length_filter_le (fun o : OpM => o.b == key) l
 unfold keyN; omega
theorem keyN_tri (key : Int) (l : List OpM) (A : List It) (h : l.map triO = A.map tri) : keyN key l = cntI (fun y => decide (y.k = key)) A := by
 unfold keyN cntI
 have h1 : (l.filter (fun o => o.b == key)).length = ((l.map triO).filter (fun p => p.2.1 == key)).length := by
  rw [List.filter_map, List.length_map]; rfl
 have h2 : (A.filter (fun y => decide (y.k = key))).length = ((A.map tri).filter (fun p => p.2.1 == key)).length := by
  rw [List.filter_map, List.length_map]
  congr 1
 rw [h1, h2, h]
theorem items_rel {R L A : List It} {fr mk : Int} (hp : (R ++ L).Perm A) (hR : ∀ r ∈ R, r.t ≤ mk) (hL : ∀ y ∈ L, mk < y.t) : (A.filter (fun y => decide (fr < y.t ∧ y.t ≤ mk))).Perm (R.filter (fun y => decide (fr < y.t))) := by
 refine (hp.filter _).symm.trans ?_
 rw [List.filter_append]
 have h1 : L.filter (fun y => decide (fr < y.t ∧ y.t ≤ mk)) = [] := List.filter_eq_nil_iff.2 (fun y hy => by have := hL y hy; simp; omega)
 have h2 : R.filter (fun y => decide (fr < y.t ∧ y.t ≤ mk)) = R.filter (fun y => decide (fr < y.t)) := List.filter_congr (fun y hy => by have := hR y hy; simp; omega)
 rw [h1, h2, List.append_nil]
theorem least_data (t : List OpM) (hok : OkRun t) (j : Nat) (hj : j < t.length) (h4 : (opAt t j).kind = 4) (c : Cfg) (hc : configD t (codesOf t) (opAt t j).id j = some c) (hk : c.kind = 3) (ha : inB (opAt t j).a 0 2147483648 = true) :
  (0 ≤ clockD t (codesOf t) j ∧ clockD t (codesOf t) j ≤ 4611686018427387904) ∧ (0 ≤ c.lag ∧ c.lag ≤ 100) ∧ (1 ≤ c.window ∧ c.window ≤ 1000) ∧
  ∃ v : Int, (runM ws0 t)[j]? = some (0, [v]) ∧ keyN (opAt t j).a (itemsD t (codesOf t) (opAt t j).id (clockD t (codesOf t) j - c.lag - c.window) (clockD t (codesOf t) j - c.lag) j) ≤ v ∧
   v ≤ ((itemsD t (codesOf t) (opAt t j).id (-1) (clockD t (codesOf t) j - c.lag) j).length : Int) := by
 obtain ⟨b1, b2, hv, x, R, L, A, _, _, _, hans, hP, hs, hR, hL, hperm, hAl, _, hA⟩ := ask_data PO_law t hok j hj h4 c hc hk
 obtain ⟨hpd, hrw, hL1, hL2, hpl⟩ := valid_often (k := 3) hv hk rfl
 refine ⟨b1, b2, ⟨hpd.w0, hpd.w1⟩, qryO c x.nt.op x.nt.cl (opAt t j).a (clockD t (codesOf t) j - c.lag), ?_, ?_, ?_⟩
 ·rw [hans]; unfold qryN; rw [if_neg (by omega), if_neg (by omega), if_neg (by omega), if_pos rfl, if_pos ha]
 ·have h1 := itemsI_is t (opAt t j).id (clockD t (codesOf t) j - c.lag - c.window) (clockD t (codesOf t) j - c.lag) j (by omega)
  rw [← hA] at h1
  rw [keyN_tri _ _ _ h1]
  have h2 := items_rel (fr := clockD t (codesOf t) j - c.lag - c.window) hperm (fun r hr => (hR r hr).1) hL
  have h3 : cntI (fun y => decide (y.k = (opAt t j).a)) (A.filter (fun y => decide (clockD t (codesOf t) j - c.lag - c.window < y.t ∧ y.t ≤ clockD t (codesOf t) j - c.lag))) = cntI (fun r => decide (clockD t (codesOf t) j - c.lag - c.window < r.t) && decide (r.k = (opAt t j).a)) R := by
   unfold cntI
   rw [(h2.filter _).length_eq, List.filter_filter, List.filter_congr (fun a _ => Bool.and_comm _ _)]
  rw [h3]
  exact (OG.least hP hL1 hrw hrw.r0 hrw.r1 _).1
 ·have h1 := itemsI_is t (opAt t j).id (-1) (clockD t (codesOf t) j - c.lag) j (by omega)
  rw [← hA] at h1
  have h2 := items_rel (fr := -1) hperm (fun r hr => (hR r hr).1) hL
  have h3 := congrArg List.length h1
  rw [List.length_map, List.length_map, h2.length_eq, List.filter_eq_self.2 (fun r hr => by have := (hR r hr).2.t0; simp; omega)] at h3
  rw [h3]
  exact (OG.least hP hL1 hrw hrw.r0 hrw.r1 _).2
end Go.Proofs.YtahnliehdjncdaaGreatDoor
