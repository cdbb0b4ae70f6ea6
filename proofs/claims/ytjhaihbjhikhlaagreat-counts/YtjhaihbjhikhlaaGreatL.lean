import Derived.Test.YtjhaihbjhikhlaaGreatK6
import Derived.Test.YtjhaihbjhikhlaaGreatXD
namespace Go.Proofs.YtjhaihbjhikhlaaGreat
open Go.RowKit

/-! ### The notes of a series, whatever its kind -/
structure Note where
  q : Int
  r : Int
  bs : List Bk
def note0 : Note := ⟨0, 0, []⟩

/-- Where they lie. -/
structure NB where
  d : Nat
  r : Nat
  g : Option Nat

def nfoot (k : Nat) (b : NB) (i : Nat) : Prop := (k = 1 ∧ (i = b.d ∨ i = b.r ∨ b.g = some i)) ∨ (k = 4 ∧ i = b.d)

structure NRep (w : World) (k : Nat) (b : NB) (c : Cfg) (nt : Note) : Prop where
  dec : k = 4 → Blk w b.d (decCells c nt.q nt.r) 138
  cnt : k = 1 → CRep w b.d b.r b.g c nt.bs

theorem NRep.keeps {M : Nat → Prop} {w w' : World} {k : Nat} {b : NB} {c : Cfg} {nt : Note} (h : NRep w k b c nt) (hk : Keeps M w w') (hn : ∀ i, nfoot k b i → ¬ M i) : NRep w' k b c nt :=
  ⟨fun h4 => (h.dec h4).keeps hk (hn _ (.inr ⟨h4, rfl⟩)), fun h1 => (h.cnt h1).keeps hk (hn _ (.inl ⟨h1, .inl rfl⟩)) (hn _ (.inl ⟨h1, .inr (.inl rfl)⟩)) (fun _ hg => hn _ (.inl ⟨h1, .inr (.inr hg)⟩))⟩
theorem NRep.still {w w' : World} {k : Nat} {b : NB} {c : Cfg} {nt : Note} (h : NRep w k b c nt) (hk : Keeps (fun _ => False) w w') : NRep w' k b c nt := h.keeps hk (fun _ _ h => h)
theorem NRep.lt {w : World} {k : Nat} {b : NB} {c : Cfg} {nt : Note} (h : NRep w k b c nt) (i : Nat) (hi : nfoot k b i) : i < w.heap.size := by
  rcases hi with ⟨h1, hi | hi | hi⟩ | ⟨h4, hi⟩
  · rw [hi]; exact (h.cnt h1).blk.lt
  · rw [hi]; exact (h.cnt h1).row.lt.1
  · exact ((h.cnt h1).row.lt.2 i hi).1
  · rw [hi]; exact (h.dec h4).lt

def relF : Nat → Nat | 1 => 91 | 4 => 100 | _ => 96
def qryF : Nat → Nat | 1 => 92 | 4 => 101 | _ => 97
def swpF : Nat → Nat | 1 => 93 | _ => 98
def capsN (k d : Nat) : Array Value := if k = 1 ∨ k = 4 then #[.pointer (some ⟨d, 0, none⟩)] else #[]
def capsS (k d : Nat) : Array Value := if k = 1 then #[.pointer (some ⟨d, 0, none⟩)] else #[]
def relV (k d : Nat) : Value := .func (.func (relF k)) (capsN k d) #[]
def qryV (k d : Nat) : Value := .func (.func (qryF k)) (capsN k d) #[]
def swpV (k d : Nat) : Value := .func (.func (swpF k)) (capsS k d) #[]

theorem ownCR (args : Array Value) (w : World) : (callFunc 91 args).run Tryz.prog w = .ok (.enter 91 args) w := run_own Tryz.func91 (by kernel_rfl) (by kernel_rfl) args w
theorem ownCQ (args : Array Value) (w : World) : (callFunc 92 args).run Tryz.prog w = .ok (.enter 92 args) w := run_own Tryz.func92 (by kernel_rfl) (by kernel_rfl) args w
theorem ownCS (args : Array Value) (w : World) : (callFunc 93 args).run Tryz.prog w = .ok (.enter 93 args) w := run_own Tryz.func93 (by kernel_rfl) (by kernel_rfl) args w
theorem ownDR (args : Array Value) (w : World) : (callFunc 100 args).run Tryz.prog w = .ok (.enter 100 args) w := run_own Tryz.func100 (by kernel_rfl) (by kernel_rfl) args w
theorem ownDQ (args : Array Value) (w : World) : (callFunc 101 args).run Tryz.prog w = .ok (.enter 101 args) w := run_own Tryz.func101 (by kernel_rfl) (by kernel_rfl) args w
theorem ownN1 (args : Array Value) (w : World) : (callFunc 96 args).run Tryz.prog w = .ok (.enter 96 args) w := run_own Tryz.func96 (by kernel_rfl) (by kernel_rfl) args w
theorem ownN2 (args : Array Value) (w : World) : (callFunc 97 args).run Tryz.prog w = .ok (.enter 97 args) w := run_own Tryz.func97 (by kernel_rfl) (by kernel_rfl) args w
theorem ownSN (args : Array Value) (w : World) : (callFunc 98 args).run Tryz.prog w = .ok (.enter 98 args) w := run_own Tryz.func98 (by kernel_rfl) (by kernel_rfl) args w

theorem five {k : Nat} (h1 : 1 ≤ k) (h5 : k ≤ 5) : k = 1 ∨ k = 2 ∨ k = 3 ∨ k = 4 ∨ k = 5 := by omega
theorem own_rel (k : Nat) (h1 : 1 ≤ k) (h5 : k ≤ 5) (args : Array Value) (w : World) : (callFunc (relF k) args).run Tryz.prog w = .ok (.enter (relF k) args) w := by
  rcases five h1 h5 with hk | hk | hk | hk | hk <;> subst hk
  · exact ownCR args w
  · exact ownN1 args w
  · exact ownN1 args w
  · exact ownDR args w
  · exact ownN1 args w
theorem own_qry (k : Nat) (h1 : 1 ≤ k) (h5 : k ≤ 5) (args : Array Value) (w : World) : (callFunc (qryF k) args).run Tryz.prog w = .ok (.enter (qryF k) args) w := by
  rcases five h1 h5 with hk | hk | hk | hk | hk <;> subst hk
  · exact ownCQ args w
  · exact ownN2 args w
  · exact ownN2 args w
  · exact ownDQ args w
  · exact ownN2 args w
theorem own_swp (k : Nat) (h1 : 1 ≤ k) (h5 : k ≤ 5) (args : Array Value) (w : World) : (callFunc (swpF k) args).run Tryz.prog w = .ok (.enter (swpF k) args) w := by
  rcases five h1 h5 with hk | hk | hk | hk | hk <;> subst hk
  · exact ownCS args w
  · exact ownSN args w
  · exact ownSN args w
  · exact ownSN args w
  · exact ownSN args w

/-! ### As data -/
def relN (k : Nat) (c : Cfg) (nt : Note) (t m : Int) : Note :=
  if k = 4 then { nt with q := nt.q + (nt.r + optInt (weightO c t)) / 2305843009213693952, r := (nt.r + optInt (weightO c t)) % 2305843009213693952 }
  else if k = 1 then { nt with bs := relB c nt.bs t m } else nt
def qryN (k : Nat) (c : Cfg) (nt : Note) (a m : Int) : Int × List Int :=
  if k = 4 then (0, [nt.q, nt.r, optInt (weightO c m)])
  else if k = 1 then (if inB a 1 c.window = true then (0, [estN nt.bs (m - a)]) else (13, [])) else (1, [])
def swpN (k : Nat) (c : Cfg) (nt : Note) (m b : Int) : Note × Int × Int :=
  if k = 1 then ({ nt with bs := nt.bs.drop (thrownB c nt.bs m b).toNat }, thrownB c nt.bs m b, (pastN nt.bs (m - c.window) : Int) - thrownB c nt.bs m b) else (nt, 0, 0)

/-- What holds of the notes behind rel items. -/
structure NInv (rel : Int) (nt : Note) : Prop where
  q0 : 0 ≤ nt.q
  qn : nt.q ≤ rel
  r0 : 0 ≤ nt.r
  r1 : nt.r < 2305843009213693952
  one : ∀ b ∈ nt.bs, 1 ≤ b.sz
  sum : sumB nt.bs ≤ rel

theorem NInv.binv {rel : Int} {nt : Note} (h : NInv rel nt) (hr : rel ≤ 4398046511104) : BInv nt.bs := ⟨h.one, by have := h.sum; omega⟩

theorem joinL_inv {K : Int} (hK : 0 ≤ K) (f : Nat) (l : List Bk) (sz : Int) (e : Nat) (h1 : ∀ b ∈ l, 1 ≤ b.sz) (he : e ≤ l.length) (z1 : 1 ≤ sz) : (∀ b ∈ joinL K f l sz e, 1 ≤ b.sz) ∧ sumB (joinL K f l sz e) = sumB l := by
  induction f generalizing l sz e with
  | zero => exact ⟨h1, rfl⟩
  | succ f ih =>
    unfold joinL
    split
    · exact ⟨h1, rfl⟩
    · rename_i h
      have hs : startN l sz e + 2 ≤ e := by omega
      have a1 : (bkAt l (startN l sz e)).sz = sz := startN_in l sz e _ (by omega) (by omega)
      have a2 : (bkAt l (startN l sz e + 1)).sz = sz := startN_in l sz e _ (by omega) (by omega)
      have hsum := joinAt_sum l (startN l sz e) ⟨2 * sz, (bkAt l (startN l sz e + 1)).t⟩ (by omega) (by show 2 * sz = _; omega)
      have hlen := joinAt_length (⟨2 * sz, (bkAt l (startN l sz e + 1)).t⟩ : Bk) (l := l) (i := startN l sz e) (by omega)
      have := ih (joinAt l (startN l sz e) ⟨2 * sz, (bkAt l (startN l sz e + 1)).t⟩) (2 * sz) (startN l sz e + 1) (joinAt_all l _ _ h1 (by show 1 ≤ 2 * sz; omega)) (by omega) (by omega)
      exact ⟨this.1, this.2.trans hsum⟩

theorem NInv.drop {rel : Int} {nt : Note} (h : NInv rel nt) (j : Nat) : NInv rel { nt with bs := nt.bs.drop j } := by
  refine ⟨h.q0, h.qn, h.r0, h.r1, fun b hb => h.one b (List.mem_of_mem_drop hb), ?_⟩
  have h1 := sumB_split nt.bs j
  have h2 := sumB_nonneg (l := nt.bs.take j) (fun b hb => h.one b (List.mem_of_mem_take hb))
  have h3 := h.sum
  show sumB (nt.bs.drop j) ≤ rel
  omega
theorem swpN_inv {rel : Int} {nt : Note} (h : NInv rel nt) (k : Nat) (c : Cfg) (m b : Int) : NInv rel (swpN k c nt m b).1 := by
  unfold swpN
  split
  · exact h.drop _
  · exact h

/-- What a configuration of kind COUNT names. -/
theorem valid_count {c : Cfg} {k : Nat} (h : validB c = true) (hk : c.kind = k) (h1 : k = 1) : 1 ≤ c.k ∧ c.k ≤ 10 ∧ 1 ≤ c.window ∧ c.window ≤ 1000 := by
  subst h1
  simp only [validB, hk, Bool.and_eq_true] at h
  have h2 : countB c = true := h.2.2
  simp only [countB, windowB, inB, Bool.and_eq_true, decide_eq_true_eq] at h2
  omega
theorem valid_weighs {c : Cfg} {k : Nat} (hv : validB c = true) (hk : c.kind = k) (h4 : 4 ≤ k) (h5 : k ≤ 5) : c.weighs := by
  have hd : decayB c = true := by
    have : k = 4 ∨ k = 5 := by omega
    simp only [validB, hk, Int.toNat_natCast, Bool.and_eq_true] at hv
    rcases this with e | e
    · have := hv.2.2; rw [e] at this; exact this
    · have := hv.2.2; rw [e] at this
      simp only [kindFits, drawnB, Bool.and_eq_true] at this
      exact this.2
  simp only [decayB, inB, Bool.and_eq_true, decide_eq_true_eq] at hd
  exact ⟨by omega, by omega, by omega, by omega, by omega, by omega⟩

theorem powGo_bd (b : Int) (hb : 1 ≤ b) (n : Nat) (p : Int) (p1 : 1 ≤ p) (p2 : p ≤ 2305843009213693952) : 0 ≤ optInt (powGo b n p) ∧ optInt (powGo b n p) ≤ 2305843009213693952 := by
  induction n generalizing p with
  | zero => simp only [powGo, optInt]; omega
  | succ n ih =>
    unfold powGo
    split
    · simp [optInt]
    · rename_i h
      obtain ⟨h1, h2⟩ := mul_ok p b p1 hb h
      exact ih _ h1 h2
theorem weight_bd (c : Cfg) (t : Int) : 0 ≤ optInt (weightO c t) ∧ optInt (weightO c t) ≤ 2305843009213693952 := by
  unfold weightO
  split
  · simp [optInt]
  · split
    · exact powGo_bd _ (by omega) _ 1 (by omega) (by omega)
    · split
      · simp [optInt]
      · rename_i h1 h2 h3
        have := pow2_bd ((t - c.mark) / c.half).toNat (by omega)
        simp only [optInt]; omega

theorem relN_inv {rel : Int} {nt : Note} {c : Cfg} {k : Nat} (h : NInv rel nt) (hv : validB c = true) (hk : c.kind = k) (t m : Int) : NInv (rel + 1) (relN k c nt t m) := by
  have hw := weight_bd c t
  have a := h.q0; have b := h.qn; have r0 := h.r0; have r1 := h.r1; have hs := h.sum
  unfold relN
  split
  · exact ⟨by show 0 ≤ nt.q + _; omega, by show nt.q + _ ≤ _; omega, by show 0 ≤ _ % _; omega, by show _ % _ < _; omega, h.one, by show sumB nt.bs ≤ _; omega⟩
  · split
    · rename_i h1
      obtain ⟨k1, k2, w1, w2⟩ := valid_count hv hk h1
      have hp : ∀ b ∈ putB c nt.bs t m, 1 ≤ b.sz := fun b hb => by
        unfold putB at hb
        rcases List.mem_append.1 hb with hb | hb
        · exact h.one b (List.mem_of_mem_drop hb)
        · rw [List.mem_singleton] at hb; rw [hb]; exact Int.le_refl _
      have hj := joinL_inv (K := c.k) (by omega) ((putB c nt.bs t m).length + 1) (putB c nt.bs t m) 1 _ hp (Nat.le_refl _) (by omega)
      refine ⟨a, by show nt.q ≤ _; omega, r0, r1, hj.1, ?_⟩
      show sumB (relB c nt.bs t m) ≤ _
      unfold relB
      rw [hj.2]
      have h1 := sumB_split nt.bs (pastN nt.bs (m - c.window))
      have h2 := sumB_nonneg (l := nt.bs.take (pastN nt.bs (m - c.window))) (fun b hb => h.one b (List.mem_of_mem_take hb))
      unfold putB
      rw [sumB_append]
      unfold liveB
      simp only [sumB]
      omega
    · exact ⟨a, by omega, r0, r1, h.one, by omega⟩

/-! ### The functions of the kinds -/
theorem rel_any {rel : Int} (k : Nat) (b : NB) (c : Cfg) (nt : Note) (y : It) (m : Int) (args : Array Value) (w : World) (ha : args = capsN k b.d ++ #[y.val, .int .i64 m]) (h : NRep w k b c nt) (hi : NInv rel nt) (hr : rel ≤ 4398046511103)
    (hv : validB c = true) (hk : c.kind = k) (k1 : 1 ≤ k) (k5 : k ≤ 5) (m0 : -100 ≤ m) (m1 : m ≤ 4611686018427387904) (t0 : 0 ≤ y.t) (t1 : y.t ≤ 4611686018427387904) :
    Calls Tryz.prog (relF k) args w fun e w' => e = .returned (.tuple #[]) ∧ ∃ b' : NB, NRep w' k b' c (relN k c nt y.t m) ∧ b'.d = b.d ∧ (∀ i, nfoot k b' i → nfoot k b i ∨ w.heap.size ≤ i) ∧ Keeps (nfoot k b) w w' := by
  subst ha
  rcases five k1 k5 with e | e | e | e | e
  · subst e
    obtain ⟨a1, a2, a3, a4⟩ := valid_count hv hk rfl
    refine (cntRelease_any b.d b.r b.g c nt.bs y m w (h.cnt rfl) (hi.binv (by omega)) (by have := hi.sum; omega) m0 m1 (by omega) a4 a1 a2).mono ?_
    rintro e w' ⟨rfl, og', hc, hk, hog⟩
    refine ⟨rfl, ⟨b.d, b.r, og'⟩, ⟨fun h => by omega, fun _ => hc⟩, rfl, ?_, hk.mono (fun i _ hi => .inl ⟨rfl, .inr hi⟩)⟩
    rintro i (⟨_, hi | hi | hi⟩ | ⟨h4, _⟩)
    · exact .inl (.inl ⟨rfl, .inl hi⟩)
    · exact .inl (.inl ⟨rfl, .inr (.inl hi)⟩)
    · rcases hog with h | ⟨j, h, hj⟩
      · exact .inl (.inl ⟨rfl, .inr (.inr (by rw [← h]; exact hi))⟩)
      · have hi' : og' = some i := hi
        rw [h] at hi'
        injection hi' with hi'
        exact .inr (by omega)
    · omega
  · subst e
    refine (nothing1_any y m w).mono ?_
    rintro e w' ⟨rfl, hk⟩
    exact ⟨rfl, b, h.still hk, rfl, fun _ h => .inl h, hk.mono (fun _ _ h => h.elim)⟩
  · subst e
    refine (nothing1_any y m w).mono ?_
    rintro e w' ⟨rfl, hk⟩
    exact ⟨rfl, b, h.still hk, rfl, fun _ h => .inl h, hk.mono (fun _ _ h => h.elim)⟩
  · subst e
    have hw := weight_bd c y.t
    refine (decRelease_any b.d c nt.q nt.r y m w (h.dec rfl) (valid_weighs hv hk (by omega) (by omega)) t0 t1 hi.r0 hi.r1 hi.q0 (by have := hi.qn; omega) hw.1 hw.2).mono ?_
    rintro e w' ⟨rfl, hb, hk⟩
    exact ⟨rfl, b, ⟨fun _ => hb, fun h => by omega⟩, rfl, fun _ h => .inl h, hk.mono (fun i _ hi => .inr ⟨rfl, hi⟩)⟩
  · subst e
    refine (nothing1_any y m w).mono ?_
    rintro e w' ⟨rfl, hk⟩
    exact ⟨rfl, b, h.still hk, rfl, fun _ h => .inl h, hk.mono (fun _ _ h => h.elim)⟩

/-- The numbers lie in a row of their own. -/
def NumsAt (w : World) (base : Nat) (v : Value) (l : List Int) : Prop := w.ownsRow base 3 1 v l.length (l.map (.int .i64 ·))

theorem qry_any {rel : Int} (k : Nat) (b : NB) (c : Cfg) (nt : Note) (a m : Int) (args : Array Value) (w : World) (ha : args = capsN k b.d ++ #[.int .i64 a, .int .i64 m]) (h : NRep w k b c nt) (hi : NInv rel nt) (hr : rel ≤ 4398046511104)
    (hv : validB c = true) (hk : c.kind = k) (k1 : 1 ≤ k) (k5 : k ≤ 5) (m0 : -100 ≤ m) (m1 : m ≤ 4611686018427387904) :
    Calls Tryz.prog (qryF k) args w fun e w' => ∃ og n cp, e = .returned (.tuple #[.slice og n cp, .int .i64 (qryN k c nt a m).1]) ∧ NumsAt w' w.heap.size (.slice og n cp) (qryN k c nt a m).2 ∧ Keeps (fun _ => False) w w' := by
  subst ha
  have hnil : ∀ w' : World, NumsAt w' w.heap.size (.slice none 0 0) [] := fun w' => World.ownsRow_nil _ _ _ _
  rcases five k1 k5 with e | e | e | e | e
  · subst e
    obtain ⟨a1, a2, a3, a4⟩ := valid_count hv hk rfl
    cases hin : inB a 1 c.window
    · refine (cntQuery_no b.d b.r b.g c nt.bs a m w (h.cnt rfl) hin).mono ?_
      rintro e w' ⟨rfl, hk⟩
      have hq : qryN 1 c nt a m = (13, []) := by unfold qryN; rw [if_neg (by omega), if_pos rfl, if_neg (by rw [hin]; simp)]
      rw [hq]
      exact ⟨none, 0, 0, rfl, hnil _, hk⟩
    · refine (cntQuery_yes b.d b.r b.g c nt.bs a m w (h.cnt rfl) (hi.binv hr) hin m0 m1 a4).mono ?_
      rintro e w' ⟨g, rfl, hg, hb, hk⟩
      have hq : qryN 1 c nt a m = (0, [estN nt.bs (m - a)]) := by unfold qryN; rw [if_neg (by omega), if_pos rfl, if_pos hin]
      rw [hq]
      exact ⟨some ⟨g, 0, none⟩, 1, 1, rfl, ⟨rfl, .inr ⟨g, 1, _, rfl, hg, hb, by simp, by unfold maxLen; omega, rfl, rfl⟩⟩, hk⟩
  · subst e
    refine (nothing2_any a m w).mono ?_
    rintro e w' ⟨rfl, rfl⟩
    exact ⟨none, 0, 0, rfl, hnil _, Keeps.refl _ _⟩
  · subst e
    refine (nothing2_any a m w).mono ?_
    rintro e w' ⟨rfl, rfl⟩
    exact ⟨none, 0, 0, rfl, hnil _, Keeps.refl _ _⟩
  · subst e
    refine (decQuery_any b.d c nt.q nt.r a m w (h.dec rfl) (valid_weighs hv hk (by omega) (by omega)) m0 m1).mono ?_
    rintro e w' ⟨g, rfl, hg, hb, hk⟩
    exact ⟨some ⟨g, 0, none⟩, 3, 3, rfl, ⟨rfl, .inr ⟨g, 3, _, rfl, hg, hb, by simp [qryN], by unfold maxLen; omega, rfl, rfl⟩⟩, hk⟩
  · subst e
    refine (nothing2_any a m w).mono ?_
    rintro e w' ⟨rfl, rfl⟩
    exact ⟨none, 0, 0, rfl, hnil _, Keeps.refl _ _⟩

theorem swp_any {rel : Int} (k : Nat) (b : NB) (c : Cfg) (nt : Note) (m bu : Int) (args : Array Value) (w : World) (ha : args = capsS k b.d ++ #[.int .i64 m, .int .i64 bu]) (h : NRep w k b c nt) (hi : NInv rel nt) (hr : rel ≤ 4398046511104)
    (hv : validB c = true) (hk : c.kind = k) (k1 : 1 ≤ k) (k5 : k ≤ 5) (m0 : -100 ≤ m) (m1 : m ≤ 4611686018427387904) (b0 : 0 ≤ bu) (b1 : bu ≤ 100) :
    Calls Tryz.prog (swpF k) args w fun e w' => e = .returned (.tuple #[.int .i64 (swpN k c nt m bu).2.1, .int .i64 (swpN k c nt m bu).2.2]) ∧ NRep w' k b c (swpN k c nt m bu).1 ∧ Keeps (nfoot k b) w w' := by
  subst ha
  rcases five k1 k5 with e | e | e | e | e
  · subst e
    obtain ⟨a1, a2, a3, a4⟩ := valid_count hv hk rfl
    refine (cntSweep_any b.d b.r b.g c nt.bs m bu w (h.cnt rfl) (hi.binv hr) m0 m1 (by omega) a4 b0 b1).mono ?_
    rintro e w' ⟨rfl, hc, hk⟩
    exact ⟨rfl, ⟨fun h => by omega, fun _ => hc⟩, hk.mono (fun i _ hi => .inl ⟨rfl, .inr hi⟩)⟩
  all_goals
    subst e
    refine (sweepNothing_any m bu w).mono ?_
    rintro e w' ⟨rfl, rfl⟩
    exact ⟨rfl, h, Keeps.refl _ _⟩

theorem start_any (c : Cfg) (k : Nat) (w : World) (h1 : 1 ≤ k) (h5 : k ≤ 5) :
    Calls Tryz.prog (startF k) #[c.val] w fun e w' => ∃ b : NB, e = .returned (.agg #[relV k b.d, qryV k b.d, swpV k b.d]) ∧ (∀ i, nfoot k b i → w.heap.size ≤ i) ∧ NRep w' k b c note0 ∧ Keeps (fun _ => False) w w' := by
  rcases five h1 h5 with hk | hk | hk | hk | hk
  · subst hk
    refine (startCount_any c w).mono ?_
    rintro e w' ⟨d, r, rfl, hd, hr, hc, hk⟩
    refine ⟨⟨d, r, none⟩, rfl, ?_, ⟨fun h => by omega, fun _ => hc⟩, hk⟩
    rintro i (⟨_, hi | hi | hi⟩ | ⟨h4, _⟩)
    · have : i = d := hi; omega
    · have : i = r := hi; omega
    · cases hi
    · omega
  · subst hk
    refine (startNothing_any c w).mono ?_
    rintro e w' ⟨rfl, hk⟩
    exact ⟨⟨0, 0, none⟩, rfl, by rintro i (⟨h, _⟩ | ⟨h, _⟩) <;> omega, ⟨fun h => by omega, fun h => by omega⟩, hk⟩
  · subst hk
    refine (startNothing_any c w).mono ?_
    rintro e w' ⟨rfl, hk⟩
    exact ⟨⟨0, 0, none⟩, rfl, by rintro i (⟨h, _⟩ | ⟨h, _⟩) <;> omega, ⟨fun h => by omega, fun h => by omega⟩, hk⟩
  · subst hk
    refine (startDecay_any c w).mono ?_
    rintro e w' ⟨d, rfl, hd, hb, hk⟩
    exact ⟨⟨d, 0, none⟩, rfl, fun i hi => by
      rcases hi with ⟨h, _⟩ | ⟨_, h⟩
      · omega
      · have : i = d := h; omega, ⟨fun _ => hb, fun h => by omega⟩, hk⟩
  · subst hk
    refine (startNothing_any c w).mono ?_
    rintro e w' ⟨rfl, hk⟩
    exact ⟨⟨0, 0, none⟩, rfl, by rintro i (⟨h, _⟩ | ⟨h, _⟩) <;> omega, ⟨fun h => by omega, fun h => by omega⟩, hk⟩

end Go.Proofs.YtjhaihbjhikhlaaGreat
