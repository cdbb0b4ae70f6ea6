import Derived.Test.YtjhaihbjhikhlaaGreatXS
namespace Go.Proofs.YtjhaihbjhikhlaaGreat
open Go.RowKit
attribute [local go_sem ↓] execOp_load38 execOp_load40
attribute [local go_sem] run_load38 run_load40 bigVal_drew hasBig_drew bigVal_ne hasBig_ne bigVal_alloc hasBig_alloc bigVal_new hasBig_newB

def newSer (id : Int) (c : Cfg) (k : Nat) : Ser := ⟨id, c, k, 0, 0, [0, 0, 0, 0, 0, 0, 0, 0, 0, 0, 0, 0], [], note0⟩

/-- The series' literal. -/
theorem build81 (id : Int) (c : Cfg) (f r s a q z : Value) (qb : Nat) (w : World) :
    (Instr.build 76 #[(0, .int .i64 id), (1, c.val), (2, .agg #[f, r, s]), (3, .agg #[a, q, z]), (4, .pointer (some ⟨qb, 0, none⟩))]).run Tryz.prog w =
    .ok (.agg (.int .i64 id :: c.vals [f, r, s, a, q, z, .pointer (some ⟨qb, 0, none⟩), .int .i64 0, .int .i64 0, .int .i64 0, .int .i64 0, .int .i64 0, .int .i64 0, .int .i64 0, .int .i64 0, .int .i64 0, .int .i64 0, .int .i64 0, .int .i64 0, .int .i64 0, .int .i64 0]).toArray) w := by kernel_rfl


def buildBig (ty : TypeId) (ps : Array (Nat × Value)) : Sem Next := do pure (.value (← Instr.build ty ps))
theorem execOp_build81 (ρ : Operand → Value) (dst : Option Tmp) (x : Array (Nat × Operand)) (ty : TypeId) (pos : String) (after : Array Edge) (guard : Option (Nat × Bool)) :
    execOp ρ { dst, op := .build 76 x, type := ty, pos, after, guard } = buildBig 76 (x.map fun (i, y) => (i, ρ y)) := rfl
theorem run_build81 (id : Int) (c : Cfg) (f r s a q z : Value) (qb : Nat) (w : World) :
    (buildBig 76 #[(0, .int .i64 id), (1, .agg c.cells.toArray), (2, .agg #[f, r, s]), (3, .agg #[a, q, z]), (4, .pointer (some ⟨qb, 0, none⟩))]).run Tryz.prog w =
    .ok (.value (.agg (.int .i64 id :: c.vals [f, r, s, a, q, z, .pointer (some ⟨qb, 0, none⟩), .int .i64 0, .int .i64 0, .int .i64 0, .int .i64 0, .int .i64 0, .int .i64 0, .int .i64 0, .int .i64 0, .int .i64 0, .int .i64 0, .int .i64 0, .int .i64 0, .int .i64 0, .int .i64 0]).toArray)) w := by
  unfold buildBig
  rw [Sem.run_bind]
  have := build81 id c f r s a q z qb w
  unfold Cfg.val at this
  unfold Cfg.cells
  rw [this]
  rfl
attribute [local go_sem ↓] execOp_build81
attribute [local go_sem] run_build81

set_option maxRecDepth 100000 in
set_option maxHeartbeats 4000000 in
theorem newSeries_any (id : Int) (c : Cfg) (k : Nat) (w : World) (h1 : 1 ≤ k) (h5 : k ≤ 5) :
    Calls Tryz.prog 33 #[.int .i64 id, c.val, .agg (kindCells k).toArray] w fun e w' => ∃ b, e = .returned (.pointer (some ⟨b.s, 0, none⟩)) ∧ SRep w' b (newSer id c k) ∧ (∀ i, b.foot k i → w.heap.size ≤ i) ∧ Keeps (fun _ => False) w w' := by
  have hown := own_start k h1 h5
  have HB := hide (show Blk ((w.alloc (.cells c.cells.toArray 33)).alloc (.cells (kindCells k).toArray 61)) w.heap.size c.cells 33 from (Blk.new w c.cells 33).alloc _)
  have HT := hide (show Blk ((w.alloc (.cells c.cells.toArray 33)).alloc (.cells (kindCells k).toArray 61)) (w.heap.size + 1) (kindCells k) 61 from Blk.newAt (by simp) _ _)
  have HK := hide (((Keeps.refl (fun _ => False) w).alloc (.cells c.cells.toArray 33)).alloc (.cells (kindCells k).toArray 61))
  have hex : ∃ W, W = ((w.alloc (.cells c.cells.toArray 33)).alloc (.cells (kindCells k).toArray 61)) := ⟨_, rfl⟩
  unfold Cfg.val kindCells fn
  go_enter Tryz.func33, Tryz.ntmps33
  go_wp2_with fail
  obtain ⟨W, hW⟩ := hex
  have e0 : (w.alloc (.cells #[.int .i64 c.kind, .int .i64 c.lag, .int .i64 c.skew, .int .i64 c.cap, .int .i64 c.k, .int .i64 c.window, .int .i64 c.bits, .int .i64 c.rows, .int .i64 c.width, .int .i64 c.panes, .int .i64 c.size, .int .i64 c.degree, .int .i64 c.half, .int .i64 c.mark, .int .i64 c.s00, .int .i64 c.s01, .int .i64 c.s10, .int .i64 c.s11, .int .i64 c.s20, .int .i64 c.s21] 33)).alloc (.cells #[.func (.func (fitsF k)) #[] #[], .func (.func (refuseF k)) #[] #[], .func (.func (startF k)) #[] #[]] 61) = W := hW.symm
  rw [e0]
  rw [← hW] at HB HT HK
  clear e0 hW
  generalize hcb : w.heap.size = cb at *
  have HCB := hide hcb
  clear hcb
  have hsz : cb + 1 < W.heap.size := (unhide HT).lt
  have hsz0 : cb < W.heap.size := (unhide HB).lt
  obtain ⟨hv, hh⟩ := bigVal_Blk (unhide HB) 20 rfl
  have t0 : W.cell? ⟨cb + 1, 0, none⟩ = some (.func (.func (fitsF k)) #[] #[]) := (unhide HT).cell rfl
  have t1 : W.cell? ⟨cb + 1, 1, none⟩ = some (.func (.func (refuseF k)) #[] #[]) := (unhide HT).cell rfl
  have t2 : W.cell? ⟨cb + 1, 2, none⟩ = some (.func (.func (startF k)) #[] #[]) := (unhide HT).cell rfl
  go_region_held3 (fun w' => bigVal w' cb 0 20 = .agg c.cells.toArray ∧ hasBig w' cb 0 20 = true ∧ w'.cell? ⟨cb + 1, 0, none⟩ = some (.func (.func (fitsF k)) #[] #[]) ∧ w'.cell? ⟨cb + 1, 1, none⟩ = some (.func (.func (refuseF k)) #[] #[]) ∧ w'.cell? ⟨cb + 1, 2, none⟩ = some (.func (.func (startF k)) #[] #[]))
    (first | (simp [*, bigVal_drew, hasBig_drew, bigVal_alloc, hasBig_alloc, World.cell?_alloc_some]; done) | (go_split_ands; exact ⟨(bigVal_keeps hk2 (fun h => h) (by have := hk1.size; simp at this; omega)).1.trans (by assumption), (bigVal_keeps hk2 (fun h => h) (by have := hk1.size; simp at this; omega)).2.trans (by assumption), hk2.cell (by assumption) (fun h => h), hk2.cell (by assumption) (fun h => h), hk2.cell (by assumption) (fun h => h)⟩) | (go_split_ands; exact ⟨(bigVal_keeps hk1 (fun h => h) (by simpa using hsz0)).1.trans (by assumption), (bigVal_keeps hk1 (fun h => h) (by simpa using hsz0)).2.trans (by assumption), hk1.cell (by assumption) (fun h => h), hk1.cell (by assumption) (fun h => h), hk1.cell (by assumption) (fun h => h)⟩))
    (first | (go_at_call 55; refine (new_any _).mono ?_; rintro e w2 ⟨rfl, hq2, hk2, hz2⟩) | (refine (start_any c k _ h1 h5).mono ?_; rintro e w1 ⟨nb, rfl, hd1, hn1, hk1⟩))
  go_wp2
  go_ret
  have hkw : Keeps (fun _ => False) w w1 := ((unhide HK).drew).then hk1
  have hs1 := hkw.size
  have hka : ∀ O, Keeps (fun _ => False) w2 (w2.alloc O) := fun O => (Keeps.refl (fun _ => False) w2).alloc O
  have hcb := unhide HCB
  have hn2 := hn1.still hk2
  have hz2 : w2.heap.size = w1.heap.size + 1 := hz2
  refine ⟨⟨w1.heap.size + 1, w1.heap.size, none, nb⟩, rfl, ⟨Blk.newAt hz2 (serCells ⟨w1.heap.size + 1, w1.heap.size, none, nb⟩ (newSer id c k)) 76, hq2.keeps (hka _) (fun h => h) (fun _ _ h => h), hn2.still (hka _), ?_, ?_, fun i hi => ⟨?_, ?_, ?_⟩⟩, ?_, (hkw.then hk2).alloc _⟩
  · show w1.heap.size + 1 ≠ w1.heap.size; omega
  · intro g hg; cases hg
  · have := hn1.lt i hi; show i ≠ w1.heap.size + 1; omega
  · have := hn1.lt i hi; show i ≠ w1.heap.size; omega
  · intro hg; cases hg
  · intro i hi
    rcases hi with hi | hi | hi | hi
    · have : i = w1.heap.size + 1 := hi
      omega
    · have : i = w1.heap.size := hi
      omega
    · cases hi
    · have h1 := hd1 i hi
      have h2 := (unhide HK).size
      rw [World.size_drew] at h1
      omega

end Go.Proofs.YtjhaihbjhikhlaaGreat

namespace Go.Proofs.YtjhaihbjhikhlaaGreat
open Go.RowKit
attribute [local go_sem ↓] execOp_load38 execOp_load40
attribute [local go_sem] run_load38 run_load40 bigVal_drew hasBig_drew bigVal_ne hasBig_ne bigVal_alloc hasBig_alloc bigVal_new hasBig_newB

/-- A step, as data. -/
structure OpM where
  kind : Int
  id : Int
  a : Int
  b : Int
  c : Int
  cfg : Cfg
  bytes : ByteArray
def OpM.cells (o : OpM) : List Value := .int .i64 o.kind :: .int .i64 o.id :: .int .i64 o.a :: .int .i64 o.b :: .int .i64 o.c :: o.cfg.vals [.string o.bytes]
def OpM.val (o : OpM) : Value := .agg o.cells.toArray

def noBytes : ByteArray := ⟨#[]⟩
def ansV (code : Int) (v : Value) : Value := .agg #[.int .i64 code, v, .string noBytes]

set_option maxHeartbeats 400000 in
theorem no_any (code : Int) (w : World) :
    Calls Tryz.prog 22 #[.int .i64 code] w fun e w' => e = .returned (ansV code (.slice none 0 0)) ∧ Keeps (fun _ => False) w w' := by
  go_enter Tryz.func22, Tryz.ntmps22
  go_wp2
  refine bodyPost_ret (v := ansV code (.slice none 0 0)) (by simp [results, Tryz.results22, go_sem, ansV]; rfl) rfl ⟨rfl, ?_⟩
  repeat (first | exact Keeps.refl _ _ | apply Keeps.alloc)

def ptrs (ps : List (SB × Ser)) : List Value := ps.map fun p => .pointer (some ⟨p.1.s, 0, none⟩)

/-- The engine lies in memory: its block e, its row of series v. -/
structure ERep (w : World) (e : Nat) (v : Value) (clock : Int) (ps : List (SB × Ser)) : Prop where
  blk : Blk w e [.int .i64 clock, v] 44
  row : w.ownsRow 0 55 1 v ps.length (ptrs ps)
  reps : ∀ p, p ∈ ps → SRep w p.1 p.2
  apart : ps.Pairwise (fun p q => ∀ i, p.1.foot p.2.k i → ¬ q.1.foot q.2.k i)
  ev : v.ownBlock ≠ some e
  ef : ∀ p, p ∈ ps → ∀ i, p.1.foot p.2.k i → i ≠ e ∧ v.ownBlock ≠ some i

def EFoot (e : Nat) (v : Value) (ps : List (SB × Ser)) (i : Nat) : Prop := i = e ∨ v.ownBlock = some i ∨ ∃ p, p ∈ ps ∧ p.1.foot p.2.k i

theorem row_cells {w : World} {v : Value} {n : Nat} {xs : List Value} (h : w.ownsRow 0 55 1 v n xs) : (n = 0 ∧ (v = .slice none 0 0 ∨ ∃ g cap, v = .slice (some ⟨g, 0, none⟩) 0 cap)) ∨ ∃ g cap, v = .slice (some ⟨g, 0, none⟩) n cap ∧ ∀ i u, xs[i]? = some u → w.cell? ⟨g, i, none⟩ = some u := by
  rcases h.2 with ⟨h1, h2⟩ | ⟨g, cap, cur, h1, _, h3, h4, h5, h6, h7⟩
  · exact .inl ⟨h2, .inl h1⟩
  · refine .inr ⟨g, cap, h1, fun i u hu => ?_⟩
    have hi : i < n := by have := (List.getElem?_eq_some_iff.1 hu).1; have := h.1; omega
    have : cur[i]? = some u := by
      rw [← h7] at hu
      rw [List.getElem?_take] at hu
      rw [if_pos (by omega)] at hu
      simpa using hu
    simp [World.cell?, h3, this]

def findP (ps : List (SB × Ser)) (id : Int) : Option (SB × Ser) := ps.find? (fun p => p.2.id == id)
def ptrOf : Option (SB × Ser) → Value
  | some p => .pointer (some ⟨p.1.s, 0, none⟩)
  | none => .pointer none

set_option maxRecDepth 100000 in
set_option maxHeartbeats 1000000 in
theorem find_any (e : Nat) (v : Value) (clock id : Int) (ps : List (SB × Ser)) (w : World) (h : ERep w e v clock ps) (hl : ps.length ≤ 1000) :
    Calls Tryz.prog 31 #[.pointer (some ⟨e, 0, none⟩), .int .i64 id] w fun r w' => r = .returned (ptrOf (findP ps id)) ∧ w' = w := by
  have hc1 : w.cell? ⟨e, 1, none⟩ = some v := h.blk.cell rfl
  rcases row_cells h.row with ⟨h0, hv⟩ | ⟨g, cap, hv, hcells⟩
  · have hps : ps = [] := List.length_eq_zero_iff.1 h0
    subst hps
    clear h h0
    rcases hv with hv | ⟨g, cap, hv⟩
    all_goals
      subst hv
      go_enter Tryz.func31, Tryz.ntmps31
      go_wp2
      go_loop [12] (fun i => i = .int .i64 0) (fun _ => 0)
      case atStart => rfl
      case round =>
        subst hrel
        go_wp2
        go_ret
        exact ⟨rfl, rfl⟩
  · subst hv
    have HC := hide hcells
    have HS := hide (show ∀ p, p ∈ ps → w.cell? ⟨p.1.s, 0, none⟩ = some (.int .i64 p.2.id) from fun p hp => (h.reps p hp).blk.cell rfl)
    clear h hcells
    generalize hn : ps.length = n at *
    have HN := hide hn
    clear hn
    go_enter Tryz.func31, Tryz.ntmps31
    go_wp2
    go_loop [12] (fun i => ∃ k : Nat, k ≤ n ∧ i = .int .i64 k ∧ Hid (findP ps id = findP (ps.drop k) id)) (fun i => n - (intOf i).toNat)
    case atStart => exact ⟨0, Nat.zero_le _, rfl, rfl⟩
    case round =>
      obtain ⟨k, hk, rfl, HE⟩ := hrel
      by_cases hlt : k < n
      · obtain ⟨p, hp⟩ : ∃ p, ps[k]? = some p := ⟨ps[k]'(by rw [unhide HN]; exact hlt), List.getElem?_eq_getElem _⟩
        have hd : ps.drop k = p :: ps.drop (k + 1) := by
          rw [List.drop_eq_getElem_cons (by rw [unhide HN]; exact hlt)]
          rw [List.getElem?_eq_getElem (by rw [unhide HN]; exact hlt)] at hp
          cases hp; rfl
        have hck : w.cell? ⟨g, k, none⟩ = some (.pointer (some ⟨p.1.s, 0, none⟩)) := unhide HC k _ (by unfold ptrs; rw [List.getElem?_map, hp]; rfl)
        have hid := unhide HS p (List.mem_of_getElem? hp)
        have hk0 : (0 : Int) ≤ (k : Int) := by omega
        have hkn : (k : Int) < (n : Int) := by omega
        cases hb : (p.2.id == id)
        · have HE' := hide (show findP ps id = findP (ps.drop (k + 1)) id by rw [unhide HE, hd]; unfold findP; rw [List.find?_cons]; rw [hb])
          clear hd hp
          go_wp2
          go_round
          case rel => exact ⟨k + 1, by omega, by go_num, HE'⟩
          case measure => simp [intOf]; omega
        · have HE' := hide (show findP ps id = some p by rw [unhide HE, hd]; unfold findP; rw [List.find?_cons]; rw [hb])
          clear hd hp
          go_wp2
          go_ret
          exact ⟨by rw [unhide HE']; rfl, rfl⟩
      · have HE' := hide (show findP ps id = none by rw [unhide HE, List.drop_eq_nil_of_le (by rw [unhide HN]; omega)]; rfl)
        go_wp2
        go_ret
        exact ⟨by rw [unhide HE']; rfl, rfl⟩

end Go.Proofs.YtjhaihbjhikhlaaGreat

namespace Go.Proofs.YtjhaihbjhikhlaaGreat
open Go.RowKit
attribute [local go_sem ↓] execOp_load38 execOp_load40
attribute [local go_sem] run_load38 run_load40 bigVal_drew hasBig_drew bigVal_ne hasBig_ne bigVal_alloc hasBig_alloc bigVal_new hasBig_newB

theorem ERep.lt {w : World} {e : Nat} {v : Value} {clock : Int} {ps : List (SB × Ser)} (h : ERep w e v clock ps) (i : Nat) (hi : EFoot e v ps i) : i < w.heap.size := by
  rcases hi with hi | hi | ⟨p, hp, hi⟩
  · subst hi; exact h.blk.lt
  · exact (h.row.lt i hi).2
  · exact (h.reps p hp).lt i hi
theorem owns_keeps {M : Nat → Prop} {w w' : World} {base : Nat} {t size : Nat} {v : Value} {n : Nat} {xs : List Value} (h : w.ownsRow base t size v n xs) (hk : Keeps M w w') (hn : ∀ i, v.ownBlock = some i → ¬ M i) : w'.ownsRow base t size v n xs := by
  refine ⟨h.1, ?_⟩
  rcases h.2 with h2 | ⟨g, cap, cur, rfl, hb, hg, r⟩
  · exact .inl h2
  · exact .inr ⟨g, cap, cur, rfl, hb, by rw [hk.block g (Array.getElem?_eq_some_iff.1 hg).1 (hn g rfl)]; exact hg, r⟩
theorem owns_base {w : World} {base base' : Nat} {t size : Nat} {v : Value} {n : Nat} {xs : List Value} (h : w.ownsRow base t size v n xs) (hb : base' ≤ base) : w.ownsRow base' t size v n xs := by
  refine ⟨h.1, ?_⟩
  rcases h.2 with h2 | ⟨g, cap, cur, rfl, hbb, r⟩
  · exact .inl h2
  · exact .inr ⟨g, cap, cur, rfl, Nat.le_trans hb hbb, r⟩
theorem ERep.keeps {M : Nat → Prop} {w w' : World} {e : Nat} {v : Value} {clock : Int} {ps : List (SB × Ser)} (h : ERep w e v clock ps) (hk : Keeps M w w') (hn : ∀ i, EFoot e v ps i → ¬ M i) : ERep w' e v clock ps :=
  ⟨h.blk.keeps hk (hn _ (.inl rfl)), owns_keeps h.row hk (fun i hi => hn i (.inr (.inl hi))), fun p hp => (h.reps p hp).keeps hk (fun i hi => hn i (.inr (.inr ⟨p, hp, hi⟩))), h.apart, h.ev, h.ef⟩
theorem ERep.still {w w' : World} {e : Nat} {v : Value} {clock : Int} {ps : List (SB × Ser)} (h : ERep w e v clock ps) (hk : Keeps (fun _ => False) w w') : ERep w' e v clock ps := h.keeps hk (fun _ _ h => h)

/-- What a step leaves. -/
def StepPost (w : World) (e : Nat) (v : Value) (ps : List (SB × Ser)) (clock' : Int) (xs' : List Ser) (code : Int) (nums : List Int) (r : Ending) (w' : World) : Prop :=
  ∃ nv v' ps', r = .returned (ansV code nv) ∧ ERep w' e v' clock' ps' ∧ ps'.map (·.2) = xs' ∧ w'.ownsRow w.heap.size 3 1 nv nums.length (ints nums) ∧ Keeps (EFoot e v ps) w w' ∧
    (∀ i, EFoot e v' ps' i → EFoot e v ps i ∨ w.heap.size ≤ i) ∧ (∀ i, nv.ownBlock = some i → ¬ EFoot e v' ps' i)

/-- A step that changes nothing. -/
theorem step_still {w w' : World} {e : Nat} {v : Value} {clock : Int} {ps : List (SB × Ser)} {code : Int} {nums : List Int} {nv : Value} (h : ERep w e v clock ps) (hk : Keeps (fun _ => False) w w') (hn : w'.ownsRow w.heap.size 3 1 nv nums.length (ints nums)) :
    StepPost w e v ps clock (ps.map (·.2)) code nums (.returned (ansV code nv)) w' := by
  refine ⟨nv, v, ps, rfl, h.still hk, rfl, hn, hk.mono (fun _ _ h => h.elim), fun i hi => .inl hi, fun i hi hf => ?_⟩
  have h1 := h.lt i hf
  have h2 := (hn.lt i hi).1
  omega

/-- What holds of the whole; n bounds the counts. -/
structure EInv (n : Int) (clock : Int) (xs : List Ser) : Prop where
  c0 : 0 ≤ clock
  c1 : clock ≤ 4611686018427387904
  six : xs.length ≤ 6
  sers : ∀ x, x ∈ xs → SInv n x

def resCells : List Value := [.int .i64 0, .slice none 0 0, .string noBytes]
theorem noBytes_def : (⟨#[]⟩ : ByteArray) = noBytes := rfl

set_option maxRecDepth 100000 in
set_option maxHeartbeats 2000000 in
theorem stats_no (n : Int) (e : Nat) (v : Value) (clock : Int) (ps : List (SB × Ser)) (o : OpM) (w : World) (h : ERep w e v clock ps) (hi : EInv n clock (ps.map (·.2))) (hf : findP ps o.id = none) :
    Calls Tryz.prog 21 #[.pointer (some ⟨e, 0, none⟩), o.val] w fun r w' => StepPost w e v ps clock (ps.map (·.2)) 2 [] r w' := by
  have h1 : o.cells[1]? = some (.int .i64 o.id) := rfl
  have HE := hide h
  have HI := hide hi
  have hl : ps.length ≤ 1000 := by have := hi.six; rw [List.length_map] at this; omega
  have HF := hide hf
  clear h hi hf
  unfold OpM.val
  go_enter Tryz.func21, Tryz.ntmps21
  go_wp2_with fail
  have hk0 : Keeps (fun _ => False) w ((w.alloc (.cells o.cells.toArray 35)).alloc (.cells #[.int .i64 0, .slice none 0 0, .string ⟨#[]⟩] 41)) := ((Keeps.refl (fun _ => False) w).alloc _).alloc _
  have HO0 := hide (show Blk ((w.alloc (.cells o.cells.toArray 35)).alloc (.cells #[.int .i64 0, .slice none 0 0, .string ⟨#[]⟩] 41)) w.heap.size o.cells 35 from (Blk.new w o.cells 35).alloc _)
  have HR0 := hide (show Blk ((w.alloc (.cells o.cells.toArray 35)).alloc (.cells #[.int .i64 0, .slice none 0 0, .string ⟨#[]⟩] 41)) (w.heap.size + 1) [.int .i64 0, .slice none 0 0, .string noBytes] 41 from Blk.newAt (by simp) [_, _, _] 41)
  have HE0 := hide ((unhide HE).still hk0)
  have HK0 := hide hk0
  clear hk0
  generalize (w.alloc (.cells o.cells.toArray 35)).alloc (.cells #[.int .i64 0, .slice none 0 0, .string ⟨#[]⟩] 41) = w0 at *
  have HLT := hide (show ∀ i, EFoot e v ps i → i < w.heap.size from (unhide HE).lt)
  generalize hob : w.heap.size = ob at *
  have HOB := hide hob
  clear hob
  have hsz0 : ob + 1 < w0.heap.size := (unhide HR0).lt
  refine (find_any e v clock o.id ps w0 (unhide HE0) hl).mono ?_
  rintro r w1 ⟨rfl, hw1⟩
  rw [hw1]
  clear hw1 w1
  rw [unhide HF]
  unfold ptrOf
  go_wp2_with fail
  refine (no_any 2 w0).mono ?_
  rintro r w1 ⟨rfl, hk1⟩
  unfold ansV
  have HR1 := hide ((unhide HR0).keeps hk1 (fun h => h))
  have HK1 := hide ((unhide HK0).then hk1)
  clear hk1
  have r0 : w1.cell? ⟨ob + 1, 0, none⟩ = some (.int .i64 0) := (unhide HR1).cell rfl
  have r1 : w1.cell? ⟨ob + 1, 1, none⟩ = some (.slice none 0 0) := (unhide HR1).cell rfl
  have r2 : w1.cell? ⟨ob + 1, 2, none⟩ = some (.string noBytes) := (unhide HR1).cell rfl
  have rf := (unhide HR1).frozen
  go_wp2
  have hbf := (((unhide HR1).setCell 0 (.int .i64 2)).setCell 1 (.slice none 0 0)).setCell 2 (.string noBytes)
  have HKF := hide ((((Keeps.refl (fun i => i = ob + 1) w1).setCell (p := ⟨ob + 1, 0, none⟩) (Or.inl rfl) (.int .i64 2)).setCell (p := ⟨ob + 1, 1, none⟩) (Or.inl rfl) (.slice none 0 0)).setCell (p := ⟨ob + 1, 2, none⟩) (Or.inl rfl) (.string noBytes))
  have e9 : (((w1.setCell ⟨ob + 1, 0, none⟩ (.int .i64 2)).setCell ⟨ob + 1, 1, none⟩ (.slice none 0 0)).setCell ⟨ob + 1, 2, none⟩ (.string ⟨#[]⟩)) = (((w1.setCell ⟨ob + 1, 0, none⟩ (.int .i64 2)).setCell ⟨ob + 1, 1, none⟩ (.slice none 0 0)).setCell ⟨ob + 1, 2, none⟩ (.string noBytes)) := rfl
  first | rw [e9] | skip
  generalize (((w1.setCell ⟨ob + 1, 0, none⟩ (.int .i64 2)).setCell ⟨ob + 1, 1, none⟩ (.slice none 0 0)).setCell ⟨ob + 1, 2, none⟩ (.string noBytes)) = w9 at *
  have q0 : w9.cell? ⟨ob + 1, 0, none⟩ = some (.int .i64 2) := hbf.cell rfl
  have q1 : w9.cell? ⟨ob + 1, 1, none⟩ = some (.slice none 0 0) := hbf.cell rfl
  have q2 : w9.cell? ⟨ob + 1, 2, none⟩ = some (.string noBytes) := hbf.cell rfl
  refine bodyPost_ret (v := ansV 2 (.slice none 0 0)) (by simp [results, Tryz.results21, go_sem, q0, q1, q2, ansV]) rfl ?_
  have hkf := unhide HKF
  have hob := unhide HOB
  have hkk : Keeps (fun _ => False) w w9 := (unhide HK1).trans hkf (fun i hi hlt => by omega)
  exact step_still (unhide HE) hkk (World.ownsRow_nil _ _ _ _)

set_option maxRecDepth 100000 in
set_option maxHeartbeats 2000000 in
theorem stats_yes (n : Int) (e : Nat) (v : Value) (clock : Int) (ps : List (SB × Ser)) (o : OpM) (w : World) (h : ERep w e v clock ps) (hi : EInv n clock (ps.map (·.2))) (p : SB × Ser) (hf : findP ps o.id = some p) :
    Calls Tryz.prog 21 #[.pointer (some ⟨e, 0, none⟩), o.val] w fun r w' => StepPost w e v ps clock (ps.map (·.2)) 0 (statsL p.2) r w' := by
  have hmem : p ∈ ps := List.mem_of_find?_eq_some hf
  have HM := hide hmem
  clear hmem
  have h1 : o.cells[1]? = some (.int .i64 o.id) := rfl
  have HE := hide h
  have HI := hide hi
  have hl : ps.length ≤ 1000 := by have := hi.six; rw [List.length_map] at this; omega
  have HF := hide hf
  clear h hi hf
  unfold OpM.val
  go_enter Tryz.func21, Tryz.ntmps21
  go_wp2_with fail
  have hk0 : Keeps (fun _ => False) w ((w.alloc (.cells o.cells.toArray 35)).alloc (.cells #[.int .i64 0, .slice none 0 0, .string ⟨#[]⟩] 41)) := ((Keeps.refl (fun _ => False) w).alloc _).alloc _
  have HO0 := hide (show Blk ((w.alloc (.cells o.cells.toArray 35)).alloc (.cells #[.int .i64 0, .slice none 0 0, .string ⟨#[]⟩] 41)) w.heap.size o.cells 35 from (Blk.new w o.cells 35).alloc _)
  have HR0 := hide (show Blk ((w.alloc (.cells o.cells.toArray 35)).alloc (.cells #[.int .i64 0, .slice none 0 0, .string ⟨#[]⟩] 41)) (w.heap.size + 1) [.int .i64 0, .slice none 0 0, .string noBytes] 41 from Blk.newAt (by simp) [_, _, _] 41)
  have HE0 := hide ((unhide HE).still hk0)
  have HK0 := hide hk0
  clear hk0
  generalize (w.alloc (.cells o.cells.toArray 35)).alloc (.cells #[.int .i64 0, .slice none 0 0, .string ⟨#[]⟩] 41) = w0 at *
  have HLT := hide (show ∀ i, EFoot e v ps i → i < w.heap.size from (unhide HE).lt)
  generalize hob : w.heap.size = ob at *
  have HOB := hide hob
  clear hob
  have hsz0 : ob + 1 < w0.heap.size := (unhide HR0).lt
  refine (find_any e v clock o.id ps w0 (unhide HE0) hl).mono ?_
  rintro r w1 ⟨rfl, hw1⟩
  rw [hw1]
  clear hw1 w1
  rw [unhide HF]
  unfold ptrOf
  go_wp2_with fail
  refine (serStats_any n p.1 p.2 w0 ((unhide HE0).reps p (unhide HM)) ((unhide HI).sers p.2 (List.mem_map_of_mem (unhide HM)))).mono ?_
  rintro r w1 ⟨nv, rfl, ho, hk1⟩
  obtain ⟨g, cap, hnv, hg1, hg2⟩ := ho.form (by omega)
  rw [hnv] at ho ⊢
  have HOW := hide ho
  have HR1 := hide ((unhide HR0).keeps hk1 (fun h => h))
  have HK1 := hide ((unhide HK0).then hk1)
  have HS0 := hide ((unhide HK0).size)
  clear hk1 ho hnv
  have r0 : w1.cell? ⟨ob + 1, 0, none⟩ = some (.int .i64 0) := (unhide HR1).cell rfl
  have r1 : w1.cell? ⟨ob + 1, 1, none⟩ = some (.slice none 0 0) := (unhide HR1).cell rfl
  have r2 : w1.cell? ⟨ob + 1, 2, none⟩ = some (.string noBytes) := (unhide HR1).cell rfl
  have rf := (unhide HR1).frozen
  go_wp2
  have hbf := (((unhide HR1).setCell 0 (.int .i64 0)).setCell 1 (.slice (some ⟨g, 0, none⟩) 9 cap)).setCell 2 (.string noBytes)
  have HKF := hide ((((Keeps.refl (fun i => i = ob + 1) w1).setCell (p := ⟨ob + 1, 0, none⟩) (Or.inl rfl) (.int .i64 0)).setCell (p := ⟨ob + 1, 1, none⟩) (Or.inl rfl) (.slice (some ⟨g, 0, none⟩) 9 cap)).setCell (p := ⟨ob + 1, 2, none⟩) (Or.inl rfl) (.string noBytes))
  have e9 : (((w1.setCell ⟨ob + 1, 0, none⟩ (.int .i64 0)).setCell ⟨ob + 1, 1, none⟩ (.slice (some ⟨g, 0, none⟩) 9 cap)).setCell ⟨ob + 1, 2, none⟩ (.string ⟨#[]⟩)) = (((w1.setCell ⟨ob + 1, 0, none⟩ (.int .i64 0)).setCell ⟨ob + 1, 1, none⟩ (.slice (some ⟨g, 0, none⟩) 9 cap)).setCell ⟨ob + 1, 2, none⟩ (.string noBytes)) := rfl
  first | rw [e9] | skip
  generalize (((w1.setCell ⟨ob + 1, 0, none⟩ (.int .i64 0)).setCell ⟨ob + 1, 1, none⟩ (.slice (some ⟨g, 0, none⟩) 9 cap)).setCell ⟨ob + 1, 2, none⟩ (.string noBytes)) = w9 at *
  have q0 : w9.cell? ⟨ob + 1, 0, none⟩ = some (.int .i64 0) := hbf.cell rfl
  have q1 : w9.cell? ⟨ob + 1, 1, none⟩ = some (.slice (some ⟨g, 0, none⟩) 9 cap) := hbf.cell rfl
  have q2 : w9.cell? ⟨ob + 1, 2, none⟩ = some (.string noBytes) := hbf.cell rfl
  refine bodyPost_ret (v := ansV 0 (.slice (some ⟨g, 0, none⟩) 9 cap)) (by simp [results, Tryz.results21, go_sem, q0, q1, q2, ansV]) rfl ?_
  have hkf := unhide HKF
  have hob := unhide HOB
  have hkk : Keeps (fun _ => False) w w9 := (unhide HK1).trans hkf (fun i hi hlt => by omega)
  exact step_still (unhide HE) hkk (owns_keeps (owns_base (unhide HOW) (unhide HS0)) hkf (fun i hi h => by have : g = i := by simpa [Value.ownBlock] using hi
                                                                                                           omega))

end Go.Proofs.YtjhaihbjhikhlaaGreat

namespace Go.Proofs.YtjhaihbjhikhlaaGreat
open Go.RowKit
attribute [local go_sem ↓] execOp_load38 execOp_load40
attribute [local go_sem] run_load38 run_load40 bigVal_drew hasBig_drew bigVal_ne hasBig_ne bigVal_alloc hasBig_alloc bigVal_new hasBig_newB

set_option maxRecDepth 100000 in
set_option maxHeartbeats 4000000 in
theorem query_none (n : Int) (e : Nat) (v : Value) (clock : Int) (ps : List (SB × Ser)) (o : OpM) (w : World) (h : ERep w e v clock ps) (hi : EInv n clock (ps.map (·.2))) (hf : findP ps o.id = none) :
    Calls Tryz.prog 20 #[.pointer (some ⟨e, 0, none⟩), o.val] w fun r w' => StepPost w e v ps clock (ps.map (·.2)) 2 [] r w' := by
  have h1 : o.cells[1]? = some (.int .i64 o.id) := rfl
  have HE := hide h
  have HI := hide hi
  have hl : ps.length ≤ 1000 := by have := hi.six; rw [List.length_map] at this; omega
  have HF := hide hf
  clear h hi hf
  unfold OpM.val
  go_enter Tryz.func20, Tryz.ntmps20
  go_wp2_with fail
  have hk0 : Keeps (fun _ => False) w ((w.alloc (.cells o.cells.toArray 35)).alloc (.cells #[.int .i64 0, .slice none 0 0, .string ⟨#[]⟩] 41)) := ((Keeps.refl (fun _ => False) w).alloc _).alloc _
  have HO0 := hide (show Blk ((w.alloc (.cells o.cells.toArray 35)).alloc (.cells #[.int .i64 0, .slice none 0 0, .string ⟨#[]⟩] 41)) w.heap.size o.cells 35 from (Blk.new w o.cells 35).alloc _)
  have HR0 := hide (show Blk ((w.alloc (.cells o.cells.toArray 35)).alloc (.cells #[.int .i64 0, .slice none 0 0, .string ⟨#[]⟩] 41)) (w.heap.size + 1) [.int .i64 0, .slice none 0 0, .string noBytes] 41 from Blk.newAt (by simp) [_, _, _] 41)
  have HE0 := hide ((unhide HE).still hk0)
  have HK0 := hide hk0
  clear hk0
  generalize (w.alloc (.cells o.cells.toArray 35)).alloc (.cells #[.int .i64 0, .slice none 0 0, .string ⟨#[]⟩] 41) = w0 at *
  have HLT := hide (show ∀ i, EFoot e v ps i → i < w.heap.size from (unhide HE).lt)
  generalize hob : w.heap.size = ob at *
  have HOB := hide hob
  clear hob
  have hsz0 : ob + 1 < w0.heap.size := (unhide HR0).lt
  refine (find_any e v clock o.id ps w0 (unhide HE0) hl).mono ?_
  rintro r w1 ⟨rfl, hw1⟩
  rw [hw1]
  clear hw1 w1
  rw [unhide HF]
  unfold ptrOf
  go_wp2_with fail
  refine (no_any 2 w0).mono ?_
  rintro r w1 ⟨rfl, hk1⟩
  unfold ansV
  have HR1 := hide ((unhide HR0).keeps hk1 (fun h => h))
  have HK1 := hide ((unhide HK0).then hk1)
  clear hk1
  have r0 : w1.cell? ⟨ob + 1, 0, none⟩ = some (.int .i64 0) := (unhide HR1).cell rfl
  have r1 : w1.cell? ⟨ob + 1, 1, none⟩ = some (.slice none 0 0) := (unhide HR1).cell rfl
  have r2 : w1.cell? ⟨ob + 1, 2, none⟩ = some (.string noBytes) := (unhide HR1).cell rfl
  have rf := (unhide HR1).frozen
  go_wp2
  have hbf := (((unhide HR1).setCell 0 (.int .i64 2)).setCell 1 (.slice none 0 0)).setCell 2 (.string noBytes)
  have HKF := hide ((((Keeps.refl (fun i => i = ob + 1) w1).setCell (p := ⟨ob + 1, 0, none⟩) (Or.inl rfl) (.int .i64 2)).setCell (p := ⟨ob + 1, 1, none⟩) (Or.inl rfl) (.slice none 0 0)).setCell (p := ⟨ob + 1, 2, none⟩) (Or.inl rfl) (.string noBytes))
  have e9 : (((w1.setCell ⟨ob + 1, 0, none⟩ (.int .i64 2)).setCell ⟨ob + 1, 1, none⟩ (.slice none 0 0)).setCell ⟨ob + 1, 2, none⟩ (.string ⟨#[]⟩)) = (((w1.setCell ⟨ob + 1, 0, none⟩ (.int .i64 2)).setCell ⟨ob + 1, 1, none⟩ (.slice none 0 0)).setCell ⟨ob + 1, 2, none⟩ (.string noBytes)) := rfl
  first | rw [e9] | skip
  generalize (((w1.setCell ⟨ob + 1, 0, none⟩ (.int .i64 2)).setCell ⟨ob + 1, 1, none⟩ (.slice none 0 0)).setCell ⟨ob + 1, 2, none⟩ (.string noBytes)) = w9 at *
  have q0 : w9.cell? ⟨ob + 1, 0, none⟩ = some (.int .i64 2) := hbf.cell rfl
  have q1 : w9.cell? ⟨ob + 1, 1, none⟩ = some (.slice none 0 0) := hbf.cell rfl
  have q2 : w9.cell? ⟨ob + 1, 2, none⟩ = some (.string noBytes) := hbf.cell rfl
  refine bodyPost_ret (v := ansV 2 (.slice none 0 0)) (by simp [results, Tryz.results20, go_sem, q0, q1, q2, ansV]) rfl ?_
  have hkf := unhide HKF
  have hob := unhide HOB
  have hkk : Keeps (fun _ => False) w w9 := (unhide HK1).trans hkf (fun i hi hlt => by omega)
  exact step_still (unhide HE) hkk (World.ownsRow_nil _ _ _ _)

theorem qryN_code (k : Nat) (c : Cfg) (nt : Note) (a m : Int) : (qryN k c nt a m).1 = 0 ∨ (qryN k c nt a m).2 = [] := by
  unfold qryN
  split
  · exact .inl rfl
  · split
    · split
      · exact .inl rfl
      · exact .inr rfl
    · exact .inr rfl

set_option maxRecDepth 100000 in
set_option maxHeartbeats 4000000 in
theorem query_some (n : Int) (e : Nat) (v : Value) (clock : Int) (ps : List (SB × Ser)) (o : OpM) (w : World) (h : ERep w e v clock ps) (hi : EInv n clock (ps.map (·.2))) (hn : n ≤ 4398046511104) (p : SB × Ser) (hf : findP ps o.id = some p) :
    Calls Tryz.prog 20 #[.pointer (some ⟨e, 0, none⟩), o.val] w fun r w' => StepPost w e v ps clock (ps.map (·.2)) (qryN p.2.k p.2.c p.2.nt o.a (clock - p.2.c.lag)).1 (qryN p.2.k p.2.c p.2.nt o.a (clock - p.2.c.lag)).2 r w' := by
  have hmem : p ∈ ps := List.mem_of_find?_eq_some hf
  have HM := hide hmem
  clear hmem
  have h1 : o.cells[1]? = some (.int .i64 o.id) := rfl
  have HE := hide h
  have HI := hide hi
  have hl : ps.length ≤ 1000 := by have := hi.six; rw [List.length_map] at this; omega
  have HF := hide hf
  clear h hi hf
  unfold OpM.val
  go_enter Tryz.func20, Tryz.ntmps20
  go_wp2_with fail
  have hk0 : Keeps (fun _ => False) w ((w.alloc (.cells o.cells.toArray 35)).alloc (.cells #[.int .i64 0, .slice none 0 0, .string ⟨#[]⟩] 41)) := ((Keeps.refl (fun _ => False) w).alloc _).alloc _
  have HO0 := hide (show Blk ((w.alloc (.cells o.cells.toArray 35)).alloc (.cells #[.int .i64 0, .slice none 0 0, .string ⟨#[]⟩] 41)) w.heap.size o.cells 35 from (Blk.new w o.cells 35).alloc _)
  have HR0 := hide (show Blk ((w.alloc (.cells o.cells.toArray 35)).alloc (.cells #[.int .i64 0, .slice none 0 0, .string ⟨#[]⟩] 41)) (w.heap.size + 1) [.int .i64 0, .slice none 0 0, .string noBytes] 41 from Blk.newAt (by simp) [_, _, _] 41)
  have HE0 := hide ((unhide HE).still hk0)
  have HK0 := hide hk0
  clear hk0
  generalize (w.alloc (.cells o.cells.toArray 35)).alloc (.cells #[.int .i64 0, .slice none 0 0, .string ⟨#[]⟩] 41) = w0 at *
  have HLT := hide (show ∀ i, EFoot e v ps i → i < w.heap.size from (unhide HE).lt)
  generalize hob : w.heap.size = ob at *
  have HOB := hide hob
  clear hob
  have hsz0 : ob + 1 < w0.heap.size := (unhide HR0).lt
  refine (find_any e v clock o.id ps w0 (unhide HE0) hl).mono ?_
  rintro r w1 ⟨rfl, hw1⟩
  rw [hw1]
  clear hw1 w1
  rw [unhide HF]
  unfold ptrOf
  have HS0 := hide ((unhide HE0).reps p (unhide HM))
  have HSI := hide ((unhide HI).sers p.2 (List.mem_map_of_mem (unhide HM)))
  obtain ⟨l0, l1, s0, s1, p1, p8⟩ := (unhide HSI).common
  have cl0 := (unhide HI).c0
  have cl1 := (unhide HI).c1
  have hc25 : w0.cell? ⟨p.1.s, 25, none⟩ = some (.func (.func (qryF p.2.k)) (capsN p.2.k p.1.n.d) #[]) := (unhide HS0).blk.cell rfl
  have hc2 : w0.cell? ⟨p.1.s, 2, none⟩ = some (.int .i64 p.2.c.lag) := (unhide HS0).blk.cell rfl
  have hce : w0.cell? ⟨e, 0, none⟩ = some (.int .i64 clock) := (unhide HE0).blk.cell rfl
  have hoa : w0.cell? ⟨ob, 2, none⟩ = some (.int .i64 o.a) := (unhide HO0).cell rfl
  have hown := own_qry p.2.k (unhide HSI).k1 (unhide HSI).k5
  have HRL := hide (show p.2.rel ≤ 4398046511104 by have h1 := (unhide HSI).rela; have h2 := (unhide HSI).accn; omega)
  go_wp2_with fail
  go_region_held3 (fun w' => w'.cell? ⟨p.1.s, 25, none⟩ = some (.func (.func (qryF p.2.k)) (capsN p.2.k p.1.n.d) #[]) ∧ w'.cell? ⟨p.1.s, 2, none⟩ = some (.int .i64 p.2.c.lag) ∧ w'.cell? ⟨e, 0, none⟩ = some (.int .i64 clock) ∧ w'.cell? ⟨ob, 2, none⟩ = some (.int .i64 o.a))
    (first | (simp [*]; done) | (go_split_ands; exact ⟨hk1.cell (by assumption) (fun h => h), hk1.cell (by assumption) (fun h => h), hk1.cell (by assumption) (fun h => h), hk1.cell (by assumption) (fun h => h)⟩))
    (first | (go_at_call 38; refine (wm_any p.1.s p.2.c.lag clock _ (by go_keep) l0 l1 cl0 cl1).mono ?_; rintro e w' ⟨rfl, rfl⟩) | (refine (qry_any (rel := p.2.rel) p.2.k p.1.n p.2.c p.2.nt o.a (clock - p.2.c.lag) _ _ (by first | rfl | simp) (by exact (unhide HS0).note.still (Keeps.refl _ _).drew) (unhide HSI).note (unhide HRL) (unhide HSI).valid (unhide HSI).kind (unhide HSI).k1 (unhide HSI).k5 (by omega) (by omega)).mono ?_; rintro e w1 ⟨og, nn, cp, rfl, hnum, hk1⟩))
  have hk0d : Keeps (fun _ => False) w0 w1 := ((Keeps.refl (fun _ => False) w0).drew).then hk1
  have HR1 := hide ((unhide HR0).keeps hk0d (fun h => h))
  have HK1 := hide ((unhide HK0).then hk0d)
  have HSZ := hide ((unhide HK0).size)
  have HNUM := hide (show NumsAt w1 w0.heap.size (.slice og nn cp) (qryN p.2.k p.2.c p.2.nt o.a (clock - p.2.c.lag)).2 from hnum)
  have HCD := hide (qryN_code p.2.k p.2.c p.2.nt o.a (clock - p.2.c.lag))
  clear hc25 hc2 hce hoa HR0 HK0 HE0 HO0 HS0 hk1 hnum hk0d hown
  generalize hnm : (qryN p.2.k p.2.c p.2.nt o.a (clock - p.2.c.lag)).2 = nums at *
  generalize hco : (qryN p.2.k p.2.c p.2.nt o.a (clock - p.2.c.lag)).1 = code at *
  have HNM := hide hnm
  have HCO := hide hco
  clear hnm hco
  by_cases hcode : code = 0
  · subst hcode
    have r0 : w1.cell? ⟨ob + 1, 0, none⟩ = some (.int .i64 0) := (unhide HR1).cell rfl
    have r1 : w1.cell? ⟨ob + 1, 1, none⟩ = some (.slice none 0 0) := (unhide HR1).cell rfl
    have r2 : w1.cell? ⟨ob + 1, 2, none⟩ = some (.string noBytes) := (unhide HR1).cell rfl
    have rf := (unhide HR1).frozen
    go_wp2
    have hbf := (((unhide HR1).setCell 0 (.int .i64 0)).setCell 1 (.slice og nn cp)).setCell 2 (.string noBytes)
    have HKF := hide ((((Keeps.refl (fun i => i = ob + 1) w1).setCell (p := ⟨ob + 1, 0, none⟩) (Or.inl rfl) (.int .i64 0)).setCell (p := ⟨ob + 1, 1, none⟩) (Or.inl rfl) (.slice og nn cp)).setCell (p := ⟨ob + 1, 2, none⟩) (Or.inl rfl) (.string noBytes))
    have e9 : (((w1.setCell ⟨ob + 1, 0, none⟩ (.int .i64 0)).setCell ⟨ob + 1, 1, none⟩ (.slice og nn cp)).setCell ⟨ob + 1, 2, none⟩ (.string ⟨#[]⟩)) = (((w1.setCell ⟨ob + 1, 0, none⟩ (.int .i64 0)).setCell ⟨ob + 1, 1, none⟩ (.slice og nn cp)).setCell ⟨ob + 1, 2, none⟩ (.string noBytes)) := rfl
    first | rw [e9] | skip
    generalize (((w1.setCell ⟨ob + 1, 0, none⟩ (.int .i64 0)).setCell ⟨ob + 1, 1, none⟩ (.slice og nn cp)).setCell ⟨ob + 1, 2, none⟩ (.string noBytes)) = w9 at *
    have q0 : w9.cell? ⟨ob + 1, 0, none⟩ = some (.int .i64 0) := hbf.cell rfl
    have q1 : w9.cell? ⟨ob + 1, 1, none⟩ = some (.slice og nn cp) := hbf.cell rfl
    have q2 : w9.cell? ⟨ob + 1, 2, none⟩ = some (.string noBytes) := hbf.cell rfl
    refine bodyPost_ret (v := ansV 0 (.slice og nn cp)) (by simp [results, Tryz.results20, go_sem, q0, q1, q2, ansV]) rfl ?_
    have hkf := unhide HKF
    have hob := unhide HOB
    have hkk : Keeps (fun _ => False) w w9 := (unhide HK1).trans hkf (fun i hi hlt => by omega)
    rw [unhide HNM, unhide HCO]
    exact step_still (unhide HE) hkk (owns_base (owns_keeps (unhide HNUM) hkf (fun i hi h => by
      rcases (unhide HNUM).2 with ⟨h1, _⟩ | ⟨g, _, _, h1, h2, _⟩
      · rw [h1] at hi; cases hi
      · rw [h1] at hi
        have : g = i := by simpa [Value.ownBlock] using hi
        have := unhide HSZ
        omega)) (by have := unhide HSZ; omega))
  · have hne : (code != 0) = true := by simpa using hcode
    have HNN := hide (show nums = [] from (unhide HCD).resolve_left hcode)
    clear hcode
    go_wp2_with fail
    refine (no_any code w1).mono ?_
    rintro r w2 ⟨rfl, hk2⟩
    unfold ansV
    have HR2 := hide ((unhide HR1).keeps hk2 (fun h => h))
    have HK2 := hide ((unhide HK1).then hk2)
    clear hk2 HR1 HK1
    have r0 : w2.cell? ⟨ob + 1, 0, none⟩ = some (.int .i64 0) := (unhide HR2).cell rfl
    have r1 : w2.cell? ⟨ob + 1, 1, none⟩ = some (.slice none 0 0) := (unhide HR2).cell rfl
    have r2 : w2.cell? ⟨ob + 1, 2, none⟩ = some (.string noBytes) := (unhide HR2).cell rfl
    have rf := (unhide HR2).frozen
    go_wp2
    have hbf := (((unhide HR2).setCell 0 (.int .i64 code)).setCell 1 (.slice none 0 0)).setCell 2 (.string noBytes)
    have HKF := hide ((((Keeps.refl (fun i => i = ob + 1) w2).setCell (p := ⟨ob + 1, 0, none⟩) (Or.inl rfl) (.int .i64 code)).setCell (p := ⟨ob + 1, 1, none⟩) (Or.inl rfl) (.slice none 0 0)).setCell (p := ⟨ob + 1, 2, none⟩) (Or.inl rfl) (.string noBytes))
    have e9 : (((w2.setCell ⟨ob + 1, 0, none⟩ (.int .i64 code)).setCell ⟨ob + 1, 1, none⟩ (.slice none 0 0)).setCell ⟨ob + 1, 2, none⟩ (.string ⟨#[]⟩)) = (((w2.setCell ⟨ob + 1, 0, none⟩ (.int .i64 code)).setCell ⟨ob + 1, 1, none⟩ (.slice none 0 0)).setCell ⟨ob + 1, 2, none⟩ (.string noBytes)) := rfl
    first | rw [e9] | skip
    generalize (((w2.setCell ⟨ob + 1, 0, none⟩ (.int .i64 code)).setCell ⟨ob + 1, 1, none⟩ (.slice none 0 0)).setCell ⟨ob + 1, 2, none⟩ (.string noBytes)) = w9 at *
    have q0 : w9.cell? ⟨ob + 1, 0, none⟩ = some (.int .i64 code) := hbf.cell rfl
    have q1 : w9.cell? ⟨ob + 1, 1, none⟩ = some (.slice none 0 0) := hbf.cell rfl
    have q2 : w9.cell? ⟨ob + 1, 2, none⟩ = some (.string noBytes) := hbf.cell rfl
    refine bodyPost_ret (v := ansV code (.slice none 0 0)) (by simp [results, Tryz.results20, go_sem, q0, q1, q2, ansV]) rfl ?_
    have hkf := unhide HKF
    have hob := unhide HOB
    have hkk : Keeps (fun _ => False) w w9 := (unhide HK2).trans hkf (fun i hi hlt => by omega)
    rw [unhide HNM, unhide HCO, unhide HNN]
    exact step_still (unhide HE) hkk (World.ownsRow_nil _ _ _ _)

end Go.Proofs.YtjhaihbjhikhlaaGreat

namespace Go.Proofs.YtjhaihbjhikhlaaGreat
open Go.RowKit

theorem ptrs_append (a b : List (SB × Ser)) : ptrs (a ++ b) = ptrs a ++ ptrs b := by simp [ptrs]

/-- One series has turned. -/
theorem ERep.one {w w' : World} {e : Nat} {v : Value} {clock : Int} {l1 l2 : List (SB × Ser)} {p : SB × Ser} {b' : SB} {x' : Ser} (h : ERep w e v clock (l1 ++ p :: l2)) (hk : Keeps (p.1.foot p.2.k) w w')
    (hs : SRep w' b' x') (hx : x'.k = p.2.k) (hn : p.1.next b' p.2.k w.heap.size) : ERep w' e v clock (l1 ++ (b', x') :: l2) := by
  have hmem : p ∈ l1 ++ p :: l2 := by simp
  have hap := List.pairwise_append.1 h.apart
  have hap2 := List.pairwise_cons.1 hap.2.1
  have hoth : ∀ q, q ∈ l1 ∨ q ∈ l2 → q ∈ l1 ++ p :: l2 ∧ ∀ i, q.1.foot q.2.k i → ¬ p.1.foot p.2.k i := by
    intro q hq
    rcases hq with hq | hq
    · exact ⟨by simp [hq], fun i hi hp => hap.2.2 q hq p (by simp) i hi hp⟩
    · exact ⟨by simp [hq], fun i hi hp => hap2.1 q hq i hp hi⟩
  have hnew : ∀ q, q ∈ l1 ∨ q ∈ l2 → ∀ i, b'.foot x'.k i → ¬ q.1.foot q.2.k i := by
    intro q hq i hi hqi
    obtain ⟨hm, hd⟩ := hoth q hq
    rw [hx] at hi
    rcases hn.2 i hi with hf | hf
    · exact hd i hqi hf
    · have := (h.reps q hm).lt i hqi; omega
  have hrow : w'.ownsRow 0 55 1 v (l1 ++ p :: l2).length (ptrs (l1 ++ p :: l2)) := owns_keeps h.row hk (fun i hi hf => (h.ef p hmem i hf).2 hi)
  have hptr : ptrs (l1 ++ (b', x') :: l2) = ptrs (l1 ++ p :: l2) := by
    simp only [ptrs, List.map_append, List.map_cons]
    rw [hn.1]
  refine ⟨h.blk.keeps hk (fun hf => (h.ef p hmem e hf).1 rfl), ?_, ?_, ?_, h.ev, ?_⟩
  · rw [hptr, show (l1 ++ (b', x') :: l2).length = (l1 ++ p :: l2).length by simp]; exact hrow
  · intro q hq
    rcases List.mem_append.1 hq with hq | hq
    · exact (h.reps q (hoth q (.inl hq)).1).keeps hk (hoth q (.inl hq)).2
    · rcases List.mem_cons.1 hq with hq | hq
      · subst hq; exact hs
      · exact (h.reps q (hoth q (.inr hq)).1).keeps hk (hoth q (.inr hq)).2
  · refine List.pairwise_append.2 ⟨hap.1, List.pairwise_cons.2 ⟨fun q hq i hi => hnew q (.inr hq) i hi, hap2.2⟩, ?_⟩
    intro q hq r hr i hi
    rcases List.mem_cons.1 hr with hr | hr
    · subst hr; exact fun hf => hnew q (.inl hq) i hf hi
    · exact hap.2.2 q hq r (by simp [hr]) i hi
  · intro q hq i hi
    rcases List.mem_append.1 hq with hq | hq
    · exact h.ef q (hoth q (.inl hq)).1 i hi
    · rcases List.mem_cons.1 hq with hq | hq
      · subst hq
        have hi' : b'.foot p.2.k i := by rw [← hx]; exact hi
        rcases hn.2 i hi' with hf | hf
        · exact h.ef p hmem i hf
        · have h1 := h.lt e (.inl rfl)
          refine ⟨by omega, fun hv => ?_⟩
          have := h.lt i (.inr (.inl hv))
          omega
      · exact h.ef q (hoth q (.inr hq)).1 i hi
theorem EFoot.one {w : World} {e : Nat} {v : Value} {l1 l2 : List (SB × Ser)} {p : SB × Ser} {b' : SB} {x' : Ser} (hx : x'.k = p.2.k) (hn : p.1.next b' p.2.k w.heap.size) (i : Nat) (hi : EFoot e v (l1 ++ (b', x') :: l2) i) :
    EFoot e v (l1 ++ p :: l2) i ∨ w.heap.size ≤ i := by
  rcases hi with hi | hi | ⟨q, hq, hi⟩
  · exact .inl (.inl hi)
  · exact .inl (.inr (.inl hi))
  · rcases List.mem_append.1 hq with hq | hq
    · exact .inl (.inr (.inr ⟨q, by simp [hq], hi⟩))
    · rcases List.mem_cons.1 hq with hq | hq
      · subst hq
        have hi' : b'.foot p.2.k i := by rw [← hx]; exact hi
        rcases hn.2 i hi' with hf | hf
        · exact .inl (.inr (.inr ⟨p, by simp, hf⟩))
        · exact .inr hf
      · exact .inl (.inr (.inr ⟨q, by simp [hq], hi⟩))

def updS : List Ser → Int → Ser → List Ser
  | [], _, _ => []
  | x :: r, id, y => if x.id == id then y :: r else x :: updS r id y
def findS (xs : List Ser) (id : Int) : Option Ser := xs.find? (fun x => x.id == id)
theorem findP_some {ps : List (SB × Ser)} {id : Int} {p : SB × Ser} (h : findP ps id = some p) : ∃ l1 l2, ps = l1 ++ p :: l2 ∧ ∀ y : Ser, updS (ps.map (·.2)) id y = l1.map (·.2) ++ y :: l2.map (·.2) := by
  obtain ⟨hp, l1, l2, he, hn⟩ := List.find?_eq_some_iff_append.1 h
  refine ⟨l1, l2, he, fun y => ?_⟩
  subst he
  clear h
  induction l1 with
  | nil => simp [updS, hp]
  | cons a l ih =>
    have ha : (a.2.id == id) = false := by simpa using hn a (by simp)
    simp only [List.cons_append, List.map_cons, updS, ha]
    rw [ih (fun b hb => hn b (by simp [hb]))]
    rfl
theorem findP_findS (ps : List (SB × Ser)) (id : Int) : findS (ps.map (·.2)) id = (findP ps id).map (·.2) := by
  unfold findS findP
  induction ps with
  | nil => rfl
  | cons a l ih =>
    simp only [List.map_cons, List.find?_cons]
    cases (a.2.id == id) with
    | true => rfl
    | false => exact ih

/-- A refusal is counted. -/
def refS (x : Ser) (c : Nat) : Ser := { x with ref := x.ref.set c (refAt x.ref c + 1) }
theorem refS_cells (b : SB) (x : Ser) (c : Nat) (u : Int) : (serCells b x).set (30 + c) (.int .i64 u) = serCells b { x with ref := x.ref.set c u } := by
  have h1 : (serCells b x).set (30 + c) (.int .i64 u) = .int .i64 x.id :: x.c.vals (fn (fitsF x.k) :: fn (refuseF x.k) :: fn (startF x.k) :: relV x.k b.n.d :: qryV x.k b.n.d :: swpV x.k b.n.d :: .pointer (some ⟨b.q, 0, none⟩) :: .int .i64 x.acc :: .int .i64 x.rel :: (x.ref.map (.int .i64 ·)).set c (.int .i64 u)) := by
    rw [Nat.add_comm]; rfl
  rw [h1]
  unfold serCells
  simp only
  rw [List.map_set]
theorem refS_inv {n : Int} {x : Ser} (h : SInv n x) (c : Nat) (hn : ∀ v, v ∈ x.ref → v < n) (hc : c < 12) : SInv n (refS x c) := by
  have hl := h.reflen
  have hm : refAt x.ref c ∈ x.ref := by unfold refAt; rw [List.getD_eq_getElem?_getD, List.getElem?_eq_getElem (by omega)]; exact List.getElem_mem _
  refine ⟨h.valid, h.kind, h.k1, h.k5, h.acc0, h.accn, h.rel0, h.rela, by simp [refS, hl], ?_, h.cap, h.times, h.note⟩
  intro v hv
  rcases List.mem_or_eq_of_mem_set hv with hv | hv
  · exact h.refn v hv
  · subst hv
    have h1 := h.refn _ hm
    have h2 := hn _ hm
    omega
theorem refE_range (x : Ser) (clock : Int) (y : It) : 0 ≤ refE x clock y ∧ refE x clock y ≤ 11 := by
  have hk : 0 ≤ kindE x.c x.k y ∧ kindE x.c x.k y ≤ 11 := by
    unfold kindE keyE weightE drawnE
    repeat (first | omega | split)
  unfold refE
  repeat (first | omega | split)

end Go.Proofs.YtjhaihbjhikhlaaGreat

namespace Go.Proofs.YtjhaihbjhikhlaaGreat
open Go.RowKit
attribute [local go_sem ↓] execOp_load38 execOp_load40
attribute [local go_sem] run_load38 run_load40 bigVal_drew hasBig_drew bigVal_ne hasBig_ne bigVal_alloc hasBig_alloc bigVal_new hasBig_newB

def OpM.item (o : OpM) : It := ⟨o.a, o.b, o.c, 0⟩

set_option maxRecDepth 100000 in
set_option maxHeartbeats 4000000 in
theorem add_none (n : Int) (e : Nat) (v : Value) (clock : Int) (ps : List (SB × Ser)) (o : OpM) (w : World) (h : ERep w e v clock ps) (hi : EInv n clock (ps.map (·.2))) (hf : findP ps o.id = none) :
    Calls Tryz.prog 18 #[.pointer (some ⟨e, 0, none⟩), o.val] w fun r w' => StepPost w e v ps clock (ps.map (·.2)) 2 [] r w' := by
  have h1 : o.cells[1]? = some (.int .i64 o.id) := rfl
  have HE := hide h
  have HI := hide hi
  have hl : ps.length ≤ 1000 := by have := hi.six; rw [List.length_map] at this; omega
  have HF := hide hf
  clear h hi hf
  unfold OpM.val
  go_enter Tryz.func18, Tryz.ntmps18
  go_wp2_with fail
  have hk0 : Keeps (fun _ => False) w ((w.alloc (.cells o.cells.toArray 35)).alloc (.cells #[.int .i64 0, .slice none 0 0, .string ⟨#[]⟩] 41)) := ((Keeps.refl (fun _ => False) w).alloc _).alloc _
  have HO0 := hide (show Blk ((w.alloc (.cells o.cells.toArray 35)).alloc (.cells #[.int .i64 0, .slice none 0 0, .string ⟨#[]⟩] 41)) w.heap.size o.cells 35 from (Blk.new w o.cells 35).alloc _)
  have HR0 := hide (show Blk ((w.alloc (.cells o.cells.toArray 35)).alloc (.cells #[.int .i64 0, .slice none 0 0, .string ⟨#[]⟩] 41)) (w.heap.size + 1) [.int .i64 0, .slice none 0 0, .string noBytes] 41 from Blk.newAt (by simp) [_, _, _] 41)
  have HE0 := hide ((unhide HE).still hk0)
  have HK0 := hide hk0
  clear hk0
  generalize (w.alloc (.cells o.cells.toArray 35)).alloc (.cells #[.int .i64 0, .slice none 0 0, .string ⟨#[]⟩] 41) = w0 at *
  have HLT := hide (show ∀ i, EFoot e v ps i → i < w.heap.size from (unhide HE).lt)
  generalize hob : w.heap.size = ob at *
  have HOB := hide hob
  clear hob
  have hsz0 : ob + 1 < w0.heap.size := (unhide HR0).lt
  refine (find_any e v clock o.id ps w0 (unhide HE0) hl).mono ?_
  rintro r w1 ⟨rfl, hw1⟩
  rw [hw1]
  clear hw1 w1
  rw [unhide HF]
  unfold ptrOf
  go_wp2_with fail
  refine (no_any 2 w0).mono ?_
  rintro r w1 ⟨rfl, hk1⟩
  unfold ansV
  have HR1 := hide ((unhide HR0).keeps hk1 (fun h => h))
  have HK1 := hide ((unhide HK0).then hk1)
  clear hk1
  have r0 : w1.cell? ⟨ob + 1, 0, none⟩ = some (.int .i64 0) := (unhide HR1).cell rfl
  have r1 : w1.cell? ⟨ob + 1, 1, none⟩ = some (.slice none 0 0) := (unhide HR1).cell rfl
  have r2 : w1.cell? ⟨ob + 1, 2, none⟩ = some (.string noBytes) := (unhide HR1).cell rfl
  have rf := (unhide HR1).frozen
  go_wp2
  have hbf := (((unhide HR1).setCell 0 (.int .i64 2)).setCell 1 (.slice none 0 0)).setCell 2 (.string noBytes)
  have HKF := hide ((((Keeps.refl (fun i => i = ob + 1) w1).setCell (p := ⟨ob + 1, 0, none⟩) (Or.inl rfl) (.int .i64 2)).setCell (p := ⟨ob + 1, 1, none⟩) (Or.inl rfl) (.slice none 0 0)).setCell (p := ⟨ob + 1, 2, none⟩) (Or.inl rfl) (.string noBytes))
  have e9 : (((w1.setCell ⟨ob + 1, 0, none⟩ (.int .i64 2)).setCell ⟨ob + 1, 1, none⟩ (.slice none 0 0)).setCell ⟨ob + 1, 2, none⟩ (.string ⟨#[]⟩)) = (((w1.setCell ⟨ob + 1, 0, none⟩ (.int .i64 2)).setCell ⟨ob + 1, 1, none⟩ (.slice none 0 0)).setCell ⟨ob + 1, 2, none⟩ (.string noBytes)) := rfl
  first | rw [e9] | skip
  generalize (((w1.setCell ⟨ob + 1, 0, none⟩ (.int .i64 2)).setCell ⟨ob + 1, 1, none⟩ (.slice none 0 0)).setCell ⟨ob + 1, 2, none⟩ (.string noBytes)) = w9 at *
  have q0 : w9.cell? ⟨ob + 1, 0, none⟩ = some (.int .i64 2) := hbf.cell rfl
  have q1 : w9.cell? ⟨ob + 1, 1, none⟩ = some (.slice none 0 0) := hbf.cell rfl
  have q2 : w9.cell? ⟨ob + 1, 2, none⟩ = some (.string noBytes) := hbf.cell rfl
  refine bodyPost_ret (v := ansV 2 (.slice none 0 0)) (by simp [results, Tryz.results18, go_sem, q0, q1, q2, ansV]) rfl ?_
  have hkf := unhide HKF
  have hob := unhide HOB
  have hkk : Keeps (fun _ => False) w w9 := (unhide HK1).trans hkf (fun i hi hlt => by omega)
  exact step_still (unhide HE) hkk (World.ownsRow_nil _ _ _ _)

set_option maxRecDepth 100000 in
set_option maxHeartbeats 4000000 in
theorem add_yes (n : Int) (e : Nat) (v : Value) (clock : Int) (ps : List (SB × Ser)) (o : OpM) (w : World) (h : ERep w e v clock ps) (hi : EInv n clock (ps.map (·.2))) (p : SB × Ser) (hf : findP ps o.id = some p) (hc : refE p.2 clock o.item = 0) (hn : n ≤ 1152921504606846976) :
    Calls Tryz.prog 18 #[.pointer (some ⟨e, 0, none⟩), o.val] w fun r w' => StepPost w e v ps clock (updS (ps.map (·.2)) o.id (accS p.2 o.item)) 0 [p.2.acc + 1] r w' := by
  have hmem : p ∈ ps := List.mem_of_find?_eq_some hf
  have HM := hide hmem
  have HC := hide (show refE p.2 clock ⟨o.a, o.b, o.c, 0⟩ = 0 from hc)
  clear hmem hc
  have h1 : o.cells[1]? = some (.int .i64 o.id) := rfl
  have HE := hide h
  have HI := hide hi
  have hl : ps.length ≤ 1000 := by have := hi.six; rw [List.length_map] at this; omega
  have HF := hide hf
  clear h hi hf
  unfold OpM.val
  go_enter Tryz.func18, Tryz.ntmps18
  go_wp2_with fail
  have hk0 : Keeps (fun _ => False) w ((w.alloc (.cells o.cells.toArray 35)).alloc (.cells #[.int .i64 0, .slice none 0 0, .string ⟨#[]⟩] 41)) := ((Keeps.refl (fun _ => False) w).alloc _).alloc _
  have HO0 := hide (show Blk ((w.alloc (.cells o.cells.toArray 35)).alloc (.cells #[.int .i64 0, .slice none 0 0, .string ⟨#[]⟩] 41)) w.heap.size o.cells 35 from (Blk.new w o.cells 35).alloc _)
  have HR0 := hide (show Blk ((w.alloc (.cells o.cells.toArray 35)).alloc (.cells #[.int .i64 0, .slice none 0 0, .string ⟨#[]⟩] 41)) (w.heap.size + 1) [.int .i64 0, .slice none 0 0, .string noBytes] 41 from Blk.newAt (by simp) [_, _, _] 41)
  have HE0 := hide ((unhide HE).still hk0)
  have HK0 := hide hk0
  clear hk0
  generalize (w.alloc (.cells o.cells.toArray 35)).alloc (.cells #[.int .i64 0, .slice none 0 0, .string ⟨#[]⟩] 41) = w0 at *
  have HLT := hide (show ∀ i, EFoot e v ps i → i < w.heap.size from (unhide HE).lt)
  generalize hob : w.heap.size = ob at *
  have HOB := hide hob
  clear hob
  have hsz0 : ob + 1 < w0.heap.size := (unhide HR0).lt
  refine (find_any e v clock o.id ps w0 (unhide HE0) hl).mono ?_
  rintro r w1 ⟨rfl, hw1⟩
  rw [hw1]
  clear hw1 w1
  rw [unhide HF]
  unfold ptrOf
  have HS0 := hide ((unhide HE0).reps p (unhide HM))
  have HSI := hide ((unhide HI).sers p.2 (List.mem_map_of_mem (unhide HM)))
  have cl0 := (unhide HI).c0
  have cl1 := (unhide HI).c1
  have hoa : w0.cell? ⟨ob, 2, none⟩ = some (.int .i64 o.a) := (unhide HO0).cell rfl
  have hobb : w0.cell? ⟨ob, 3, none⟩ = some (.int .i64 o.b) := (unhide HO0).cell rfl
  have hoc : w0.cell? ⟨ob, 4, none⟩ = some (.int .i64 o.c) := (unhide HO0).cell rfl
  go_wp2_with fail
  have hkx : Keeps (fun _ => False) w0 (w0.alloc (.cells #[.int .i64 o.a, .int .i64 o.b, .int .i64 o.c, .int .i64 0] 66)) := (Keeps.refl (fun _ => False) w0).alloc _
  have HX1 := hide (Blk.new w0 [.int .i64 o.a, .int .i64 o.b, .int .i64 o.c, .int .i64 0] 66)
  have HE1 := hide ((unhide HE0).still hkx)
  have HS1 := hide ((unhide HS0).still hkx)
  have HR1 := hide ((unhide HR0).keeps hkx (fun h => h))
  have HK1 := hide ((unhide HK0).then hkx)
  clear hkx HE0 HS0 HR0 HK0 HO0 hoa hobb hoc
  generalize w0.alloc (.cells #[.int .i64 o.a, .int .i64 o.b, .int .i64 o.c, .int .i64 0] 66) = w1 at *
  generalize hxb : w0.heap.size = xb at *
  clear hxb
  have hx0 : w1.cell? ⟨xb, 0, none⟩ = some (.int .i64 o.a) := (unhide HX1).cell rfl
  have hx1 : w1.cell? ⟨xb, 1, none⟩ = some (.int .i64 o.b) := (unhide HX1).cell rfl
  have hx2 : w1.cell? ⟨xb, 2, none⟩ = some (.int .i64 o.c) := (unhide HX1).cell rfl
  have hx3 : w1.cell? ⟨xb, 3, none⟩ = some (.int .i64 0) := (unhide HX1).cell rfl
  have hce : w1.cell? ⟨e, 0, none⟩ = some (.int .i64 clock) := (unhide HE1).blk.cell rfl
  go_region_held3 (fun w' => w'.cell? ⟨e, 0, none⟩ = some (.int .i64 clock) ∧ w'.cell? ⟨xb, 0, none⟩ = some (.int .i64 o.a) ∧ w'.cell? ⟨xb, 1, none⟩ = some (.int .i64 o.b) ∧ w'.cell? ⟨xb, 2, none⟩ = some (.int .i64 o.c) ∧ w'.cell? ⟨xb, 3, none⟩ = some (.int .i64 0))
    (first | (simp [*]; done) | (go_split_ands; exact ⟨hk2.cell (by assumption) (fun h => h), hk2.cell (by assumption) (fun h => h), hk2.cell (by assumption) (fun h => h), hk2.cell (by assumption) (fun h => h), hk2.cell (by assumption) (fun h => h)⟩))
    (first | (go_at_call 34; refine (refusal_any n p.1 p.2 ⟨o.a, o.b, o.c, 0⟩ clock _ (by exact (unhide HS1).still ((Keeps.refl (fun _ => False) w1).drew)) (unhide HSI) cl0 cl1).mono ?_; rintro r w2 ⟨rfl, hk2⟩))
  have hk2d : Keeps (fun _ => False) w1 w2 := ((Keeps.refl (fun _ => False) w1).drew).then hk2
  have HX2 := hide ((unhide HX1).keeps hk2d (fun h => h))
  have HE2 := hide ((unhide HE1).still hk2d)
  have HS2 := hide ((unhide HS1).still hk2d)
  have HR2 := hide ((unhide HR1).keeps hk2d (fun h => h))
  have HK2 := hide ((unhide HK1).then hk2d)
  clear hk2 hk2d HX1 HE1 HS1 HR1 HK1 hx0 hx1 hx2 hx3 hce
  rw [unhide HC]
  have hx0 : w2.cell? ⟨xb, 0, none⟩ = some (.int .i64 o.a) := (unhide HX2).cell rfl
  have hx1 : w2.cell? ⟨xb, 1, none⟩ = some (.int .i64 o.b) := (unhide HX2).cell rfl
  have hx2 : w2.cell? ⟨xb, 2, none⟩ = some (.int .i64 o.c) := (unhide HX2).cell rfl
  have hx3 : w2.cell? ⟨xb, 3, none⟩ = some (.int .i64 0) := (unhide HX2).cell rfl
  go_wp2_with fail
  refine (accept_any n p.1 p.2 ⟨o.a, o.b, o.c, 0⟩ w2 (unhide HS2) (unhide HSI) (by omega)).mono ?_
  rintro r w3 ⟨rfl, b', hs3, hn3, hk3⟩
  have hpf : ∀ i, p.1.foot p.2.k i → i < ob := fun i hi => unhide HLT i (.inr (.inr ⟨p, unhide HM, hi⟩))
  have HR3 := hide ((unhide HR2).keeps hk3 (fun h => by have := hpf _ h; omega))
  have HS3 := hide hs3
  have HN3 := hide hn3
  have HK3 := hide hk3
  have hsz2 : ob ≤ w2.heap.size := by have h1 := (unhide HK2).size; have h2 := unhide HOB; omega
  have hsz2' : ob + 1 < w2.heap.size := (unhide HR2).lt
  have hsz3 : w2.heap.size ≤ w3.heap.size := hk3.size
  have hr3 : ob + 1 < w3.heap.size := (unhide HR3).lt
  have r0 : w3.cell? ⟨ob + 1, 0, none⟩ = some (.int .i64 0) := (unhide HR3).cell rfl
  have r1 : w3.cell? ⟨ob + 1, 1, none⟩ = some (.slice none 0 0) := (unhide HR3).cell rfl
  have r2 : w3.cell? ⟨ob + 1, 2, none⟩ = some (.string noBytes) := (unhide HR3).cell rfl
  have rf := (unhide HR3).frozen
  have hrn : ob + 1 ≠ w3.heap.size := by omega
  have HPF := hide hpf
  clear hs3 hn3 hk3 hpf hx0 hx1 hx2 hx3 HX2
  go_wp2
  have hbf := ((((unhide HR3).setCell 0 (.int .i64 0)).setCell 1 (.slice (some ⟨w3.heap.size, 0, none⟩) 1 1)).setCell 2 (.string noBytes)).alloc (.cells #[.int .i64 (p.2.acc + 1)] 3)
  have hkF : Keeps (fun i => i = ob + 1) w3 ((((w3.setCell ⟨ob + 1, 0, none⟩ (.int .i64 0)).setCell ⟨ob + 1, 1, none⟩ (.slice (some ⟨w3.heap.size, 0, none⟩) 1 1)).setCell ⟨ob + 1, 2, none⟩ (.string noBytes)).alloc (.cells #[.int .i64 (p.2.acc + 1)] 3)) :=
    ((((Keeps.refl (fun i => i = ob + 1) w3).setCell (p := ⟨ob + 1, 0, none⟩) (Or.inl rfl) _).setCell (p := ⟨ob + 1, 1, none⟩) (Or.inl rfl) _).setCell (p := ⟨ob + 1, 2, none⟩) (Or.inl rfl) _).alloc _
  have hbn : Blk ((((w3.setCell ⟨ob + 1, 0, none⟩ (.int .i64 0)).setCell ⟨ob + 1, 1, none⟩ (.slice (some ⟨w3.heap.size, 0, none⟩) 1 1)).setCell ⟨ob + 1, 2, none⟩ (.string noBytes)).alloc (.cells #[.int .i64 (p.2.acc + 1)] 3)) w3.heap.size [.int .i64 (p.2.acc + 1)] 3 := Blk.newAt (by simp) [_] 3
  have e9 : ((((w3.setCell ⟨ob + 1, 0, none⟩ (.int .i64 0)).setCell ⟨ob + 1, 1, none⟩ (.slice (some ⟨w3.heap.size, 0, none⟩) 1 1)).setCell ⟨ob + 1, 2, none⟩ (.string ⟨#[]⟩)).alloc (.cells #[.int .i64 (p.2.acc + 1)] 3)) = ((((w3.setCell ⟨ob + 1, 0, none⟩ (.int .i64 0)).setCell ⟨ob + 1, 1, none⟩ (.slice (some ⟨w3.heap.size, 0, none⟩) 1 1)).setCell ⟨ob + 1, 2, none⟩ (.string noBytes)).alloc (.cells #[.int .i64 (p.2.acc + 1)] 3)) := rfl
  rw [e9]
  clear e9
  generalize ((((w3.setCell ⟨ob + 1, 0, none⟩ (.int .i64 0)).setCell ⟨ob + 1, 1, none⟩ (.slice (some ⟨w3.heap.size, 0, none⟩) 1 1)).setCell ⟨ob + 1, 2, none⟩ (.string noBytes)).alloc (.cells #[.int .i64 (p.2.acc + 1)] 3)) = w9 at *
  have q0 : w9.cell? ⟨ob + 1, 0, none⟩ = some (.int .i64 0) := hbf.cell rfl
  have q1 : w9.cell? ⟨ob + 1, 1, none⟩ = some (.slice (some ⟨w3.heap.size, 0, none⟩) 1 1) := hbf.cell rfl
  have q2 : w9.cell? ⟨ob + 1, 2, none⟩ = some (.string noBytes) := hbf.cell rfl
  refine bodyPost_ret (v := ansV 0 (.slice (some ⟨w3.heap.size, 0, none⟩) 1 1)) (by simp [results, Tryz.results18, go_sem, q0, q1, q2, ansV]) rfl ?_
  obtain ⟨l1, l2, hps, hupd⟩ := findP_some (unhide HF)
  have hob := unhide HOB
  have hE2 := unhide HE2
  have hLT := unhide HLT
  have hK2 := unhide HK2
  have hPF := unhide HPF
  rw [hupd]
  subst hps
  have hE3 : ERep w3 e v clock (l1 ++ (b', accS p.2 ⟨o.a, o.b, o.c, 0⟩) :: l2) := hE2.one (unhide HK3) (unhide HS3) rfl (unhide HN3)
  have hF3 : ∀ i, EFoot e v (l1 ++ (b', accS p.2 ⟨o.a, o.b, o.c, 0⟩) :: l2) i → EFoot e v (l1 ++ p :: l2) i ∨ w2.heap.size ≤ i := fun i hi => EFoot.one (w := w2) (x' := accS p.2 ⟨o.a, o.b, o.c, 0⟩) rfl (unhide HN3) i hi
  refine ⟨.slice (some ⟨w3.heap.size, 0, none⟩) 1 1, v, l1 ++ (b', accS p.2 ⟨o.a, o.b, o.c, 0⟩) :: l2, rfl, hE3.keeps hkF (fun i hi h => ?_), ?_, ⟨rfl, .inr ⟨w3.heap.size, 1, _, rfl, by omega, hbn, by simp, by unfold maxLen; omega, rfl, rfl⟩⟩, ?_, ?_, ?_⟩
  · rcases hF3 i hi with h1 | h1
    · have := hLT i h1; omega
    · omega
  · simp only [List.map_append, List.map_cons]; rfl
  · refine ((hK2.mono (M' := EFoot e v (l1 ++ p :: l2)) (fun _ _ h => h.elim)).trans (unhide HK3) (fun i hi _ => .inr (.inr ⟨p, by simp, hi⟩))).trans hkF (fun i hi hlt => ?_)
    omega
  · intro i hi
    rcases hF3 i hi with h1 | h1
    · exact .inl h1
    · exact .inr (by omega)
  · intro i hi hf
    have h1 : w3.heap.size = i := by simpa [Value.ownBlock] using hi
    have h2 := hE3.lt i hf
    omega

end Go.Proofs.YtjhaihbjhikhlaaGreat

namespace Go.Proofs.YtjhaihbjhikhlaaGreat
open Go.RowKit
attribute [local go_sem ↓] execOp_load38 execOp_load40
attribute [local go_sem] run_load38 run_load40 bigVal_drew hasBig_drew bigVal_ne hasBig_ne bigVal_alloc hasBig_alloc bigVal_new hasBig_newB

set_option maxRecDepth 100000 in
set_option maxHeartbeats 4000000 in
theorem add_no (n : Int) (e : Nat) (v : Value) (clock : Int) (ps : List (SB × Ser)) (o : OpM) (w : World) (h : ERep w e v clock ps) (hi : EInv n clock (ps.map (·.2))) (p : SB × Ser) (cd : Nat) (hf : findP ps o.id = some p) (hc : refE p.2 clock o.item = cd) (hc0 : cd ≠ 0) (hn : n ≤ 1152921504606846976) :
    Calls Tryz.prog 18 #[.pointer (some ⟨e, 0, none⟩), o.val] w fun r w' => StepPost w e v ps clock (updS (ps.map (·.2)) o.id (refS p.2 cd)) cd [] r w' := by
  have hmem : p ∈ ps := List.mem_of_find?_eq_some hf
  have HM := hide hmem
  have HC := hide (show refE p.2 clock ⟨o.a, o.b, o.c, 0⟩ = cd from hc)
  have hc12 : cd < 12 := by have := (refE_range p.2 clock o.item).2; rw [hc] at this; omega
  clear hmem hc
  have h1 : o.cells[1]? = some (.int .i64 o.id) := rfl
  have HE := hide h
  have HI := hide hi
  have hl : ps.length ≤ 1000 := by have := hi.six; rw [List.length_map] at this; omega
  have HF := hide hf
  clear h hi hf
  unfold OpM.val
  go_enter Tryz.func18, Tryz.ntmps18
  go_wp2_with fail
  have hk0 : Keeps (fun _ => False) w ((w.alloc (.cells o.cells.toArray 35)).alloc (.cells #[.int .i64 0, .slice none 0 0, .string ⟨#[]⟩] 41)) := ((Keeps.refl (fun _ => False) w).alloc _).alloc _
  have HO0 := hide (show Blk ((w.alloc (.cells o.cells.toArray 35)).alloc (.cells #[.int .i64 0, .slice none 0 0, .string ⟨#[]⟩] 41)) w.heap.size o.cells 35 from (Blk.new w o.cells 35).alloc _)
  have HR0 := hide (show Blk ((w.alloc (.cells o.cells.toArray 35)).alloc (.cells #[.int .i64 0, .slice none 0 0, .string ⟨#[]⟩] 41)) (w.heap.size + 1) [.int .i64 0, .slice none 0 0, .string noBytes] 41 from Blk.newAt (by simp) [_, _, _] 41)
  have HE0 := hide ((unhide HE).still hk0)
  have HK0 := hide hk0
  clear hk0
  generalize (w.alloc (.cells o.cells.toArray 35)).alloc (.cells #[.int .i64 0, .slice none 0 0, .string ⟨#[]⟩] 41) = w0 at *
  have HLT := hide (show ∀ i, EFoot e v ps i → i < w.heap.size from (unhide HE).lt)
  generalize hob : w.heap.size = ob at *
  have HOB := hide hob
  clear hob
  have hsz0 : ob + 1 < w0.heap.size := (unhide HR0).lt
  refine (find_any e v clock o.id ps w0 (unhide HE0) hl).mono ?_
  rintro r w1 ⟨rfl, hw1⟩
  rw [hw1]
  clear hw1 w1
  rw [unhide HF]
  unfold ptrOf
  have HS0 := hide ((unhide HE0).reps p (unhide HM))
  have HSI := hide ((unhide HI).sers p.2 (List.mem_map_of_mem (unhide HM)))
  have cl0 := (unhide HI).c0
  have cl1 := (unhide HI).c1
  have hoa : w0.cell? ⟨ob, 2, none⟩ = some (.int .i64 o.a) := (unhide HO0).cell rfl
  have hobb : w0.cell? ⟨ob, 3, none⟩ = some (.int .i64 o.b) := (unhide HO0).cell rfl
  have hoc : w0.cell? ⟨ob, 4, none⟩ = some (.int .i64 o.c) := (unhide HO0).cell rfl
  go_wp2_with fail
  have hkx : Keeps (fun _ => False) w0 (w0.alloc (.cells #[.int .i64 o.a, .int .i64 o.b, .int .i64 o.c, .int .i64 0] 66)) := (Keeps.refl (fun _ => False) w0).alloc _
  have HX1 := hide (Blk.new w0 [.int .i64 o.a, .int .i64 o.b, .int .i64 o.c, .int .i64 0] 66)
  have HE1 := hide ((unhide HE0).still hkx)
  have HS1 := hide ((unhide HS0).still hkx)
  have HR1 := hide ((unhide HR0).keeps hkx (fun h => h))
  have HK1 := hide ((unhide HK0).then hkx)
  clear hkx HE0 HS0 HR0 HK0 HO0 hoa hobb hoc
  generalize w0.alloc (.cells #[.int .i64 o.a, .int .i64 o.b, .int .i64 o.c, .int .i64 0] 66) = w1 at *
  generalize hxb : w0.heap.size = xb at *
  clear hxb
  have hx0 : w1.cell? ⟨xb, 0, none⟩ = some (.int .i64 o.a) := (unhide HX1).cell rfl
  have hx1 : w1.cell? ⟨xb, 1, none⟩ = some (.int .i64 o.b) := (unhide HX1).cell rfl
  have hx2 : w1.cell? ⟨xb, 2, none⟩ = some (.int .i64 o.c) := (unhide HX1).cell rfl
  have hx3 : w1.cell? ⟨xb, 3, none⟩ = some (.int .i64 0) := (unhide HX1).cell rfl
  have hce : w1.cell? ⟨e, 0, none⟩ = some (.int .i64 clock) := (unhide HE1).blk.cell rfl
  go_region_held3 (fun w' => w'.cell? ⟨e, 0, none⟩ = some (.int .i64 clock) ∧ w'.cell? ⟨xb, 0, none⟩ = some (.int .i64 o.a) ∧ w'.cell? ⟨xb, 1, none⟩ = some (.int .i64 o.b) ∧ w'.cell? ⟨xb, 2, none⟩ = some (.int .i64 o.c) ∧ w'.cell? ⟨xb, 3, none⟩ = some (.int .i64 0))
    (first | (simp [*]; done) | (go_split_ands; exact ⟨hk2.cell (by assumption) (fun h => h), hk2.cell (by assumption) (fun h => h), hk2.cell (by assumption) (fun h => h), hk2.cell (by assumption) (fun h => h), hk2.cell (by assumption) (fun h => h)⟩))
    (first | (go_at_call 34; refine (refusal_any n p.1 p.2 ⟨o.a, o.b, o.c, 0⟩ clock _ (by exact (unhide HS1).still ((Keeps.refl (fun _ => False) w1).drew)) (unhide HSI) cl0 cl1).mono ?_; rintro r w2 ⟨rfl, hk2⟩))
  have hk2d : Keeps (fun _ => False) w1 w2 := ((Keeps.refl (fun _ => False) w1).drew).then hk2
  have HX2 := hide ((unhide HX1).keeps hk2d (fun h => h))
  have HE2 := hide ((unhide HE1).still hk2d)
  have HS2 := hide ((unhide HS1).still hk2d)
  have HR2 := hide ((unhide HR1).keeps hk2d (fun h => h))
  have HK2 := hide ((unhide HK1).then hk2d)
  clear hk2 hk2d HX1 HE1 HS1 HR1 HK1 hx0 hx1 hx2 hx3 hce
  rw [unhide HC]
  have hce := ser_ref p.1 p.2 (unhide HSI).reflen cd hc12
  have hcr : w2.cell? ⟨p.1.s, 30 + cd, none⟩ = some (.int .i64 (refAt p.2.ref cd)) := (unhide HS2).blk.cell hce
  have hfs := (unhide HS2).blk.frozen
  have hrb : 0 ≤ refAt p.2.ref cd ∧ refAt p.2.ref cd ≤ n := (unhide HSI).refn _ (by unfold refAt; rw [List.getD_eq_getElem?_getD, List.getElem?_eq_getElem (by have := (unhide HSI).reflen; omega)]; exact List.getElem_mem _)
  have hwr : IntKind.i64.wrap (refAt p.2.ref cd + 1) = refAt p.2.ref cd + 1 := wrap_in (by omega) (by omega)
  have hne : ((cd : Int) != 0) = true := by simp; omega
  have hi0 : (0 : Int) ≤ (cd : Int) := by omega
  have hi12 : (cd : Int) < 12 := by omega
  clear hce
  go_wp2_with fail
  go_region
  have hks : Keeps (p.1.foot p.2.k) w2 (w2.setCell ⟨p.1.s, 30 + cd, none⟩ (.int .i64 (refAt p.2.ref cd + 1))).drew := ((Keeps.refl (p.1.foot p.2.k) w2).setCell (p := ⟨p.1.s, 30 + cd, none⟩) (Or.inl (.inl rfl)) _).drew
  have hpf : ∀ i, p.1.foot p.2.k i → i < ob := fun i hi => unhide HLT i (.inr (.inr ⟨p, unhide HM, hi⟩))
  have HR3 := hide ((unhide HR2).keeps hks (fun h => by have := hpf _ h; omega))
  have HS3 := hide (show SRep (w2.setCell ⟨p.1.s, 30 + cd, none⟩ (.int .i64 (refAt p.2.ref cd + 1))).drew p.1 (refS p.2 cd) from by
    have hs := unhide HS2
    have hk1 : Keeps (fun i => i = p.1.s) w2 (w2.setCell ⟨p.1.s, 30 + cd, none⟩ (.int .i64 (refAt p.2.ref cd + 1))).drew := ((Keeps.refl (fun i => i = p.1.s) w2).setCell (p := ⟨p.1.s, 30 + cd, none⟩) (Or.inl rfl) _).drew
    refine ⟨?_, hs.que.keeps hk1 (fun h => hs.sq h.symm) (fun g hg h => hs.sg g hg h.symm), hs.note.keeps hk1 (fun i hi h => (hs.sn i hi).1 h), hs.sq, hs.sg, hs.sn⟩
    have := (hs.blk.setCell (30 + cd) (.int .i64 (refAt p.2.ref cd + 1))).drew
    rw [refS_cells] at this
    exact this)
  have HKS := hide hks
  have hsz2 : ob + 1 < w2.heap.size := (unhide HR2).lt
  clear hks hpf hcr hfs hwr
  generalize (w2.setCell ⟨p.1.s, 30 + cd, none⟩ (.int .i64 (refAt p.2.ref cd + 1))).drew = w3 at *
  go_wp2_with fail
  refine (no_any cd w3).mono ?_
  rintro r w4 ⟨rfl, hk4⟩
  unfold ansV
  have HR4 := hide ((unhide HR3).keeps hk4 (fun h => h))
  have HK34 := hide hk4
  clear hk4
  have r0 : w4.cell? ⟨ob + 1, 0, none⟩ = some (.int .i64 0) := (unhide HR4).cell rfl
  have r1 : w4.cell? ⟨ob + 1, 1, none⟩ = some (.slice none 0 0) := (unhide HR4).cell rfl
  have r2 : w4.cell? ⟨ob + 1, 2, none⟩ = some (.string noBytes) := (unhide HR4).cell rfl
  have rf := (unhide HR4).frozen
  go_wp2
  have hbf := (((unhide HR4).setCell 0 (.int .i64 cd)).setCell 1 (.slice none 0 0)).setCell 2 (.string noBytes)
  have HKF := hide ((((Keeps.refl (fun i => i = ob + 1) w4).setCell (p := ⟨ob + 1, 0, none⟩) (Or.inl rfl) (.int .i64 cd)).setCell (p := ⟨ob + 1, 1, none⟩) (Or.inl rfl) (.slice none 0 0)).setCell (p := ⟨ob + 1, 2, none⟩) (Or.inl rfl) (.string noBytes))
  have e9 : (((w4.setCell ⟨ob + 1, 0, none⟩ (.int .i64 cd)).setCell ⟨ob + 1, 1, none⟩ (.slice none 0 0)).setCell ⟨ob + 1, 2, none⟩ (.string ⟨#[]⟩)) = (((w4.setCell ⟨ob + 1, 0, none⟩ (.int .i64 cd)).setCell ⟨ob + 1, 1, none⟩ (.slice none 0 0)).setCell ⟨ob + 1, 2, none⟩ (.string noBytes)) := rfl
  first | rw [e9] | skip
  generalize (((w4.setCell ⟨ob + 1, 0, none⟩ (.int .i64 cd)).setCell ⟨ob + 1, 1, none⟩ (.slice none 0 0)).setCell ⟨ob + 1, 2, none⟩ (.string noBytes)) = w9 at *
  have q0 : w9.cell? ⟨ob + 1, 0, none⟩ = some (.int .i64 cd) := hbf.cell rfl
  have q1 : w9.cell? ⟨ob + 1, 1, none⟩ = some (.slice none 0 0) := hbf.cell rfl
  have q2 : w9.cell? ⟨ob + 1, 2, none⟩ = some (.string noBytes) := hbf.cell rfl
  refine bodyPost_ret (v := ansV cd (.slice none 0 0)) (by simp [results, Tryz.results18, go_sem, q0, q1, q2, ansV]) rfl ?_
  have hkf := unhide HKF
  have hob := unhide HOB
  obtain ⟨l1, l2, hps, hupd⟩ := findP_some (unhide HF)
  have hE2 := unhide HE2
  have hLT := unhide HLT
  have hK2 := unhide HK2
  rw [hupd]
  subst hps
  have hN : p.1.next p.1 p.2.k w2.heap.size := ⟨rfl, fun _ h => .inl h⟩
  have hE3 : ERep w3 e v clock (l1 ++ (p.1, refS p.2 cd) :: l2) := hE2.one (unhide HKS) (unhide HS3) rfl hN
  have hE4 := hE3.still (unhide HK34)
  have hF3 : ∀ i, EFoot e v (l1 ++ (p.1, refS p.2 cd) :: l2) i → EFoot e v (l1 ++ p :: l2) i ∨ w2.heap.size ≤ i := fun i hi => EFoot.one (w := w2) (x' := refS p.2 cd) rfl hN i hi
  refine ⟨.slice none 0 0, v, l1 ++ (p.1, refS p.2 cd) :: l2, rfl, hE4.keeps hkf (fun i hi h => ?_), ?_, World.ownsRow_nil _ _ _ _, ?_, ?_, ?_⟩
  · rcases hF3 i hi with h1 | h1
    · have := hLT i h1; omega
    · omega
  · simp only [List.map_append, List.map_cons]
  · refine (((hK2.mono (M' := EFoot e v (l1 ++ p :: l2)) (fun _ _ h => h.elim)).trans (unhide HKS) (fun i hi _ => .inr (.inr ⟨p, by simp, hi⟩))).trans (unhide HK34) (fun _ h _ => h.elim)).trans hkf (fun i hi hlt => ?_)
    omega
  · intro i hi
    rcases hF3 i hi with h1 | h1
    · exact .inl h1
    · exact .inr (by omega)
  · intro i hi hf
    simp [Value.ownBlock] at hi

end Go.Proofs.YtjhaihbjhikhlaaGreat
