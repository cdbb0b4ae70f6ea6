import Derived.Test.YtahnliehdjncdaaGreatDoorXBF
set_option maxRecDepth 100000
set_option maxHeartbeats 16000000
namespace Go.Proofs.YtahnliehdjncdaaGreatDoor
open Go.RowKit
attribute [local go_sem ↓] execOp_load38 execOp_load40
attribute [local go_sem] run_load38 run_load40 bigVal_drew hasBig_drew bigVal_ne hasBig_ne bigVal_alloc hasBig_alloc bigVal_new hasBig_newB
def newSer (id : Int) (c : Cfg) (k : Nat) : Ser := ⟨id, c, k, 0, 0, [0, 0, 0, 0, 0, 0, 0, 0, 0, 0, 0, 0], [], note0, 0⟩
theorem build81 (id : Int) (c : Cfg) (f n p r k s a q z v l : Value) (qb : Nat) (w : World) :
  (Instr.build 104 #[(0, .int .i64 id), (1, c.val), (2, .agg #[f, n, p, r, k, s]), (3, .agg #[a, q, z, v, l]), (4, .pointer (some ⟨qb, 0, none⟩))]).run Tryz.prog w =
  .ok (.agg (.int .i64 id :: c.vals [f, n, p, r, k, s, a, q, z, v, l, .pointer (some ⟨qb, 0, none⟩), .int .i64 0, .int .i64 0, .int .i64 0, .int .i64 0, .int .i64 0, .int .i64 0, .int .i64 0, .int .i64 0, .int .i64 0, .int .i64 0, .int .i64 0, .int .i64 0, .int .i64 0, .int .i64 0]).toArray) w := by kernel_rfl
def buildBig (ty : TypeId) (ps : Array (Nat × Value)) : Sem Next := do pure (.value (← Instr.build ty ps))
theorem execOp_build81 (ρ : Operand → Value) (dst : Option Tmp) (x : Array (Nat × Operand)) (ty : TypeId) (pos : String) (after : Array Edge) (guard : Option (Nat × Bool)) :
  execOp ρ { dst, op := .build 104 x, type := ty, pos, after, guard } = buildBig 104 (x.map fun (i, y) => (i, ρ y)) := rfl
theorem run_build81 (id : Int) (c : Cfg) (f n p r k s a q z v l : Value) (qb : Nat) (w : World) :
  (buildBig 104 #[(0, .int .i64 id), (1, .agg c.cells.toArray), (2, .agg #[f, n, p, r, k, s]), (3, .agg #[a, q, z, v, l]), (4, .pointer (some ⟨qb, 0, none⟩))]).run Tryz.prog w =
  .ok (.value (.agg (.int .i64 id :: c.vals [f, n, p, r, k, s, a, q, z, v, l, .pointer (some ⟨qb, 0, none⟩), .int .i64 0, .int .i64 0, .int .i64 0, .int .i64 0, .int .i64 0, .int .i64 0, .int .i64 0, .int .i64 0, .int .i64 0, .int .i64 0, .int .i64 0, .int .i64 0, .int .i64 0, .int .i64 0]).toArray)) w := by
 unfold buildBig
 rw [Sem.run_bind]
 have := build81 id c f n p r k s a q z v l qb w
 unfold Cfg.val at this
 unfold Cfg.cells
 rw [this]
 rfl
attribute [local go_sem ↓] execOp_build81
attribute [local go_sem] run_build81
theorem newSeries_any (id : Int) (c : Cfg) (k : Nat) (w : World) (h1 : 1 ≤ k) (h5 : k ≤ 5) (hvv : validB c = true) (hkd : c.kind = k) :
  Calls Tryz.prog 61 #[.int .i64 id, c.val, .agg (kindCells k).toArray] w fun e w' => ∃ b, e = .returned (.pointer (some ⟨b.s, 0, none⟩)) ∧ SRep w' b (newSer id c k) ∧ (∀ i, b.foot k i → w.heap.size ≤ i) ∧ Keeps (fun _ => False) w w' := by
 have hown := own_start k h1 h5
 have HKD := hide hkd
 have HVV := hide hvv
 clear hkd hvv
 have HB := hide (show Blk ((w.alloc (.cells c.cells.toArray 38)).alloc (.cells (kindCells k).toArray 82)) w.heap.size c.cells 38 from (Blk.new w c.cells 38).alloc _)
 have HT := hide (show Blk ((w.alloc (.cells c.cells.toArray 38)).alloc (.cells (kindCells k).toArray 82)) (w.heap.size + 1) (kindCells k) 82 from Blk.newAt (by simp) _ _)
 have HK := hide (((Keeps.refl (fun _ => False) w).alloc (.cells c.cells.toArray 38)).alloc (.cells (kindCells k).toArray 82))
 have hex : ∃ W, W = ((w.alloc (.cells c.cells.toArray 38)).alloc (.cells (kindCells k).toArray 82)) := ⟨_, rfl⟩
 unfold Cfg.val kindCells fn
 go_enter Tryz.func61, Tryz.ntmps61
 go_wp2_with fail
 obtain ⟨W, hW⟩ := hex
 have e0 : (w.alloc (.cells #[.int .i64 c.kind, .int .i64 c.lag, .int .i64 c.skew, .int .i64 c.cap, .int .i64 c.k, .int .i64 c.window, .int .i64 c.bits, .int .i64 c.rows, .int .i64 c.width, .int .i64 c.panes, .int .i64 c.size, .int .i64 c.degree, .int .i64 c.half, .int .i64 c.mark, .int .i64 c.s00, .int .i64 c.s01, .int .i64 c.s10, .int .i64 c.s11, .int .i64 c.s20, .int .i64 c.s21] 38)).alloc (.cells #[.func (.func (fitsF k)) #[] #[], .func (.func (namedF k)) #[] #[], .func (.func (pairsF k)) #[] #[], .func (.func (refuseF k)) #[] #[], .func (.func (askedF k)) #[] #[], .func (.func (startF k)) #[] #[]] 82) = W := hW.symm
 rw [e0]
 rw [← hW] at HB HT HK
 clear e0 hW
 generalize hcb : w.heap.size = cb at *
 have HCB := hide hcb
 clear hcb
 have hsz : cb + 1 < W.heap.size := (uh HT).lt
 have hsz0 : cb < W.heap.size := (uh HB).lt
 obtain ⟨hv, hh⟩ := bigVal_Blk (uh HB) 20 rfl
 have t0 : W.cell? ⟨cb + 1, 0, none⟩ = some (.func (.func (fitsF k)) #[] #[]) := (uh HT).cell rfl
 have t1 : W.cell? ⟨cb + 1, 1, none⟩ = some (.func (.func (namedF k)) #[] #[]) := (uh HT).cell rfl
 have t2 : W.cell? ⟨cb + 1, 2, none⟩ = some (.func (.func (pairsF k)) #[] #[]) := (uh HT).cell rfl
 have t3 : W.cell? ⟨cb + 1, 3, none⟩ = some (.func (.func (refuseF k)) #[] #[]) := (uh HT).cell rfl
 have t4 : W.cell? ⟨cb + 1, 4, none⟩ = some (.func (.func (askedF k)) #[] #[]) := (uh HT).cell rfl
 have t5 : W.cell? ⟨cb + 1, 5, none⟩ = some (.func (.func (startF k)) #[] #[]) := (uh HT).cell rfl
 go_region_held3 (fun w' => bigVal w' cb 0 20 = .agg c.cells.toArray ∧ hasBig w' cb 0 20 = true ∧ w'.cell? ⟨cb + 1, 0, none⟩ = some (.func (.func (fitsF k)) #[] #[]) ∧ w'.cell? ⟨cb + 1, 1, none⟩ = some (.func (.func (namedF k)) #[] #[]) ∧ w'.cell? ⟨cb + 1, 2, none⟩ = some (.func (.func (pairsF k)) #[] #[]) ∧ w'.cell? ⟨cb + 1, 3, none⟩ = some (.func (.func (refuseF k)) #[] #[]) ∧ w'.cell? ⟨cb + 1, 4, none⟩ = some (.func (.func (askedF k)) #[] #[]) ∧ w'.cell? ⟨cb + 1, 5, none⟩ = some (.func (.func (startF k)) #[] #[]))
  (first | (simp [*, bigVal_drew, hasBig_drew, bigVal_alloc, hasBig_alloc, World.cell?_alloc_some]; done) | (go_split_ands; exact ⟨(bigVal_keeps hk2 (fun h => h) (by have := hk1.size; simp at this; omega)).1.trans (by assumption), (bigVal_keeps hk2 (fun h => h) (by have := hk1.size; simp at this; omega)).2.trans (by assumption), hk2.cell (by assumption) (fun h => h), hk2.cell (by assumption) (fun h => h), hk2.cell (by assumption) (fun h => h), hk2.cell (by assumption) (fun h => h), hk2.cell (by assumption) (fun h => h), hk2.cell (by assumption) (fun h => h)⟩) | (go_split_ands; exact ⟨(bigVal_keeps hk1 (fun h => h) (by simpa using hsz0)).1.trans (by assumption), (bigVal_keeps hk1 (fun h => h) (by simpa using hsz0)).2.trans (by assumption), hk1.cell (by assumption) (fun h => h), hk1.cell (by assumption) (fun h => h), hk1.cell (by assumption) (fun h => h), hk1.cell (by assumption) (fun h => h), hk1.cell (by assumption) (fun h => h), hk1.cell (by assumption) (fun h => h)⟩))
  (first | (go_at_call 89; refine (new_any _).mono ?_; rintro e w2 ⟨rfl, hq2, hk2, hz2⟩) | (refine (start_any c k _ h1 h5 (uh HVV) (uh HKD)).mono ?_; rintro e w1 ⟨nb, rfl, hd1, hn1, hk1⟩))
 go_wp2
 go_ret
 have hkw : Keeps (fun _ => False) w w1 := ((uh HK).drew).then hk1
 have hs1 := hkw.size
 have hka : ∀ O, Keeps (fun _ => False) w2 (w2.alloc O) := fun O => (Keeps.refl (fun _ => False) w2).alloc O
 have hcb := uh HCB
 have hn2 := hn1.still hk2
 have hz2 : w2.heap.size = w1.heap.size + 1 := hz2
 refine ⟨⟨w1.heap.size + 1, w1.heap.size, none, nb⟩, rfl, ⟨Blk.newAt hz2 (serCells ⟨w1.heap.size + 1, w1.heap.size, none, nb⟩ (newSer id c k)) 104, hq2.keeps (hka _) (fun h => h) (fun _ _ h => h), hn2.still (hka _), ?_, ?_, fun i hi => ⟨?_, ?_, ?_⟩⟩, ?_, (hkw.then hk2).alloc _⟩
 ·show w1.heap.size + 1 ≠ w1.heap.size; omega
 ·intro g hg; cases hg
 ·have := hn1.lt i hi; show i ≠ w1.heap.size + 1; omega
 ·have := hn1.lt i hi; show i ≠ w1.heap.size; omega
 ·intro hg; cases hg
 ·intro i hi
  rcases hi with hi | hi | hi | hi
  ·have : i = w1.heap.size + 1 := hi
   omega
  ·have : i = w1.heap.size := hi
   omega
  ·cases hi
  ·have h1 := hd1 i hi
   have h2 := (uh HK).size
   rw [World.size_drew] at h1
   omega
end Go.Proofs.YtahnliehdjncdaaGreatDoor
namespace Go.Proofs.YtahnliehdjncdaaGreatDoor
open Go.RowKit
attribute [local go_sem ↓] execOp_load38 execOp_load40
attribute [local go_sem] run_load38 run_load40 bigVal_drew hasBig_drew bigVal_ne hasBig_ne bigVal_alloc hasBig_alloc bigVal_new hasBig_newB
structure OpM where
 kind : Int
 id : Int
 a : Int
 b : Int
 c : Int
 cfg : Cfg
 bytes : ByteArray
def OpM.cells (o : OpM) : List Value := .int .i64 o.kind :: .int .i64 o.id :: .int .i64 o.a :: .int .i64 o.b :: .int .i64 o.c :: o.cfg.vals [.string o.bytes]
def OpM.val (o : OpM) : Value := .agg o.cells.toArray
def noBytes : ByteArray := ⟨#[]⟩
def ansV (code : Int) (v : Value) : Value := .agg #[.int .i64 code, v, .string noBytes]
theorem no_any (code : Int) (w : World) :
  Calls Tryz.prog 49 #[.int .i64 code] w fun e w' => e = .returned (ansV code (.slice none 0 0)) ∧ Keeps (fun _ => False) w w' := by
 go_enter Tryz.func49, Tryz.ntmps49
 go_wp2
 refine bodyPost_ret (v := ansV code (.slice none 0 0)) (by simp [results, Tryz.results49, go_sem, ansV]; rfl) rfl ⟨rfl, ?_⟩
 repeat (first | exact Keeps.refl _ _ | apply Keeps.alloc)
def ptrs (ps : List (SB × Ser)) : List Value := ps.map fun p => .pointer (some ⟨p.1.s, 0, none⟩)
structure ERep (w : World) (e : Nat) (v : Value) (clock : Int) (ps : List (SB × Ser)) : Prop where
 blk : Blk w e [.int .i64 clock, v] 56
 row : w.ownsRow 0 73 1 v ps.length (ptrs ps)
 reps : ∀ p, p ∈ ps → SRep w p.1 p.2
 apart : ps.Pairwise (fun p q => ∀ i, p.1.foot p.2.k i → ¬ q.1.foot q.2.k i)
 ev : v.ownBlock ≠ some e
 ef : ∀ p, p ∈ ps → ∀ i, p.1.foot p.2.k i → i ≠ e ∧ v.ownBlock ≠ some i
def EFoot (e : Nat) (v : Value) (ps : List (SB × Ser)) (i : Nat) : Prop := i = e ∨ v.ownBlock = some i ∨ ∃ p, p ∈ ps ∧ p.1.foot p.2.k i
theorem row_cells {w : World} {v : Value} {n : Nat} {xs : List Value} (h : w.ownsRow 0 73 1 v n xs) : (n = 0 ∧ (v = .slice none 0 0 ∨ ∃ g cap, v = .slice (some ⟨g, 0, none⟩) 0 cap)) ∨ ∃ g cap, v = .slice (some ⟨g, 0, none⟩) n cap ∧ ∀ i u, xs[i]? = some u → w.cell? ⟨g, i, none⟩ = some u := by
 rcases h.2 with ⟨h1, h2⟩ | ⟨g, cap, cur, h1, _, h3, h4, h5, h6, h7⟩
 ·exact .inl ⟨h2, .inl h1⟩
 ·refine .inr ⟨g, cap, h1, fun i u hu => ?_⟩
  have hi : i < n := by have := (List.getElem?_eq_some_iff.1 hu).1; have := h.1; omega
  have : cur[i]? = some u := by
   rw [← h7] at hu
   rw [List.getElem?_take] at hu
   rw [if_pos (by omega)] at hu
   simpa using hu
  simp [World.cell?, h3, this]
def findP (ps : List (SB × Ser)) (id : Int) : Option (SB × Ser) := ps.find? (fun p => p.2.id == id)
def ptrOf : Option (SB × Ser) → Value
 | some p => .pointer (some ⟨p.1.s, 0, none⟩)
 | none => .pointer none
theorem find_any (e : Nat) (v : Value) (clock id : Int) (ps : List (SB × Ser)) (w : World) (h : ERep w e v clock ps) (hl : ps.length ≤ 1000) :
  Calls Tryz.prog 59 #[.pointer (some ⟨e, 0, none⟩), .int .i64 id] w fun r w' => r = .returned (ptrOf (findP ps id)) ∧ w' = w := by
 have hc1 : w.cell? ⟨e, 1, none⟩ = some v := h.blk.cell rfl
 rcases row_cells h.row with ⟨h0, hv⟩ | ⟨g, cap, hv, hcells⟩
 ·have hps : ps = [] := List.length_eq_zero_iff.1 h0
  subst hps
  clear h h0
  rcases hv with hv | ⟨g, cap, hv⟩
  all_goals
   subst hv
   go_enter Tryz.func59, Tryz.ntmps59
   go_wp2
   go_loop [12] (fun i => i = .int .i64 0) (fun _ => 0)
   case atStart => rfl
   case round =>
    subst hrel
    go_wp2
    go_ret
    exact ⟨rfl, rfl⟩
 ·subst hv
  have HC := hide hcells
  have HS := hide (show ∀ p, p ∈ ps → w.cell? ⟨p.1.s, 0, none⟩ = some (.int .i64 p.2.id) from fun p hp => (h.reps p hp).blk.cell rfl)
  clear h hcells
  generalize hn : ps.length = n at *
  have HN := hide hn
  clear hn
  go_enter Tryz.func59, Tryz.ntmps59
  go_wp2
  go_loop [12] (fun i => ∃ k : Nat, k ≤ n ∧ i = .int .i64 k ∧ Hid (findP ps id = findP (ps.drop k) id)) (fun i => n - (intOf i).toNat)
  case atStart => exact ⟨0, Nat.zero_le _, rfl, rfl⟩
  case round =>
   obtain ⟨k, hk, rfl, HE⟩ := hrel
   by_cases hlt : k < n
   ·obtain ⟨p, hp⟩ : ∃ p, ps[k]? = some p := ⟨ps[k]'(by rw [uh HN]; exact hlt), List.getElem?_eq_getElem _⟩
    have hd : ps.drop k = p :: ps.drop (k + 1) := by
     rw [List.drop_eq_getElem_cons (by rw [uh HN]; exact hlt)]
     rw [List.getElem?_eq_getElem (by rw [uh HN]; exact hlt)] at hp
     cases hp; rfl
    have hck : w.cell? ⟨g, k, none⟩ = some (.pointer (some ⟨p.1.s, 0, none⟩)) := uh HC k _ (by unfold ptrs; rw [List.getElem?_map, hp]; rfl)
    have hid := uh HS p (List.mem_of_getElem? hp)
    have hk0 : (0 : Int) ≤ (k : Int) := by omega
    have hkn : (k : Int) < (n : Int) := by omega
    cases hb : (p.2.id == id)
    ·have HE' := hide (show findP ps id = findP (ps.drop (k + 1)) id by rw [uh HE, hd]; unfold findP; rw [List.find?_cons]; rw [hb])
     clear hd hp
     go_wp2
     go_round
     case rel => exact ⟨k + 1, by omega, by go_num, HE'⟩
     case measure => simp [intOf]; omega
    ·have HE' := hide (show findP ps id = some p by rw [uh HE, hd]; unfold findP; rw [List.find?_cons]; rw [hb])
     clear hd hp
     go_wp2
     go_ret
     exact ⟨by rw [uh HE']; rfl, rfl⟩
   ·have HE' := hide (show findP ps id = none by rw [uh HE, List.drop_eq_nil_of_le (by rw [uh HN]; omega)]; rfl)
    go_wp2
    go_ret
    exact ⟨by rw [uh HE']; rfl, rfl⟩
end Go.Proofs.YtahnliehdjncdaaGreatDoor
namespace Go.Proofs.YtahnliehdjncdaaGreatDoor
open Go.RowKit
attribute [local go_sem ↓] execOp_load38 execOp_load40
attribute [local go_sem] run_load38 run_load40 bigVal_drew hasBig_drew bigVal_ne hasBig_ne bigVal_alloc hasBig_alloc bigVal_new hasBig_newB
theorem ERep.lt {w : World} {e : Nat} {v : Value} {clock : Int} {ps : List (SB × Ser)} (h : ERep w e v clock ps) (i : Nat) (hi : EFoot e v ps i) : i < w.heap.size := by
 rcases hi with hi | hi | ⟨p, hp, hi⟩
 ·subst hi; exact h.blk.lt
 ·exact (h.row.lt i hi).2
 ·exact (h.reps p hp).lt i hi
theorem owns_keeps {M : Nat → Prop} {w w' : World} {base : Nat} {t size : Nat} {v : Value} {n : Nat} {xs : List Value} (h : w.ownsRow base t size v n xs) (hk : Keeps M w w') (hn : ∀ i, v.ownBlock = some i → ¬ M i) : w'.ownsRow base t size v n xs := by
 refine ⟨h.1, ?_⟩
 rcases h.2 with h2 | ⟨g, cap, cur, rfl, hb, hg, r⟩
 ·exact .inl h2
 ·exact .inr ⟨g, cap, cur, rfl, hb, by rw [hk.block g (Array.getElem?_eq_some_iff.1 hg).1 (hn g rfl)]; exact hg, r⟩
theorem owns_base {w : World} {base base' : Nat} {t size : Nat} {v : Value} {n : Nat} {xs : List Value} (h : w.ownsRow base t size v n xs) (hb : base' ≤ base) : w.ownsRow base' t size v n xs := by
 refine ⟨h.1, ?_⟩
 rcases h.2 with h2 | ⟨g, cap, cur, rfl, hbb, r⟩
 ·exact .inl h2
 ·exact .inr ⟨g, cap, cur, rfl, Nat.le_trans hb hbb, r⟩
theorem ERep.keeps {M : Nat → Prop} {w w' : World} {e : Nat} {v : Value} {clock : Int} {ps : List (SB × Ser)} (h : ERep w e v clock ps) (hk : Keeps M w w') (hn : ∀ i, EFoot e v ps i → ¬ M i) : ERep w' e v clock ps :=
 ⟨h.blk.keeps hk (hn _ (.inl rfl)), owns_keeps h.row hk (fun i hi => hn i (.inr (.inl hi))), fun p hp => (h.reps p hp).keeps hk (fun i hi => hn i (.inr (.inr ⟨p, hp, hi⟩))), h.apart, h.ev, h.ef⟩
theorem ERep.still {w w' : World} {e : Nat} {v : Value} {clock : Int} {ps : List (SB × Ser)} (h : ERep w e v clock ps) (hk : Keeps (fun _ => False) w w') : ERep w' e v clock ps := h.keeps hk (fun _ _ h => h)
def StepPost (w : World) (e : Nat) (v : Value) (ps : List (SB × Ser)) (clock' : Int) (xs' : List Ser) (code : Int) (nums : List Int) (r : Ending) (w' : World) : Prop :=
 ∃ nv v' ps', r = .returned (ansV code nv) ∧ ERep w' e v' clock' ps' ∧ ps'.map (·.2) = xs' ∧ w'.ownsRow w.heap.size 3 1 nv nums.length (ints nums) ∧ Keeps (EFoot e v ps) w w' ∧
  (∀ i, EFoot e v' ps' i → EFoot e v ps i ∨ w.heap.size ≤ i) ∧ (∀ i, nv.ownBlock = some i → ¬ EFoot e v' ps' i)
def ansB (code : Int) (v : Value) (bs : ByteArray) : Value := .agg #[.int .i64 code, v, .string bs]
def StepPostB (w : World) (e : Nat) (v : Value) (ps : List (SB × Ser)) (clock' : Int) (xs' : List Ser) (code : Int) (nums : List Int) (bs : ByteArray) (r : Ending) (w' : World) : Prop :=
 ∃ nv v' ps', r = .returned (ansB code nv bs) ∧ ERep w' e v' clock' ps' ∧ ps'.map (·.2) = xs' ∧ w'.ownsRow w.heap.size 3 1 nv nums.length (ints nums) ∧ Keeps (EFoot e v ps) w w' ∧
  (∀ i, EFoot e v' ps' i → EFoot e v ps i ∨ w.heap.size ≤ i) ∧ (∀ i, nv.ownBlock = some i → ¬ EFoot e v' ps' i)
theorem StepPost.b {w : World} {e : Nat} {v : Value} {ps : List (SB × Ser)} {clock' : Int} {xs' : List Ser} {code : Int} {nums : List Int} {r : Ending} {w' : World} (h : StepPost w e v ps clock' xs' code nums r w') : StepPostB w e v ps clock' xs' code nums noBytes r w' := h
theorem step_still {w w' : World} {e : Nat} {v : Value} {clock : Int} {ps : List (SB × Ser)} {code : Int} {nums : List Int} {nv : Value} (h : ERep w e v clock ps) (hk : Keeps (fun _ => False) w w') (hn : w'.ownsRow w.heap.size 3 1 nv nums.length (ints nums)) :
  StepPost w e v ps clock (ps.map (·.2)) code nums (.returned (ansV code nv)) w' := by
 refine ⟨nv, v, ps, rfl, h.still hk, rfl, hn, hk.mono (fun _ _ h => h.elim), fun i hi => .inl hi, fun i hi hf => ?_⟩
 have h1 := h.lt i hf
 have h2 := (hn.lt i hi).1
 omega
structure EInv (n : Int) (clock : Int) (xs : List Ser) : Prop where
 c0 : 0 ≤ clock
 c1 : clock ≤ 4611686018427387904
 six : xs.length ≤ 6
 sers : ∀ x, x ∈ xs → SInv n x
 marks : ∀ x, x ∈ xs → x.last = 0 ∨ x.last ≤ clock - x.c.lag
theorem stats_no (n : Int) (e : Nat) (v : Value) (clock : Int) (ps : List (SB × Ser)) (o : OpM) (w : World) (h : ERep w e v clock ps) (hi : EInv n clock (ps.map (·.2))) (hf : findP ps o.id = none) :
  Calls Tryz.prog 46 #[.pointer (some ⟨e, 0, none⟩), o.val] w fun r w' => StepPost w e v ps clock (ps.map (·.2)) 2 [] r w' := by
 have h1 : o.cells[1]? = some (.int .i64 o.id) := rfl
 have HE := hide h
 have HI := hide hi
 have hl : ps.length ≤ 1000 := by have := hi.six; rw [List.length_map] at this; omega
 have HF := hide hf
 clear h hi hf
 unfold OpM.val
 go_enter Tryz.func46, Tryz.ntmps46
 go_wp2_with fail
 have hk0 : Keeps (fun _ => False) w ((w.alloc (.cells o.cells.toArray 40)).alloc (.cells #[.int .i64 0, .slice none 0 0, .string ⟨#[]⟩] 33)) := ((Keeps.refl (fun _ => False) w).alloc _).alloc _
 have HO0 := hide (show Blk ((w.alloc (.cells o.cells.toArray 40)).alloc (.cells #[.int .i64 0, .slice none 0 0, .string ⟨#[]⟩] 33)) w.heap.size o.cells 40 from (Blk.new w o.cells 40).alloc _)
 have HR0 := hide (show Blk ((w.alloc (.cells o.cells.toArray 40)).alloc (.cells #[.int .i64 0, .slice none 0 0, .string ⟨#[]⟩] 33)) (w.heap.size + 1) [.int .i64 0, .slice none 0 0, .string noBytes] 33 from Blk.newAt (by simp) [_, _, _] 33)
 have HE0 := hide ((uh HE).still hk0)
 have HK0 := hide hk0
 clear hk0
 generalize (w.alloc (.cells o.cells.toArray 40)).alloc (.cells #[.int .i64 0, .slice none 0 0, .string ⟨#[]⟩] 33) = w0 at *
 have HLT := hide (show ∀ i, EFoot e v ps i → i < w.heap.size from (uh HE).lt)
 generalize hob : w.heap.size = ob at *
 have HOB := hide hob
 clear hob
 have hsz0 : ob + 1 < w0.heap.size := (uh HR0).lt
 refine (find_any e v clock o.id ps w0 (uh HE0) hl).mono ?_
 rintro r w1 ⟨rfl, hw1⟩
 rw [hw1]
 clear hw1 w1
 rw [uh HF]
 unfold ptrOf
 go_wp2_with fail
 refine (no_any 2 w0).mono ?_
 rintro r w1 ⟨rfl, hk1⟩
 unfold ansV
 have HR1 := hide ((uh HR0).keeps hk1 (fun h => h))
 have HK1 := hide ((uh HK0).then hk1)
 clear hk1
 have r0 : w1.cell? ⟨ob + 1, 0, none⟩ = some (.int .i64 0) := (uh HR1).cell rfl
 have r1 : w1.cell? ⟨ob + 1, 1, none⟩ = some (.slice none 0 0) := (uh HR1).cell rfl
 have r2 : w1.cell? ⟨ob + 1, 2, none⟩ = some (.string noBytes) := (uh HR1).cell rfl
 have rf := (uh HR1).frozen
 go_wp2
 have hbf := (((uh HR1).setCell 0 (.int .i64 2)).setCell 1 (.slice none 0 0)).setCell 2 (.string noBytes)
 have HKF := hide ((((Keeps.refl (fun i => i = ob + 1) w1).setCell (p := ⟨ob + 1, 0, none⟩) (Or.inl rfl) (.int .i64 2)).setCell (p := ⟨ob + 1, 1, none⟩) (Or.inl rfl) (.slice none 0 0)).setCell (p := ⟨ob + 1, 2, none⟩) (Or.inl rfl) (.string noBytes))
 have e9 : (((w1.setCell ⟨ob + 1, 0, none⟩ (.int .i64 2)).setCell ⟨ob + 1, 1, none⟩ (.slice none 0 0)).setCell ⟨ob + 1, 2, none⟩ (.string ⟨#[]⟩)) = (((w1.setCell ⟨ob + 1, 0, none⟩ (.int .i64 2)).setCell ⟨ob + 1, 1, none⟩ (.slice none 0 0)).setCell ⟨ob + 1, 2, none⟩ (.string noBytes)) := rfl
 first | rw [e9] | skip
 generalize (((w1.setCell ⟨ob + 1, 0, none⟩ (.int .i64 2)).setCell ⟨ob + 1, 1, none⟩ (.slice none 0 0)).setCell ⟨ob + 1, 2, none⟩ (.string noBytes)) = w9 at *
 have q0 : w9.cell? ⟨ob + 1, 0, none⟩ = some (.int .i64 2) := hbf.cell rfl
 have q1 : w9.cell? ⟨ob + 1, 1, none⟩ = some (.slice none 0 0) := hbf.cell rfl
 have q2 : w9.cell? ⟨ob + 1, 2, none⟩ = some (.string noBytes) := hbf.cell rfl
 refine bodyPost_ret (v := ansV 2 (.slice none 0 0)) (by simp [results, Tryz.results46, go_sem, q0, q1, q2, ansV]) rfl ?_
 have hkf := uh HKF
 have hob := uh HOB
 have hkk : Keeps (fun _ => False) w w9 := (uh HK1).trans hkf (fun i hi hlt => by omega)
 exact step_still (uh HE) hkk (World.ownsRow_nil _ _ _ _)
theorem stats_yes (n : Int) (e : Nat) (v : Value) (clock : Int) (ps : List (SB × Ser)) (o : OpM) (w : World) (h : ERep w e v clock ps) (hi : EInv n clock (ps.map (·.2))) (p : SB × Ser) (hf : findP ps o.id = some p) :
  Calls Tryz.prog 46 #[.pointer (some ⟨e, 0, none⟩), o.val] w fun r w' => StepPost w e v ps clock (ps.map (·.2)) 0 (statsL p.2) r w' := by
 have hmem : p ∈ ps := List.mem_of_find?_eq_some hf
 have HM := hide hmem
 clear hmem
 have h1 : o.cells[1]? = some (.int .i64 o.id) := rfl
 have HE := hide h
 have HI := hide hi
 have hl : ps.length ≤ 1000 := by have := hi.six; rw [List.length_map] at this; omega
 have HF := hide hf
 clear h hi hf
 unfold OpM.val
 go_enter Tryz.func46, Tryz.ntmps46
 go_wp2_with fail
 have hk0 : Keeps (fun _ => False) w ((w.alloc (.cells o.cells.toArray 40)).alloc (.cells #[.int .i64 0, .slice none 0 0, .string ⟨#[]⟩] 33)) := ((Keeps.refl (fun _ => False) w).alloc _).alloc _
 have HO0 := hide (show Blk ((w.alloc (.cells o.cells.toArray 40)).alloc (.cells #[.int .i64 0, .slice none 0 0, .string ⟨#[]⟩] 33)) w.heap.size o.cells 40 from (Blk.new w o.cells 40).alloc _)
 have HR0 := hide (show Blk ((w.alloc (.cells o.cells.toArray 40)).alloc (.cells #[.int .i64 0, .slice none 0 0, .string ⟨#[]⟩] 33)) (w.heap.size + 1) [.int .i64 0, .slice none 0 0, .string noBytes] 33 from Blk.newAt (by simp) [_, _, _] 33)
 have HE0 := hide ((uh HE).still hk0)
 have HK0 := hide hk0
 clear hk0
 generalize (w.alloc (.cells o.cells.toArray 40)).alloc (.cells #[.int .i64 0, .slice none 0 0, .string ⟨#[]⟩] 33) = w0 at *
 have HLT := hide (show ∀ i, EFoot e v ps i → i < w.heap.size from (uh HE).lt)
 generalize hob : w.heap.size = ob at *
 have HOB := hide hob
 clear hob
 have hsz0 : ob + 1 < w0.heap.size := (uh HR0).lt
 refine (find_any e v clock o.id ps w0 (uh HE0) hl).mono ?_
 rintro r w1 ⟨rfl, hw1⟩
 rw [hw1]
 clear hw1 w1
 rw [uh HF]
 unfold ptrOf
 go_wp2_with fail
 refine (serStats_any n p.1 p.2 w0 ((uh HE0).reps p (uh HM)) ((uh HI).sers p.2 (List.mem_map_of_mem (uh HM)))).mono ?_
 rintro r w1 ⟨nv, rfl, ho, hk1⟩
 obtain ⟨g, cap, hnv, hg1, hg2⟩ := ho.form (by omega)
 rw [hnv] at ho ⊢
 have HOW := hide ho
 have HR1 := hide ((uh HR0).keeps hk1 (fun h => h))
 have HK1 := hide ((uh HK0).then hk1)
 have HS0 := hide ((uh HK0).size)
 clear hk1 ho hnv
 have r0 : w1.cell? ⟨ob + 1, 0, none⟩ = some (.int .i64 0) := (uh HR1).cell rfl
 have r1 : w1.cell? ⟨ob + 1, 1, none⟩ = some (.slice none 0 0) := (uh HR1).cell rfl
 have r2 : w1.cell? ⟨ob + 1, 2, none⟩ = some (.string noBytes) := (uh HR1).cell rfl
 have rf := (uh HR1).frozen
 go_wp2
 have hbf := (((uh HR1).setCell 0 (.int .i64 0)).setCell 1 (.slice (some ⟨g, 0, none⟩) 9 cap)).setCell 2 (.string noBytes)
 have HKF := hide ((((Keeps.refl (fun i => i = ob + 1) w1).setCell (p := ⟨ob + 1, 0, none⟩) (Or.inl rfl) (.int .i64 0)).setCell (p := ⟨ob + 1, 1, none⟩) (Or.inl rfl) (.slice (some ⟨g, 0, none⟩) 9 cap)).setCell (p := ⟨ob + 1, 2, none⟩) (Or.inl rfl) (.string noBytes))
 have e9 : (((w1.setCell ⟨ob + 1, 0, none⟩ (.int .i64 0)).setCell ⟨ob + 1, 1, none⟩ (.slice (some ⟨g, 0, none⟩) 9 cap)).setCell ⟨ob + 1, 2, none⟩ (.string ⟨#[]⟩)) = (((w1.setCell ⟨ob + 1, 0, none⟩ (.int .i64 0)).setCell ⟨ob + 1, 1, none⟩ (.slice (some ⟨g, 0, none⟩) 9 cap)).setCell ⟨ob + 1, 2, none⟩ (.string noBytes)) := rfl
 first | rw [e9] | skip
 generalize (((w1.setCell ⟨ob + 1, 0, none⟩ (.int .i64 0)).setCell ⟨ob + 1, 1, none⟩ (.slice (some ⟨g, 0, none⟩) 9 cap)).setCell ⟨ob + 1, 2, none⟩ (.string noBytes)) = w9 at *
 have q0 : w9.cell? ⟨ob + 1, 0, none⟩ = some (.int .i64 0) := hbf.cell rfl
 have q1 : w9.cell? ⟨ob + 1, 1, none⟩ = some (.slice (some ⟨g, 0, none⟩) 9 cap) := hbf.cell rfl
 have q2 : w9.cell? ⟨ob + 1, 2, none⟩ = some (.string noBytes) := hbf.cell rfl
 refine bodyPost_ret (v := ansV 0 (.slice (some ⟨g, 0, none⟩) 9 cap)) (by simp [results, Tryz.results46, go_sem, q0, q1, q2, ansV]) rfl ?_
 have hkf := uh HKF
 have hob := uh HOB
 have hkk : Keeps (fun _ => False) w w9 := (uh HK1).trans hkf (fun i hi hlt => by omega)
 exact step_still (uh HE) hkk (owns_keeps (owns_base (uh HOW) (uh HS0)) hkf (fun i hi h => (by have : g = i := (by simpa [Value.ownBlock] using hi); omega)))
end Go.Proofs.YtahnliehdjncdaaGreatDoor
namespace Go.Proofs.YtahnliehdjncdaaGreatDoor
open Go.RowKit
attribute [local go_sem ↓] execOp_load38 execOp_load40
attribute [local go_sem] run_load38 run_load40 bigVal_drew hasBig_drew bigVal_ne hasBig_ne bigVal_alloc hasBig_alloc bigVal_new hasBig_newB
theorem query_none (n : Int) (e : Nat) (v : Value) (clock : Int) (ps : List (SB × Ser)) (o : OpM) (w : World) (h : ERep w e v clock ps) (hi : EInv n clock (ps.map (·.2))) (hf : findP ps o.id = none) :
  Calls Tryz.prog 45 #[.pointer (some ⟨e, 0, none⟩), o.val] w fun r w' => StepPost w e v ps clock (ps.map (·.2)) 2 [] r w' := by
 have h1 : o.cells[1]? = some (.int .i64 o.id) := rfl
 have HE := hide h
 have HI := hide hi
 have hl : ps.length ≤ 1000 := by have := hi.six; rw [List.length_map] at this; omega
 have HF := hide hf
 clear h hi hf
 unfold OpM.val
 go_enter Tryz.func45, Tryz.ntmps45
 go_wp2_with fail
 have hk0 : Keeps (fun _ => False) w ((w.alloc (.cells o.cells.toArray 40)).alloc (.cells #[.int .i64 0, .slice none 0 0, .string ⟨#[]⟩] 33)) := ((Keeps.refl (fun _ => False) w).alloc _).alloc _
 have HO0 := hide (show Blk ((w.alloc (.cells o.cells.toArray 40)).alloc (.cells #[.int .i64 0, .slice none 0 0, .string ⟨#[]⟩] 33)) w.heap.size o.cells 40 from (Blk.new w o.cells 40).alloc _)
 have HR0 := hide (show Blk ((w.alloc (.cells o.cells.toArray 40)).alloc (.cells #[.int .i64 0, .slice none 0 0, .string ⟨#[]⟩] 33)) (w.heap.size + 1) [.int .i64 0, .slice none 0 0, .string noBytes] 33 from Blk.newAt (by simp) [_, _, _] 33)
 have HE0 := hide ((uh HE).still hk0)
 have HK0 := hide hk0
 clear hk0
 generalize (w.alloc (.cells o.cells.toArray 40)).alloc (.cells #[.int .i64 0, .slice none 0 0, .string ⟨#[]⟩] 33) = w0 at *
 have HLT := hide (show ∀ i, EFoot e v ps i → i < w.heap.size from (uh HE).lt)
 generalize hob : w.heap.size = ob at *
 have HOB := hide hob
 clear hob
 have hsz0 : ob + 1 < w0.heap.size := (uh HR0).lt
 refine (find_any e v clock o.id ps w0 (uh HE0) hl).mono ?_
 rintro r w1 ⟨rfl, hw1⟩
 rw [hw1]
 clear hw1 w1
 rw [uh HF]
 unfold ptrOf
 go_wp2_with fail
 refine (no_any 2 w0).mono ?_
 rintro r w1 ⟨rfl, hk1⟩
 unfold ansV
 have HR1 := hide ((uh HR0).keeps hk1 (fun h => h))
 have HK1 := hide ((uh HK0).then hk1)
 clear hk1
 have r0 : w1.cell? ⟨ob + 1, 0, none⟩ = some (.int .i64 0) := (uh HR1).cell rfl
 have r1 : w1.cell? ⟨ob + 1, 1, none⟩ = some (.slice none 0 0) := (uh HR1).cell rfl
 have r2 : w1.cell? ⟨ob + 1, 2, none⟩ = some (.string noBytes) := (uh HR1).cell rfl
 have rf := (uh HR1).frozen
 go_wp2
 have hbf := (((uh HR1).setCell 0 (.int .i64 2)).setCell 1 (.slice none 0 0)).setCell 2 (.string noBytes)
 have HKF := hide ((((Keeps.refl (fun i => i = ob + 1) w1).setCell (p := ⟨ob + 1, 0, none⟩) (Or.inl rfl) (.int .i64 2)).setCell (p := ⟨ob + 1, 1, none⟩) (Or.inl rfl) (.slice none 0 0)).setCell (p := ⟨ob + 1, 2, none⟩) (Or.inl rfl) (.string noBytes))
 have e9 : (((w1.setCell ⟨ob + 1, 0, none⟩ (.int .i64 2)).setCell ⟨ob + 1, 1, none⟩ (.slice none 0 0)).setCell ⟨ob + 1, 2, none⟩ (.string ⟨#[]⟩)) = (((w1.setCell ⟨ob + 1, 0, none⟩ (.int .i64 2)).setCell ⟨ob + 1, 1, none⟩ (.slice none 0 0)).setCell ⟨ob + 1, 2, none⟩ (.string noBytes)) := rfl
 first | rw [e9] | skip
 generalize (((w1.setCell ⟨ob + 1, 0, none⟩ (.int .i64 2)).setCell ⟨ob + 1, 1, none⟩ (.slice none 0 0)).setCell ⟨ob + 1, 2, none⟩ (.string noBytes)) = w9 at *
 have q0 : w9.cell? ⟨ob + 1, 0, none⟩ = some (.int .i64 2) := hbf.cell rfl
 have q1 : w9.cell? ⟨ob + 1, 1, none⟩ = some (.slice none 0 0) := hbf.cell rfl
 have q2 : w9.cell? ⟨ob + 1, 2, none⟩ = some (.string noBytes) := hbf.cell rfl
 refine bodyPost_ret (v := ansV 2 (.slice none 0 0)) (by simp [results, Tryz.results45, go_sem, q0, q1, q2, ansV]) rfl ?_
 have hkf := uh HKF
 have hob := uh HOB
 have hkk : Keeps (fun _ => False) w w9 := (uh HK1).trans hkf (fun i hi hlt => by omega)
 exact step_still (uh HE) hkk (World.ownsRow_nil _ _ _ _)
theorem qryN_code (k : Nat) (c : Cfg) (nt : Note) (a m : Int) : (qryN k c nt a m).1 = 0 ∨ (qryN k c nt a m).2 = [] := by
 unfold qryN qryD
 repeat (first | exact .inl rfl | exact .inr rfl | split)
theorem query_some (n : Int) (e : Nat) (v : Value) (clock : Int) (ps : List (SB × Ser)) (o : OpM) (w : World) (h : ERep w e v clock ps) (hi : EInv n clock (ps.map (·.2))) (hn : n ≤ 651562446200) (p : SB × Ser) (hf : findP ps o.id = some p) :
  Calls Tryz.prog 45 #[.pointer (some ⟨e, 0, none⟩), o.val] w fun r w' => StepPost w e v ps clock (ps.map (·.2)) (qryN p.2.k p.2.c p.2.nt o.a (clock - p.2.c.lag)).1 (qryN p.2.k p.2.c p.2.nt o.a (clock - p.2.c.lag)).2 r w' := by
 have hmem : p ∈ ps := List.mem_of_find?_eq_some hf
 have HM := hide hmem
 clear hmem
 have h1 : o.cells[1]? = some (.int .i64 o.id) := rfl
 have HE := hide h
 have HI := hide hi
 have hl : ps.length ≤ 1000 := by have := hi.six; rw [List.length_map] at this; omega
 have HF := hide hf
 clear h hi hf
 unfold OpM.val
 go_enter Tryz.func45, Tryz.ntmps45
 go_wp2_with fail
 have hk0 : Keeps (fun _ => False) w ((w.alloc (.cells o.cells.toArray 40)).alloc (.cells #[.int .i64 0, .slice none 0 0, .string ⟨#[]⟩] 33)) := ((Keeps.refl (fun _ => False) w).alloc _).alloc _
 have HO0 := hide (show Blk ((w.alloc (.cells o.cells.toArray 40)).alloc (.cells #[.int .i64 0, .slice none 0 0, .string ⟨#[]⟩] 33)) w.heap.size o.cells 40 from (Blk.new w o.cells 40).alloc _)
 have HR0 := hide (show Blk ((w.alloc (.cells o.cells.toArray 40)).alloc (.cells #[.int .i64 0, .slice none 0 0, .string ⟨#[]⟩] 33)) (w.heap.size + 1) [.int .i64 0, .slice none 0 0, .string noBytes] 33 from Blk.newAt (by simp) [_, _, _] 33)
 have HE0 := hide ((uh HE).still hk0)
 have HK0 := hide hk0
 clear hk0
 generalize (w.alloc (.cells o.cells.toArray 40)).alloc (.cells #[.int .i64 0, .slice none 0 0, .string ⟨#[]⟩] 33) = w0 at *
 have HLT := hide (show ∀ i, EFoot e v ps i → i < w.heap.size from (uh HE).lt)
 generalize hob : w.heap.size = ob at *
 have HOB := hide hob
 clear hob
 have hsz0 : ob + 1 < w0.heap.size := (uh HR0).lt
 refine (find_any e v clock o.id ps w0 (uh HE0) hl).mono ?_
 rintro r w1 ⟨rfl, hw1⟩
 rw [hw1]
 clear hw1 w1
 rw [uh HF]
 unfold ptrOf
 have HS0 := hide ((uh HE0).reps p (uh HM))
 have HSI := hide ((uh HI).sers p.2 (List.mem_map_of_mem (uh HM)))
 obtain ⟨l0, l1, s0, s1, p1, p8⟩ := (uh HSI).common
 have cl0 := (uh HI).c0
 have cl1 := (uh HI).c1
 have hc25 : w0.cell? ⟨p.1.s, 28, none⟩ = some (.func (.func (qryF p.2.k)) (capsN p.1.n.d) #[]) := (uh HS0).blk.cell rfl
 have hc2 : w0.cell? ⟨p.1.s, 2, none⟩ = some (.int .i64 p.2.c.lag) := (uh HS0).blk.cell rfl
 have hce : w0.cell? ⟨e, 0, none⟩ = some (.int .i64 clock) := (uh HE0).blk.cell rfl
 have hoa : w0.cell? ⟨ob, 2, none⟩ = some (.int .i64 o.a) := (uh HO0).cell rfl
 have hown := own_qry p.2.k (uh HSI).k1 (uh HSI).k5
 have HRL := hide (show p.2.rel ≤ 651562446200 by have h1 := (uh HSI).rela; have h2 := (uh HSI).accn; omega)
 go_wp2_with fail
 go_region_held3 (fun w' => w'.cell? ⟨p.1.s, 28, none⟩ = some (.func (.func (qryF p.2.k)) (capsN p.1.n.d) #[]) ∧ w'.cell? ⟨p.1.s, 2, none⟩ = some (.int .i64 p.2.c.lag) ∧ w'.cell? ⟨e, 0, none⟩ = some (.int .i64 clock) ∧ w'.cell? ⟨ob, 2, none⟩ = some (.int .i64 o.a))
  (first | (simp [*]; done) | (go_split_ands; exact ⟨hk1.cell (by assumption) (fun h => h), hk1.cell (by assumption) (fun h => h), hk1.cell (by assumption) (fun h => h), hk1.cell (by assumption) (fun h => h)⟩))
  (first | (go_at_call 67; refine (wm_any p.1.s p.2.c.lag clock _ (by go_keep) l0 l1 cl0 cl1).mono ?_; rintro e w' ⟨rfl, rfl⟩) | (refine (qry_any (rel := p.2.rel) (last := p.2.last) p.2.k p.1.n p.2.c p.2.nt o.a (clock - p.2.c.lag) _ _ (by first | rfl | simp) (by exact (uh HS0).note.still (Keeps.refl _ _).drew) (uh HSI).note (uh HRL) (uh HSI).lastn (uh HSI).valid (uh HSI).kind (uh HSI).k1 (uh HSI).k5 (by omega) (by omega)).mono ?_; rintro e w1 ⟨og, nn, cp, rfl, hnum, hk1⟩))
 have hk0d : Keeps (fun _ => False) w0 w1 := ((Keeps.refl (fun _ => False) w0).drew).then hk1
 have HR1 := hide ((uh HR0).keeps hk0d (fun h => h))
 have HK1 := hide ((uh HK0).then hk0d)
 have HSZ := hide ((uh HK0).size)
 have HNUM := hide (show NumsAt w1 w0.heap.size (.slice og nn cp) (qryN p.2.k p.2.c p.2.nt o.a (clock - p.2.c.lag)).2 from hnum)
 have HCD := hide (qryN_code p.2.k p.2.c p.2.nt o.a (clock - p.2.c.lag))
 clear hc25 hc2 hce hoa HR0 HK0 HE0 HO0 HS0 hk1 hnum hk0d hown
 generalize hnm : (qryN p.2.k p.2.c p.2.nt o.a (clock - p.2.c.lag)).2 = nums at *
 generalize hco : (qryN p.2.k p.2.c p.2.nt o.a (clock - p.2.c.lag)).1 = code at *
 have HNM := hide hnm
 have HCO := hide hco
 clear hnm hco
 by_cases hcode : code = 0
 ·subst hcode
  have r0 : w1.cell? ⟨ob + 1, 0, none⟩ = some (.int .i64 0) := (uh HR1).cell rfl
  have r1 : w1.cell? ⟨ob + 1, 1, none⟩ = some (.slice none 0 0) := (uh HR1).cell rfl
  have r2 : w1.cell? ⟨ob + 1, 2, none⟩ = some (.string noBytes) := (uh HR1).cell rfl
  have rf := (uh HR1).frozen
  go_wp2
  have hbf := (((uh HR1).setCell 0 (.int .i64 0)).setCell 1 (.slice og nn cp)).setCell 2 (.string noBytes)
  have HKF := hide ((((Keeps.refl (fun i => i = ob + 1) w1).setCell (p := ⟨ob + 1, 0, none⟩) (Or.inl rfl) (.int .i64 0)).setCell (p := ⟨ob + 1, 1, none⟩) (Or.inl rfl) (.slice og nn cp)).setCell (p := ⟨ob + 1, 2, none⟩) (Or.inl rfl) (.string noBytes))
  have e9 : (((w1.setCell ⟨ob + 1, 0, none⟩ (.int .i64 0)).setCell ⟨ob + 1, 1, none⟩ (.slice og nn cp)).setCell ⟨ob + 1, 2, none⟩ (.string ⟨#[]⟩)) = (((w1.setCell ⟨ob + 1, 0, none⟩ (.int .i64 0)).setCell ⟨ob + 1, 1, none⟩ (.slice og nn cp)).setCell ⟨ob + 1, 2, none⟩ (.string noBytes)) := rfl
  first | rw [e9] | skip
  generalize (((w1.setCell ⟨ob + 1, 0, none⟩ (.int .i64 0)).setCell ⟨ob + 1, 1, none⟩ (.slice og nn cp)).setCell ⟨ob + 1, 2, none⟩ (.string noBytes)) = w9 at *
  have q0 : w9.cell? ⟨ob + 1, 0, none⟩ = some (.int .i64 0) := hbf.cell rfl
  have q1 : w9.cell? ⟨ob + 1, 1, none⟩ = some (.slice og nn cp) := hbf.cell rfl
  have q2 : w9.cell? ⟨ob + 1, 2, none⟩ = some (.string noBytes) := hbf.cell rfl
  refine bodyPost_ret (v := ansV 0 (.slice og nn cp)) (by simp [results, Tryz.results45, go_sem, q0, q1, q2, ansV]) rfl ?_
  have hkf := uh HKF
  have hob := uh HOB
  have hkk : Keeps (fun _ => False) w w9 := (uh HK1).trans hkf (fun i hi hlt => by omega)
  rw [uh HNM, uh HCO]
  exact step_still (uh HE) hkk (owns_base (owns_keeps (uh HNUM) hkf (fun i hi h => by
         rcases (uh HNUM).2 with ⟨h1, _⟩ | ⟨g, _, _, h1, h2, _⟩
         ·rw [h1] at hi; cases hi
         ·rw [h1] at hi
          have : g = i := by simpa [Value.ownBlock] using hi
          have := uh HSZ
          omega)) (by have := uh HSZ; omega))
 ·have hne : (code != 0) = true := by simpa using hcode
  have HNN := hide (show nums = [] from (uh HCD).resolve_left hcode)
  clear hcode
  go_wp2_with fail
  refine (no_any code w1).mono ?_
  rintro r w2 ⟨rfl, hk2⟩
  unfold ansV
  have HR2 := hide ((uh HR1).keeps hk2 (fun h => h))
  have HK2 := hide ((uh HK1).then hk2)
  clear hk2 HR1 HK1
  have r0 : w2.cell? ⟨ob + 1, 0, none⟩ = some (.int .i64 0) := (uh HR2).cell rfl
  have r1 : w2.cell? ⟨ob + 1, 1, none⟩ = some (.slice none 0 0) := (uh HR2).cell rfl
  have r2 : w2.cell? ⟨ob + 1, 2, none⟩ = some (.string noBytes) := (uh HR2).cell rfl
  have rf := (uh HR2).frozen
  go_wp2
  have hbf := (((uh HR2).setCell 0 (.int .i64 code)).setCell 1 (.slice none 0 0)).setCell 2 (.string noBytes)
  have HKF := hide ((((Keeps.refl (fun i => i = ob + 1) w2).setCell (p := ⟨ob + 1, 0, none⟩) (Or.inl rfl) (.int .i64 code)).setCell (p := ⟨ob + 1, 1, none⟩) (Or.inl rfl) (.slice none 0 0)).setCell (p := ⟨ob + 1, 2, none⟩) (Or.inl rfl) (.string noBytes))
  have e9 : (((w2.setCell ⟨ob + 1, 0, none⟩ (.int .i64 code)).setCell ⟨ob + 1, 1, none⟩ (.slice none 0 0)).setCell ⟨ob + 1, 2, none⟩ (.string ⟨#[]⟩)) = (((w2.setCell ⟨ob + 1, 0, none⟩ (.int .i64 code)).setCell ⟨ob + 1, 1, none⟩ (.slice none 0 0)).setCell ⟨ob + 1, 2, none⟩ (.string noBytes)) := rfl
  first | rw [e9] | skip
  generalize (((w2.setCell ⟨ob + 1, 0, none⟩ (.int .i64 code)).setCell ⟨ob + 1, 1, none⟩ (.slice none 0 0)).setCell ⟨ob + 1, 2, none⟩ (.string noBytes)) = w9 at *
  have q0 : w9.cell? ⟨ob + 1, 0, none⟩ = some (.int .i64 code) := hbf.cell rfl
  have q1 : w9.cell? ⟨ob + 1, 1, none⟩ = some (.slice none 0 0) := hbf.cell rfl
  have q2 : w9.cell? ⟨ob + 1, 2, none⟩ = some (.string noBytes) := hbf.cell rfl
  refine bodyPost_ret (v := ansV code (.slice none 0 0)) (by simp [results, Tryz.results45, go_sem, q0, q1, q2, ansV]) rfl ?_
  have hkf := uh HKF
  have hob := uh HOB
  have hkk : Keeps (fun _ => False) w w9 := (uh HK2).trans hkf (fun i hi hlt => by omega)
  rw [uh HNM, uh HCO, uh HNN]
  exact step_still (uh HE) hkk (World.ownsRow_nil _ _ _ _)
end Go.Proofs.YtahnliehdjncdaaGreatDoor
namespace Go.Proofs.YtahnliehdjncdaaGreatDoor
open Go.RowKit
theorem ptrs_append (a b : List (SB × Ser)) : ptrs (a ++ b) = ptrs a ++ ptrs b := by simp [ptrs]
theorem ERep.one {w w' : World} {e : Nat} {v : Value} {clock : Int} {l1 l2 : List (SB × Ser)} {p : SB × Ser} {b' : SB} {x' : Ser} (h : ERep w e v clock (l1 ++ p :: l2)) (hk : Keeps (p.1.foot p.2.k) w w')
  (hs : SRep w' b' x') (hx : x'.k = p.2.k) (hn : p.1.next b' p.2.k w.heap.size) : ERep w' e v clock (l1 ++ (b', x') :: l2) := by
 have hmem : p ∈ l1 ++ p :: l2 := by simp
 have hap := List.pairwise_append.1 h.apart
 have hap2 := List.pairwise_cons.1 hap.2.1
 have hoth : ∀ q, q ∈ l1 ∨ q ∈ l2 → q ∈ l1 ++ p :: l2 ∧ ∀ i, q.1.foot q.2.k i → ¬ p.1.foot p.2.k i := by
  intro q hq
  rcases hq with hq | hq
  ·exact ⟨by simp [hq], fun i hi hp => hap.2.2 q hq p (by simp) i hi hp⟩
  ·exact ⟨by simp [hq], fun i hi hp => hap2.1 q hq i hp hi⟩
 have hnew : ∀ q, q ∈ l1 ∨ q ∈ l2 → ∀ i, b'.foot x'.k i → ¬ q.1.foot q.2.k i := by
  intro q hq i hi hqi
  obtain ⟨hm, hd⟩ := hoth q hq
  rw [hx] at hi
  rcases hn.2 i hi with hf | hf
  ·exact hd i hqi hf
  ·have := (h.reps q hm).lt i hqi; omega
 have hrow : w'.ownsRow 0 73 1 v (l1 ++ p :: l2).length (ptrs (l1 ++ p :: l2)) := owns_keeps h.row hk (fun i hi hf => (h.ef p hmem i hf).2 hi)
 have hptr : ptrs (l1 ++ (b', x') :: l2) = ptrs (l1 ++ p :: l2) := by
  simp only [ptrs, List.map_append, List.map_cons]
  rw [hn.1]
 refine ⟨h.blk.keeps hk (fun hf => (h.ef p hmem e hf).1 rfl), ?_, ?_, ?_, h.ev, ?_⟩
 ·rw [hptr, show (l1 ++ (b', x') :: l2).length = (l1 ++ p :: l2).length by simp]; exact hrow
 ·intro q hq
  rcases List.mem_append.1 hq with hq | hq
  ·exact (h.reps q (hoth q (.inl hq)).1).keeps hk (hoth q (.inl hq)).2
  ·rcases List.mem_cons.1 hq with hq | hq
   ·subst hq; exact hs
   ·exact (h.reps q (hoth q (.inr hq)).1).keeps hk (hoth q (.inr hq)).2
 ·refine List.pairwise_append.2 ⟨hap.1, List.pairwise_cons.2 ⟨fun q hq i hi => hnew q (.inr hq) i hi, hap2.2⟩, ?_⟩
  intro q hq r hr i hi
  rcases List.mem_cons.1 hr with hr | hr
  ·subst hr; exact fun hf => hnew q (.inl hq) i hf hi
  ·exact hap.2.2 q hq r (by simp [hr]) i hi
 ·intro q hq i hi
  rcases List.mem_append.1 hq with hq | hq
  ·exact h.ef q (hoth q (.inl hq)).1 i hi
  ·rcases List.mem_cons.1 hq with hq | hq
   ·subst hq
    have hi' : b'.foot p.2.k i := by rw [← hx]; exact hi
    rcases hn.2 i hi' with hf | hf
    ·exact h.ef p hmem i hf
    ·have h1 := h.lt e (.inl rfl)
     refine ⟨by omega, fun hv => ?_⟩
     have := h.lt i (.inr (.inl hv))
     omega
   ·exact h.ef q (hoth q (.inr hq)).1 i hi
theorem EFoot.one {w : World} {e : Nat} {v : Value} {l1 l2 : List (SB × Ser)} {p : SB × Ser} {b' : SB} {x' : Ser} (hx : x'.k = p.2.k) (hn : p.1.next b' p.2.k w.heap.size) (i : Nat) (hi : EFoot e v (l1 ++ (b', x') :: l2) i) :
  EFoot e v (l1 ++ p :: l2) i ∨ w.heap.size ≤ i := by
 rcases hi with hi | hi | ⟨q, hq, hi⟩
 ·exact .inl (.inl hi)
 ·exact .inl (.inr (.inl hi))
 ·rcases List.mem_append.1 hq with hq | hq
  ·exact .inl (.inr (.inr ⟨q, by simp [hq], hi⟩))
  ·rcases List.mem_cons.1 hq with hq | hq
   ·subst hq
    have hi' : b'.foot p.2.k i := by rw [← hx]; exact hi
    rcases hn.2 i hi' with hf | hf
    ·exact .inl (.inr (.inr ⟨p, by simp, hf⟩))
    ·exact .inr hf
   ·exact .inl (.inr (.inr ⟨q, by simp [hq], hi⟩))
def updS : List Ser → Int → Ser → List Ser
 | [], _, _ => []
 | x :: r, id, y => if x.id == id then y :: r else x :: updS r id y
def findS (xs : List Ser) (id : Int) : Option Ser := xs.find? (fun x => x.id == id)
theorem findP_some {ps : List (SB × Ser)} {id : Int} {p : SB × Ser} (h : findP ps id = some p) : ∃ l1 l2, ps = l1 ++ p :: l2 ∧ ∀ y : Ser, updS (ps.map (·.2)) id y = l1.map (·.2) ++ y :: l2.map (·.2) := by
 obtain ⟨hp, l1, l2, he, hn⟩ := List.find?_eq_some_iff_append.1 h
 refine ⟨l1, l2, he, fun y => ?_⟩
 subst he
 clear h
 induction l1 with
 | nil => simp [updS, hp]
 | cons a l ih =>
  have ha : (a.2.id == id) = false := by simpa using hn a (by simp)
  simp only [List.cons_append, List.map_cons, updS, ha]
  rw [ih (fun b hb => hn b (by simp [hb]))]
  rfl
theorem findP_findS (ps : List (SB × Ser)) (id : Int) : findS (ps.map (·.2)) id = (findP ps id).map (·.2) := by
 unfold findS findP
 induction ps with
 | nil => rfl
 | cons a l ih =>
  simp only [List.map_cons, List.find?_cons]
  cases (a.2.id == id) with
  | true => rfl
  | false => exact ih
def minI (a b : Int) : Int := if a < b then a else b
def refS (x : Ser) (c : Nat) : Ser := { x with ref := x.ref.set c (minI (refAt x.ref c + 1) 4611686018427387904) }
theorem refS_cells (b : SB) (x : Ser) (c : Nat) (u : Int) : (serCells b x).set (35 + c) (.int .i64 u) = serCells b { x with ref := x.ref.set c u } := by
 have h1 : (serCells b x).set (35 + c) (.int .i64 u) = .int .i64 x.id :: x.c.vals (fn (fitsF x.k) :: fn (namedF x.k) :: fn (pairsF x.k) :: fn (refuseF x.k) :: fn (askedF x.k) :: fn (startF x.k) :: relV x.k b.n.d :: qryV x.k b.n.d :: swpV x.k b.n.d :: savV x.k b.n.d :: lodV x.k b.n.d :: .pointer (some ⟨b.q, 0, none⟩) :: .int .i64 x.acc :: .int .i64 x.rel :: (x.ref.map (.int .i64 ·)).set c (.int .i64 u)) := by
  rw [Nat.add_comm]; rfl
 rw [h1]
 unfold serCells
 simp only
 rw [List.map_set]
theorem refS_inv {n : Int} {x : Ser} (h : SInv n x) (c : Nat) (hn : ∀ v, v ∈ x.ref → v < n) (hc : c < 12) : SInv n (refS x c) := by
 have hl := h.reflen
 have hm : refAt x.ref c ∈ x.ref := by unfold refAt; rw [List.getD_eq_getElem?_getD, List.getElem?_eq_getElem (by omega)]; exact List.getElem_mem _
 refine ⟨h.valid, h.kind, h.k1, h.k5, h.acc0, h.accn, h.rel0, h.rela, by simp [refS, hl], ?_, h.cap, h.times, h.note, h.heap, h.last0, h.lastn, h.lastl, h.fits⟩
 intro v hv
 rcases List.mem_or_eq_of_mem_set hv with hv | hv
 ·exact h.refn v hv
 ·subst hv
  have h1 := h.refn _ hm
  have h2 := hn _ hm
  unfold minI
  split <;> omega
theorem refE_range (x : Ser) (clock : Int) (y : It) : 0 ≤ refE x clock y ∧ refE x clock y ≤ 11 := by
 have hk : 0 ≤ kindE x.c x.k y ∧ kindE x.c x.k y ≤ 11 := by
  unfold kindE keyE weightE drawnE
  repeat (first | omega | split)
 unfold refE
 repeat (first | omega | split)
end Go.Proofs.YtahnliehdjncdaaGreatDoor
