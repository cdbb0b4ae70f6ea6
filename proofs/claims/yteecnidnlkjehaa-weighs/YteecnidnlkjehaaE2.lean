import Derived.Test.YteecnidnlkjehaaE
namespace Go.Proofs.Yteecnidnlkjehaa
open Go.RowKit
attribute [local go_sem ↓] execOp_load38 execOp_load40
attribute [local go_sem] run_load38 run_load40 bigVal_drew hasBig_drew bigVal_ne hasBig_ne bigVal_alloc hasBig_alloc bigVal_new hasBig_newB

/-- A step, as data. -/
structure OpM where
  kind : Int
  id : Int
  a : Int
  b : Int
  c : Int
  cfg : Cfg
  bytes : ByteArray
def OpM.cells (o : OpM) : List Value := .int .i64 o.kind :: .int .i64 o.id :: .int .i64 o.a :: .int .i64 o.b :: .int .i64 o.c :: o.cfg.vals [.string o.bytes]
def OpM.val (o : OpM) : Value := .agg o.cells.toArray

def noBytes : ByteArray := ⟨#[]⟩
def ansV (code : Int) (v : Value) : Value := .agg #[.int .i64 code, v, .string noBytes]

set_option maxHeartbeats 400000 in
theorem no_any (code : Int) (w : World) :
    Calls Try.prog 30 #[.int .i64 code] w fun e w' => e = .returned (ansV code (.slice none 0 0)) ∧ Keeps (fun _ => False) w w' := by
  go_enter Try.func30, Try.ntmps30
  go_wp2
  refine bodyPost_ret (v := ansV code (.slice none 0 0)) (by simp [results, Try.results30, go_sem, ansV]; rfl) rfl ⟨rfl, ?_⟩
  repeat (first | exact Keeps.refl _ _ | apply Keeps.alloc)

def ptrs (ps : List (SB × Ser)) : List Value := ps.map fun p => .pointer (some ⟨p.1.s, 0, none⟩)

/-- The engine lies in memory: its block e, its row of series v. -/
structure ERep (w : World) (e : Nat) (v : Value) (clock : Int) (ps : List (SB × Ser)) : Prop where
  blk : Blk w e [.int .i64 clock, v] 50
  row : w.ownsRow 0 61 1 v ps.length (ptrs ps)
  reps : ∀ p, p ∈ ps → SRep w p.1 p.2
  apart : ps.Pairwise (fun p q => ∀ i, p.1.foot p.2.k i → ¬ q.1.foot q.2.k i)
  ev : v.ownBlock ≠ some e
  ef : ∀ p, p ∈ ps → ∀ i, p.1.foot p.2.k i → i ≠ e ∧ v.ownBlock ≠ some i

def EFoot (e : Nat) (v : Value) (ps : List (SB × Ser)) (i : Nat) : Prop := i = e ∨ v.ownBlock = some i ∨ ∃ p, p ∈ ps ∧ p.1.foot p.2.k i

theorem row_cells {w : World} {v : Value} {n : Nat} {xs : List Value} (h : w.ownsRow 0 61 1 v n xs) : (n = 0 ∧ (v = .slice none 0 0 ∨ ∃ g cap, v = .slice (some ⟨g, 0, none⟩) 0 cap)) ∨ ∃ g cap, v = .slice (some ⟨g, 0, none⟩) n cap ∧ ∀ i u, xs[i]? = some u → w.cell? ⟨g, i, none⟩ = some u := by
  rcases h.2 with ⟨h1, h2⟩ | ⟨g, cap, cur, h1, _, h3, h4, h5, h6, h7⟩
  · exact .inl ⟨h2, .inl h1⟩
  · refine .inr ⟨g, cap, h1, fun i u hu => ?_⟩
    have hi : i < n := by have := (List.getElem?_eq_some_iff.1 hu).1; have := h.1; omega
    have : cur[i]? = some u := by
      rw [← h7] at hu
      rw [List.getElem?_take] at hu
      rw [if_pos (by omega)] at hu
      simpa using hu
    simp [World.cell?, h3, this]

def findP (ps : List (SB × Ser)) (id : Int) : Option (SB × Ser) := ps.find? (fun p => p.2.id == id)
def ptrOf : Option (SB × Ser) → Value
  | some p => .pointer (some ⟨p.1.s, 0, none⟩)
  | none => .pointer none

set_option maxRecDepth 100000 in
set_option maxHeartbeats 1000000 in
theorem find_any (e : Nat) (v : Value) (clock id : Int) (ps : List (SB × Ser)) (w : World) (h : ERep w e v clock ps) (hl : ps.length ≤ 1000) :
    Calls Try.prog 39 #[.pointer (some ⟨e, 0, none⟩), .int .i64 id] w fun r w' => r = .returned (ptrOf (findP ps id)) ∧ w' = w := by
  have hc1 : w.cell? ⟨e, 1, none⟩ = some v := h.blk.cell rfl
  rcases row_cells h.row with ⟨h0, hv⟩ | ⟨g, cap, hv, hcells⟩
  · have hps : ps = [] := List.length_eq_zero_iff.1 h0
    subst hps
    clear h h0
    rcases hv with hv | ⟨g, cap, hv⟩
    all_goals
      subst hv
      go_enter Try.func39, Try.ntmps39
      go_wp2
      go_loop [12] (fun i => i = .int .i64 0) (fun _ => 0)
      case atStart => rfl
      case round =>
        subst hrel
        go_wp2
        go_ret
        exact ⟨rfl, rfl⟩
  · subst hv
    have HC := hide hcells
    have HS := hide (show ∀ p, p ∈ ps → w.cell? ⟨p.1.s, 0, none⟩ = some (.int .i64 p.2.id) from fun p hp => (h.reps p hp).blk.cell rfl)
    clear h hcells
    generalize hn : ps.length = n at *
    have HN := hide hn
    clear hn
    go_enter Try.func39, Try.ntmps39
    go_wp2
    go_loop [12] (fun i => ∃ k : Nat, k ≤ n ∧ i = .int .i64 k ∧ Hid (findP ps id = findP (ps.drop k) id)) (fun i => n - (intOf i).toNat)
    case atStart => exact ⟨0, Nat.zero_le _, rfl, rfl⟩
    case round =>
      obtain ⟨k, hk, rfl, HE⟩ := hrel
      by_cases hlt : k < n
      · obtain ⟨p, hp⟩ : ∃ p, ps[k]? = some p := ⟨ps[k]'(by rw [unhide HN]; exact hlt), List.getElem?_eq_getElem _⟩
        have hd : ps.drop k = p :: ps.drop (k + 1) := by
          rw [List.drop_eq_getElem_cons (by rw [unhide HN]; exact hlt)]
          rw [List.getElem?_eq_getElem (by rw [unhide HN]; exact hlt)] at hp
          cases hp; rfl
        have hck : w.cell? ⟨g, k, none⟩ = some (.pointer (some ⟨p.1.s, 0, none⟩)) := unhide HC k _ (by unfold ptrs; rw [List.getElem?_map, hp]; rfl)
        have hid := unhide HS p (List.mem_of_getElem? hp)
        have hk0 : (0 : Int) ≤ (k : Int) := by omega
        have hkn : (k : Int) < (n : Int) := by omega
        cases hb : (p.2.id == id)
        · have HE' := hide (show findP ps id = findP (ps.drop (k + 1)) id by rw [unhide HE, hd]; unfold findP; rw [List.find?_cons]; rw [hb])
          clear hd hp
          go_wp2
          go_round
          case rel => exact ⟨k + 1, by omega, by go_num, HE'⟩
          case measure => simp [intOf]; omega
        · have HE' := hide (show findP ps id = some p by rw [unhide HE, hd]; unfold findP; rw [List.find?_cons]; rw [hb])
          clear hd hp
          go_wp2
          go_ret
          exact ⟨by rw [unhide HE']; rfl, rfl⟩
      · have HE' := hide (show findP ps id = none by rw [unhide HE, List.drop_eq_nil_of_le (by rw [unhide HN]; omega)]; rfl)
        go_wp2
        go_ret
        exact ⟨by rw [unhide HE']; rfl, rfl⟩

end Go.Proofs.Yteecnidnlkjehaa
