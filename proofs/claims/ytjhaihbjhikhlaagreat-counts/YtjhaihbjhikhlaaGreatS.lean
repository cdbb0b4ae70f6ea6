import Derived.Test.YtjhaihbjhikhlaaGreatL
namespace Go.Proofs.YtjhaihbjhikhlaaGreat
open Go.RowKit
attribute [local go_sem ↓] execOp_load38 execOp_load40
attribute [local go_sem] run_load38 run_load40 bigVal_drew hasBig_drew bigVal_ne hasBig_ne bigVal_alloc hasBig_alloc bigVal_new hasBig_newB

/-- A series, as data. -/
structure Ser where
  id : Int
  c : Cfg
  k : Nat
  acc : Int
  rel : Int
  ref : List Int
  l : List It
  nt : Note

/-- Where it lies: its own block, its queue, the queue's row, its notes. -/
structure SB where
  s : Nat
  q : Nat
  g : Option Nat
  n : NB

def Cfg.vals (c : Cfg) (rest : List Value) : List Value := .int .i64 c.kind :: .int .i64 c.lag :: .int .i64 c.skew :: .int .i64 c.cap :: .int .i64 c.k :: .int .i64 c.window :: .int .i64 c.bits :: .int .i64 c.rows :: .int .i64 c.width :: .int .i64 c.panes :: .int .i64 c.size :: .int .i64 c.degree :: .int .i64 c.half :: .int .i64 c.mark :: .int .i64 c.s00 :: .int .i64 c.s01 :: .int .i64 c.s10 :: .int .i64 c.s11 :: .int .i64 c.s20 :: .int .i64 c.s21 :: rest
def serCells (b : SB) (x : Ser) : List Value :=
  .int .i64 x.id :: x.c.vals (fn (fitsF x.k) :: fn (refuseF x.k) :: fn (startF x.k) :: relV x.k b.n.d :: qryV x.k b.n.d :: swpV x.k b.n.d :: .pointer (some ⟨b.q, 0, none⟩) :: .int .i64 x.acc :: .int .i64 x.rel :: x.ref.map (.int .i64 ·))

/-- A series lies in memory. -/
structure SRep (w : World) (b : SB) (x : Ser) : Prop where
  blk : Blk w b.s (serCells b x) 76
  que : QRep w b.q b.g x.l
  note : NRep w x.k b.n x.c x.nt
  sq : b.s ≠ b.q
  sg : ∀ g, b.g = some g → b.s ≠ g
  sn : ∀ i, nfoot x.k b.n i → i ≠ b.s ∧ i ≠ b.q ∧ b.g ≠ some i

/-- The blocks of a series. -/
def SB.foot (b : SB) (k : Nat) (i : Nat) : Prop := i = b.s ∨ i = b.q ∨ b.g = some i ∨ nfoot k b.n i

theorem SRep.keeps {M : Nat → Prop} {w w' : World} {b : SB} {x : Ser} (h : SRep w b x) (hk : Keeps M w w') (hn : ∀ i, b.foot x.k i → ¬ M i) : SRep w' b x :=
  ⟨h.blk.keeps hk (hn _ (.inl rfl)), h.que.keeps hk (hn _ (.inr (.inl rfl))) (fun _ hg => hn _ (.inr (.inr (.inl hg)))),
   h.note.keeps hk (fun i hi => hn i (.inr (.inr (.inr hi)))), h.sq, h.sg, h.sn⟩
theorem SRep.still {w w' : World} {b : SB} {x : Ser} (h : SRep w b x) (hk : Keeps (fun _ => False) w w') : SRep w' b x := h.keeps hk (fun _ _ h => h)
theorem SRep.lt {w : World} {b : SB} {x : Ser} (h : SRep w b x) (i : Nat) (hi : b.foot x.k i) : i < w.heap.size := by
  rcases hi with hi | hi | hi | hi
  · subst hi; exact h.blk.lt
  · subst hi; exact h.que.lt.1
  · exact (h.que.lt.2 i hi).1
  · exact h.note.lt i hi

/-- What holds of every series; n bounds its counts. -/
structure SInv (n : Int) (x : Ser) : Prop where
  valid : validB x.c = true
  kind : x.c.kind = x.k
  k1 : 1 ≤ x.k
  k5 : x.k ≤ 5
  acc0 : 0 ≤ x.acc
  accn : x.acc ≤ n
  rel0 : 0 ≤ x.rel
  rela : x.rel + x.l.length = x.acc
  reflen : x.ref.length = 12
  refn : ∀ v, v ∈ x.ref → 0 ≤ v ∧ v ≤ n
  cap : (x.l.length : Int) ≤ x.c.cap
  times : ∀ y, y ∈ x.l → 0 ≤ y.t ∧ y.t ≤ 4611686018427387904
  note : NInv x.rel x.nt

theorem SInv.common {n : Int} {x : Ser} (h : SInv n x) : 0 ≤ x.c.lag ∧ x.c.lag ≤ 100 ∧ 0 ≤ x.c.skew ∧ x.c.skew ≤ 100 ∧ 1 ≤ x.c.cap ∧ x.c.cap ≤ 8 := by
  have := h.valid
  simp only [validB, commonB, inB, Bool.and_eq_true, decide_eq_true_eq] at this
  omega
theorem SInv.weighs {n : Int} {x : Ser} (h : SInv n x) (h4 : 4 ≤ x.k) : x.c.weighs := valid_weighs h.valid h.kind h4 h.k5

set_option maxHeartbeats 400000 in
theorem wm_any (s : Nat) (lag clock : Int) (w : World) (h : w.cell? ⟨s, 2, none⟩ = some (.int .i64 lag)) (l0 : 0 ≤ lag) (l1 : lag ≤ 100) (c0 : 0 ≤ clock) (c1 : clock ≤ 4611686018427387904) :
    Calls Tryz.prog 38 #[.pointer (some ⟨s, 0, none⟩), .int .i64 clock] w fun e w' => e = .returned (.int .i64 (clock - lag)) ∧ w' = w := by
  go_enter Tryz.func38, Tryz.ntmps38
  go_wp2
  go_ret
  exact ⟨rfl, rfl⟩

/-- Why an item is refused; 0: it is not. -/
def refE (x : Ser) (clock : Int) (y : It) : Int :=
  if inB y.t 0 4611686018427387904 then
    if y.t ≤ clock - x.c.lag then 6
    else if clock + x.c.skew < y.t then 7
    else if kindE x.c x.k y ≠ 0 then kindE x.c x.k y
    else if x.c.cap ≤ x.l.length then 11 else 0
  else 5

end Go.Proofs.YtjhaihbjhikhlaaGreat
