import Derived.Test.YtjhaihbjhikhlaaGreatS
import Derived.Deep.LoopGhost
namespace Go.Proofs.YtjhaihbjhikhlaaGreat
open Go.RowKit
attribute [local go_sem ↓] execOp_load38 execOp_load40
attribute [local go_sem] run_load38 run_load40 bigVal_drew hasBig_drew bigVal_ne hasBig_ne bigVal_alloc hasBig_alloc bigVal_new hasBig_newB

theorem bigVal_keeps {M : Nat → Prop} {w w' : World} {b o n : Nat} (hk : Keeps M w w') (hn : ¬ M b) (hlt : b < w.heap.size) : bigVal w' b o n = bigVal w b o n ∧ hasBig w' b o n = hasBig w b o n := by
  have hc : ∀ j, w'.cell? ⟨b, o + j, none⟩ = w.cell? ⟨b, o + j, none⟩ := fun j => World.cell?_of_block (a := ⟨b, o + j, none⟩) (hk.block b hlt hn)
  constructor
  · unfold bigVal bigCells; simp only [hc]
  · unfold hasBig; simp only [hc]

theorem serCfg (b : SB) (x : Ser) : ((serCells b x).drop 1).take 20 = x.c.cells := rfl

set_option maxRecDepth 100000 in
set_option maxHeartbeats 4000000 in
theorem refusal_any (n : Int) (b : SB) (x : Ser) (y : It) (clock : Int) (w : World) (hs : SRep w b x) (hi : SInv n x) (c0 : 0 ≤ clock) (c1 : clock ≤ 4611686018427387904) :
    Calls Tryz.prog 34 #[.pointer (some ⟨b.s, 0, none⟩), y.val, .int .i64 clock] w fun e w' => e = .returned (.int .i64 (refE x clock y)) ∧ Keeps (fun _ => False) w w' := by
  obtain ⟨l0, l1, s0, s1, p1, p8⟩ := hi.common
  have hlt := hs.blk.lt
  have HS := hide hs
  have HI := hide hi
  have HB := hide (show Blk (w.alloc (.cells y.cells 66)) w.heap.size [.int .i64 y.t, .int .i64 y.k, .int .i64 y.d, .int .i64 y.n] 66 from Blk.new w [_, _, _, _] 66)
  have HK := hide ((Keeps.refl (fun _ => False) w).alloc (.cells y.cells 66))
  have HE := hide (show refE x clock y = if inB y.t 0 4611686018427387904 then (if y.t ≤ clock - x.c.lag then 6 else if clock + x.c.skew < y.t then 7 else if kindE x.c x.k y ≠ 0 then kindE x.c x.k y else if x.c.cap ≤ x.l.length then 11 else 0) else 5 from rfl)
  clear hs hi
  unfold It.val
  cases h1 : inB y.t 0 4611686018427387904
  · go_enter Tryz.func34, Tryz.ntmps34
    go_wp2_with (go_at_call 36; refine (time_any _ _).mono ?_; rintro e w' ⟨rfl, rfl⟩)
    go_ret
    exact ⟨ret_int (by rw [unhide HE, h1]; rfl), unhide HK⟩
  · obtain ⟨t0, t1⟩ := inB_iff h1
    rw [h1, if_pos rfl] at HE
    have hc2 : w.cell? ⟨b.s, 2, none⟩ = some (.int .i64 x.c.lag) := (unhide HS).blk.cell rfl
    go_enter Tryz.func34, Tryz.ntmps34
    go_wp2_with fail
    refine (time_any _ _).mono ?_
    rintro e w' ⟨rfl, rfl⟩
    rw [h1]
    go_wp2_with fail
    go_region_held3 (fun w' => w'.cell? ⟨w.heap.size, 0, none⟩ = some (.int .i64 y.t) ∧ w'.cell? ⟨b.s, 2, none⟩ = some (.int .i64 x.c.lag)) (go_keep)
      (first | (go_at_call 38; refine (wm_any b.s x.c.lag clock _ (by go_keep) l0 l1 c0 c1).mono ?_; rintro e w' ⟨rfl, rfl⟩))
    have HB1 := hide ((unhide HB).drew)
    have HK1 := hide ((unhide HK).drew)
    clear HB HK
    have e1 : (w.alloc (.cells #[.int .i64 y.t, .int .i64 y.k, .int .i64 y.d, .int .i64 y.n] 66)).drew = (w.alloc (.cells y.cells 66)).drew := rfl
    rw [e1]
    clear e1
    generalize (w.alloc (.cells y.cells 66)).drew = w1 at *
    generalize hbx : w.heap.size = bx at *
    have HS1 := hide ((unhide HS).still (unhide HK1))
    clear hc2 hlt hbx
    have hlt := (unhide HS1).blk.lt
    have hltx := (unhide HB1).lt
    have hb0 : w1.cell? ⟨bx, 0, none⟩ = some (.int .i64 y.t) := (unhide HB1).cell rfl
    have hb1 : w1.cell? ⟨bx, 1, none⟩ = some (.int .i64 y.k) := (unhide HB1).cell rfl
    have hb2 : w1.cell? ⟨bx, 2, none⟩ = some (.int .i64 y.d) := (unhide HB1).cell rfl
    have hb3 : w1.cell? ⟨bx, 3, none⟩ = some (.int .i64 y.n) := (unhide HB1).cell rfl
    have hc3 : w1.cell? ⟨b.s, 3, none⟩ = some (.int .i64 x.c.skew) := (unhide HS1).blk.cell rfl
    by_cases h6 : y.t ≤ clock - x.c.lag
    · rw [if_pos h6] at HE
      go_wp2
      go_ret
      exact ⟨ret_int (unhide HE).symm, unhide HK1⟩
    · rw [if_neg h6] at HE
      have h6' : decide (y.t ≤ clock - x.c.lag) = false := by simpa using h6
      go_wp2_with fail
      go_quiet (fail)
      by_cases h7 : clock + x.c.skew < y.t
      · rw [if_pos h7] at HE
        go_wp2
        go_ret
        exact ⟨ret_int (unhide HE).symm, (unhide HK1).then (Keeps.drewN _ _ _)⟩
      · rw [if_neg h7] at HE
        have h7' : decide (clock + x.c.skew < y.t) = false := by simpa using h7
        go_wp2_with fail
        have hkd : Keeps (fun _ => False) w1 (w1.drewN nq) := Keeps.drewN (fun _ => False) w1 nq
        have HS2 := hide ((unhide HS1).still hkd)
        have HB2 := hide ((unhide HB1).keeps hkd (fun h => h))
        have HK2 := hide ((unhide HK1).then hkd)
        clear hkd
        generalize w1.drewN nq = w2 at *
        clear HS1 HB1 HK1 hb0 hb1 hb2 hb3 hc3 hlt hltx h6 h6' h7 h7'
        have hlt := (unhide HS2).blk.lt
        have hltx := (unhide HB2).lt
        have hb0 : w2.cell? ⟨bx, 0, none⟩ = some (.int .i64 y.t) := (unhide HB2).cell rfl
        have hb1 : w2.cell? ⟨bx, 1, none⟩ = some (.int .i64 y.k) := (unhide HB2).cell rfl
        have hb2 : w2.cell? ⟨bx, 2, none⟩ = some (.int .i64 y.d) := (unhide HB2).cell rfl
        have hb3 : w2.cell? ⟨bx, 3, none⟩ = some (.int .i64 y.n) := (unhide HB2).cell rfl
        have hc22 : w2.cell? ⟨b.s, 22, none⟩ = some (.func (.func (refuseF x.k)) #[] #[]) := (unhide HS2).blk.cell rfl
        obtain ⟨hv, hh⟩ := bigVal_Blk_part (unhide HS2).blk 1 20 x.c.cells rfl rfl
        have hown := own_refuse x.k (unhide HI).k1 (unhide HI).k5
        go_region_held3 (fun w' => w'.cell? ⟨b.s, 22, none⟩ = some (.func (.func (refuseF x.k)) #[] #[]) ∧ bigVal w' b.s 1 20 = .agg x.c.cells.toArray ∧ hasBig w' b.s 1 20 = true ∧
            w'.cell? ⟨bx, 0, none⟩ = some (.int .i64 y.t) ∧ w'.cell? ⟨bx, 1, none⟩ = some (.int .i64 y.k) ∧ w'.cell? ⟨bx, 2, none⟩ = some (.int .i64 y.d) ∧ w'.cell? ⟨bx, 3, none⟩ = some (.int .i64 y.n))
          (first | (simp [*, bigVal_drew, hasBig_drew]; done) | (go_split_ands; refine ⟨hk.cell (by assumption) (fun h => h), (bigVal_keeps hk (fun h => h) (by simpa using hlt)).1.trans (by assumption), (bigVal_keeps hk (fun h => h) (by simpa using hlt)).2.trans (by assumption), hk.cell (by assumption) (fun h => h), hk.cell (by assumption) (fun h => h), hk.cell (by assumption) (fun h => h), hk.cell (by assumption) (fun h => h)⟩))
          (first | (refine (refuse_any x.c x.k y _ (unhide HI).k1 (unhide HI).k5 (unhide HI).weighs t0 t1).mono ?_; rintro e w' ⟨rfl, hk⟩))
        have hk3 : Keeps (fun _ => False) w2 w' := ((Keeps.refl (fun _ => False) w2).drew).then hk
        have HS3 := hide ((unhide HS2).still hk3)
        have HK3 := hide ((unhide HK2).then hk3)
        clear hk hk3 HS2 HB2 HK2 hb0 hb1 hb2 hb3 hc22 hv hh hown hlt hltx
        have hlt := (unhide HS3).blk.lt
        generalize he : kindE x.c x.k y = e at *
        by_cases h8 : e = 0
        · have h8' : (e != 0) = false := by simp [h8]
          rw [if_neg (by simpa using h8)] at HE
          have HN8 := hide h8
          clear h8
          have hc26 : w'.cell? ⟨b.s, 27, none⟩ = some (.pointer (some ⟨b.q, 0, none⟩)) := (unhide HS3).blk.cell rfl
          have hc4 : w'.cell? ⟨b.s, 4, none⟩ = some (.int .i64 x.c.cap) := (unhide HS3).blk.cell rfl
          go_wp2_with fail
          go_region_held3 (fun w'' => w''.cell? ⟨b.s, 27, none⟩ = some (.pointer (some ⟨b.q, 0, none⟩)) ∧ w''.cell? ⟨b.s, 4, none⟩ = some (.int .i64 x.c.cap)) (go_keep)
            (first | (go_at_call 57; refine (len_any b.q b.g x.l _ (by exact (unhide HS3).que.keeps ((Keeps.refl (fun _ => False) w').drew) (fun h => h) (fun _ _ h => h))).mono ?_; rintro e w'' ⟨rfl, rfl⟩))
          by_cases h9 : x.c.cap ≤ (x.l.length : Int)
          · rw [if_pos h9] at HE
            go_wp2
            go_ret
            exact ⟨ret_int (unhide HE).symm, (unhide HK3).drew⟩
          · rw [if_neg h9] at HE
            have h9' : decide (x.c.cap ≤ (x.l.length : Int)) = false := by simpa using h9
            go_wp2
            go_ret
            exact ⟨ret_int (unhide HE).symm, (unhide HK3).drew⟩
        · have h8' : (e != 0) = true := by simp [h8]
          rw [if_pos (by simpa using h8)] at HE
          have HN8 := hide h8
          clear h8
          go_wp2
          go_ret
          exact ⟨ret_int (unhide HE).symm, unhide HK3⟩

end Go.Proofs.YtjhaihbjhikhlaaGreat

namespace Go.Proofs.YtjhaihbjhikhlaaGreat
open Go.RowKit
attribute [local go_sem ↓] execOp_load38 execOp_load40
attribute [local go_sem] run_load38 run_load40 bigVal_drew hasBig_drew bigVal_ne hasBig_ne bigVal_alloc hasBig_alloc bigVal_new hasBig_newB

def numbered (y : It) (n : Int) : It := ⟨y.t, y.k, y.d, n⟩
def accS (x : Ser) (y : It) : Ser := { x with acc := x.acc + 1, l := riseL (x.l.length + 1) (x.l ++ [numbered y (x.acc + 1)]) x.l.length }

/-- Behind a call: another place, the same blocks but for new ones. -/
def SB.next (b b' : SB) (k size : Nat) : Prop := b'.s = b.s ∧ ∀ i, b'.foot k i → b.foot k i ∨ size ≤ i

set_option maxRecDepth 100000 in
set_option maxHeartbeats 2000000 in
theorem accept_any (n : Int) (b : SB) (x : Ser) (y : It) (w : World) (hs : SRep w b x) (hi : SInv n x) (hn : n ≤ 4611686018427387904) :
    Calls Tryz.prog 35 #[.pointer (some ⟨b.s, 0, none⟩), y.val] w fun e w' => e = .returned (.int .i64 (x.acc + 1)) ∧ ∃ b', SRep w' b' (accS x y) ∧ b.next b' x.k w.heap.size ∧ Keeps (b.foot x.k) w w' := by
  obtain ⟨l0, l1, s0, s1, p1, p8⟩ := hi.common
  have hlt := hs.blk.lt
  have hcap := hi.cap
  have ha0 := hi.acc0
  have han := hi.accn
  have hlq := hs.que.lt
  have hc27 : w.cell? ⟨b.s, 28, none⟩ = some (.int .i64 x.acc) := hs.blk.cell rfl
  have hf := hs.blk.frozen
  have HS := hide hs
  clear hs hi
  have hwr : IntKind.i64.wrap (x.acc + 1) = x.acc + 1 := wrap_in (by omega) (by omega)
  unfold It.val
  go_enter Tryz.func35, Tryz.ntmps35
  go_wp2_with fail
  have hk1 : Keeps (fun i => i = b.s) w ((w.setCell ⟨b.s, 28, none⟩ (.int .i64 (x.acc + 1))).alloc (.cells #[.int .i64 y.t, .int .i64 y.k, .int .i64 y.d, .int .i64 (x.acc + 1)] 66)) :=
    ((Keeps.refl (fun i => i = b.s) w).setCell (p := ⟨b.s, 28, none⟩) (Or.inl rfl) _).alloc _
  have HB1 := hide (show Blk ((w.setCell ⟨b.s, 28, none⟩ (.int .i64 (x.acc + 1))).alloc (.cells #[.int .i64 y.t, .int .i64 y.k, .int .i64 y.d, .int .i64 (x.acc + 1)] 66)) b.s (serCells b { x with acc := x.acc + 1 }) 76 from ((unhide HS).blk.setCell 28 (.int .i64 (x.acc + 1))).alloc _)
  have HX1 := hide (show Blk ((w.setCell ⟨b.s, 28, none⟩ (.int .i64 (x.acc + 1))).alloc (.cells #[.int .i64 y.t, .int .i64 y.k, .int .i64 y.d, .int .i64 (x.acc + 1)] 66)) w.heap.size [.int .i64 y.t, .int .i64 y.k, .int .i64 y.d, .int .i64 (x.acc + 1)] 66 from Blk.newAt (by simp) [_, _, _, _] 66)
  have HQ1 := hide ((unhide HS).que.keeps hk1 (fun h => (unhide HS).sq h.symm) (fun g hg h => (unhide HS).sg g hg h.symm))
  have HD1 := hide (show NRep _ x.k b.n x.c x.nt from (unhide HS).note.keeps hk1 (fun i hi h => ((unhide HS).sn i hi).1 h))
  have HK1 := hide hk1
  clear hk1 hc27 hf
  generalize ((w.setCell ⟨b.s, 28, none⟩ (.int .i64 (x.acc + 1))).alloc (.cells #[.int .i64 y.t, .int .i64 y.k, .int .i64 y.d, .int .i64 (x.acc + 1)] 66)) = w1 at *
  have hsz : w.heap.size ≤ w1.heap.size := (unhide HK1).size
  generalize hbx : w.heap.size = bx at *
  have HBX := hide hbx
  clear hbx
  have hlt1 := (unhide HB1).lt
  have hltx := (unhide HX1).lt
  have hc26 : w1.cell? ⟨b.s, 27, none⟩ = some (.pointer (some ⟨b.q, 0, none⟩)) := (unhide HB1).cell rfl
  have hx0 : w1.cell? ⟨bx, 0, none⟩ = some (.int .i64 y.t) := (unhide HX1).cell rfl
  have hx1 : w1.cell? ⟨bx, 1, none⟩ = some (.int .i64 y.k) := (unhide HX1).cell rfl
  have hx2 : w1.cell? ⟨bx, 2, none⟩ = some (.int .i64 y.d) := (unhide HX1).cell rfl
  have hx3 : w1.cell? ⟨bx, 3, none⟩ = some (.int .i64 (x.acc + 1)) := (unhide HX1).cell rfl
  have HNS := hide (show ¬ (b.s = b.q ∨ b.g = some b.s) from fun h => h.elim (unhide HS).sq (fun h => (unhide HS).sg b.s h rfl))
  have HNX := hide (show ¬ (bx = b.q ∨ b.g = some bx) from fun h => h.elim (fun h => by omega) (fun h => by have := (hlq.2 bx h).1; omega))
  have hl9 : x.l.length ≤ 900 := by omega
  go_region_held3 (fun w' => w'.cell? ⟨b.s, 27, none⟩ = some (.pointer (some ⟨b.q, 0, none⟩)) ∧ w'.cell? ⟨bx, 0, none⟩ = some (.int .i64 y.t) ∧ w'.cell? ⟨bx, 1, none⟩ = some (.int .i64 y.k) ∧ w'.cell? ⟨bx, 2, none⟩ = some (.int .i64 y.d) ∧ w'.cell? ⟨bx, 3, none⟩ = some (.int .i64 (x.acc + 1)))
    (first | (simp [*]; done) | (go_split_ands; exact ⟨hk.cell (by assumption) (unhide HNS), hk.cell (by assumption) (unhide HNX), hk.cell (by assumption) (unhide HNX), hk.cell (by assumption) (unhide HNX), hk.cell (by assumption) (unhide HNX)⟩))
    (first | (go_at_call 58; refine (put_any b.q b.g x.l (numbered y (x.acc + 1)) _ (by exact (unhide HQ1).keeps ((Keeps.refl (fun _ => False) w1).drew) (fun h => h) (fun _ _ h => h)) hl9).mono ?_; rintro e w' ⟨rfl, og, hq, hk, hog⟩))
  have HF := hide (show w'.cell? ⟨bx, 3, none⟩ = some (.int .i64 (x.acc + 1)) from ((((unhide HX1).drew).keeps hk (unhide HNX)).cell rfl))
  have hx3' := unhide HF
  have HK := hide hk
  have HQ := hide hq
  have HOG := hide hog
  clear hk hq hog hx0 hx1 hx2 hx3 hc26
  go_wp2
  go_ret
  have hkd : Keeps (fun k => k = b.q ∨ b.g = some k) w1 w' := ((Keeps.refl (fun k => k = b.q ∨ b.g = some k) w1).drew).then (unhide HK)
  refine ⟨rfl, ⟨b.s, b.q, og, b.n⟩, ⟨(unhide HB1).keeps hkd (unhide HNS), unhide HQ, (unhide HD1).keeps hkd (fun i hi h => ?_), (unhide HS).sq, ?_, fun i hi => ⟨((unhide HS).sn i hi).1, ((unhide HS).sn i hi).2.1, ?_⟩⟩, ⟨rfl, ?_⟩, ?_⟩
  · rcases h with h | h
    · exact ((unhide HS).sn i hi).2.1 h
    · exact ((unhide HS).sn i hi).2.2 h
  · intro g hg
    rcases unhide HOG with h | ⟨k, h, hz⟩
    · exact (unhide HS).sg g (h.symm.trans hg)
    · have hgk : g = k := by have := h.symm.trans hg; simpa using this.symm
      show b.s ≠ g
      rw [World.size_drew] at hz
      omega
  · intro hg
    rcases unhide HOG with h | ⟨k, h, hz⟩
    · exact ((unhide HS).sn i hi).2.2 (h.symm.trans hg)
    · have hgk : i = k := by have := h.symm.trans hg; simpa using this.symm
      have := (unhide HD1).lt i hi
      rw [World.size_drew] at hz
      omega
  · intro i hi
    rcases hi with hi | hi | hi | hi
    · exact .inl (.inl hi)
    · exact .inl (.inr (.inl hi))
    · rcases unhide HOG with h | ⟨k, h, hz⟩
      · exact .inl (.inr (.inr (.inl (h.symm.trans hi))))
      · have hgk : i = k := by have := h.symm.trans hi; simpa using this.symm
        rw [World.size_drew] at hz
        exact .inr (by have := unhide HBX; omega)
    · exact .inl (.inr (.inr (.inr hi)))
  · refine ((unhide HK1).mono (M' := b.foot x.k) (fun i _ h => .inl h)).trans hkd (fun i hi _ => ?_)
    rcases hi with hi | hi
    · exact .inr (.inl hi)
    · exact .inr (.inr (.inl hi))

end Go.Proofs.YtjhaihbjhikhlaaGreat

namespace Go.Proofs.YtjhaihbjhikhlaaGreat
open Go.RowKit

/-- What holds of every item of a row, and of the item that is none. -/
theorem swapL_all {P : It → Prop} (h0 : P ⟨0, 0, 0, 0⟩) {l : List It} (h : ∀ y, y ∈ l → P y) (i j : Nat) : ∀ y, y ∈ swapL l i j → P y := by
  have hat : ∀ i, P (itAt l i) := by
    intro i
    unfold itAt
    rw [List.getD_eq_getElem?_getD]
    cases hi : l[i]? with
    | none => exact h0
    | some v => exact h v (List.mem_of_getElem? hi)
  intro y hy
  unfold swapL at hy
  rcases List.mem_or_eq_of_mem_set hy with hy | hy
  · rcases List.mem_or_eq_of_mem_set hy with hy | hy
    · exact h y hy
    · subst hy; exact hat j
  · subst hy; exact hat i
theorem riseL_all {P : It → Prop} (h0 : P ⟨0, 0, 0, 0⟩) (f : Nat) (l : List It) (i : Nat) (h : ∀ y, y ∈ l → P y) : ∀ y, y ∈ riseL f l i → P y := by
  induction f generalizing l i with
  | zero => exact h
  | succ f ih =>
    unfold riseL
    split
    · exact h
    · split
      · exact ih _ _ (swapL_all h0 h _ _)
      · exact h
theorem sinkL_all {P : It → Prop} (h0 : P ⟨0, 0, 0, 0⟩) (f : Nat) (l : List It) (i : Nat) (h : ∀ y, y ∈ l → P y) : ∀ y, y ∈ sinkL f l i → P y := by
  induction f generalizing l i with
  | zero => exact h
  | succ f ih =>
    unfold sinkL
    split
    · exact h
    · split
      · exact ih _ _ (swapL_all h0 h _ _)
      · exact h
theorem itAt_all {P : It → Prop} (h0 : P ⟨0, 0, 0, 0⟩) {l : List It} (h : ∀ y, y ∈ l → P y) (i : Nat) : P (itAt l i) := by
  unfold itAt
  rw [List.getD_eq_getElem?_getD]
  cases hi : l[i]? with
  | none => exact h0
  | some v => exact h v (List.mem_of_getElem? hi)
theorem takeL_all {P : It → Prop} (h0 : P ⟨0, 0, 0, 0⟩) (l : List It) (h : ∀ y, y ∈ l → P y) : ∀ y, y ∈ takeL l → P y := by
  unfold takeL
  refine sinkL_all h0 _ _ _ (fun y hy => ?_)
  have hy := List.mem_of_mem_take hy
  rcases List.mem_or_eq_of_mem_set hy with hy | hy
  · exact h y hy
  · subst hy; exact itAt_all h0 h _
theorem takeL_length (l : List It) : (takeL l).length = l.length - 1 := by
  unfold takeL
  rw [sinkL_length]; simp

/-- One item is released, by the watermark m. -/
def relOne (x : Ser) (m : Int) : Ser := { x with l := takeL x.l, rel := x.rel + 1, nt := relN x.k x.c x.nt (itAt x.l 0).t m }
def relS : Nat → Ser → Int → Ser
  | 0, x, _ => x
  | f + 1, x, m => if x.l.isEmpty then x else if m < (itAt x.l 0).t then x else relS f (relOne x m) m

theorem relOne_inv {n : Int} {x : Ser} (h : SInv n x) (hl : x.l ≠ []) (m : Int) : SInv n (relOne x m) := by
  have hlen : 0 < x.l.length := List.length_pos_iff.2 hl
  have hra := h.rela
  have hcap := h.cap
  have hrel := h.rel0
  have ht : (takeL x.l).length = x.l.length - 1 := takeL_length _
  refine ⟨h.valid, h.kind, h.k1, h.k5, h.acc0, h.accn, ?_, ?_, h.reflen, h.refn, ?_, ?_, ?_⟩
  · show 0 ≤ x.rel + 1; omega
  · show x.rel + 1 + ((takeL x.l).length : Int) = x.acc; omega
  · show ((takeL x.l).length : Int) ≤ x.c.cap; omega
  · exact takeL_all (P := fun y => 0 ≤ y.t ∧ y.t ≤ 4611686018427387904) (by simp) _ h.times
  · exact relN_inv h.note h.valid h.kind _ _

theorem accS_inv {n : Int} {x : Ser} (h : SInv n x) (y : It) (t0 : 0 ≤ y.t) (t1 : y.t ≤ 4611686018427387904) (hc : (x.l.length : Int) < x.c.cap) (ha : x.acc < n) : SInv n (accS x y) := by
  have h0 := h.acc0; have hr := h.rela
  have hlen : (riseL (x.l.length + 1) (x.l ++ [numbered y (x.acc + 1)]) x.l.length).length = x.l.length + 1 := by rw [riseL_length]; simp
  refine ⟨h.valid, h.kind, h.k1, h.k5, ?_, ?_, h.rel0, ?_, h.reflen, h.refn, ?_, ?_, h.note⟩
  · show 0 ≤ x.acc + 1; omega
  · show x.acc + 1 ≤ n; omega
  · show x.rel + ((riseL (x.l.length + 1) (x.l ++ [numbered y (x.acc + 1)]) x.l.length).length : Int) = x.acc + 1; omega
  · show ((riseL (x.l.length + 1) (x.l ++ [numbered y (x.acc + 1)]) x.l.length).length : Int) ≤ x.c.cap; omega
  · refine riseL_all (P := fun y => 0 ≤ y.t ∧ y.t ≤ 4611686018427387904) (by simp) _ _ _ (fun z hz => ?_)
    rcases List.mem_append.1 hz with hz | hz
    · exact h.times z hz
    · rw [List.mem_singleton] at hz; subst hz; exact ⟨t0, t1⟩

end Go.Proofs.YtjhaihbjhikhlaaGreat

namespace Go.Proofs.YtjhaihbjhikhlaaGreat
open Go.RowKit
attribute [local go_sem ↓] execOp_load38 execOp_load40
attribute [local go_sem] run_load38 run_load40 bigVal_drew hasBig_drew bigVal_ne hasBig_ne bigVal_alloc hasBig_alloc bigVal_new hasBig_newB

theorem relOne_rep {w w5 : World} {b : SB} {x : Ser} {g : Nat} {m : Int} {n' : NB} (h : SRep w b x) (hg : b.g = some g) (hb : Blk w5 b.s (serCells b { x with rel := x.rel + 1 }) 76) (hq : QRep w5 b.q (some g) (takeL x.l))
    (hn : NRep w5 x.k n' x.c (relN x.k x.c x.nt (itAt x.l 0).t m)) (hd : n'.d = b.n.d) (hf : ∀ i, nfoot x.k n' i → i ≠ b.s ∧ i ≠ b.q ∧ b.g ≠ some i) : SRep w5 ⟨b.s, b.q, b.g, n'⟩ (relOne x m) := by
  refine ⟨?_, by show QRep w5 b.q b.g _; rw [hg]; exact hq, hn, h.sq, h.sg, hf⟩
  have : serCells ⟨b.s, b.q, b.g, n'⟩ (relOne x m) = serCells b { x with rel := x.rel + 1 } := by unfold serCells; simp only [hd]; rfl
  rw [this]
  exact hb

set_option maxRecDepth 100000 in
set_option maxHeartbeats 4000000 in
theorem release_any (n : Int) (b : SB) (x : Ser) (m : Int) (w : World) (hs : SRep w b x) (hi : SInv n x) (hn : n ≤ 4398046511104) (m0 : -100 ≤ m) (m1 : m ≤ 4611686018427387904) :
    Calls Tryz.prog 37 #[.pointer (some ⟨b.s, 0, none⟩), .int .i64 m] w fun e w' => e = .returned (.tuple #[]) ∧ ∃ b', SRep w' b' (relS (x.l.length + 1) x m) ∧ b.next b' x.k w.heap.size ∧ Keeps (b.foot x.k) w w' := by
  have HS := hide hs
  have HI := hide hi
  clear hs hi
  go_enter Tryz.func37, Tryz.ntmps37
  go_wp2
  go_loopg [5] (x.l.length) (fun g _s wr => ∃ (b' : SB) (x' : Ser), Hid (SRep wr b' x') ∧ Hid (SInv n x') ∧ Hid (b.next b' x.k w.heap.size) ∧ Hid (Keeps (b.foot x.k) w wr) ∧ x'.k = x.k ∧ x'.l.length = g ∧ Hid (relS (x.l.length + 1) x m = relS (x'.l.length + 1) x' m))
  case atStart => exact ⟨b, x, HS, HI, ⟨rfl, fun _ h => .inl h⟩, Keeps.refl _ _, rfl, rfl, rfl⟩
  case round =>
    obtain ⟨b1, x1, HS1, HI1, HN1, HK1, hk1, hg1, HE1⟩ := hrel
    have HKK := hide hk1
    have HG := hide hg1
    have HS0 := hide (unhide HN1).1
    clear hk1 hg1
    have HB := hide (show Blk wr b.s (serCells b1 x1) 76 by rw [← unhide HS0]; exact (unhide HS1).blk)
    have hlt := (unhide HB).lt
    have hc26 : wr.cell? ⟨b.s, 27, none⟩ = some (.pointer (some ⟨b1.q, 0, none⟩)) := (unhide HB).cell rfl
    go_wp2_with fail
    refine (first_any b1.q b1.g x1.l wr (unhide HS1).que).mono ?_
    rintro e w1 ⟨rfl, hk1⟩
    have HB1 := hide ((unhide HB).keeps hk1 (fun h => h))
    have HS2 := hide ((unhide HS1).still hk1)
    have HK2 := hide ((unhide HK1).trans hk1 (fun _ h _ => h.elim))
    have hsz1 : wr.heap.size ≤ w1.heap.size := hk1.size
    have hszw := (unhide HK1).size
    clear hk1 hc26 hlt
    by_cases hemp : x1.l.isEmpty = true
    · have HEM := hide hemp
      rw [hemp]
      clear hemp
      unfold It.val
      go_wp2
      refine bodyPost_ret (results_none rfl _ _ _) rfl ⟨rfl, b1, ?_, unhide HN1, (unhide HK2).alloc _⟩
      rw [unhide HE1]
      unfold relS
      rw [if_pos (unhide HEM)]
      exact (unhide HS2).still ((Keeps.refl _ _).alloc _)
    · have hemp' : x1.l.isEmpty = false := by simpa using hemp
      have HNE := hide (show x1.l ≠ [] by intro h; rw [h] at hemp; exact hemp rfl)
      have HEM := hide hemp
      rw [hemp']
      clear hemp hemp'
      generalize hy : itAt x1.l 0 = y
      have HY := hide hy
      clear hy
      unfold It.val
      have HB2 := hide ((unhide HB1).alloc (.cells #[.int .i64 y.t, .int .i64 y.k, .int .i64 y.d, .int .i64 y.n] 66))
      have HX2 := hide (Blk.new w1 [.int .i64 y.t, .int .i64 y.k, .int .i64 y.d, .int .i64 y.n] 66)
      have HS3 := hide ((unhide HS2).still ((Keeps.refl (fun _ => False) w1).alloc (.cells #[.int .i64 y.t, .int .i64 y.k, .int .i64 y.d, .int .i64 y.n] 66)))
      have HK3 := hide ((unhide HK2).alloc (.cells #[.int .i64 y.t, .int .i64 y.k, .int .i64 y.d, .int .i64 y.n] 66))
      have hlt1 := (unhide HB1).lt
      have hc26 : w1.cell? ⟨b.s, 27, none⟩ = some (.pointer (some ⟨b1.q, 0, none⟩)) := (unhide HB1).cell rfl
      by_cases ht : m < y.t
      · go_wp2
        refine bodyPost_ret (results_none rfl _ _ _) rfl ⟨rfl, b1, ?_, unhide HN1, unhide HK3⟩
        rw [unhide HE1]
        unfold relS
        rw [if_neg (unhide HEM), if_pos (by rw [unhide HY]; exact ht)]
        exact unhide HS3
      · have ht' : decide (m < y.t) = false := by simpa using ht
        have HT := hide ht
        clear ht
        go_wp2_with fail
        have HLT := hide (show ∀ i, b1.foot x1.k i → i < w1.heap.size from (unhide HS2).lt)
        generalize w1.alloc (.cells #[.int .i64 y.t, .int .i64 y.k, .int .i64 y.d, .int .i64 y.n] 66) = w2 at *
        generalize hbx : w1.heap.size = bx at *
        clear hbx hc26 HB1 HS2 HK2 HB HS1 HK1
        obtain ⟨g, hg⟩ : ∃ g, b1.g = some g := by
          cases hbg : b1.g with
          | none => have hq := (unhide HS3).que; rw [hbg] at hq; exact absurd hq.1 (unhide HNE)
          | some g => exact ⟨g, rfl⟩
        have HGG := hide hg
        have HLEN := hide (List.length_pos_iff.2 (unhide HNE))
        have hl9 : x1.l.length ≤ 900 := by have h1 := (unhide HI1).cap; have h2 := (unhide HI1).common; omega
        refine (take_any b1.q g x1.l w2 (by have hq := (unhide HS3).que; rw [hg] at hq; exact hq) hl9 (unhide HLEN)).mono ?_
        rintro e w3 ⟨⟨v, rfl⟩, hq3, hk3⟩
        have HNS := hide (show ¬ (b.s = b1.q ∨ b.s = g) from fun h => by
          rw [← unhide HS0] at h
          exact h.elim (unhide HS3).sq ((unhide HS3).sg g hg))
        have HNX := hide (show ¬ (bx = b1.q ∨ bx = g) from fun h => by
          rcases h with h | h
          · have := unhide HLT bx (.inr (.inl h)); omega
          · have := unhide HLT bx (.inr (.inr (.inl (by rw [hg, h])))); omega)
        have HB3 := hide ((unhide HB2).keeps hk3 (unhide HNS))
        have HX3 := hide ((unhide HX2).keeps hk3 (unhide HNX))
        have HQ3 := hide hq3
        have HD3 := hide (show NRep w3 x1.k b1.n x1.c x1.nt from (unhide HS3).note.keeps hk3 (fun i hi h => by
          rcases h with h | h
          · exact ((unhide HS3).sn i hi).2.1 h
          · exact ((unhide HS3).sn i hi).2.2 (by rw [hg, h])))
        have HK4 := hide ((unhide HK3).trans hk3 (fun i hi hlt => by
          have hf : b1.foot x.k i := by
            rcases hi with hi | hi
            · exact .inr (.inl hi)
            · exact .inr (.inr (.inl (by rw [hg, hi])))
          rcases (unhide HN1).2 i hf with h | h
          · exact h
          · omega))
        clear hk3 hq3 HB2 HX2 HK3 hg
        have hc28 : w3.cell? ⟨b.s, 29, none⟩ = some (.int .i64 x1.rel) := (unhide HB3).cell rfl
        have hf3 := (unhide HB3).frozen
        have hwr : IntKind.i64.wrap (x1.rel + 1) = x1.rel + 1 := by
          have h1 := (unhide HI1).rel0; have h2 := (unhide HI1).rela; have h3 := (unhide HI1).accn
          exact wrap_in (by omega) (by omega)
        go_wp2_with fail
        have hk4 : Keeps (fun i => i = b.s) w3 (w3.setCell ⟨b.s, 29, none⟩ (.int .i64 (x1.rel + 1))) := (Keeps.refl (fun i => i = b.s) w3).setCell (p := ⟨b.s, 29, none⟩) (Or.inl rfl) _
        have HB4 := hide (show Blk (w3.setCell ⟨b.s, 29, none⟩ (.int .i64 (x1.rel + 1))) b.s (serCells b1 { x1 with rel := x1.rel + 1 }) 76 from (unhide HB3).setCell 29 _)
        have HX4 := hide ((unhide HX3).keeps hk4 (fun h => by omega))
        have HQ4 := hide ((unhide HQ3).keeps hk4 (fun h => unhide HNS (.inl h.symm)) (fun g' hg' h => unhide HNS (.inr (by cases hg'; exact h.symm))))
        have HD4 := hide (show NRep (w3.setCell ⟨b.s, 29, none⟩ (.int .i64 (x1.rel + 1))) x1.k b1.n x1.c x1.nt from (unhide HD3).keeps hk4 (fun i hi h => ((unhide HS3).sn i hi).1 (by rw [h, unhide HS0])))
        have HK5 := hide ((unhide HK4).trans hk4 (fun i hi hlt => .inl hi))
        clear hk4 HB3 HX3 HQ3 HD3 HK4 hc28 hf3 hwr
        generalize w3.setCell ⟨b.s, 29, none⟩ (.int .i64 (x1.rel + 1)) = w4 at *
        have hc24 : w4.cell? ⟨b.s, 24, none⟩ = some (.func (.func (relF x1.k)) (capsN x1.k b1.n.d) #[]) := (unhide HB4).cell rfl
        have hx0 : w4.cell? ⟨bx, 0, none⟩ = some (.int .i64 y.t) := (unhide HX4).cell rfl
        have hx1 : w4.cell? ⟨bx, 1, none⟩ = some (.int .i64 y.k) := (unhide HX4).cell rfl
        have hx2 : w4.cell? ⟨bx, 2, none⟩ = some (.int .i64 y.d) := (unhide HX4).cell rfl
        have hx3 : w4.cell? ⟨bx, 3, none⟩ = some (.int .i64 y.n) := (unhide HX4).cell rfl
        have HFIN := hide (show relS (x.l.length + 1) x m = relS (x1.l.length) (relOne x1 m) m by
          rw [unhide HE1]
          conv => lhs; unfold relS
          rw [if_neg (unhide HEM), if_neg (by rw [unhide HY]; have := unhide HT; omega)])
        have HTL := hide (takeL_length x1.l)
        have hty := itAt_all (P := fun y => 0 ≤ y.t ∧ y.t ≤ 4611686018427387904) (by simp) (unhide HI1).times 0
        rw [unhide HY] at hty
        have hown := own_rel x1.k (unhide HI1).k1 (unhide HI1).k5
        have HRL := hide (show x1.rel ≤ 4398046511103 by have h1 := (unhide HI1).rela; have h2 := (unhide HI1).accn; have h3 := unhide HLEN; omega)
        go_region_with (refine (rel_any (rel := x1.rel) x1.k b1.n x1.c x1.nt y m _ _ (by first | rfl | simp) (by exact (unhide HD4).still (Keeps.refl _ _).drew) (unhide HI1).note (unhide HRL) (unhide HI1).valid (unhide HI1).kind (unhide HI1).k1 (unhide HI1).k5 m0 m1 hty.1 hty.2).mono ?_; rintro e w' ⟨rfl, n', hn', hd', hf', hk⟩)
        all_goals
          have HKD := hide (((Keeps.refl (nfoot x1.k b1.n) w4).drew).then hk)
          have HN' := hide hn'
          have HD' := hide hd'
          have HF' := hide hf'
          clear hk hn' hd' hf' hx0 hx1 hx2 hx3 hc24 hown
          go_wp2
          go_roundg (x1.l.length - 1)
          case measure => have h1 := unhide HG; have h2 := unhide HLEN; omega
          case rel =>
            have hsn := (unhide HS3).sn
            have hlt4 : ∀ i, b1.foot x1.k i → i < w4.heap.size := by
              have h1 := (unhide HB4).lt
              have h2 := (unhide HQ4).lt
              rintro i (hi | hi | hi | hi)
              · rw [hi, unhide HS0]; exact h1
              · rw [hi]; exact h2.1
              · rw [unhide HGG] at hi; exact (h2.2 i hi).1
              · exact (unhide HD4).lt i hi
            have hff : ∀ i, nfoot x1.k n' i → i ≠ b1.s ∧ i ≠ b1.q ∧ b1.g ≠ some i := by
              intro i hi
              rcases unhide HF' i hi with h | h
              · exact hsn i h
              · rw [World.size_drew] at h
                refine ⟨fun e => ?_, fun e => ?_, fun e => ?_⟩
                · have := hlt4 i (.inl e); omega
                · have := hlt4 i (.inr (.inl e)); omega
                · have := hlt4 i (.inr (.inr (.inl e))); omega
            have hr : SRep w' ⟨b1.s, b1.q, b1.g, n'⟩ (relOne x1 m) := by
              refine relOne_rep (unhide HS3) (unhide HGG) ?_ ((unhide HQ4).keeps (unhide HKD) (fun h => (hsn _ h).2.1 rfl) (fun g' hg' h => (hsn _ h).2.2 (by rw [unhide HGG]; exact hg'))) (by rw [unhide HY]; exact unhide HN') (unhide HD') hff
              rw [unhide HS0]
              exact (unhide HB4).keeps (unhide HKD) (fun h => (hsn _ h).1 (unhide HS0).symm)
            refine ⟨⟨b1.s, b1.q, b1.g, n'⟩, relOne x1 m, hr, relOne_inv (unhide HI1) (unhide HNE) m, ⟨(unhide HN1).1, fun i hi => ?_⟩, (unhide HK5).trans (unhide HKD) (fun i hi hlt => ?_), unhide HKK, unhide HTL, ?_⟩
            · rcases hi with hi | hi | hi | hi
              · exact (unhide HN1).2 i (.inl hi)
              · exact (unhide HN1).2 i (.inr (.inl hi))
              · exact (unhide HN1).2 i (.inr (.inr (.inl hi)))
              · rw [← unhide HKK] at hi
                rcases unhide HF' i hi with h | h
                · exact (unhide HN1).2 i (.inr (.inr (.inr (by rw [← unhide HKK]; exact h))))
                · rw [World.size_drew] at h
                  have := (unhide HK5).size
                  exact .inr (by omega)
            · have hf : b1.foot x.k i := .inr (.inr (.inr (by rw [← unhide HKK]; exact hi)))
              rcases (unhide HN1).2 i hf with h | h
              · exact h
              · omega
            · show _ = relS ((takeL x1.l).length + 1) (relOne x1 m) m
              rw [unhide HFIN, unhide HTL, show x1.l.length - 1 + 1 = x1.l.length by have := unhide HLEN; omega]

end Go.Proofs.YtjhaihbjhikhlaaGreat

namespace Go.Proofs.YtjhaihbjhikhlaaGreat
open Go.RowKit
attribute [local go_sem ↓] execOp_load38 execOp_load40
attribute [local go_sem] run_load38 run_load40 bigVal_drew hasBig_drew bigVal_ne hasBig_ne bigVal_alloc hasBig_alloc bigVal_new hasBig_newB

def refAt (l : List Int) (j : Nat) : Int := l.getD j 0
theorem ser_ref (b : SB) (x : Ser) (hl : x.ref.length = 12) (j : Nat) (hj : j < 12) : (serCells b x)[30 + j]? = some (.int .i64 (refAt x.ref j)) := by
  have h1 : (serCells b x)[30 + j]? = (x.ref.map (fun v => Value.int .i64 v))[j]? := by
    rw [Nat.add_comm]; rfl
  rw [h1, List.getElem?_map]
  have hj' : j < x.ref.length := by omega
  simp [refAt, hj']
def ints (l : List Int) : List Value := l.map (fun v => Value.int .i64 v)
def toldL : List Nat := [5, 6, 7, 8, 10, 9, 11]
def statsL (x : Ser) : List Int := x.acc :: x.rel :: toldL.map (refAt x.ref)

theorem info3 : (Tryz.prog.info? 3).map (fun i => (i.zero, i.size, i.bytes)) = some (some (.int .i64 0), 1, 8) := by kernel_rfl

theorem ix0 (w : World) : (Instr.index 107 (.agg #[.int .i64 5, .int .i64 6, .int .i64 7, .int .i64 8, .int .i64 10, .int .i64 9, .int .i64 11]) (.int .i64 0)).run Tryz.prog w = .ok (.int .i64 5) w := by kernel_rfl
theorem ix1 (w : World) : (Instr.index 107 (.agg #[.int .i64 5, .int .i64 6, .int .i64 7, .int .i64 8, .int .i64 10, .int .i64 9, .int .i64 11]) (.int .i64 1)).run Tryz.prog w = .ok (.int .i64 6) w := by kernel_rfl
theorem ix2 (w : World) : (Instr.index 107 (.agg #[.int .i64 5, .int .i64 6, .int .i64 7, .int .i64 8, .int .i64 10, .int .i64 9, .int .i64 11]) (.int .i64 2)).run Tryz.prog w = .ok (.int .i64 7) w := by kernel_rfl
theorem ix3 (w : World) : (Instr.index 107 (.agg #[.int .i64 5, .int .i64 6, .int .i64 7, .int .i64 8, .int .i64 10, .int .i64 9, .int .i64 11]) (.int .i64 3)).run Tryz.prog w = .ok (.int .i64 8) w := by kernel_rfl
theorem ix4 (w : World) : (Instr.index 107 (.agg #[.int .i64 5, .int .i64 6, .int .i64 7, .int .i64 8, .int .i64 10, .int .i64 9, .int .i64 11]) (.int .i64 4)).run Tryz.prog w = .ok (.int .i64 10) w := by kernel_rfl
theorem ix5 (w : World) : (Instr.index 107 (.agg #[.int .i64 5, .int .i64 6, .int .i64 7, .int .i64 8, .int .i64 10, .int .i64 9, .int .i64 11]) (.int .i64 5)).run Tryz.prog w = .ok (.int .i64 9) w := by kernel_rfl
theorem ix6 (w : World) : (Instr.index 107 (.agg #[.int .i64 5, .int .i64 6, .int .i64 7, .int .i64 8, .int .i64 10, .int .i64 9, .int .i64 11]) (.int .i64 6)).run Tryz.prog w = .ok (.int .i64 11) w := by kernel_rfl
attribute [local go_sem] ix0 ix1 ix2 ix3 ix4 ix5 ix6

set_option maxRecDepth 100000 in
set_option maxHeartbeats 4000000 in
theorem serStats_any (n : Int) (b : SB) (x : Ser) (w : World) (hs : SRep w b x) (hi : SInv n x) :
    Calls Tryz.prog 40 #[.pointer (some ⟨b.s, 0, none⟩)] w fun e w' => ∃ v, e = .returned v ∧ w'.ownsRow w.heap.size 3 1 v 9 (ints (statsL x)) ∧ Keeps (fun _ => False) w w' := by
  have HB := hide hs.blk
  have HI := hide hi
  have hlt := hs.blk.lt
  have hc27 : w.cell? ⟨b.s, 28, none⟩ = some (.int .i64 x.acc) := hs.blk.cell rfl
  have hc28 : w.cell? ⟨b.s, 29, none⟩ = some (.int .i64 x.rel) := hs.blk.cell rfl
  clear hs hi
  obtain ⟨i0, hi0, hz0, hz1, hz2⟩ := info_parts info3
  go_enter Tryz.func40, Tryz.ntmps40
  go_wp2_with fail
  go_region
  go_wp2_with fail
  have hk1 : Keeps (fun _ => False) w ((w.alloc (.cells #[.int .i64 5, .int .i64 6, .int .i64 7, .int .i64 8, .int .i64 10, .int .i64 9, .int .i64 11] 107)).alloc (.cells #[.int .i64 x.acc, .int .i64 x.rel] 3)).drew := (((Keeps.refl _ w).alloc _).alloc _).drew
  have hO1 : ((w.alloc (.cells #[.int .i64 5, .int .i64 6, .int .i64 7, .int .i64 8, .int .i64 10, .int .i64 9, .int .i64 11] 107)).alloc (.cells #[.int .i64 x.acc, .int .i64 x.rel] 3)).drew.ownsRow w.heap.size 3 1 (.slice (some ⟨w.heap.size + 1, 0, none⟩) 2 2) 2 (ints ((statsL x).take 2)) :=
    ⟨rfl, .inr ⟨w.heap.size + 1, 2, #[.int .i64 x.acc, .int .i64 x.rel], rfl, by omega, by
      have := heap_alloc_new (w.alloc (.cells #[.int .i64 5, .int .i64 6, .int .i64 7, .int .i64 8, .int .i64 10, .int .i64 9, .int .i64 11] 107)) (.cells #[.int .i64 x.acc, .int .i64 x.rel] 3)
      rwa [World.size_alloc] at this, by omega, by unfold maxLen; omega, rfl, rfl⟩⟩
  go_loopw [4, 18] (fun v i wr => ∃ k : Nat, k ≤ 7 ∧ i = .int .i64 k ∧ Hid (wr.ownsRow w.heap.size 3 1 v (2 + k) (ints ((statsL x).take (2 + k)))) ∧ Hid (Keeps (fun _ => False) w wr)) (fun _ i _ => 7 - (intOf i).toNat)
  case atStart => exact ⟨0, by omega, rfl, hO1, hk1⟩
  case round =>
    obtain ⟨k, hk, rfl, HO, HK⟩ := hrel
    clear hk1 hO1 hc27 hc28
    have HBr := hide ((unhide HB).keeps (unhide HK) (fun h => h))
    have hltr := (unhide HBr).lt
    generalize u4 = v at *
    by_cases hlt7 : k < 7
    · have hk7 : k = 0 ∨ k = 1 ∨ k = 2 ∨ k = 3 ∨ k = 4 ∨ k = 5 ∨ k = 6 := by omega
      rcases hk7 with hk7 | hk7 | hk7 | hk7 | hk7 | hk7 | hk7
      all_goals subst hk7
      · have hc : wr.cell? ⟨b.s, 35, none⟩ = some (.int .i64 (refAt x.ref 5)) := (unhide HBr).cell (ser_ref b x (unhide HI).reflen 5 (by omega))
        have HNEW := hide (show ints ((statsL x).take (2 + 0)) ++ [.int .i64 (refAt x.ref 5)] = ints ((statsL x).take (2 + 1)) from rfl)
        go_wp2_with (at_builtin; refine wpList_append_lies _ rfl _ _ _ rfl w.heap.size 3 i0 _ 1 8 Tryz.underlying36 hi0 hz0 hz1 hz2 rfl (by omega) v (2 + 0) (ints ((statsL x).take (2 + 0))) rfl ((unhide HO).alloc _) ⟨wr.heap.size, 0, none⟩ 1 1 [.int .i64 (refAt x.ref 5)] rfl rfl (World.news_of_block (cs := #[.int .i64 (refAt x.ref 5)]) (t := 3) (fr := (0, 0)) (heap_alloc_new wr _)) (by simp [Value.oneCell']) (by omega) (by unfold maxLen; omega) (by omega) (by have := (unhide HK).size; simp; omega) (wr.heap.size + 1) (by simp) ?_; intro gg cap' w1 hown1 hgrow hat hl)
        rw [unhide HNEW] at hown1
        go_roundw
        case rel =>
          refine ⟨1, by omega, rfl, hown1, ((unhide HK).alloc _).grown hgrow (fun j hj => Or.inr ((unhide HO).lt j hj).1)⟩
        case measure => simp [intOf]
      · have hc : wr.cell? ⟨b.s, 36, none⟩ = some (.int .i64 (refAt x.ref 6)) := (unhide HBr).cell (ser_ref b x (unhide HI).reflen 6 (by omega))
        have HNEW := hide (show ints ((statsL x).take (2 + 1)) ++ [.int .i64 (refAt x.ref 6)] = ints ((statsL x).take (2 + 2)) from rfl)
        go_wp2_with (at_builtin; refine wpList_append_lies _ rfl _ _ _ rfl w.heap.size 3 i0 _ 1 8 Tryz.underlying36 hi0 hz0 hz1 hz2 rfl (by omega) v (2 + 1) (ints ((statsL x).take (2 + 1))) rfl ((unhide HO).alloc _) ⟨wr.heap.size, 0, none⟩ 1 1 [.int .i64 (refAt x.ref 6)] rfl rfl (World.news_of_block (cs := #[.int .i64 (refAt x.ref 6)]) (t := 3) (fr := (0, 0)) (heap_alloc_new wr _)) (by simp [Value.oneCell']) (by omega) (by unfold maxLen; omega) (by omega) (by have := (unhide HK).size; simp; omega) (wr.heap.size + 1) (by simp) ?_; intro gg cap' w1 hown1 hgrow hat hl)
        rw [unhide HNEW] at hown1
        go_roundw
        case rel =>
          refine ⟨2, by omega, rfl, hown1, ((unhide HK).alloc _).grown hgrow (fun j hj => Or.inr ((unhide HO).lt j hj).1)⟩
        case measure => simp [intOf]
      · have hc : wr.cell? ⟨b.s, 37, none⟩ = some (.int .i64 (refAt x.ref 7)) := (unhide HBr).cell (ser_ref b x (unhide HI).reflen 7 (by omega))
        have HNEW := hide (show ints ((statsL x).take (2 + 2)) ++ [.int .i64 (refAt x.ref 7)] = ints ((statsL x).take (2 + 3)) from rfl)
        go_wp2_with (at_builtin; refine wpList_append_lies _ rfl _ _ _ rfl w.heap.size 3 i0 _ 1 8 Tryz.underlying36 hi0 hz0 hz1 hz2 rfl (by omega) v (2 + 2) (ints ((statsL x).take (2 + 2))) rfl ((unhide HO).alloc _) ⟨wr.heap.size, 0, none⟩ 1 1 [.int .i64 (refAt x.ref 7)] rfl rfl (World.news_of_block (cs := #[.int .i64 (refAt x.ref 7)]) (t := 3) (fr := (0, 0)) (heap_alloc_new wr _)) (by simp [Value.oneCell']) (by omega) (by unfold maxLen; omega) (by omega) (by have := (unhide HK).size; simp; omega) (wr.heap.size + 1) (by simp) ?_; intro gg cap' w1 hown1 hgrow hat hl)
        rw [unhide HNEW] at hown1
        go_roundw
        case rel =>
          refine ⟨3, by omega, rfl, hown1, ((unhide HK).alloc _).grown hgrow (fun j hj => Or.inr ((unhide HO).lt j hj).1)⟩
        case measure => simp [intOf]
      · have hc : wr.cell? ⟨b.s, 38, none⟩ = some (.int .i64 (refAt x.ref 8)) := (unhide HBr).cell (ser_ref b x (unhide HI).reflen 8 (by omega))
        have HNEW := hide (show ints ((statsL x).take (2 + 3)) ++ [.int .i64 (refAt x.ref 8)] = ints ((statsL x).take (2 + 4)) from rfl)
        go_wp2_with (at_builtin; refine wpList_append_lies _ rfl _ _ _ rfl w.heap.size 3 i0 _ 1 8 Tryz.underlying36 hi0 hz0 hz1 hz2 rfl (by omega) v (2 + 3) (ints ((statsL x).take (2 + 3))) rfl ((unhide HO).alloc _) ⟨wr.heap.size, 0, none⟩ 1 1 [.int .i64 (refAt x.ref 8)] rfl rfl (World.news_of_block (cs := #[.int .i64 (refAt x.ref 8)]) (t := 3) (fr := (0, 0)) (heap_alloc_new wr _)) (by simp [Value.oneCell']) (by omega) (by unfold maxLen; omega) (by omega) (by have := (unhide HK).size; simp; omega) (wr.heap.size + 1) (by simp) ?_; intro gg cap' w1 hown1 hgrow hat hl)
        rw [unhide HNEW] at hown1
        go_roundw
        case rel =>
          refine ⟨4, by omega, rfl, hown1, ((unhide HK).alloc _).grown hgrow (fun j hj => Or.inr ((unhide HO).lt j hj).1)⟩
        case measure => simp [intOf]
      · have hc : wr.cell? ⟨b.s, 40, none⟩ = some (.int .i64 (refAt x.ref 10)) := (unhide HBr).cell (ser_ref b x (unhide HI).reflen 10 (by omega))
        have HNEW := hide (show ints ((statsL x).take (2 + 4)) ++ [.int .i64 (refAt x.ref 10)] = ints ((statsL x).take (2 + 5)) from rfl)
        go_wp2_with (at_builtin; refine wpList_append_lies _ rfl _ _ _ rfl w.heap.size 3 i0 _ 1 8 Tryz.underlying36 hi0 hz0 hz1 hz2 rfl (by omega) v (2 + 4) (ints ((statsL x).take (2 + 4))) rfl ((unhide HO).alloc _) ⟨wr.heap.size, 0, none⟩ 1 1 [.int .i64 (refAt x.ref 10)] rfl rfl (World.news_of_block (cs := #[.int .i64 (refAt x.ref 10)]) (t := 3) (fr := (0, 0)) (heap_alloc_new wr _)) (by simp [Value.oneCell']) (by omega) (by unfold maxLen; omega) (by omega) (by have := (unhide HK).size; simp; omega) (wr.heap.size + 1) (by simp) ?_; intro gg cap' w1 hown1 hgrow hat hl)
        rw [unhide HNEW] at hown1
        go_roundw
        case rel =>
          refine ⟨5, by omega, rfl, hown1, ((unhide HK).alloc _).grown hgrow (fun j hj => Or.inr ((unhide HO).lt j hj).1)⟩
        case measure => simp [intOf]
      · have hc : wr.cell? ⟨b.s, 39, none⟩ = some (.int .i64 (refAt x.ref 9)) := (unhide HBr).cell (ser_ref b x (unhide HI).reflen 9 (by omega))
        have HNEW := hide (show ints ((statsL x).take (2 + 5)) ++ [.int .i64 (refAt x.ref 9)] = ints ((statsL x).take (2 + 6)) from rfl)
        go_wp2_with (at_builtin; refine wpList_append_lies _ rfl _ _ _ rfl w.heap.size 3 i0 _ 1 8 Tryz.underlying36 hi0 hz0 hz1 hz2 rfl (by omega) v (2 + 5) (ints ((statsL x).take (2 + 5))) rfl ((unhide HO).alloc _) ⟨wr.heap.size, 0, none⟩ 1 1 [.int .i64 (refAt x.ref 9)] rfl rfl (World.news_of_block (cs := #[.int .i64 (refAt x.ref 9)]) (t := 3) (fr := (0, 0)) (heap_alloc_new wr _)) (by simp [Value.oneCell']) (by omega) (by unfold maxLen; omega) (by omega) (by have := (unhide HK).size; simp; omega) (wr.heap.size + 1) (by simp) ?_; intro gg cap' w1 hown1 hgrow hat hl)
        rw [unhide HNEW] at hown1
        go_roundw
        case rel =>
          refine ⟨6, by omega, rfl, hown1, ((unhide HK).alloc _).grown hgrow (fun j hj => Or.inr ((unhide HO).lt j hj).1)⟩
        case measure => simp [intOf]
      · have hc : wr.cell? ⟨b.s, 41, none⟩ = some (.int .i64 (refAt x.ref 11)) := (unhide HBr).cell (ser_ref b x (unhide HI).reflen 11 (by omega))
        have HNEW := hide (show ints ((statsL x).take (2 + 6)) ++ [.int .i64 (refAt x.ref 11)] = ints ((statsL x).take (2 + 7)) from rfl)
        go_wp2_with (at_builtin; refine wpList_append_lies _ rfl _ _ _ rfl w.heap.size 3 i0 _ 1 8 Tryz.underlying36 hi0 hz0 hz1 hz2 rfl (by omega) v (2 + 6) (ints ((statsL x).take (2 + 6))) rfl ((unhide HO).alloc _) ⟨wr.heap.size, 0, none⟩ 1 1 [.int .i64 (refAt x.ref 11)] rfl rfl (World.news_of_block (cs := #[.int .i64 (refAt x.ref 11)]) (t := 3) (fr := (0, 0)) (heap_alloc_new wr _)) (by simp [Value.oneCell']) (by omega) (by unfold maxLen; omega) (by omega) (by have := (unhide HK).size; simp; omega) (wr.heap.size + 1) (by simp) ?_; intro gg cap' w1 hown1 hgrow hat hl)
        rw [unhide HNEW] at hown1
        go_roundw
        case rel =>
          refine ⟨7, by omega, rfl, hown1, ((unhide HK).alloc _).grown hgrow (fun j hj => Or.inr ((unhide HO).lt j hj).1)⟩
        case measure => simp [intOf]
    · have hk7 : k = 7 := by omega
      subst hk7
      go_wp2
      go_ret
      exact ⟨_, rfl, unhide HO, unhide HK⟩

end Go.Proofs.YtjhaihbjhikhlaaGreat
