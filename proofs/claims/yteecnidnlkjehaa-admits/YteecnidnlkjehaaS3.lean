import Derived.Test.YteecnidnlkjehaaS2
namespace Go.Proofs.Yteecnidnlkjehaa
open Go.RowKit
attribute [local go_sem ↓] execOp_load38 execOp_load40
attribute [local go_sem] run_load38 run_load40 bigVal_drew hasBig_drew bigVal_ne hasBig_ne bigVal_alloc hasBig_alloc bigVal_new hasBig_newB

def numbered (y : It) (n : Int) : It := ⟨y.t, y.k, y.d, n⟩
def accS (x : Ser) (y : It) : Ser := { x with acc := x.acc + 1, l := riseL (x.l.length + 1) (x.l ++ [numbered y (x.acc + 1)]) x.l.length }

/-- Behind a call: another place, the same blocks but for new ones. -/
def SB.next (b b' : SB) (k size : Nat) : Prop := b'.s = b.s ∧ ∀ i, b'.foot k i → b.foot k i ∨ size ≤ i

set_option maxRecDepth 100000 in
set_option maxHeartbeats 2000000 in
theorem accept_any (n : Int) (b : SB) (x : Ser) (y : It) (w : World) (hs : SRep w b x) (hi : SInv n x) (hn : n ≤ 4611686018427387904) :
    Calls Try.prog 43 #[.pointer (some ⟨b.s, 0, none⟩), y.val] w fun e w' => e = .returned (.int .i64 (x.acc + 1)) ∧ ∃ b', SRep w' b' (accS x y) ∧ b.next b' x.k w.heap.size ∧ Keeps (b.foot x.k) w w' := by
  obtain ⟨l0, l1, s0, s1, p1, p8⟩ := hi.common
  have hlt := hs.blk.lt
  have hcap := hi.cap
  have ha0 := hi.acc0
  have han := hi.accn
  have hlq := hs.que.lt
  have hc27 : w.cell? ⟨b.s, 27, none⟩ = some (.int .i64 x.acc) := hs.blk.cell rfl
  have hf := hs.blk.frozen
  have HS := hide hs
  clear hs hi
  have hwr : IntKind.i64.wrap (x.acc + 1) = x.acc + 1 := wrap_in (by omega) (by omega)
  unfold It.val
  go_enter Try.func43, Try.ntmps43
  go_wp2_with fail
  have hk1 : Keeps (fun i => i = b.s) w ((w.setCell ⟨b.s, 27, none⟩ (.int .i64 (x.acc + 1))).alloc (.cells #[.int .i64 y.t, .int .i64 y.k, .int .i64 y.d, .int .i64 (x.acc + 1)] 72)) :=
    ((Keeps.refl (fun i => i = b.s) w).setCell (p := ⟨b.s, 27, none⟩) (Or.inl rfl) _).alloc _
  have HB1 := hide (show Blk ((w.setCell ⟨b.s, 27, none⟩ (.int .i64 (x.acc + 1))).alloc (.cells #[.int .i64 y.t, .int .i64 y.k, .int .i64 y.d, .int .i64 (x.acc + 1)] 72)) b.s (serCells b { x with acc := x.acc + 1 }) 81 from ((unhide HS).blk.setCell 27 (.int .i64 (x.acc + 1))).alloc _)
  have HX1 := hide (show Blk ((w.setCell ⟨b.s, 27, none⟩ (.int .i64 (x.acc + 1))).alloc (.cells #[.int .i64 y.t, .int .i64 y.k, .int .i64 y.d, .int .i64 (x.acc + 1)] 72)) w.heap.size [.int .i64 y.t, .int .i64 y.k, .int .i64 y.d, .int .i64 (x.acc + 1)] 72 from Blk.newAt (by simp) [_, _, _, _] 72)
  have HQ1 := hide ((unhide HS).que.keeps hk1 (fun h => (unhide HS).sq h.symm) (fun g hg h => (unhide HS).sg g hg h.symm))
  have HD1 := hide (show x.k = 4 → Blk _ b.d (decCells x.c x.q x.r) 139 from fun h4 => ((unhide HS).dec h4).keeps hk1 (fun h => ((unhide HS).sd h4).1 h.symm))
  have HK1 := hide hk1
  clear hk1 hc27 hf
  generalize ((w.setCell ⟨b.s, 27, none⟩ (.int .i64 (x.acc + 1))).alloc (.cells #[.int .i64 y.t, .int .i64 y.k, .int .i64 y.d, .int .i64 (x.acc + 1)] 72)) = w1 at *
  have hsz : w.heap.size ≤ w1.heap.size := (unhide HK1).size
  generalize hbx : w.heap.size = bx at *
  have HBX := hide hbx
  clear hbx
  have hlt1 := (unhide HB1).lt
  have hltx := (unhide HX1).lt
  have hc26 : w1.cell? ⟨b.s, 26, none⟩ = some (.pointer (some ⟨b.q, 0, none⟩)) := (unhide HB1).cell rfl
  have hx0 : w1.cell? ⟨bx, 0, none⟩ = some (.int .i64 y.t) := (unhide HX1).cell rfl
  have hx1 : w1.cell? ⟨bx, 1, none⟩ = some (.int .i64 y.k) := (unhide HX1).cell rfl
  have hx2 : w1.cell? ⟨bx, 2, none⟩ = some (.int .i64 y.d) := (unhide HX1).cell rfl
  have hx3 : w1.cell? ⟨bx, 3, none⟩ = some (.int .i64 (x.acc + 1)) := (unhide HX1).cell rfl
  have HNS := hide (show ¬ (b.s = b.q ∨ b.g = some b.s) from fun h => h.elim (unhide HS).sq (fun h => (unhide HS).sg b.s h rfl))
  have HNX := hide (show ¬ (bx = b.q ∨ b.g = some bx) from fun h => h.elim (fun h => by omega) (fun h => by have := (hlq.2 bx h).1; omega))
  have hl9 : x.l.length ≤ 900 := by omega
  go_region_held3 (fun w' => w'.cell? ⟨b.s, 26, none⟩ = some (.pointer (some ⟨b.q, 0, none⟩)) ∧ w'.cell? ⟨bx, 0, none⟩ = some (.int .i64 y.t) ∧ w'.cell? ⟨bx, 1, none⟩ = some (.int .i64 y.k) ∧ w'.cell? ⟨bx, 2, none⟩ = some (.int .i64 y.d) ∧ w'.cell? ⟨bx, 3, none⟩ = some (.int .i64 (x.acc + 1)))
    (first | (simp [*]; done) | (go_split_ands; exact ⟨hk.cell (by assumption) (unhide HNS), hk.cell (by assumption) (unhide HNX), hk.cell (by assumption) (unhide HNX), hk.cell (by assumption) (unhide HNX), hk.cell (by assumption) (unhide HNX)⟩))
    (first | (go_at_call 65; refine (put_any b.q b.g x.l (numbered y (x.acc + 1)) _ (by exact (unhide HQ1).keeps ((Keeps.refl (fun _ => False) w1).drew) (fun h => h) (fun _ _ h => h)) hl9).mono ?_; rintro e w' ⟨rfl, og, hq, hk, hog⟩))
  have HF := hide (show w'.cell? ⟨bx, 3, none⟩ = some (.int .i64 (x.acc + 1)) from ((((unhide HX1).drew).keeps hk (unhide HNX)).cell rfl))
  have hx3' := unhide HF
  have HK := hide hk
  have HQ := hide hq
  have HOG := hide hog
  clear hk hq hog hx0 hx1 hx2 hx3 hc26
  go_wp2
  go_ret
  have hkd : Keeps (fun k => k = b.q ∨ b.g = some k) w1 w' := ((Keeps.refl (fun k => k = b.q ∨ b.g = some k) w1).drew).then (unhide HK)
  refine ⟨rfl, ⟨b.s, b.q, og, b.d⟩, ⟨(unhide HB1).keeps hkd (unhide HNS), unhide HQ, fun h4 => (unhide HD1 h4).keeps hkd (fun h => ?_), (unhide HS).sq, ?_, fun h4 => ⟨((unhide HS).sd h4).1, ((unhide HS).sd h4).2.1, ?_⟩⟩, ⟨rfl, ?_⟩, ?_⟩
  · rcases h with h | h
    · exact ((unhide HS).sd h4).2.1 h.symm
    · exact ((unhide HS).sd h4).2.2 b.d h rfl
  · intro g hg
    rcases unhide HOG with h | ⟨k, h, hz⟩
    · exact (unhide HS).sg g (h.symm.trans hg)
    · have hgk : g = k := by have := h.symm.trans hg; simpa using this.symm
      show b.s ≠ g
      rw [World.size_drew] at hz
      omega
  · intro g hg
    rcases unhide HOG with h | ⟨k, h, hz⟩
    · exact ((unhide HS).sd h4).2.2 g (h.symm.trans hg)
    · have hgk : g = k := by have := h.symm.trans hg; simpa using this.symm
      have := (unhide HD1 h4).lt
      show g ≠ b.d
      rw [World.size_drew] at hz
      omega
  · intro i hi
    rcases hi with hi | hi | hi | hi
    · exact .inl (.inl hi)
    · exact .inl (.inr (.inl hi))
    · rcases unhide HOG with h | ⟨k, h, hz⟩
      · exact .inl (.inr (.inr (.inl (h.symm.trans hi))))
      · have hgk : i = k := by have := h.symm.trans hi; simpa using this.symm
        rw [World.size_drew] at hz
        exact .inr (by have := unhide HBX; omega)
    · exact .inl (.inr (.inr (.inr hi)))
  · refine ((unhide HK1).mono (M' := b.foot x.k) (fun i _ h => .inl h)).trans hkd (fun i hi _ => ?_)
    rcases hi with hi | hi
    · exact .inr (.inl hi)
    · exact .inr (.inr (.inl hi))

end Go.Proofs.Yteecnidnlkjehaa
