import Derived.Test.YteecnidnlkjehaaS4
import Derived.Deep.LoopGhost
namespace Go.Proofs.Yteecnidnlkjehaa
open Go.RowKit
attribute [local go_sem ↓] execOp_load38 execOp_load40
attribute [local go_sem] run_load38 run_load40 bigVal_drew hasBig_drew bigVal_ne hasBig_ne bigVal_alloc hasBig_alloc bigVal_new hasBig_newB

theorem relOne_rep {w w5 : World} {b : SB} {x : Ser} {g : Nat} (h : SRep w b x) (hg : b.g = some g) (hb : Blk w5 b.s (serCells b { x with rel := x.rel + 1 }) 81) (hq : QRep w5 b.q (some g) (takeL x.l))
    (hd : x.k = 4 → Blk w5 b.d (decCells x.c (x.q + (x.r + optInt (weightO x.c (itAt x.l 0).t)) / 2305843009213693952) ((x.r + optInt (weightO x.c (itAt x.l 0).t)) % 2305843009213693952)) 139) : SRep w5 b (relOne x) := by
  refine ⟨hb, by rw [hg]; exact hq, fun h4 => ?_, h.sq, h.sg, h.sd⟩
  have h4' : x.k = 4 := h4
  have := hd h4'
  show Blk w5 b.d (decCells x.c (if x.k = 4 then _ else x.q) (if x.k = 4 then _ else x.r)) 139
  rw [if_pos h4', if_pos h4']
  exact this

set_option maxRecDepth 100000 in
set_option maxHeartbeats 4000000 in
theorem release_any (n : Int) (b : SB) (x : Ser) (m : Int) (w : World) (hs : SRep w b x) (hi : SInv n x) (hn : n ≤ 1152921504606846976) :
    Calls Try.prog 45 #[.pointer (some ⟨b.s, 0, none⟩), .int .i64 m] w fun e w' => e = .returned (.tuple #[]) ∧ ∃ b', SRep w' b' (relS (x.l.length + 1) x m) ∧ b.next b' x.k w.heap.size ∧ Keeps (b.foot x.k) w w' := by
  have HS := hide hs
  have HI := hide hi
  clear hs hi
  go_enter Try.func45, Try.ntmps45
  go_wp2
  go_loopg [5] (x.l.length) (fun g _s wr => ∃ (b' : SB) (x' : Ser), Hid (SRep wr b' x') ∧ Hid (SInv n x') ∧ Hid (b.next b' x.k w.heap.size) ∧ Hid (Keeps (b.foot x.k) w wr) ∧ x'.k = x.k ∧ x'.l.length = g ∧ Hid (relS (x.l.length + 1) x m = relS (x'.l.length + 1) x' m))
  case atStart => exact ⟨b, x, HS, HI, ⟨rfl, fun _ h => .inl h⟩, Keeps.refl _ _, rfl, rfl, rfl⟩
  case round =>
    obtain ⟨b1, x1, HS1, HI1, HN1, HK1, hk1, hg1, HE1⟩ := hrel
    have HKK := hide hk1
    have HG := hide hg1
    have HS0 := hide (unhide HN1).1
    clear hk1 hg1
    have HB := hide (show Blk wr b.s (serCells b1 x1) 81 by rw [← unhide HS0]; exact (unhide HS1).blk)
    have hlt := (unhide HB).lt
    have hc26 : wr.cell? ⟨b.s, 26, none⟩ = some (.pointer (some ⟨b1.q, 0, none⟩)) := (unhide HB).cell rfl
    go_wp2_with fail
    refine (first_any b1.q b1.g x1.l wr (unhide HS1).que).mono ?_
    rintro e w1 ⟨rfl, hk1⟩
    have HB1 := hide ((unhide HB).keeps hk1 (fun h => h))
    have HS2 := hide ((unhide HS1).still hk1)
    have HK2 := hide ((unhide HK1).trans hk1 (fun _ h _ => h.elim))
    have hsz1 : wr.heap.size ≤ w1.heap.size := hk1.size
    have hszw := (unhide HK1).size
    clear hk1 hc26 hlt
    by_cases hemp : x1.l.isEmpty = true
    · have HEM := hide hemp
      rw [hemp]
      clear hemp
      unfold It.val
      go_wp2
      refine bodyPost_ret (results_none rfl _ _ _) rfl ⟨rfl, b1, ?_, unhide HN1, (unhide HK2).alloc _⟩
      rw [unhide HE1]
      unfold relS
      rw [if_pos (unhide HEM)]
      exact (unhide HS2).still ((Keeps.refl _ _).alloc _)
    · have hemp' : x1.l.isEmpty = false := by simpa using hemp
      have HNE := hide (show x1.l ≠ [] by intro h; rw [h] at hemp; exact hemp rfl)
      have HEM := hide hemp
      rw [hemp']
      clear hemp hemp'
      generalize hy : itAt x1.l 0 = y
      have HY := hide hy
      clear hy
      unfold It.val
      have HB2 := hide ((unhide HB1).alloc (.cells #[.int .i64 y.t, .int .i64 y.k, .int .i64 y.d, .int .i64 y.n] 72))
      have HX2 := hide (Blk.new w1 [.int .i64 y.t, .int .i64 y.k, .int .i64 y.d, .int .i64 y.n] 72)
      have HS3 := hide ((unhide HS2).still ((Keeps.refl (fun _ => False) w1).alloc (.cells #[.int .i64 y.t, .int .i64 y.k, .int .i64 y.d, .int .i64 y.n] 72)))
      have HK3 := hide ((unhide HK2).alloc (.cells #[.int .i64 y.t, .int .i64 y.k, .int .i64 y.d, .int .i64 y.n] 72))
      have hlt1 := (unhide HB1).lt
      have hc26 : w1.cell? ⟨b.s, 26, none⟩ = some (.pointer (some ⟨b1.q, 0, none⟩)) := (unhide HB1).cell rfl
      by_cases ht : m < y.t
      · go_wp2
        refine bodyPost_ret (results_none rfl _ _ _) rfl ⟨rfl, b1, ?_, unhide HN1, unhide HK3⟩
        rw [unhide HE1]
        unfold relS
        rw [if_neg (unhide HEM), if_pos (by rw [unhide HY]; exact ht)]
        exact unhide HS3
      · have ht' : decide (m < y.t) = false := by simpa using ht
        have HT := hide ht
        clear ht
        go_wp2_with fail
        have HLT := hide (show ∀ i, b1.foot x1.k i → i < w1.heap.size from (unhide HS2).lt)
        generalize w1.alloc (.cells #[.int .i64 y.t, .int .i64 y.k, .int .i64 y.d, .int .i64 y.n] 72) = w2 at *
        generalize hbx : w1.heap.size = bx at *
        clear hbx hc26 HB1 HS2 HK2 HB HS1 HK1
        obtain ⟨g, hg⟩ : ∃ g, b1.g = some g := by
          cases hbg : b1.g with
          | none => have hq := (unhide HS3).que; rw [hbg] at hq; exact absurd hq.1 (unhide HNE)
          | some g => exact ⟨g, rfl⟩
        have HGG := hide hg
        have HLEN := hide (List.length_pos_iff.2 (unhide HNE))
        have hl9 : x1.l.length ≤ 900 := by have h1 := (unhide HI1).cap; have h2 := (unhide HI1).common; omega
        refine (take_any b1.q g x1.l w2 (by have hq := (unhide HS3).que; rw [hg] at hq; exact hq) hl9 (unhide HLEN)).mono ?_
        rintro e w3 ⟨⟨v, rfl⟩, hq3, hk3⟩
        have HNS := hide (show ¬ (b.s = b1.q ∨ b.s = g) from fun h => by
          rw [← unhide HS0] at h
          exact h.elim (unhide HS3).sq ((unhide HS3).sg g hg))
        have HNX := hide (show ¬ (bx = b1.q ∨ bx = g) from fun h => by
          rcases h with h | h
          · have := unhide HLT bx (.inr (.inl h)); omega
          · have := unhide HLT bx (.inr (.inr (.inl (by rw [hg, h])))); omega)
        have HB3 := hide ((unhide HB2).keeps hk3 (unhide HNS))
        have HX3 := hide ((unhide HX2).keeps hk3 (unhide HNX))
        have HQ3 := hide hq3
        have HD3 := hide (show x1.k = 4 → Blk w3 b1.d (decCells x1.c x1.q x1.r) 139 from fun h4 => ((unhide HS3).dec h4).keeps hk3 (fun h => by
          rcases h with h | h
          · exact ((unhide HS3).sd h4).2.1 h.symm
          · exact ((unhide HS3).sd h4).2.2 g hg h.symm))
        have HK4 := hide ((unhide HK3).trans hk3 (fun i hi hlt => by
          have hf : b1.foot x.k i := by
            rcases hi with hi | hi
            · exact .inr (.inl hi)
            · exact .inr (.inr (.inl (by rw [hg, hi])))
          rcases (unhide HN1).2 i hf with h | h
          · exact h
          · omega))
        clear hk3 hq3 HB2 HX2 HK3 hg
        have hc28 : w3.cell? ⟨b.s, 28, none⟩ = some (.int .i64 x1.rel) := (unhide HB3).cell rfl
        have hf3 := (unhide HB3).frozen
        have hwr : IntKind.i64.wrap (x1.rel + 1) = x1.rel + 1 := by
          have h1 := (unhide HI1).rel0; have h2 := (unhide HI1).rela; have h3 := (unhide HI1).accn
          exact wrap_in (by omega) (by omega)
        go_wp2_with fail
        have hk4 : Keeps (fun i => i = b.s) w3 (w3.setCell ⟨b.s, 28, none⟩ (.int .i64 (x1.rel + 1))) := (Keeps.refl (fun i => i = b.s) w3).setCell (p := ⟨b.s, 28, none⟩) (Or.inl rfl) _
        have HB4 := hide (show Blk (w3.setCell ⟨b.s, 28, none⟩ (.int .i64 (x1.rel + 1))) b.s (serCells b1 { x1 with rel := x1.rel + 1 }) 81 from (unhide HB3).setCell 28 _)
        have HX4 := hide ((unhide HX3).keeps hk4 (fun h => by omega))
        have HQ4 := hide ((unhide HQ3).keeps hk4 (fun h => unhide HNS (.inl h.symm)) (fun g' hg' h => unhide HNS (.inr (by cases hg'; exact h.symm))))
        have HD4 := hide (show x1.k = 4 → Blk (w3.setCell ⟨b.s, 28, none⟩ (.int .i64 (x1.rel + 1))) b1.d (decCells x1.c x1.q x1.r) 139 from fun h4 => (unhide HD3 h4).keeps hk4 (fun h => ((unhide HS3).sd h4).1 ((unhide HS0).trans h.symm)))
        have HK5 := hide ((unhide HK4).trans hk4 (fun i hi hlt => .inl hi))
        clear hk4 HB3 HX3 HQ3 HD3 HK4 hc28 hf3 hwr
        generalize w3.setCell ⟨b.s, 28, none⟩ (.int .i64 (x1.rel + 1)) = w4 at *
        have hc24 : w4.cell? ⟨b.s, 24, none⟩ = some (relV x1.k b1.d) := (unhide HB4).cell rfl
        have hx0 : w4.cell? ⟨bx, 0, none⟩ = some (.int .i64 y.t) := (unhide HX4).cell rfl
        have hx1 : w4.cell? ⟨bx, 1, none⟩ = some (.int .i64 y.k) := (unhide HX4).cell rfl
        have hx2 : w4.cell? ⟨bx, 2, none⟩ = some (.int .i64 y.d) := (unhide HX4).cell rfl
        have hx3 : w4.cell? ⟨bx, 3, none⟩ = some (.int .i64 y.n) := (unhide HX4).cell rfl
        have HFIN := hide (show relS (x.l.length + 1) x m = relS (x1.l.length) (relOne x1) m by
          rw [unhide HE1]
          conv => lhs; unfold relS
          rw [if_neg (unhide HEM), if_neg (by rw [unhide HY]; have := unhide HT; omega)])
        have HTL := hide (takeL_length x1.l)
        by_cases h4 : x1.k = 4
        · unfold relV at hc24
          rw [if_pos h4] at hc24
          have H4 := hide h4
          clear h4
          have hty := itAt_all (P := fun y => 0 ≤ y.t ∧ y.t ≤ 4611686018427387904) (by simp) (unhide HI1).times 0
          rw [unhide HY] at hty
          have hwb := weight_bd x1.c y.t
          have HDD := hide (unhide HD4 (unhide H4))
          have HBD := hide (show ¬ b.s = b1.d from fun h => ((unhide HS3).sd (unhide H4)).1 ((unhide HS0).trans h))
          have HXD := hide (show ¬ bx = b1.d from fun h => by have := unhide HLT bx (.inr (.inr (.inr ⟨unhide H4, h⟩))); omega)
          have hiq := (unhide HI1).q0
          have hiq1 : x1.q ≤ 2305843009213693952 := by have h1 := (unhide HI1).qn; have h2 := (unhide HI1).rela; have h3 := (unhide HI1).accn; omega
          go_region_held3 (fun w' => w'.cell? ⟨b.s, 24, none⟩ = some (.func (.func 101) #[.pointer (some ⟨b1.d, 0, none⟩)] #[]) ∧ w'.cell? ⟨bx, 0, none⟩ = some (.int .i64 y.t) ∧ w'.cell? ⟨bx, 1, none⟩ = some (.int .i64 y.k) ∧ w'.cell? ⟨bx, 2, none⟩ = some (.int .i64 y.d) ∧ w'.cell? ⟨bx, 3, none⟩ = some (.int .i64 y.n))
            (first | (simp [*]; done) | (go_split_ands; exact ⟨hk.cell (by assumption) (unhide HBD), hk.cell (by assumption) (unhide HXD), hk.cell (by assumption) (unhide HXD), hk.cell (by assumption) (unhide HXD), hk.cell (by assumption) (unhide HXD)⟩))
            (first | (go_at_call 101; refine (decRelease_any b1.d x1.c x1.q x1.r y _ (by exact (unhide HDD).drew) ((unhide HI1).weighs (by have := unhide H4; omega)) hty.1 hty.2 (unhide HI1).r0 (unhide HI1).r1 hiq hiq1 hwb.1 hwb.2).mono ?_; rintro e w' ⟨rfl, hd, hk⟩))
          have HKD := hide hk
          have HDF := hide hd
          clear hk hd hx0 hx1 hx2 hx3 hc24
          go_wp2
          go_roundg (x1.l.length - 1)
          case measure => have h1 := unhide HG; have h2 := unhide HLEN; omega
          case rel =>
            have hkd : Keeps (fun k => k = b1.d) w4 w' := ((Keeps.refl (fun k => k = b1.d) w4).drew).then (unhide HKD)
            have hr : SRep w' b1 (relOne x1) := by
              refine relOne_rep (unhide HS3) (unhide HGG) (by rw [unhide HS0]; exact (unhide HB4).keeps hkd (unhide HBD)) ((unhide HQ4).keeps hkd (fun h => ((unhide HS3).sd (unhide H4)).2.1 h) (fun g' hg' h => ((unhide HS3).sd (unhide H4)).2.2 g (unhide HGG) (by cases hg'; exact h))) (fun _ => ?_)
              rw [unhide HY]; exact unhide HDF
            refine ⟨b1, relOne x1, hr, relOne_inv (unhide HI1) (unhide HNE), unhide HN1, (unhide HK5).trans hkd (fun i hi hlt => ?_), unhide HKK, unhide HTL, ?_⟩
            · have hf : b1.foot x.k i := .inr (.inr (.inr ⟨(unhide HKK).symm.trans (unhide H4), hi⟩))
              rcases (unhide HN1).2 i hf with h | h
              · exact h
              · omega
            · show _ = relS ((takeL x1.l).length + 1) (relOne x1) m
              rw [unhide HFIN, unhide HTL, show x1.l.length - 1 + 1 = x1.l.length by have := unhide HLEN; omega]
        · unfold relV at hc24
          rw [if_neg h4] at hc24
          have H4 := hide h4
          clear h4
          go_region_held3 (fun w' => w'.cell? ⟨b.s, 24, none⟩ = some (.func (.func 96) #[] #[]) ∧ w'.cell? ⟨bx, 0, none⟩ = some (.int .i64 y.t) ∧ w'.cell? ⟨bx, 1, none⟩ = some (.int .i64 y.k) ∧ w'.cell? ⟨bx, 2, none⟩ = some (.int .i64 y.d) ∧ w'.cell? ⟨bx, 3, none⟩ = some (.int .i64 y.n))
            (first | (simp [*]; done) | (go_split_ands; exact ⟨hk.cell (by assumption) (fun h => h), hk.cell (by assumption) (fun h => h), hk.cell (by assumption) (fun h => h), hk.cell (by assumption) (fun h => h), hk.cell (by assumption) (fun h => h)⟩))
            (first | (go_at_call 96; refine (nothing1_any y _).mono ?_; rintro e w' ⟨rfl, hk⟩))
          have HKD := hide hk
          clear hk hx0 hx1 hx2 hx3 hc24
          go_wp2
          go_roundg (x1.l.length - 1)
          case measure => have h1 := unhide HG; have h2 := unhide HLEN; omega
          case rel =>
            have hkd : Keeps (fun _ => False) w4 w' := ((Keeps.refl (fun _ => False) w4).drew).then (unhide HKD)
            have hr : SRep w' b1 (relOne x1) := by
              exact relOne_rep (unhide HS3) (unhide HGG) (by rw [unhide HS0]; exact (unhide HB4).keeps hkd (fun h => h)) ((unhide HQ4).keeps hkd (fun h => h) (fun _ _ h => h)) (fun h4 => absurd h4 (unhide H4))
            refine ⟨b1, relOne x1, hr, relOne_inv (unhide HI1) (unhide HNE), unhide HN1, (unhide HK5).trans hkd (fun i hi hlt => hi.elim), unhide HKK, unhide HTL, ?_⟩
            show _ = relS ((takeL x1.l).length + 1) (relOne x1) m
            rw [unhide HFIN, unhide HTL, show x1.l.length - 1 + 1 = x1.l.length by have := unhide HLEN; omega]

end Go.Proofs.Yteecnidnlkjehaa
