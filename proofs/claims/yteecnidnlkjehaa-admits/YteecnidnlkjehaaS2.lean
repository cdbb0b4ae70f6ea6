import Derived.Test.YteecnidnlkjehaaS
namespace Go.Proofs.Yteecnidnlkjehaa
open Go.RowKit
attribute [local go_sem ↓] execOp_load38 execOp_load40
attribute [local go_sem] run_load38 run_load40 bigVal_drew hasBig_drew bigVal_ne hasBig_ne bigVal_alloc hasBig_alloc bigVal_new hasBig_newB

theorem bigVal_keeps {M : Nat → Prop} {w w' : World} {b o n : Nat} (hk : Keeps M w w') (hn : ¬ M b) (hlt : b < w.heap.size) : bigVal w' b o n = bigVal w b o n ∧ hasBig w' b o n = hasBig w b o n := by
  have hc : ∀ j, w'.cell? ⟨b, o + j, none⟩ = w.cell? ⟨b, o + j, none⟩ := fun j => World.cell?_of_block (a := ⟨b, o + j, none⟩) (hk.block b hlt hn)
  constructor
  · unfold bigVal bigCells; simp only [hc]
  · unfold hasBig; simp only [hc]

theorem serCfg (b : SB) (x : Ser) : ((serCells b x).drop 1).take 20 = x.c.cells := rfl

set_option maxRecDepth 100000 in
set_option maxHeartbeats 4000000 in
theorem refusal_any (n : Int) (b : SB) (x : Ser) (y : It) (clock : Int) (w : World) (hs : SRep w b x) (hi : SInv n x) (c0 : 0 ≤ clock) (c1 : clock ≤ 4611686018427387904) :
    Calls Try.prog 42 #[.pointer (some ⟨b.s, 0, none⟩), y.val, .int .i64 clock] w fun e w' => e = .returned (.int .i64 (refE x clock y)) ∧ Keeps (fun _ => False) w w' := by
  obtain ⟨l0, l1, s0, s1, p1, p8⟩ := hi.common
  have hlt := hs.blk.lt
  have HS := hide hs
  have HI := hide hi
  have HB := hide (show Blk (w.alloc (.cells y.cells 72)) w.heap.size [.int .i64 y.t, .int .i64 y.k, .int .i64 y.d, .int .i64 y.n] 72 from Blk.new w [_, _, _, _] 72)
  have HK := hide ((Keeps.refl (fun _ => False) w).alloc (.cells y.cells 72))
  have HE := hide (show refE x clock y = if inB y.t 0 4611686018427387904 then (if y.t ≤ clock - x.c.lag then 6 else if clock + x.c.skew < y.t then 7 else if kindE x.c x.k y ≠ 0 then kindE x.c x.k y else if x.c.cap ≤ x.l.length then 11 else 0) else 5 from rfl)
  clear hs hi
  unfold It.val
  cases h1 : inB y.t 0 4611686018427387904
  · go_enter Try.func42, Try.ntmps42
    go_wp2_with (go_at_call 44; refine (time_any _ _).mono ?_; rintro e w' ⟨rfl, rfl⟩)
    go_ret
    exact ⟨ret_int (by rw [unhide HE, h1]; rfl), unhide HK⟩
  · obtain ⟨t0, t1⟩ := inB_iff h1
    rw [h1, if_pos rfl] at HE
    have hc2 : w.cell? ⟨b.s, 2, none⟩ = some (.int .i64 x.c.lag) := (unhide HS).blk.cell rfl
    go_enter Try.func42, Try.ntmps42
    go_wp2_with fail
    refine (time_any _ _).mono ?_
    rintro e w' ⟨rfl, rfl⟩
    rw [h1]
    go_wp2_with fail
    go_region_held3 (fun w' => w'.cell? ⟨w.heap.size, 0, none⟩ = some (.int .i64 y.t) ∧ w'.cell? ⟨b.s, 2, none⟩ = some (.int .i64 x.c.lag)) (go_keep)
      (first | (go_at_call 46; refine (wm_any b.s x.c.lag clock _ (by go_keep) l0 l1 c0 c1).mono ?_; rintro e w' ⟨rfl, rfl⟩))
    have HB1 := hide ((unhide HB).drew)
    have HK1 := hide ((unhide HK).drew)
    clear HB HK
    have e1 : (w.alloc (.cells #[.int .i64 y.t, .int .i64 y.k, .int .i64 y.d, .int .i64 y.n] 72)).drew = (w.alloc (.cells y.cells 72)).drew := rfl
    rw [e1]
    clear e1
    generalize (w.alloc (.cells y.cells 72)).drew = w1 at *
    generalize hbx : w.heap.size = bx at *
    have HS1 := hide ((unhide HS).still (unhide HK1))
    clear hc2 hlt hbx
    have hlt := (unhide HS1).blk.lt
    have hltx := (unhide HB1).lt
    have hb0 : w1.cell? ⟨bx, 0, none⟩ = some (.int .i64 y.t) := (unhide HB1).cell rfl
    have hb1 : w1.cell? ⟨bx, 1, none⟩ = some (.int .i64 y.k) := (unhide HB1).cell rfl
    have hb2 : w1.cell? ⟨bx, 2, none⟩ = some (.int .i64 y.d) := (unhide HB1).cell rfl
    have hb3 : w1.cell? ⟨bx, 3, none⟩ = some (.int .i64 y.n) := (unhide HB1).cell rfl
    have hc3 : w1.cell? ⟨b.s, 3, none⟩ = some (.int .i64 x.c.skew) := (unhide HS1).blk.cell rfl
    by_cases h6 : y.t ≤ clock - x.c.lag
    · rw [if_pos h6] at HE
      go_wp2
      go_ret
      exact ⟨ret_int (unhide HE).symm, unhide HK1⟩
    · rw [if_neg h6] at HE
      have h6' : decide (y.t ≤ clock - x.c.lag) = false := by simpa using h6
      go_wp2_with fail
      go_quiet (fail)
      by_cases h7 : clock + x.c.skew < y.t
      · rw [if_pos h7] at HE
        go_wp2
        go_ret
        exact ⟨ret_int (unhide HE).symm, (unhide HK1).then (Keeps.drewN _ _ _)⟩
      · rw [if_neg h7] at HE
        have h7' : decide (clock + x.c.skew < y.t) = false := by simpa using h7
        go_wp2_with fail
        have hkd : Keeps (fun _ => False) w1 (w1.drewN nq) := Keeps.drewN (fun _ => False) w1 nq
        have HS2 := hide ((unhide HS1).still hkd)
        have HB2 := hide ((unhide HB1).keeps hkd (fun h => h))
        have HK2 := hide ((unhide HK1).then hkd)
        clear hkd
        generalize w1.drewN nq = w2 at *
        clear HS1 HB1 HK1 hb0 hb1 hb2 hb3 hc3 hlt hltx h6 h6' h7 h7'
        have hlt := (unhide HS2).blk.lt
        have hltx := (unhide HB2).lt
        have hb0 : w2.cell? ⟨bx, 0, none⟩ = some (.int .i64 y.t) := (unhide HB2).cell rfl
        have hb1 : w2.cell? ⟨bx, 1, none⟩ = some (.int .i64 y.k) := (unhide HB2).cell rfl
        have hb2 : w2.cell? ⟨bx, 2, none⟩ = some (.int .i64 y.d) := (unhide HB2).cell rfl
        have hb3 : w2.cell? ⟨bx, 3, none⟩ = some (.int .i64 y.n) := (unhide HB2).cell rfl
        have hc22 : w2.cell? ⟨b.s, 22, none⟩ = some (.func (.func (refuseF x.k)) #[] #[]) := (unhide HS2).blk.cell rfl
        obtain ⟨hv, hh⟩ := bigVal_Blk_part (unhide HS2).blk 1 20 x.c.cells rfl rfl
        have hown := own_refuse x.k (unhide HI).k1 (unhide HI).k5
        go_region_held3 (fun w' => w'.cell? ⟨b.s, 22, none⟩ = some (.func (.func (refuseF x.k)) #[] #[]) ∧ bigVal w' b.s 1 20 = .agg x.c.cells.toArray ∧ hasBig w' b.s 1 20 = true ∧
            w'.cell? ⟨bx, 0, none⟩ = some (.int .i64 y.t) ∧ w'.cell? ⟨bx, 1, none⟩ = some (.int .i64 y.k) ∧ w'.cell? ⟨bx, 2, none⟩ = some (.int .i64 y.d) ∧ w'.cell? ⟨bx, 3, none⟩ = some (.int .i64 y.n))
          (first | (simp [*, bigVal_drew, hasBig_drew]; done) | (go_split_ands; refine ⟨hk.cell (by assumption) (fun h => h), (bigVal_keeps hk (fun h => h) (by simpa using hlt)).1.trans (by assumption), (bigVal_keeps hk (fun h => h) (by simpa using hlt)).2.trans (by assumption), hk.cell (by assumption) (fun h => h), hk.cell (by assumption) (fun h => h), hk.cell (by assumption) (fun h => h), hk.cell (by assumption) (fun h => h)⟩))
          (first | (refine (refuse_any x.c x.k y _ (unhide HI).k1 (unhide HI).k5 (unhide HI).weighs t0 t1).mono ?_; rintro e w' ⟨rfl, hk⟩))
        have hk3 : Keeps (fun _ => False) w2 w' := ((Keeps.refl (fun _ => False) w2).drew).then hk
        have HS3 := hide ((unhide HS2).still hk3)
        have HK3 := hide ((unhide HK2).then hk3)
        clear hk hk3 HS2 HB2 HK2 hb0 hb1 hb2 hb3 hc22 hv hh hown hlt hltx
        have hlt := (unhide HS3).blk.lt
        generalize he : kindE x.c x.k y = e at *
        by_cases h8 : e = 0
        · have h8' : (e != 0) = false := by simp [h8]
          rw [if_neg (by simpa using h8)] at HE
          have HN8 := hide h8
          clear h8
          have hc26 : w'.cell? ⟨b.s, 26, none⟩ = some (.pointer (some ⟨b.q, 0, none⟩)) := (unhide HS3).blk.cell rfl
          have hc4 : w'.cell? ⟨b.s, 4, none⟩ = some (.int .i64 x.c.cap) := (unhide HS3).blk.cell rfl
          go_wp2_with fail
          go_region_held3 (fun w'' => w''.cell? ⟨b.s, 26, none⟩ = some (.pointer (some ⟨b.q, 0, none⟩)) ∧ w''.cell? ⟨b.s, 4, none⟩ = some (.int .i64 x.c.cap)) (go_keep)
            (first | (go_at_call 64; refine (len_any b.q b.g x.l _ (by exact (unhide HS3).que.keeps ((Keeps.refl (fun _ => False) w').drew) (fun h => h) (fun _ _ h => h))).mono ?_; rintro e w'' ⟨rfl, rfl⟩))
          by_cases h9 : x.c.cap ≤ (x.l.length : Int)
          · rw [if_pos h9] at HE
            go_wp2
            go_ret
            exact ⟨ret_int (unhide HE).symm, (unhide HK3).drew⟩
          · rw [if_neg h9] at HE
            have h9' : decide (x.c.cap ≤ (x.l.length : Int)) = false := by simpa using h9
            go_wp2
            go_ret
            exact ⟨ret_int (unhide HE).symm, (unhide HK3).drew⟩
        · have h8' : (e != 0) = true := by simp [h8]
          rw [if_pos (by simpa using h8)] at HE
          have HN8 := hide h8
          clear h8
          go_wp2
          go_ret
          exact ⟨ret_int (unhide HE).symm, unhide HK3⟩

end Go.Proofs.Yteecnidnlkjehaa
