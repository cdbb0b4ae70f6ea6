import Derived.Test.YtjhaihbjhikhlaaGreatXE
import Derived.Deep.LoopGhost
namespace Go.Proofs.YtjhaihbjhikhlaaGreat
open Go.RowKit
attribute [local go_sem ↓] execOp_load38 execOp_load40
attribute [local go_sem] run_load38 run_load40 bigVal_drew hasBig_drew bigVal_ne hasBig_ne bigVal_alloc hasBig_alloc bigVal_new hasBig_newB

theorem row_at {w : World} {g n cap : Nat} {xs : List Value} (h : w.ownsRow 0 55 1 (.slice (some ⟨g, 0, none⟩) n cap) n xs) (i : Nat) (u : Value) (hu : xs[i]? = some u) : w.cell? ⟨g, i, none⟩ = some u := by
  rcases row_cells h with ⟨h0, _⟩ | ⟨g', cap', hv, hc⟩
  · have := (List.getElem?_eq_some_iff.1 hu).1; have := h.1; omega
  · cases hv; exact hc i u hu
theorem at_split (qs : List (SB × Ser)) (k : Nat) (h : k < qs.length) : ∃ l1 p l2, qs = l1 ++ p :: l2 ∧ l1.length = k := by
  refine ⟨qs.take k, qs[k], qs.drop (k + 1), ?_, by simp; omega⟩
  rw [← List.drop_eq_getElem_cons h, List.take_append_drop]

/-! ### What is dead is thrown away, series by series -/
def swpS (clock b : Int) (x : Ser) : Ser := { x with nt := (swpN x.k x.c x.nt (clock - x.c.lag) b).1 }
def thrS (clock b : Int) (x : Ser) : Int := (swpN x.k x.c x.nt (clock - x.c.lag) b).2.1
def leftS (clock b : Int) (x : Ser) : Int := (swpN x.k x.c x.nt (clock - x.c.lag) b).2.2
def sweepL (clock : Int) : Int → List Ser → List Ser × Int
  | _, [] => ([], 0)
  | b, x :: xs => (swpS clock b x :: (sweepL clock (b - thrS clock b x) xs).1, leftS clock b x + (sweepL clock (b - thrS clock b x) xs).2)

theorem thrS_bd {n : Int} {x : Ser} (clock b : Int) (h : SInv n x) (hn : n ≤ 4398046511104) (b0 : 0 ≤ b) : 0 ≤ thrS clock b x ∧ thrS clock b x ≤ b ∧ 0 ≤ leftS clock b x ∧ leftS clock b x ≤ 4398046511104 := by
  unfold thrS leftS swpN
  split
  · have h1 := pastN_le x.nt.bs (clock - x.c.lag - x.c.window)
    have h2 := (h.note.binv (by have h1 := h.rela; have h2 := h.accn; omega)).len
    show 0 ≤ thrownB _ _ _ _ ∧ thrownB _ _ _ _ ≤ b ∧ 0 ≤ _ - thrownB _ _ _ _ ∧ _ - thrownB _ _ _ _ ≤ _
    unfold thrownB
    omega
  · show 0 ≤ (0 : Int) ∧ (0 : Int) ≤ b ∧ 0 ≤ (0 : Int) ∧ (0 : Int) ≤ _
    omega
theorem swpS_inv {n : Int} {x : Ser} (clock b : Int) (h : SInv n x) : SInv n (swpS clock b x) :=
  ⟨h.valid, h.kind, h.k1, h.k5, h.acc0, h.accn, h.rel0, h.rela, h.reflen, h.refn, h.cap, h.times, swpN_inv h.note _ _ _ _⟩
theorem swpS_rep {w w' : World} {b : SB} {x : Ser} (clock bu : Int) (h : SRep w b x) (hn : NRep w' x.k b.n x.c (swpN x.k x.c x.nt (clock - x.c.lag) bu).1) (hk : Keeps (nfoot x.k b.n) w w') : SRep w' b (swpS clock bu x) :=
  ⟨h.blk.keeps hk (fun hh => (h.sn _ hh).1 rfl), h.que.keeps hk (fun hh => (h.sn _ hh).2.1 rfl) (fun _ hg hh => (h.sn _ hh).2.2 hg), hn, h.sq, h.sg, h.sn⟩
theorem sweep_split (xs : List Ser) (clock bu : Int) (done : List Ser) (l1 l2 : List (SB × Ser)) (p : SB × Ser) (k : Nat) (hk : l1.length = k) (hd : done.length = k) (hx : k < xs.length) (h : (l1 ++ p :: l2).map (·.2) = done ++ xs.drop k) :
    (l1 ++ (p.1, swpS clock bu p.2) :: l2).map (·.2) = (done ++ [swpS clock bu p.2]) ++ xs.drop (k + 1) ∧ xs.drop k = p.2 :: xs.drop (k + 1) := by
  have hl : (l1.map (·.2)).length = done.length := by simp; omega
  rw [List.map_append] at h
  obtain ⟨h1, h2⟩ := List.append_inj h hl
  rw [List.drop_eq_getElem_cons hx, List.map_cons] at h2
  injection h2 with h3 h4
  refine ⟨?_, ?_⟩
  · rw [List.map_append, List.map_cons, h1, h4]
    simp
  · rw [List.drop_eq_getElem_cons hx, h3]

set_option maxRecDepth 100000 in
set_option maxHeartbeats 4000000 in
theorem sweep_any (n : Int) (e : Nat) (v : Value) (nc bu : Int) (ps : List (SB × Ser)) (w : World) (h : ERep w e v nc ps) (hs : ∀ x, x ∈ ps.map (·.2) → SInv n x) (h6 : ps.length ≤ 6) (hn : n ≤ 4398046511104) (nc0 : 0 ≤ nc) (nc1 : nc ≤ 4611686018427387904) (b0 : 0 ≤ bu) (b1 : bu ≤ 100) :
    Calls Tryz.prog 39 #[.pointer (some ⟨e, 0, none⟩), .int .i64 bu] w fun r w' => r = .returned (.int .i64 (sweepL nc bu (ps.map (·.2))).2) ∧ ∃ ps', ERep w' e v nc ps' ∧ ps'.map (·.2) = (sweepL nc bu (ps.map (·.2))).1 ∧ Keeps (EFoot e v ps) w w' ∧ (∀ i, EFoot e v ps' i → EFoot e v ps i) ∧ (∀ x, x ∈ ps'.map (·.2) → SInv n x) := by
  have HE := hide h
  have HS := hide hs
  have hc1 : w.cell? ⟨e, 1, none⟩ = some v := h.blk.cell rfl
  have hlv : ∃ a cap, v = .slice a ps.length cap := by
    rcases h.row.2 with ⟨h1, h2⟩ | ⟨g, cap, cur, h1, _⟩
    · exact ⟨none, 0, by rw [h1, h2]⟩
    · exact ⟨some ⟨g, 0, none⟩, cap, h1⟩
  obtain ⟨va, vcap, hv⟩ := hlv
  generalize hm : ps.length = m at *
  have HM := hide hm
  have HXL := hide (show (ps.map (·.2)).length = m by rw [List.length_map]; exact hm)
  clear hm h hs
  subst hv
  go_enter Tryz.func39, Tryz.ntmps39
  go_wp2_with fail
  go_loopg [1, 5, 7, 8, 9, 15] (m) (fun gg a b _ _ _ i wr => ∃ (k : Nat) (qs : List (SB × Ser)) (bud all : Int) (done : List Ser), k ≤ m ∧ m - k = gg ∧ a = .int .i64 bud ∧ b = .int .i64 all ∧ i = .int .i64 k ∧ 0 ≤ bud ∧ bud ≤ 100 ∧ 0 ≤ all ∧ all ≤ k * 4398046511104 ∧ Hid (ERep wr e (.slice va m vcap) nc qs) ∧ Hid (done.length = k) ∧ Hid (qs.map (·.2) = done ++ (ps.map (·.2)).drop k) ∧ Hid (sweepL nc bu (ps.map (·.2)) = (done ++ (sweepL nc bud ((ps.map (·.2)).drop k)).1, all + (sweepL nc bud ((ps.map (·.2)).drop k)).2)) ∧ Hid (Keeps (EFoot e (.slice va m vcap) ps) w wr) ∧ Hid (∀ i, EFoot e (.slice va m vcap) qs i → EFoot e (.slice va m vcap) ps i) ∧ Hid (∀ x, x ∈ qs.map (·.2) → SInv n x))
  case atStart => exact ⟨0, ps, bu, 0, [], by omega, rfl, rfl, rfl, rfl, b0, b1, by omega, by omega, HE, rfl, rfl, by show _ = _; simp, Keeps.refl _ _, fun _ h => h, HS⟩
  case round =>
    obtain ⟨k, qs, bud, all, done, hk, hgg, rfl, rfl, rfl, d0, d1, a0, a1, HEr, HDL, HX, HSW, HKr, HFr, HSr⟩ := hrel
    have HGG := hide hgg
    clear hc1 hgg
    have hql : qs.length = m := by
      have h1 := congrArg List.length (unhide HX)
      have h2 := unhide HXL
      have h3 := unhide HDL
      rw [List.length_append, List.length_map, List.length_drop, h2, h3] at h1
      omega
    have HQL := hide hql
    clear hql
    by_cases hlt : k < m
    · obtain ⟨l1, q, l2, hqs, hl1⟩ := at_split qs k (by rw [unhide HQL]; exact hlt)
      have HQS := hide hqs
      have HL1 := hide hl1
      have hqm : q ∈ qs := by rw [hqs]; simp
      have HQM := hide hqm
      have HSq := hide ((unhide HEr).reps q hqm)
      have HIq := hide (unhide HSr q.2 (List.mem_map_of_mem hqm))
      obtain ⟨la0, la1, _, _, _, _⟩ := (unhide HIq).common
      obtain ⟨t0, t1, t2, t3⟩ := thrS_bd nc bud (unhide HIq) hn d0
      obtain ⟨g, hg⟩ : ∃ g, va = some ⟨g, 0, none⟩ := by
        rcases (unhide HEr).row.2 with ⟨h1, _⟩ | ⟨g, cap, cur, h1, _⟩
        · have hm0 : m = 0 := by injection h1
          omega
        · injection h1 with h2 _ _
          exact ⟨g, h2⟩
      subst hg
      have hck : wr.cell? ⟨g, k, none⟩ = some (.pointer (some ⟨q.1.s, 0, none⟩)) := by
        have hrow := (unhide HEr).row
        rw [unhide HQL] at hrow
        refine row_at hrow k _ ?_
        unfold ptrs
        rw [hqs, List.map_append, List.getElem?_append_right (by simp [hl1])]
        simp [hl1]
      have HNE := hide (show ¬ nfoot q.2.k q.1.n e from fun h => ((unhide HEr).ef q hqm e (.inr (.inr (.inr h)))).1 rfl)
      have HNS := hide (show ¬ nfoot q.2.k q.1.n q.1.s from fun h => ((unhide HSq).sn _ h).1 rfl)
      clear hqs hl1 hqm
      have hce : wr.cell? ⟨e, 0, none⟩ = some (.int .i64 nc) := (unhide HEr).blk.cell rfl
      have hc2 : wr.cell? ⟨q.1.s, 2, none⟩ = some (.int .i64 q.2.c.lag) := (unhide HSq).blk.cell rfl
      have hc26 : wr.cell? ⟨q.1.s, 26, none⟩ = some (.func (.func (swpF q.2.k)) (capsS q.2.k q.1.n.d) #[]) := (unhide HSq).blk.cell rfl
      have hown := own_swp q.2.k (unhide HIq).k1 (unhide HIq).k5
      have HRL := hide (show q.2.rel ≤ 4398046511104 by have h1 := (unhide HIq).rela; have h2 := (unhide HIq).accn; omega)
      have hk0 : (0 : Int) ≤ (k : Int) := by omega
      have hkm : (k : Int) < (m : Int) := by omega
      go_wp2_with fail
      go_region_held3 (fun w' => w'.cell? ⟨q.1.s, 26, none⟩ = some (.func (.func (swpF q.2.k)) (capsS q.2.k q.1.n.d) #[]) ∧ w'.cell? ⟨q.1.s, 2, none⟩ = some (.int .i64 q.2.c.lag) ∧ w'.cell? ⟨e, 0, none⟩ = some (.int .i64 nc))
        (first | (simp [*]; done) | (go_split_ands; exact ⟨hk1.cell (by assumption) (unhide HNS), hk1.cell (by assumption) (unhide HNS), hk1.cell (by assumption) (unhide HNE)⟩))
        (first | (go_at_call 38; refine (wm_any q.1.s q.2.c.lag nc _ (by go_keep) la0 la1 nc0 nc1).mono ?_; rintro e w' ⟨rfl, rfl⟩) | (refine (swp_any (rel := q.2.rel) q.2.k q.1.n q.2.c q.2.nt (nc - q.2.c.lag) bud _ _ (by first | rfl | simp) (by exact (unhide HSq).note.still (Keeps.refl _ _).drew) (unhide HIq).note (unhide HRL) (unhide HIq).valid (unhide HIq).kind (unhide HIq).k1 (unhide HIq).k5 (by omega) (by omega) d0 d1).mono ?_; rintro e w1 ⟨rfl, hn1, hk1⟩))
      have HK1 := hide (((Keeps.refl (nfoot q.2.k q.1.n) wr).drew).then hk1)
      have HN1 := hide hn1
      clear hn1 hk1 hck hce hc2 hc26 hown
      have ht : (swpN q.2.k q.2.c q.2.nt (nc - q.2.c.lag) bud).2.1 = thrS nc bud q.2 := rfl
      have hlf : (swpN q.2.k q.2.c q.2.nt (nc - q.2.c.lag) bud).2.2 = leftS nc bud q.2 := rfl
      rw [ht, hlf]
      clear ht hlf
      generalize hth : thrS nc bud q.2 = th at *
      generalize hle : leftS nc bud q.2 = le at *
      have HTH := hide hth
      have HLE := hide hle
      clear hth hle
      have hw1 : IntKind.i64.wrap (bud - th) = bud - th := by rw [IntKind.wrap_i64]; omega
      have hw2 : IntKind.i64.wrap (all + le) = all + le := by rw [IntKind.wrap_i64]; omega
      go_wp2
      go_roundg (m - (k + 1))
      case measure => have := unhide HGG; omega
      case rel =>
        have hEr := unhide HEr
        have hFr := unhide HFr
        have hX := unhide HX
        have hSr := unhide HSr
        have hQS := unhide HQS
        subst hQS
        obtain ⟨hx1, hx2⟩ := sweep_split (ps.map (·.2)) nc bud done l1 l2 q k (unhide HL1) (unhide HDL) (by rw [unhide HXL]; exact hlt) hX
        have hsr := swpS_rep nc bud (unhide HSq) (unhide HN1) (unhide HK1)
        have hnx : q.1.next q.1 q.2.k wr.heap.size := ⟨rfl, fun _ h => .inl h⟩
        have hkf : Keeps (q.1.foot q.2.k) wr w1 := (unhide HK1).mono (fun i _ h => .inr (.inr (.inr h)))
        have hE2 := hEr.one hkf hsr rfl hnx
        refine ⟨k + 1, l1 ++ (q.1, swpS nc bud q.2) :: l2, bud - th, all + le, done ++ [swpS nc bud q.2], by omega, rfl, rfl, rfl, by go_num, by omega, by omega, by omega, by omega, hE2, by show _ = _; rw [List.length_append, unhide HDL]; rfl, hx1, ?_, ?_, ?_, ?_⟩
        · show _ = _
          rw [unhide HSW, hx2]
          simp only [sweepL]
          rw [unhide HTH, unhide HLE, List.append_assoc, List.singleton_append, Int.add_assoc]
        · exact (unhide HKr).trans hkf (fun i hi _ => hFr i (.inr (.inr ⟨q, by simp, hi⟩)))
        · rintro i (hi | hi | ⟨p, hp, hi⟩)
          · exact hFr i (.inl hi)
          · exact hFr i (.inr (.inl hi))
          · rcases List.mem_append.1 hp with hp | hp
            · exact hFr i (.inr (.inr ⟨p, by simp [hp], hi⟩))
            · rcases List.mem_cons.1 hp with hp | hp
              · subst hp; exact hFr i (.inr (.inr ⟨q, by simp, hi⟩))
              · exact hFr i (.inr (.inr ⟨p, by simp [hp], hi⟩))
        · intro x hx
          rw [List.map_append, List.map_cons] at hx
          rcases List.mem_append.1 hx with hx | hx
          · exact hSr x (by rw [List.map_append]; exact List.mem_append.2 (.inl hx))
          · rcases List.mem_cons.1 hx with hx | hx
            · rw [hx]; exact swpS_inv _ _ (unhide HIq)
            · exact hSr x (by rw [List.map_append, List.map_cons]; exact List.mem_append.2 (.inr (List.mem_cons.2 (.inr hx))))
    · have HKM := hide (show k = m by omega)
      go_wp2
      go_ret
      have hdn : (ps.map (·.2)).drop k = [] := List.drop_eq_nil_of_le (by rw [unhide HXL, unhide HKM]; exact Nat.le_refl _)
      have hsw := unhide HSW
      have hX := unhide HX
      rw [hdn] at hsw hX
      simp only [sweepL, List.append_nil, Int.add_zero] at hsw hX
      rw [hsw]
      exact ⟨rfl, qs, unhide HEr, hX, unhide HKr, unhide HFr, by first | exact unhide HSr | (intro x b hb; exact unhide HSr x (List.mem_map_of_mem (f := (·.2)) hb))⟩

end Go.Proofs.YtjhaihbjhikhlaaGreat
