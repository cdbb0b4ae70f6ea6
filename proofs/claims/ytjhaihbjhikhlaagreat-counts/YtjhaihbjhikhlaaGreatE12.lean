import Derived.Test.YtjhaihbjhikhlaaGreatE10
import Derived.Test.YtjhaihbjhikhlaaGreatE11
import Derived.Test.YtjhaihbjhikhlaaGreatN
namespace Go.Proofs.YtjhaihbjhikhlaaGreat
open Go.RowKit

theorem step_any (n : Int) (e : Nat) (v : Value) (clock : Int) (ps : List (SB × Ser)) (o : OpM) (w : World) (h : ERep w e v clock ps) (hi : EInv n clock (ps.map (·.2))) (hn : n ≤ 4398046511104) :
    Calls Tryz.prog 14 #[.pointer (some ⟨e, 0, none⟩), o.val] w fun r w' =>
      StepPost w e v ps (stepM ⟨clock, ps.map (·.2)⟩ o).1.clock (stepM ⟨clock, ps.map (·.2)⟩ o).1.xs (stepM ⟨clock, ps.map (·.2)⟩ o).2.1 (stepM ⟨clock, ps.map (·.2)⟩ o).2.2 r w' := by
  have hfind := findP_findS ps o.id
  by_cases h1 : o.kind = 1
  · have hM : stepM ⟨clock, ps.map (·.2)⟩ o = createM ⟨clock, ps.map (·.2)⟩ o := by unfold stepM; rw [if_pos h1]
    rw [hM]
    refine step_1 e v clock ps o w h h1 _ _ _ _ (fun w0 h0 => ?_)
    cases hid : inB o.id 0 99
    · have : createM ⟨clock, ps.map (·.2)⟩ o = (⟨clock, ps.map (·.2)⟩, 2, []) := by unfold createM; rw [if_neg (by rw [hid]; simp)]
      rw [this]
      exact create_id n e v clock ps o w0 h0 hi hid
    · cases hf : findP ps o.id with
      | some p =>
        have : createM ⟨clock, ps.map (·.2)⟩ o = (⟨clock, ps.map (·.2)⟩, 2, []) := by unfold createM; rw [if_neg (by simp only; rw [hfind, hf]; simp)]
        rw [this]
        exact create_there n e v clock ps o w0 h0 hi hid p hf
      | none =>
        have hc : (inB o.id 0 99 = true ∧ (findS (⟨clock, ps.map (·.2)⟩ : WS).xs o.id).isNone = true) := ⟨hid, by simp only; rw [hfind, hf]; rfl⟩
        cases hv : validB o.cfg
        · have : createM ⟨clock, ps.map (·.2)⟩ o = (⟨clock, ps.map (·.2)⟩, 3, []) := by unfold createM; rw [if_pos hc, if_neg (by rw [hv]; simp)]
          rw [this]
          exact create_config n e v clock ps o w0 h0 hi hid hf hv
        · by_cases h6 : ps.length < 6
          · have : createM ⟨clock, ps.map (·.2)⟩ o = (⟨clock, ps.map (·.2) ++ [newSer o.id o.cfg o.cfg.kind.toNat]⟩, 0, []) := by unfold createM; rw [if_pos hc, if_pos hv, if_pos (by simpa using h6)]
            rw [this]
            exact create_yes n e v clock ps o w0 h0 hi hid hf hv h6
          · have : createM ⟨clock, ps.map (·.2)⟩ o = (⟨clock, ps.map (·.2)⟩, 4, []) := by unfold createM; rw [if_pos hc, if_pos hv, if_neg (by simpa using h6)]
            rw [this]
            have h6' : ps.length = 6 := by have := hi.six; rw [List.length_map] at this; omega
            exact create_full n e v clock ps o w0 h0 hi hid hf hv h6'
  by_cases h2 : o.kind = 2
  · have hM : stepM ⟨clock, ps.map (·.2)⟩ o = addM ⟨clock, ps.map (·.2)⟩ o := by unfold stepM; rw [if_neg h1, if_pos h2]
    rw [hM]
    refine step_2 e v clock ps o w h h2 _ _ _ _ (fun w0 h0 => ?_)
    cases hf : findP ps o.id with
    | none =>
      have : addM ⟨clock, ps.map (·.2)⟩ o = (⟨clock, ps.map (·.2)⟩, 2, []) := by unfold addM; simp only; rw [hfind, hf]; rfl
      rw [this]
      exact add_none n e v clock ps o w0 h0 hi hf
    | some p =>
      by_cases hr : refE p.2 clock o.item = 0
      · have : addM ⟨clock, ps.map (·.2)⟩ o = (⟨clock, updS (ps.map (·.2)) o.id (accS p.2 o.item)⟩, 0, [p.2.acc + 1]) := by unfold addM; simp only; rw [hfind, hf]; simp only [Option.map_some]; rw [if_pos hr]
        rw [this]
        exact add_yes n e v clock ps o w0 h0 hi p hf hr (by omega)
      · have : addM ⟨clock, ps.map (·.2)⟩ o = (⟨clock, updS (ps.map (·.2)) o.id (refS p.2 (refE p.2 clock o.item).toNat)⟩, refE p.2 clock o.item, []) := by unfold addM; simp only; rw [hfind, hf]; simp only [Option.map_some]; rw [if_neg hr]
        rw [this]
        have hrr := refE_range p.2 clock o.item
        obtain ⟨cd, hcd⟩ := Int.eq_ofNat_of_zero_le hrr.1
        rw [hcd, Int.toNat_natCast]
        exact add_no n e v clock ps o w0 h0 hi p cd hf hcd (by omega) (by omega)
  by_cases h3 : o.kind = 3
  · have hM : stepM ⟨clock, ps.map (·.2)⟩ o = tickM ⟨clock, ps.map (·.2)⟩ o := by unfold stepM; rw [if_neg h1, if_neg h2, if_pos h3]
    rw [hM]
    refine step_3 e v clock ps o w h h3 _ _ _ _ (fun w0 h0 => ?_)
    cases ha : inB o.a 0 4611686018427387904
    · have : tickM ⟨clock, ps.map (·.2)⟩ o = (⟨clock, ps.map (·.2)⟩, 5, []) := by unfold tickM; rw [if_neg (by rw [ha]; simp)]
      rw [this]
      exact tick_time n e v clock ps o w0 h0 hi ha
    · cases hb : inB o.b 0 100
      · have : tickM ⟨clock, ps.map (·.2)⟩ o = (⟨clock, ps.map (·.2)⟩, 12, []) := by unfold tickM; rw [if_pos ha, if_neg (by rw [hb]; simp)]
        rw [this]
        exact tick_budget n e v clock ps o w0 h0 hi ha hb
      · have : tickM ⟨clock, ps.map (·.2)⟩ o = (⟨maxC clock o.a, (sweepL (maxC clock o.a) o.b ((ps.map (·.2)).map (tickOne (maxC clock o.a)))).1⟩, 0, [(sweepL (maxC clock o.a) o.b ((ps.map (·.2)).map (tickOne (maxC clock o.a)))).2]) := by unfold tickM; rw [if_pos ha, if_pos hb]
        rw [this]
        exact tick_yes n e v clock ps o w0 h0 hi ha hb hn
  by_cases h4 : o.kind = 4
  · have hM : stepM ⟨clock, ps.map (·.2)⟩ o = queryM ⟨clock, ps.map (·.2)⟩ o := by unfold stepM; rw [if_neg h1, if_neg h2, if_neg h3, if_pos h4]
    rw [hM]
    refine step_4 e v clock ps o w h h4 _ _ _ _ (fun w0 h0 => ?_)
    cases hf : findP ps o.id with
    | none =>
      have : queryM ⟨clock, ps.map (·.2)⟩ o = (⟨clock, ps.map (·.2)⟩, 2, []) := by unfold queryM; simp only; rw [hfind, hf]; rfl
      rw [this]
      exact query_none n e v clock ps o w0 h0 hi hf
    | some p =>
      have : queryM ⟨clock, ps.map (·.2)⟩ o = (⟨clock, ps.map (·.2)⟩, qryN p.2.k p.2.c p.2.nt o.a (clock - p.2.c.lag)) := by unfold queryM; simp only; rw [hfind, hf]; rfl
      rw [this]
      exact query_some n e v clock ps o w0 h0 hi hn p hf
  by_cases h5 : o.kind = 5
  · have hM : stepM ⟨clock, ps.map (·.2)⟩ o = statsM ⟨clock, ps.map (·.2)⟩ o := by unfold stepM; rw [if_neg h1, if_neg h2, if_neg h3, if_neg h4, if_pos h5]
    rw [hM]
    refine step_5 e v clock ps o w h h5 _ _ _ _ (fun w0 h0 => ?_)
    cases hf : findP ps o.id with
    | none =>
      have : statsM ⟨clock, ps.map (·.2)⟩ o = (⟨clock, ps.map (·.2)⟩, 2, []) := by unfold statsM; simp only; rw [hfind, hf]; rfl
      rw [this]
      exact stats_no n e v clock ps o w0 h0 hi hf
    | some p =>
      have : statsM ⟨clock, ps.map (·.2)⟩ o = (⟨clock, ps.map (·.2)⟩, 0, statsL p.2) := by unfold statsM; simp only; rw [hfind, hf]; rfl
      rw [this]
      exact stats_yes n e v clock ps o w0 h0 hi p hf
  have hM : stepM ⟨clock, ps.map (·.2)⟩ o = (⟨clock, ps.map (·.2)⟩, 1, []) := by unfold stepM; rw [if_neg h1, if_neg h2, if_neg h3, if_neg h4, if_neg h5]
  rw [hM]
  exact step_no e v clock ps o w h (by omega)

end Go.Proofs.YtjhaihbjhikhlaaGreat
