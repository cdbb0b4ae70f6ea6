import Derived.Test.YteecnidnlkjehaaQ5
namespace Go.Proofs.Yteecnidnlkjehaa
open Go.RowKit

set_option maxHeartbeats 400000 in
theorem new_any (w : World) :
    Calls Try.prog 62 #[aheadV] w fun e w' => e = .returned (.pointer (some ⟨w.heap.size, 0, none⟩)) ∧ QRep w' w.heap.size none [] ∧ Keeps (fun _ => False) w w' ∧ w'.heap.size = w.heap.size + 1 := by
  unfold aheadV
  go_enter Try.func62, Try.ntmps62
  go_wp2
  go_ret
  exact ⟨rfl, ⟨rfl, Blk.new _ [_, _] _⟩, (Keeps.refl _ _).alloc _, by simp⟩

/-- 'Take' on lists: what is left. -/
def takeL (l : List It) : List It := sinkL l.length ((l.set 0 (itAt l (l.length - 1))).take (l.length - 1)) 0

theorem IRow.take {w : World} {g cap : Nat} {l : List It} (h : IRow w g cap l) (m : Nat) : IRow w g cap (l.take m) := by
  obtain ⟨cur, hb, hl, ht⟩ := h.ex
  have hf : ∀ (l : List It) (m : Nat), flat (l.take m) = (flat l).take (m * 4) := by
    intro l
    induction l with
    | nil => intro m; simp [flat]
    | cons x l ih =>
      intro m
      cases m with
      | zero => simp [flat]
      | succ m => rw [show (m + 1) * 4 = m * 4 + 4 by omega]; simp [flat, ih]
  refine ⟨⟨cur, hb, hl, ?_⟩, Nat.le_trans (List.length_take_le' _ _) h.le, h.max⟩
  rw [hf, ← ht, List.take_take]
  congr 1
  simp [List.length_take]

set_option maxRecDepth 100000 in
set_option maxHeartbeats 1000000 in
theorem take_any (q g : Nat) (l : List It) (w : World) (h : QRep w q (some g) l) (hl : l.length ≤ 900) (hl0 : 0 < l.length) :
    Calls Try.prog 67 #[.pointer (some ⟨q, 0, none⟩)] w fun e w' => (∃ v, e = .returned v) ∧ QRep w' q (some g) (takeL l) ∧ Keeps (fun k => k = q ∨ k = g) w w' := by
  obtain ⟨hlq, hlg⟩ := h.lt
  obtain ⟨hlg, hqg⟩ := hlg g rfl
  have H := hide h
  clear h
  have hemp : (!l.isEmpty) = true := by cases l with | nil => simp at hl0 | cons => rfl
  obtain ⟨n, hn⟩ : ∃ n, n = l.length := ⟨_, rfl⟩
  have hn0 : 0 < n := by omega
  have hn9 : n ≤ 900 := by omega
  have HN := hide hn
  clear hn hl hl0
  go_enter Try.func67, Try.ntmps67
  go_wp2_with fail
  refine (first_any q (some g) l _ ((unhide H).keeps ((Keeps.refl (fun _ => False) _).alloc _) (fun h => h) (fun _ _ h => h))).mono ?_
  rintro e w1 ⟨rfl, hk1⟩
  rw [hemp]
  unfold It.val
  have hB1 : Blk w1 w.heap.size [.int .i64 0, .int .i64 0, .int .i64 0, .int .i64 0] 72 := (Blk.new w _ 72).keeps hk1 (fun h => h)
  have hkk : Keeps (fun _ => False) w w1 := ((Keeps.refl (fun _ => False) w).alloc _).then hk1
  have hz1 : w.heap.size < w1.heap.size := hB1.lt
  obtain ⟨_, cap, hqb, hir⟩ := (unhide H).keeps hkk (fun h => h) (fun _ _ h => h)
  rw [← unhide HN] at hqb
  have hzq : q < w1.heap.size := hqb.lt
  have hzg : g < w1.heap.size := hir.lt
  have hqne : q ≠ w.heap.size := by omega
  have hgne : g ≠ w.heap.size := by omega
  have HB1 := hide hB1
  have HKK := hide hkk
  have HQB := hide hqb
  have HIR := hide hir
  clear hk1 hB1 hkk hqb hir
  generalize hx : itAt l 0 = x
  have HX := hide hx
  clear hx
  obtain ⟨m, hm⟩ : ∃ m, n = m + 1 := ⟨n - 1, by omega⟩
  subst hm
  have hq1 : w1.cell? ⟨q, 1, none⟩ = some (.slice (some ⟨g, 0, none⟩) (m + 1) cap) := (unhide HQB).cell rfl
  go_wp2_with fail
  have hk2 : Keeps (fun _ => False) w1 (w1.alloc (.cells #[.int .i64 x.t, .int .i64 x.k, .int .i64 x.d, .int .i64 x.n] 72)) := (Keeps.refl _ _).alloc _
  have hx2 : Blk (w1.alloc (.cells #[.int .i64 x.t, .int .i64 x.k, .int .i64 x.d, .int .i64 x.n] 72)) w1.heap.size [.int .i64 x.t, .int .i64 x.k, .int .i64 x.d, .int .i64 x.n] 72 := Blk.new _ _ _
  generalize w1.alloc (.cells #[.int .i64 x.t, .int .i64 x.k, .int .i64 x.d, .int .i64 x.n] 72) = W2 at *
  have HX2 := hide hx2
  have HR2 := hide ((unhide HB1).keeps hk2 (fun h => h))
  have HQ2 := hide ((unhide HQB).keeps hk2 (fun h => h))
  have HI2 := hide ((unhide HIR).keeps hk2 (fun h => h))
  have HK2 := hide (Keeps.then (unhide HKK) hk2)
  clear hk2 hx2 HB1 HQB HIR HKK hq1
  generalize hxb : w1.heap.size = xb at *
  generalize hrb : w.heap.size = rb at *
  have HRB := hide hrb
  clear hxb hrb
  have hq1 : W2.cell? ⟨q, 1, none⟩ = some (.slice (some ⟨g, 0, none⟩) (m + 1) cap) := (unhide HQ2).cell rfl
  have hqf : W2.frozen? ⟨q, 1, none⟩ = false := (unhide HQ2).frozen 1
  obtain ⟨x0, x1, x2, x3⟩ := (unhide HI2).cells 0 (by rw [← unhide HN]; omega)
  obtain ⟨y0, y1, y2, y3⟩ := (unhide HI2).cells m (by rw [← unhide HN]; omega)
  simp only [Nat.zero_mul, Nat.zero_add] at x0 x1 x2 x3
  have hgf := (unhide HI2).frozen
  generalize hy : itAt l m = y at *
  have HY := hide hy
  clear hy
  have hm0 : (0 : Int) ≤ (m : Int) := by omega
  have hm1 : (m : Int) < (m : Int) + 1 := by omega
  have hcap := (unhide HI2).le
  rw [← unhide HN] at hcap
  have hmc : (m : Int) ≤ (cap : Int) := by omega
  have HI3 := hide ((unhide HI2).put 0 y)
  have HQ3 := hide (((unhide HQ2).keeps ((Keeps.refl (fun k => k = g) W2).putIt (Or.inl rfl) 0 y) hqg).setCell 1 (.slice (some ⟨g, 0, none⟩) m cap))
  have HK3 := hide ((((Keeps.refl (fun k => k = q ∨ k = g) W2).putIt (Or.inl (Or.inr rfl)) 0 y).setCell (p := ⟨q, 1, none⟩) (Or.inl (Or.inl rfl)) (.slice (some ⟨g, 0, none⟩) m cap)).drew)
  have HI3' := hide (((unhide HI3).keeps (M := fun k => k = q) ((Keeps.refl (fun k => k = q) _).setCell (p := ⟨q, 1, none⟩) (Or.inl rfl) (.slice (some ⟨g, 0, none⟩) m cap)) (fun h => hqg h.symm)).drew)
  go_region
  go_wp2_with fail
  have e3 : (((((W2.setCell ⟨g, 0, none⟩ (.int .i64 y.t)).setCell ⟨g, 1, none⟩ (.int .i64 y.k)).setCell ⟨g, 2, none⟩ (.int .i64 y.d)).setCell ⟨g, 3, none⟩ (.int .i64 y.n)).setCell ⟨q, 1, none⟩ (.slice (some ⟨g, 0, none⟩) m cap)).drew = ((putIt W2 g 0 y).setCell ⟨q, 1, none⟩ (.slice (some ⟨g, 0, none⟩) m cap)).drew := by
    unfold putIt; rfl
  rw [e3]
  clear e3 hq1 hqf x0 x1 x2 x3 y0 y1 y2 y3 hgf
  have HQ4 : Hid (QB ((putIt W2 g 0 y).setCell ⟨q, 1, none⟩ (.slice (some ⟨g, 0, none⟩) m cap)).drew q (.slice (some ⟨g, 0, none⟩) m cap)) := ⟨unhide HQ3⟩
  have hlen : ((l.set 0 y).take m).length = m := by have := unhide HN; simp; omega
  have HL4 := hide hlen
  have HT := hide (show takeL l = sinkL (m + 1) ((l.set 0 y).take m) 0 by unfold takeL; rw [← unhide HN, ← unhide HY]; rfl)
  clear hlen HI3 HQ3
  generalize ((putIt W2 g 0 y).setCell ⟨q, 1, none⟩ (.slice (some ⟨g, 0, none⟩) m cap)).drew = W3 at *
  refine (sink_any q g 0 cap m W3 ((l.set 0 y).take m) (unhide HL4) (by omega) (by omega) (unhide HQ4) ((unhide HI3').take m) (by omega) hqg).mono ?_
  rintro e w4 ⟨rfl, hk4, hr4⟩
  have hrne : ¬ (rb = q ∨ rb = g) := by omega
  have hxne : ¬ (xb = q ∨ xb = g) := by omega
  have HX4 := hide (((unhide HX2).keeps (unhide HK3) hxne).keeps hk4 (fun h => hxne (Or.inr h)))
  have HR4 := hide (((unhide HR2).keeps (unhide HK3) hrne).keeps hk4 (fun h => hrne (Or.inr h)))
  have HE1 := hide ((unhide HQ4).b.keeps hk4 hqg)
  have HE2 := hide hr4
  have HE3 := hide ((((unhide HK2).mono (M' := fun k => k = q ∨ k = g) (fun _ _ h => h.elim)).then (unhide HK3)).trans hk4 (fun _ h _ => Or.inr h))
  clear hk4 hr4 HQ4 HI3' HK3 HK2 HX2 HR2 HI2 HQ2
  have a0 : w4.cell? ⟨xb, 0, none⟩ = some (.int .i64 x.t) := (unhide HX4).cell rfl
  have a1 : w4.cell? ⟨xb, 1, none⟩ = some (.int .i64 x.k) := (unhide HX4).cell rfl
  have a2 : w4.cell? ⟨xb, 2, none⟩ = some (.int .i64 x.d) := (unhide HX4).cell rfl
  have a3 : w4.cell? ⟨xb, 3, none⟩ = some (.int .i64 x.n) := (unhide HX4).cell rfl
  have b0 : w4.cell? ⟨rb, 0, none⟩ = some (.int .i64 0) := (unhide HR4).cell rfl
  have b1 : w4.cell? ⟨rb, 1, none⟩ = some (.int .i64 0) := (unhide HR4).cell rfl
  have b2 : w4.cell? ⟨rb, 2, none⟩ = some (.int .i64 0) := (unhide HR4).cell rfl
  have b3 : w4.cell? ⟨rb, 3, none⟩ = some (.int .i64 0) := (unhide HR4).cell rfl
  have bf := (unhide HR4).frozen
  have HFIN := hide (show Keeps (fun k => k = rb) w4 ((((w4.setCell ⟨rb, 0, none⟩ (.int .i64 x.t)).setCell ⟨rb, 1, none⟩ (.int .i64 x.k)).setCell ⟨rb, 2, none⟩ (.int .i64 x.d)).setCell ⟨rb, 3, none⟩ (.int .i64 x.n)) from
    ((((Keeps.refl (fun k => k = rb) w4).setCell (p := ⟨rb, 0, none⟩) (Or.inl rfl) _).setCell (p := ⟨rb, 1, none⟩) (Or.inl rfl) _).setCell (p := ⟨rb, 2, none⟩) (Or.inl rfl) _).setCell (p := ⟨rb, 3, none⟩) (Or.inl rfl) _)
  have HB5 := hide (((((unhide HR4).setCell 0 (.int .i64 x.t)).setCell 1 (.int .i64 x.k)).setCell 2 (.int .i64 x.d)).setCell 3 (.int .i64 x.n))
  go_wp2
  generalize ((((w4.setCell ⟨rb, 0, none⟩ (.int .i64 x.t)).setCell ⟨rb, 1, none⟩ (.int .i64 x.k)).setCell ⟨rb, 2, none⟩ (.int .i64 x.d)).setCell ⟨rb, 3, none⟩ (.int .i64 x.n)) = w5 at *
  have c0 : w5.cell? ⟨rb, 0, none⟩ = some (.int .i64 x.t) := (unhide HB5).cell rfl
  have c1 : w5.cell? ⟨rb, 1, none⟩ = some (.int .i64 x.k) := (unhide HB5).cell rfl
  have c2 : w5.cell? ⟨rb, 2, none⟩ = some (.int .i64 x.d) := (unhide HB5).cell rfl
  have c3 : w5.cell? ⟨rb, 3, none⟩ = some (.int .i64 x.n) := (unhide HB5).cell rfl
  refine bodyPost_ret (v := .tuple #[.agg #[.int .i64 x.t, .int .i64 x.k, .int .i64 x.d, .int .i64 x.n], .bool true]) (by simp [results, Try.results67, go_sem, c0, c1, c2, c3]) rfl ⟨⟨_, rfl⟩, ⟨hqg, cap, ?_, ?_⟩, ?_⟩
  · have hl : (takeL l).length = m := by rw [unhide HT, sinkL_length]; exact unhide HL4
    rw [hl]
    exact (unhide HE1).keeps (unhide HFIN) (fun h => hqne h)
  · rw [unhide HT]
    exact (unhide HE2).keeps (unhide HFIN) (fun h => hgne h)
  · exact (unhide HE3).trans (unhide HFIN) (fun i hi hlt => by have := unhide HRB; omega)

end Go.Proofs.Yteecnidnlkjehaa
