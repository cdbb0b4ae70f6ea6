import Derived.Test.YtjhaihbjhikhlaaGreatR2
namespace Go.Proofs.YtjhaihbjhikhlaaGreat
open Go.RowKit

theorem num_cells {w : World} {base : Nat} {v : Value} {l : List Int} (h : w.ownsRow base 3 1 v l.length (ints l)) : (l = [] ∧ ∃ a c, v = .slice a 0 c) ∨ ∃ g c, v = .slice (some ⟨g, 0, none⟩) l.length c ∧ ∀ i, i < l.length → w.cell? ⟨g, i, none⟩ = some (.int .i64 (l.getD i 0)) := by
  rcases h.2 with ⟨h1, h2⟩ | ⟨g, cap, cur, h1, _, h3, h4, h5, h6, h7⟩
  · exact .inl ⟨List.length_eq_zero_iff.1 h2, none, 0, h1⟩
  · refine .inr ⟨g, cap, h1, fun i hi => ?_⟩
    have hc : cur[i]? = (ints l)[i]? := by
      rw [← h7, List.getElem?_take, if_pos (by omega)]; simp
    have : cur[i]? = some (.int .i64 (l.getD i 0)) := by
      rw [hc]; unfold ints; rw [List.getElem?_map, List.getElem?_eq_getElem hi, List.getD_eq_getElem?_getD, List.getElem?_eq_getElem hi]; rfl
    simp [World.cell?, h3, this]

end Go.Proofs.YtjhaihbjhikhlaaGreat
