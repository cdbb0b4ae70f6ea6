import Derived.Test.YtjhaihbjhikhlaaGreatD
import Derived.Test.YtjhaihbjhikhlaaGreatXF
import Derived.Test.YtjhaihbjhikhlaaGreatXW
import Derived.Deep.LoopGhost
namespace Go.Proofs.YtjhaihbjhikhlaaGreat
open Go.RowKit

/-! ### Rows of the document's buckets -/
abbrev OB (w : World) (base : Nat) (v : Value) (l : List Bk) : Prop := w.ownsRow base 111 2 v l.length (flatB l)
/-- Buckets as a value: of none the address is whatever. -/
def BW (w : World) (v : Value) (l : List Bk) : Prop := ((∃ a c, v = .slice a 0 c) ∧ l = []) ∨ ∃ g off cap, v = .slice (some ⟨g, off, none⟩) l.length cap ∧ l.length ≤ cap ∧ cap ≤ maxLen ∧ (∀ j u, (flatB l)[j]? = some u → w.cell? ⟨g, off + j, none⟩ = some u) ∧ g < w.heap.size
theorem BW.keeps {w w' : World} {v : Value} {l : List Bk} (h : BW w v l) (hk : Keeps (fun _ => False) w w') : BW w' v l := by
  rcases h with h | ⟨g, off, cap, h1, h2, hm, h3, h4⟩
  · exact .inl h
  · exact .inr ⟨g, off, cap, h1, h2, hm, fun j u hu => hk.cell (h3 j u hu) (fun h => h), by have := hk.size; omega⟩
theorem OB.bw {w : World} {base : Nat} {v : Value} {l : List Bk} (h : OB w base v l) : BW w v l := by
  rcases h.2 with ⟨h1, h2⟩ | ⟨g, cap, cur, h1, h2, h3, h4, h5, h6, h7⟩
  · exact .inl ⟨⟨_, _, h1⟩, List.length_eq_zero_iff.1 h2⟩
  · refine .inr ⟨g, 0, cap, h1, h4, h5, fun j u hu => ?_, (Array.getElem?_eq_some_iff.1 h3).1⟩
    have hj : j < l.length * 2 := by have := (List.getElem?_eq_some_iff.1 hu).1; rwa [flatB_length] at this
    have : cur[j]? = some u := by
      rw [← h7, List.getElem?_take, if_pos hj] at hu
      simpa using hu
    rw [Nat.zero_add]
    simp [World.cell?, h3, this]
theorem bw_cells {w : World} {g off n cap : Nat} {l : List Bk} (hn : l.length = n) (h : BW w (.slice (some ⟨g, off, none⟩) n cap) l) (i : Nat) (hi : i < n) :
    w.cell? ⟨g, off + i * 2, none⟩ = some (.int .i64 (bkAt l i).sz) ∧ w.cell? ⟨g, off + i * 2 + 1, none⟩ = some (.int .i64 (bkAt l i).t) := by
  rcases h with ⟨⟨a, c, h1⟩, h2⟩ | ⟨g', off', cap', h1, h2, _, h3, h4⟩
  · rw [h2] at hn; simp at hn; omega
  · injection h1 with h1 _ _
    injection h1 with h1
    injection h1 with h1 h5
    subst h1 h5
    obtain ⟨a, b⟩ := flatB_get l i (by omega)
    exact ⟨h3 _ _ a, by have := h3 _ _ b; rwa [← Nat.add_assoc] at this⟩
theorem bw_form {w : World} {v : Value} {l : List Bk} (h : BW w v l) : ∃ a cap, v = .slice a l.length cap := by
  rcases h with ⟨⟨a, c, rfl⟩, rfl⟩ | ⟨g, off, cap, rfl, _⟩
  · exact ⟨a, c, rfl⟩
  · exact ⟨_, _, rfl⟩
theorem bw_some {w : World} {a : Option Addr} {n cap : Nat} {l : List Bk} (h : BW w (.slice a n cap) l) (hn : 0 < n) : ∃ g off, a = some ⟨g, off, none⟩ ∧ l.length = n ∧ n ≤ cap ∧ cap ≤ maxLen ∧ g < w.heap.size := by
  rcases h with ⟨⟨a', c, h1⟩, h2⟩ | ⟨g, off, cap', h1, h2, hm, _, h4⟩
  · injection h1 with _ h3 _
    omega
  · injection h1 with h5 h6 h7
    exact ⟨g, off, h5, h6.symm, by omega, by omega, h4⟩

theorem infoRB : (Tryz.prog.info? 111).map (fun i => (i.zero, i.size, i.bytes)) = some (some (.agg #[.int .i64 0, .int .i64 0]), 2, 16) := by kernel_rfl

theorem wpList_append_bks {w : World} {ops : Array Oper} {rest : List Oper} {o : Oper} {a : Act} {Q : Exit → Act → World → Prop} (hgd : o.guard = none) (s x : Operand)
    (ho : o.op = .call { callee := .builtin .append, args := #[s, x], argTypes := #[108, 108] })
    (base : Nat) (v : Value) (A : List Bk) (hs : a.eval s = v) (hown : OB w base v A) (u : Value) (B : List Bk) (hx : a.eval x = u) (hB : BW w u B)
    (hlen : A.length + B.length ≤ 8796093022208) (hbase : base ≤ w.heap.size)
    (h : ∀ ad c w', OB w' base (.slice ad (A.length + B.length) c) (A ++ B) → Keeps (fun i => v.ownBlock = some i) w w' → (∀ i, (Value.slice ad (A.length + B.length) c).ownBlock = some i → v.ownBlock = some i ∨ w.heap.size ≤ i) → wpList Tryz.prog ops Q rest (a.put o.dst (.slice ad (A.length + B.length) c)) w') : wpList Tryz.prog ops Q (o :: rest) a w := by
  obtain ⟨i0, hi0, hz0, hz1, hz2⟩ := info_parts infoRB
  by_cases hb : B = []
  · subst hb
    have hu : ∃ ad c, u = .slice ad 0 c := by
      rcases hB with ⟨h, _⟩ | ⟨sb, so, cap, h, _⟩
      · exact h
      · exact ⟨_, _, h⟩
    obtain ⟨ad, c, rfl⟩ := hu
    obtain ⟨av, ac, hv⟩ := row_form hown
    refine wpList_append_zero hgd s x 108 ho base 111 i0 2 Tryz.underlying108 hi0 v A.length (flatB A) hs hown ad c hx ?_
    have := h av ac w (by rw [List.append_nil]; rw [hv] at hown; exact hown) (Keeps.refl _ _) (by rw [hv]; exact fun i hi => .inl hi)
    rw [hv]
    exact this
  · rcases hB with ⟨_, h0⟩ | ⟨sb, so, cap, rfl, hcap, hmx, hsc, hlt⟩
    · exact absurd h0 hb
    · have hpos : 0 < B.length := List.length_pos_iff.2 hb
      refine wpList_append_lies w hgd s x 108 ho base 111 i0 (.agg #[.int .i64 0, .int .i64 0]) 2 16 Tryz.underlying108 hi0 hz0 hz1 hz2 (by rfl) (by omega) v A.length (flatB A) hs hown ⟨sb, so, none⟩ B.length cap (flatB B) hx (flatB_length B) ?_ (flatB_one B) hpos (by unfold maxLen; omega) (by omega) hbase w.heap.size rfl ?_
      · intro j z hz
        rw [Addr.add_lit]
        exact hsc j z hz
      · intro g c w' hown' hgrow hat hlt'
        refine h (some ⟨g, 0, none⟩) c w' ?_ ?_ ?_
        · show w'.ownsRow base 111 2 _ (A ++ B).length (flatB (A ++ B))
          rw [flatB_append, List.length_append]; exact hown'
        · exact ⟨hgrow.os, hgrow.tape, hgrow.output, hgrow.size, fun k hk hn => hgrow.block k hk (fun h => hn h.symm)⟩
        · intro i hi
          have : g = i := by simpa [Value.ownBlock] using hi
          subst this
          rcases hat with h1 | h1
          · exact .inl h1
          · exact .inr (by omega)

set_option maxRecDepth 100000 in
set_option maxHeartbeats 2000000 in
theorem rdead_any (v : Value) (q : List Bk) (t : Int) (w : World) (h : BW w v q.reverse) (hl : q.length ≤ 4398046511104) :
    Calls Tryz.prog 71 #[v, .int .i64 t] w fun e w' => e = .returned (.int .i64 (pastN q t)) ∧ w' = w := by
  obtain ⟨a, cap, hv⟩ := bw_form h
  rw [List.length_reverse] at hv
  subst hv
  have HB := hide h
  clear h
  generalize hn : q.length = n at *
  have HN := hide hn
  clear hn
  go_enter Tryz.func71, Tryz.ntmps71
  go_wp2
  go_loop [5] (fun i => ∃ k : Nat, i = .int .i64 k ∧ k ≤ n ∧ Hid (pastN q t = k + pastN (q.drop k) t)) (fun i => n - (intOf i).toNat)
  case atStart => exact ⟨0, rfl, Nat.zero_le _, by show _ = _; simp⟩
  case round =>
    obtain ⟨k, rfl, hk, HE⟩ := hrel
    by_cases hlt : k < n
    · obtain ⟨g, off, rfl, _, hcap, hmx, _⟩ := bw_some (unhide HB) (by omega)
      have hcs := bw_cells (by rw [List.length_reverse]; exact unhide HN) (unhide HB) (n - 1 - k) (by omega)
      have hat := past_reverse q k (by rw [unhide HN]; exact hlt)
      rw [unhide HN] at hat
      rw [hat] at hcs
      have hst := hide (pastN_step q t k (unhide HE) (by rw [unhide HN]; exact hlt))
      obtain ⟨j, hj⟩ : ∃ j, j = n - 1 - k := ⟨_, rfl⟩
      rw [← hj] at hcs
      have x1 := hcs.2
      have e1 : (n : Int) - 1 - (k : Int) = (j : Int) := by omega
      have hj0 : (0 : Int) ≤ (j : Int) := by omega
      have hj1 : (j : Int) < (n : Int) := by omega
      have hkn : (k : Int) < (n : Int) := by omega
      have hn1 : (n : Int) ≤ 4398046511104 := by omega
      clear hcs hat hj hcap hmx
      generalize bkAt q k = x at *
      by_cases ht : x.t ≤ t
      · have HT := hide ht
        go_wp2
        go_round
        case rel => exact ⟨k + 1, by go_num, by omega, by have := unhide hst; rw [if_pos (unhide HT)] at this; exact this⟩
        case measure => simp [intOf]; omega
      · have HT := hide ht
        have hd : decide (x.t ≤ t) = false := by simpa using ht
        clear ht
        go_wp2
        go_ret
        have := unhide hst
        rw [if_neg (by have := unhide HT; omega)] at this
        exact ⟨by rw [this]; rfl, rfl⟩
    · have hd : decide ((k : Int) < (n : Int)) = false := by simp; omega
      go_wp2
      go_ret
      refine ⟨?_, rfl⟩
      rw [unhide HE, List.drop_eq_nil_of_le (by rw [unhide HN]; omega)]
      simp [pastN]

end Go.Proofs.YtjhaihbjhikhlaaGreat
