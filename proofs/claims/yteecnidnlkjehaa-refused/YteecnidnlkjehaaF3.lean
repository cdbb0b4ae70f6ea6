import Derived.Test.YteecnidnlkjehaaF2
namespace Go.Proofs.Yteecnidnlkjehaa
open Go.RowKit
attribute [local go_sem ↓] execOp_load38 execOp_load40 execOp_store40 execOp_bs22
attribute [local go_sem] run_load38 run_load40 bigVal_drew hasBig_drew bigVal_ne hasBig_ne bigVal_alloc hasBig_alloc

/-- append of a script onto one that the call has made. -/
theorem wpList_append_ops {w : World} {ops : Array Oper} {rest : List Oper} {o : Oper} {a : Act} {Q : Exit → Act → World → Prop} (hgd : o.guard = none) (s x : Operand)
    (ho : o.op = .call { callee := .builtin .append, args := #[s, x], argTypes := #[22, 22] })
    (base : Nat) (v : Value) (A : List OpM) (hs : a.eval s = v) (hown : OwnS w base v A) (u : Value) (B : List OpM) (hx : a.eval x = u) (hB : ScriptW w u B)
    (hlen : A.length + B.length ≤ 651562446089) (hbase : base ≤ w.heap.size)
    (h : ∀ ad c w', OwnS w' base (.slice ad (A.length + B.length) c) (A ++ B) → Keeps (fun i => v.ownBlock = some i) w w' → (∀ i, (Value.slice ad (A.length + B.length) c).ownBlock = some i → v.ownBlock = some i ∨ w.heap.size ≤ i) → wpList Try.prog ops Q rest (a.put o.dst (.slice ad (A.length + B.length) c)) w') : wpList Try.prog ops Q (o :: rest) a w := by
  obtain ⟨i0, hi0, hz0, hz1, hz2⟩ := info_parts info40
  by_cases hb : B = []
  · subst hb
    have hu : ∃ ad c, u = .slice ad 0 c := by
      rcases hB with ⟨h, _⟩ | ⟨sb, so, cap, h, _⟩
      · exact h
      · exact ⟨_, _, h⟩
    obtain ⟨ad, c, rfl⟩ := hu
    obtain ⟨av, ac, hv⟩ := row_form hown
    refine wpList_append_zero hgd s x 22 ho base 40 i0 26 Try.underlying22 hi0 v A.length (opFlat A) hs hown ad c hx ?_
    have := h av ac w (by rw [List.append_nil]; rw [hv] at hown; exact hown) (Keeps.refl _ _) (by rw [hv]; exact fun i hi => .inl hi)
    rw [hv]
    exact this
  · rcases hB with ⟨_, h0⟩ | ⟨sb, so, cap, rfl, hcap, hsc, hlt⟩
    · exact absurd h0 hb
    · have hpos : 0 < B.length := List.length_pos_iff.2 hb
      refine wpList_append_lies w hgd s x 22 ho base 40 i0 (.agg cz0.toArray) 26 216 Try.underlying22 hi0 hz0 hz1 hz2 (by rfl) (by omega) v A.length (opFlat A) hs hown ⟨sb, so, none⟩ B.length cap (opFlat B) hx (opFlat_length B) ?_ (opFlat_one B) hpos (by unfold maxLen; omega) (by omega) hbase w.heap.size rfl ?_
      · intro j z hz
        have hj : j < B.length * 26 := by have := (List.getElem?_eq_some_iff.1 hz).1; rwa [opFlat_length] at this
        have hq : j / 26 < B.length := by omega
        have hf := opFlat_get B (j / 26) (j % 26) B[j / 26] (List.getElem?_eq_getElem hq) (by omega)
        rw [show j / 26 * 26 + j % 26 = j by omega, hz] at hf
        have := hsc (j / 26) B[j / 26] (List.getElem?_eq_getElem hq) (j % 26) z hf.symm
        rw [Go.WideShapes.add_plain, show so + j = so + j / 26 * 26 + j % 26 by omega]
        exact this
      · intro g c w' hown' hgrow hat hlt'
        refine h (some ⟨g, 0, none⟩) c w' ?_ ?_ ?_
        · show w'.ownsRow base 40 26 _ (A ++ B).length (opFlat (A ++ B))
          rw [opFlat_append, List.length_append]; exact hown'
        · exact ⟨hgrow.os, hgrow.tape, hgrow.output, hgrow.size, fun k hk hn => hgrow.block k hk (fun h => hn h.symm)⟩
        · intro i hi
          have : g = i := by simpa [Value.ownBlock] using hi
          subst this
          rcases hat with h1 | h1
          · exact .inl h1
          · exact .inr (by omega)

set_option maxRecDepth 100000 in
set_option maxHeartbeats 2000000 in
theorem with_any (v1 v2 : Value) (A B : List OpM) (w : World) (h1 : ScriptW w v1 A) (h2 : ScriptW w v2 B) (hlen : A.length + B.length ≤ 651562446089) :
    Calls Try.prog 16 #[v1, v2] w fun r w' => ∃ v, r = .returned v ∧ OwnS w' w.heap.size v (A ++ B) ∧ Keeps (fun _ => False) w w' := by
  have HA := hide h1
  have HB := hide h2
  clear h1 h2
  go_enter Try.func16, Try.ntmps16
  go_wp2_with (at_builtin; first
    | (refine wpList_append_ops rfl _ _ rfl w.heap.size (.slice none 0 0) [] rfl (World.ownsRow_nil _ _ _ _) v1 A rfl (unhide HA) (by simp; omega) (by omega) ?_; intro ad c w1 hown1 hk1 hat1; have HO1 := hide (show OwnS w1 w.heap.size (.slice ad A.length c) A by simpa using hown1); have HK1 := hide (show Keeps (fun _ => False) w w1 from hk1.mono (fun i _ h => by simp [Value.ownBlock] at h)); clear hown1 hk1)
    | (refine wpList_append_ops rfl _ _ rfl w.heap.size (.slice ad A.length c) A rfl (unhide HO1) v2 B rfl ((unhide HB).keeps (unhide HK1)) hlen (unhide HK1).size ?_; intro ad2 c2 w2 hown2 hk2 hat2))
  go_ret
  refine ⟨_, rfl, hown2, (unhide HK1).trans hk2 (fun i hi hlt => ?_)⟩
  have := ((unhide HO1).lt i hi).1
  omega

def OpM.noLoad (o : OpM) : Bool := o.kind != 7

theorem run_bs1 (w : World) (o : OpM) : (bsBig 22 1 #[(0, .agg o.cells.toArray)]).run Try.prog w = .ok (.value (.slice (some ⟨w.heap.size, 0, none⟩) 1 1)) (w.alloc (.cells o.cells.toArray 40)) := by kernel_rfl
theorem blk_script {w : World} {b : Nat} {o : OpM} (h : Blk w b o.cells 40) : ScriptW w (.slice (some ⟨b, 0, none⟩) 1 1) [o] := by
  refine .inr ⟨b, 0, 1, rfl, by simp, ?_, h.lt⟩
  intro i x hx j u hu
  have hi : i = 0 := by have := (List.getElem?_eq_some_iff.1 hx).1; simp at this; omega
  subst hi
  have : o = x := by simpa using hx
  subst this
  have := h.cell hu
  simpa using this

attribute [local go_sem] run_bs1
set_option maxRecDepth 100000 in
set_option maxHeartbeats 4000000 in
theorem without_any (v : Value) (ops : List OpM) (w : World) (h : ScriptW w v ops) (hlen : ops.length ≤ 651562446089) :
    Calls Try.prog 15 #[v, .int .i64 7] w fun r w' => ∃ v', r = .returned v' ∧ OwnS w' w.heap.size v' (ops.filter OpM.noLoad) ∧ Keeps (fun _ => False) w w' ∧ (ops.filter OpM.noLoad = [] → v' = .slice none 0 0) := by
  by_cases h0 : ops = []
  · subst h0
    have hv : ∃ a c, v = .slice a 0 c := by
      rcases h with ⟨h, _⟩ | ⟨sb, so, cap, h, _⟩
      · exact h
      · exact ⟨_, _, h⟩
    obtain ⟨a, c, rfl⟩ := hv
    clear h
    go_enter Try.func15, Try.ntmps15
    go_wp2
    go_loopw [5, 6] (fun l i wr => l = .slice none 0 0 ∧ i = .int .i64 0 ∧ wr = w) (fun _ _ _ => 0)
    case atStart => exact ⟨rfl, rfl, rfl⟩
    case round =>
      obtain ⟨rfl, rfl, rfl⟩ := hrel
      go_wp2
      go_ret
      exact ⟨_, rfl, World.ownsRow_nil _ _ _ _, Keeps.refl _ _, fun _ => rfl⟩
  rcases h with ⟨_, h⟩ | ⟨sb, so, cap, rfl, hcap, hsc, hlt⟩
  · exact absurd h h0
  have HSC := hide hsc
  clear hsc
  generalize hn : ops.length = n at *
  have HN := hide hn
  clear hn
  go_enter Try.func15, Try.ntmps15
  go_wp2_with fail
  go_loopw [5, 6] (fun l i wr => ∃ (k m c : Nat) (ad : Option Addr), k ≤ n ∧ i = .int .i64 k ∧ l = .slice ad m c ∧ Hid (OwnS wr w.heap.size l ((ops.take k).filter OpM.noLoad)) ∧ Hid (Keeps (fun _ => False) w wr) ∧ Hid ((ops.take k).filter OpM.noLoad = [] → l = .slice none 0 0)) (fun _ i _ => n - (intOf i).toNat)
  case atStart => exact ⟨0, 0, 0, none, by omega, rfl, rfl, World.ownsRow_nil _ _ _ _, Keeps.refl _ _, fun _ => rfl⟩
  case round =>
    obtain ⟨k, m, c, ad, hk, rfl, rfl, HO, HK, HE⟩ := hrel
    by_cases hkn : k < n
    · obtain ⟨o, ho⟩ : ∃ o, ops[k]? = some o := ⟨ops[k]'(by rw [unhide HN]; exact hkn), List.getElem?_eq_getElem _⟩
      have hrange := (unhide HSC).keeps (unhide HK) k o ho
      have hsb := bigCells_of_range hrange
      have hv0 : bigVal wr sb (so + k * 26) 26 = .agg o.cells.toArray := by
        unfold bigVal
        have := hsb.1
        rw [show o.cells.length = 26 from rfl] at this
        rw [this]
      have hh0 : hasBig wr sb (so + k * 26) 26 = true := hsb.2
      have hkind : wr.cell? ⟨sb, so + k * 26, none⟩ = some (.int .i64 o.kind) := hrange 0 _ rfl
      have htk : ops.take (k + 1) = ops.take k ++ [o] := by rw [List.take_add_one, ho]; rfl
      have hk0 : (0 : Int) ≤ (k : Int) := by omega
      have hkn' : (k : Int) < (n : Int) := by omega
      have hl0 : ((ops.take k).filter OpM.noLoad).length ≤ k := by
        have h1 := List.length_filter_le OpM.noLoad (ops.take k)
        rw [List.length_take] at h1
        omega
      have HFL := hide (show (ops.take (k + 1)).filter OpM.noLoad = (ops.take k).filter OpM.noLoad ++ [o].filter OpM.noLoad by rw [htk, List.filter_append])
      clear hrange hsb htk ho
      by_cases h7 : o.kind = 7
      · have hne : (o.kind != 7) = false := by simp [h7]
        have HF1 := hide (show [o].filter OpM.noLoad = [] by simp [OpM.noLoad, hne])
        rw [h7] at hkind
        clear h7 hne hv0 hh0
        go_wp2_with fail
        go_roundw
        case rel => exact ⟨k + 1, m, c, ad, by omega, by go_num, rfl, by show OwnS _ _ _ _; rw [unhide HFL, unhide HF1, List.append_nil]; exact unhide HO, HK, by show _ → _; rw [unhide HFL, unhide HF1, List.append_nil]; exact unhide HE⟩
        case measure => simp [intOf]; omega
      · have hne : (o.kind != 7) = true := by simp [h7]
        have HF1 := hide (show [o].filter OpM.noLoad = [o] by simp [OpM.noLoad, hne])
        have hm : m = ((ops.take k).filter OpM.noLoad).length := by
          obtain ⟨_, _, e⟩ := row_form (unhide HO)
          injection e
        generalize (ops.take k).filter OpM.noLoad = A at *
        go_wp2_with (at_builtin; refine wpList_append_ops rfl _ _ rfl w.heap.size (.slice ad m c) A rfl (by exact owns_keeps (unhide HO) ((Keeps.refl (fun _ => False) wr).alloc _) (fun _ _ h => h)) _ [o] rfl (by exact blk_script (Blk.new wr o.cells 40)) (by simp; omega) (by have := (unhide HK).size; simp; omega) ?_; intro ad2 c2 w2 hown2 hk2 hat2)
        go_roundw
        case rel =>
          refine ⟨k + 1, A.length + 1, c2, ad2, by omega, by go_num, rfl, ?_, ?_, ?_⟩
          · show OwnS _ _ _ _; rw [unhide HFL, unhide HF1]; exact hown2
          · refine (((unhide HK).alloc _).trans hk2 (fun i hi hlt => ?_))
            have := ((unhide HO).lt i hi).1
            omega
          · show _ → _; rw [unhide HFL, unhide HF1]; intro h; simp at h
        case measure => simp [intOf]; omega
    · have hkk : k = n := by omega
      subst hkk
      go_wp2
      go_ret
      have h1 := unhide HO
      have h2 := unhide HE
      rw [List.take_of_length_le (by rw [unhide HN]; omega)] at h1 h2
      exact ⟨_, rfl, h1, unhide HK, h2⟩

end Go.Proofs.Yteecnidnlkjehaa
