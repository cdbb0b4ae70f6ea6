import Derived.Test.YtjhaihbjhikhlaaGreatE9
namespace Go.Proofs.YtjhaihbjhikhlaaGreat
open Go.RowKit

/-- A series has come. -/
theorem create_rep {wa w2 w3 : World} {O : Obj} {e : Nat} {v nv : Value} {clock : Int} {ps : List (SB × Ser)} {b2 : SB} {x : Ser} {gg m cap' : Nat} (hE : ERep wa e v clock ps) (hm : ps.length = m) (hnv : nv = .slice (some ⟨gg, 0, none⟩) (m + 1) cap')
    (hs2 : SRep w2 b2 x) (hft : ∀ i, b2.foot x.k i → wa.heap.size ≤ i) (hk2 : Keeps (fun _ => False) wa w2) (hown : w3.ownsRow 0 55 1 nv (m + 1) (ptrs ps ++ [.pointer (some ⟨b2.s, 0, none⟩)])) (hgrow : (w2.alloc O).grownBy w3 v.ownBlock)
    (hat : v.ownBlock = some gg ∨ gg = w2.heap.size + 1) :
    ERep (w3.setCell ⟨e, 1, none⟩ nv) e nv clock (ps ++ [(b2, x)]) ∧ Keeps (EFoot e v ps) wa (w3.setCell ⟨e, 1, none⟩ nv) ∧ (∀ i, EFoot e nv (ps ++ [(b2, x)]) i → EFoot e v ps i ∨ wa.heap.size ≤ i) := by
  have hsz := hk2.size
  have hnb : nv.ownBlock = some gg := by rw [hnv]; rfl
  have hk3 : Keeps (fun i => v.ownBlock = some i) wa w3 := ((hk2.mono (M' := fun i => v.ownBlock = some i) (fun _ _ h => h.elim)).alloc O).grown hgrow (fun k hk => Or.inl hk)
  have hk4 : Keeps (fun i => i = e) w3 (w3.setCell ⟨e, 1, none⟩ nv) := (Keeps.refl (fun i => i = e) w3).setCell (p := ⟨e, 1, none⟩) (Or.inl rfl) _
  have hele := hE.blk.lt
  have hge : gg ≠ e := by
    rcases hat with h | h
    · intro he; exact hE.ev (by rw [h, he])
    · omega
  have hrowlt : ∀ i, v.ownBlock = some i → i < wa.heap.size := fun i hi => hE.lt i (.inr (.inl hi))
  have hsnew : SRep w3 b2 x := (hs2.still ((Keeps.refl (fun _ => False) w2).alloc O)).keeps (M := fun i => v.ownBlock = some i) ⟨hgrow.os, hgrow.tape, hgrow.output, hgrow.size, fun k hk hn => hgrow.block k hk (fun h => hn h.symm)⟩ (fun i hi h => by have h1 := hft i hi; have h2 := hrowlt i h; omega)
  refine ⟨⟨?_, ?_, ?_, ?_, ?_, ?_⟩, ?_, ?_⟩
  · exact (hE.blk.keeps hk3 (fun h => hE.ev h)).setCell 1 nv
  · have := owns_keeps hown hk4 (fun i hi h => by rw [hnb] at hi; injection hi with hi; omega)
    rw [ptrs_append, List.length_append, hm]
    exact this
  · intro p hp
    rcases List.mem_append.1 hp with hp | hp
    · exact ((hE.reps p hp).keeps hk3 (fun i hi h => (hE.ef p hp i hi).2 h)).keeps hk4 (fun i hi h => (hE.ef p hp i hi).1 h)
    · rw [List.mem_singleton] at hp; subst hp
      exact hsnew.keeps hk4 (fun i hi h => by have := hft i hi; omega)
  · refine List.pairwise_append.2 ⟨hE.apart, List.pairwise_singleton _ _, ?_⟩
    intro p hp q hq i hi hqi
    rw [List.mem_singleton] at hq; subst hq
    have h1 := (hE.reps p hp).lt i hi
    have h2 := hft i hqi
    omega
  · rw [hnb]; intro h; injection h with h; exact hge h
  · intro p hp i hi
    rw [hnb]
    rcases List.mem_append.1 hp with hp | hp
    · refine ⟨(hE.ef p hp i hi).1, fun h => ?_⟩
      injection h with h
      have h1 := (hE.reps p hp).lt i hi
      rcases hat with h2 | h2
      · exact (hE.ef p hp i hi).2 (by rw [h2, h])
      · omega
    · rw [List.mem_singleton] at hp; subst hp
      have h1 := hft i hi
      have h2 := hs2.lt i hi
      refine ⟨by omega, fun h => ?_⟩
      injection h with h
      rcases hat with h3 | h3
      · have := hrowlt gg h3; omega
      · omega
  · exact (hk3.mono (M' := EFoot e v ps) (fun i _ h => .inr (.inl h))).trans hk4 (fun i hi _ => .inl hi)
  · intro i hi
    rcases hi with hi | hi | ⟨p, hp, hi⟩
    · exact .inl (.inl hi)
    · rw [hnb] at hi; injection hi with hi
      rcases hat with h | h
      · exact .inl (.inr (.inl (by rw [h, hi])))
      · exact .inr (by omega)
    · rcases List.mem_append.1 hp with hp | hp
      · exact .inl (.inr (.inr ⟨p, hp, hi⟩))
      · rw [List.mem_singleton] at hp; subst hp
        exact .inr (hft i hi)

end Go.Proofs.YtjhaihbjhikhlaaGreat
