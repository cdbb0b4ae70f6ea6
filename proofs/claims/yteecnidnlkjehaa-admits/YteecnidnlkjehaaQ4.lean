import Derived.Test.YteecnidnlkjehaaQ3
import Derived.Deep.AppendLies
import Derived.Deep.RegionLaw
import Derived.Laws.EntriesVeiled
namespace Go.Proofs.Yteecnidnlkjehaa
open Go.RowKit

theorem hide {p : Prop} (h : p) : Hid p := h
theorem unhide {p : Prop} (h : Hid p) : p := h

/-- A queue at block q, its row at og, holds these items. -/
def QRep (w : World) (q : Nat) (og : Option Nat) (l : List It) : Prop :=
  match og with
  | none => l = [] ∧ Blk w q [aheadV, .slice none 0 0] 128
  | some g => q ≠ g ∧ ∃ cap, Blk w q [aheadV, .slice (some ⟨g, 0, none⟩) l.length cap] 128 ∧ IRow w g cap l

theorem QRep.lt {w : World} {q : Nat} {og : Option Nat} {l : List It} (h : QRep w q og l) : q < w.heap.size ∧ ∀ g, og = some g → g < w.heap.size ∧ q ≠ g := by
  cases og with
  | none => exact ⟨h.2.lt, fun _ h => by cases h⟩
  | some g => obtain ⟨hne, cap, hb, hr⟩ := h; exact ⟨hb.lt, fun g' h => by cases h; exact ⟨hr.lt, hne⟩⟩
theorem QRep.keeps {M : Nat → Prop} {w w' : World} {q : Nat} {og : Option Nat} {l : List It} (h : QRep w q og l) (k : Keeps M w w') (hq : ¬ M q) (hg : ∀ g, og = some g → ¬ M g) : QRep w' q og l := by
  cases og with
  | none => exact ⟨h.1, h.2.keeps k hq⟩
  | some g => obtain ⟨hne, cap, hb, hr⟩ := h; exact ⟨hne, cap, hb.keeps k hq, hr.keeps k (hg g rfl)⟩

set_option maxHeartbeats 400000 in
theorem len_any (q : Nat) (og : Option Nat) (l : List It) (w : World) (h : QRep w q og l) :
    Calls Try.prog 64 #[.pointer (some ⟨q, 0, none⟩)] w fun e w' => e = .returned (.int .i64 l.length) ∧ w' = w := by
  cases og with
  | none =>
    obtain ⟨hl, hb⟩ := h
    have hq1 : w.cell? ⟨q, 1, none⟩ = some (.slice none 0 0) := hb.cell rfl
    subst hl
    clear hb
    go_enter Try.func64, Try.ntmps64
    go_wp2
    go_ret
    exact ⟨rfl, rfl⟩
  | some g =>
    obtain ⟨hne, cap, hb, hr⟩ := h
    have hq1 : w.cell? ⟨q, 1, none⟩ = some (.slice (some ⟨g, 0, none⟩) l.length cap) := hb.cell rfl
    clear hb hr
    go_enter Try.func64, Try.ntmps64
    go_wp2
    go_ret
    exact ⟨rfl, rfl⟩

set_option maxHeartbeats 400000 in
theorem first_any (q : Nat) (og : Option Nat) (l : List It) (w : World) (h : QRep w q og l) :
    Calls Try.prog 66 #[.pointer (some ⟨q, 0, none⟩)] w fun e w' => e = .returned (.tuple #[(itAt l 0).val, .bool (!l.isEmpty)]) ∧ Keeps (fun _ => False) w w' := by
  have hlt := h.lt
  cases og with
  | none =>
    obtain ⟨hl, hb⟩ := h
    have hq1 : w.cell? ⟨q, 1, none⟩ = some (.slice none 0 0) := hb.cell rfl
    subst hl
    have hlq := hb.lt
    clear hb hlt
    go_enter Try.func66, Try.ntmps66
    go_wp2
    exact bodyPost_ret (v := .tuple #[.agg #[.int .i64 0, .int .i64 0, .int .i64 0, .int .i64 0], .bool false]) (by simp [results, Try.results66, go_sem]) rfl ⟨rfl, by repeat (first | exact Keeps.refl _ _ | apply Keeps.drew | apply Keeps.alloc)⟩
  | some g =>
    obtain ⟨hne, cap, hb, hr⟩ := h
    have hq1 : w.cell? ⟨q, 1, none⟩ = some (.slice (some ⟨g, 0, none⟩) l.length cap) := hb.cell rfl
    have hlq := hb.lt
    have hlg := hr.lt
    cases l with
    | nil =>
      clear hb hr hlt
      go_enter Try.func66, Try.ntmps66
      go_wp2
      exact bodyPost_ret (v := .tuple #[.agg #[.int .i64 0, .int .i64 0, .int .i64 0, .int .i64 0], .bool false]) (by simp [results, Try.results66, go_sem]) rfl ⟨rfl, by repeat (first | exact Keeps.refl _ _ | apply Keeps.drew | apply Keeps.alloc)⟩
    | cons x r =>
      obtain ⟨x0, x1, x2, x3⟩ := hr.cells 0 (by simp)
      have hx : itAt (x :: r) 0 = x := rfl
      rw [hx] at x0 x1 x2 x3 ⊢
      simp only [Nat.zero_mul, Nat.zero_add] at x0 x1 x2 x3
      have hn : ((x :: r).length : Int) = (r.length : Int) + 1 := by simp
      have hn0 : (((x :: r).length : Int) == 0) = false := by simp; omega
      have hn1 : (0 : Int) < ((x :: r).length : Int) := by simp
      generalize (x :: r).length = n at *
      clear hb hr hlt hn hx
      go_enter Try.func66, Try.ntmps66
      go_wp2
      exact bodyPost_ret (v := .tuple #[.agg #[.int .i64 x.t, .int .i64 x.k, .int .i64 x.d, .int .i64 x.n], .bool true]) (by simp [results, Try.results66, go_sem]) rfl ⟨rfl, by repeat (first | exact Keeps.refl _ _ | apply Keeps.drew | apply Keeps.alloc)⟩

end Go.Proofs.Yteecnidnlkjehaa
