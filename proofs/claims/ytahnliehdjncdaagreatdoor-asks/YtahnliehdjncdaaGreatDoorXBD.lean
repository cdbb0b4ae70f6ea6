import Derived.Deep.LoopGhost
import Derived.Test.YtahnliehdjncdaaGreatDoorXAA
import Derived.Test.YtahnliehdjncdaaGreatDoorXBC
import Derived.Test.YtahnliehdjncdaaGreatDoorXAX
import Derived.Test.YtahnliehdjncdaaGreatDoorXAY
import Derived.Test.YtahnliehdjncdaaGreatDoorXAZ
set_option maxRecDepth 100000
set_option maxHeartbeats 16000000
namespace Go.Proofs.YtahnliehdjncdaaGreatDoor.Qi
open Go.RowKit
theorem qLen_is (q : Nat) (og : Option Nat) (l : List It) (n : Int) (w : World) (h : QRep w q og l) (hn : (l.length : Int) = n) :
  Calls Tryz.prog 91 #[.pointer (some ⟨q, 0, none⟩)] w fun e w' => e = .returned (.int .i64 n) ∧ w' = w :=
 (len_any q og l w h).mono fun _ _ ⟨he, hw⟩ => ⟨by rw [he, hn], hw⟩
theorem take_is (q g : Nat) (l : List It) (x : It) (w : World) (h : QRep w q (some g) l) (hl : l.length ≤ 900) (hl0 : 0 < l.length) (hx : itAt l 0 = x) :
  Calls Tryz.prog 94 #[.pointer (some ⟨q, 0, none⟩)] w fun e w' => e = .returned (.tuple #[.agg #[.int .i64 x.t, .int .i64 x.k, .int .i64 x.d, .int .i64 x.n], .bool true]) ∧ QRep w' q (some g) (takeL l) ∧ Keeps (fun k => k = q ∨ k = g) w w' :=
 (takeV_any q g l w h hl hl0).mono fun _ _ ⟨he, hw⟩ => ⟨by rw [he, hx]; rfl, hw⟩
theorem all_some (q g : Nat) (l : List It) (w : World) (h : QRep w q (some g) l) (hl : l.length ≤ 900) :
  Calls Tryz.prog 97 #[.pointer (some ⟨q, 0, none⟩)] w fun e w' => ∃ g cp, e = .returned (.slice (some ⟨g, 0, none⟩) l.length cp) ∧ w.heap.size ≤ g ∧ IRow w' g cp (allL (l.length + 1) l) ∧ (allL (l.length + 1) l).length = l.length ∧ Keeps (fun _ => False) w w' := by
 obtain ⟨n, hn⟩ : ∃ n, n = l.length := ⟨_, rfl⟩
 obtain ⟨i0, hi0, hz0, hz1, hz2⟩ := info_parts info72
 have HN := hide hn
 have HQ := hide h
 rw [← hn] at hl ⊢
 obtain ⟨hne, cap, hb, hr⟩ := h
 have hq0 : w.cell? ⟨q, 0, none⟩ = some (.func (.func 90) #[] #[]) := hb.cell rfl
 have hq1 : w.cell? ⟨q, 1, none⟩ = some (.slice (some ⟨g, 0, none⟩) n cap) := by rw [hn]; exact hb.cell rfl
 have HCL := hide (show ∀ W, Keeps (fun _ => False) w W → Calls Tryz.prog 144 #[.slice (some ⟨g, 0, none⟩) n cap] W fun e w' => ∃ g1 c1, e = .returned (.slice (some ⟨g1, 0, none⟩) n c1) ∧ W.heap.size ≤ g1 ∧ IRow w' g1 c1 l ∧ Keeps (fun _ => False) W w' from fun W hW => by
    rw [hn]; exact clone_any g cap l W (hr.keeps hW (fun h => h)) (by omega))
 clear hb hr hn
 go_enter Tryz.func97, Tryz.ntmps97
 go_wp2_with fail
 go_region_held3 (fun w' => w'.cell? ⟨q, 0, none⟩ = some (.func (.func 90) #[] #[]) ∧ w'.cell? ⟨q, 1, none⟩ = some (.slice (some ⟨g, 0, none⟩) n cap))
  (first | (go_split_ands; exact ⟨by assumption, by assumption⟩) | (go_split_ands; exact ⟨((Keeps.refl (fun _ => False) _).alloc _).cell (by assumption) (fun h => h), ((Keeps.refl (fun _ => False) _).alloc _).cell (by assumption) (fun h => h)⟩) | (go_split_ands; exact ⟨hka.cell (by assumption) (fun h => h), hka.cell (by assumption) (fun h => h)⟩))
  (first | (go_at_call 144; refine (uh HCL _ (by exact (Keeps.refl _ _).drew)).mono ?_; rintro e W1 ⟨g1, c1, rfl, hg1, hrow, hka⟩))
 have HK1 := hide (((Keeps.refl (fun _ => False) w).drew).then hka)
 have HG1 := hide (show w.heap.size ≤ g1 from hg1)
 have HZ1 := hide (uh HK1).size
 have HGL := hide hrow.lt
 have HROW := hide hrow
 clear hrow hka HCL hg1
 obtain ⟨W2, hW2⟩ : ∃ W2, W2 = W1.alloc (.cells #[.func (.func 90) #[] #[], .slice (some ⟨g1, 0, none⟩) n c1] 163) := ⟨_, rfl⟩
 have HB2 := hide (show Blk W2 W1.heap.size [aheadV, .slice (some ⟨g1, 0, none⟩) n c1] 163 by rw [hW2]; exact Blk.new W1 _ _)
 have HA2 := hide (show Keeps (fun _ => False) W1 W2 by rw [hW2]; exact (Keeps.refl (fun _ => False) W1).alloc _)
 have HW2 := hide hW2
 clear hW2
 have HQR := hide (show QRep W2 W1.heap.size (some g1) l from ⟨by have := uh HGL; omega, c1, by rw [← uh HN]; exact uh HB2, (uh HROW).keeps (uh HA2) (fun h => h)⟩)
 have HK2 := hide ((uh HK1).then (uh HA2))
 obtain ⟨wm, hmk, hown, hgr⟩ := run_make_own (P := Tryz.prog) W2 w.heap.size 139 87 i0 _ 4 Tryz.underlying139 hi0 hz0 hz1 .i64 .i64 n (by rw [hz2]; omega) (by unfold maxLen; omega) (uh HK2).size
 have HKM := hide (show Keeps (fun _ => False) W2 wm from (Keeps.refl (fun _ => False) W2).grown hgr (fun k hk => by cases hk))
 have HOM := hide (show Own wm w.heap.size (.slice (some ⟨W2.heap.size, 0, none⟩) 0 n) [] from hown)
 clear hown hgr
 go_wp2_with fail
 rw [show W1.alloc (.cells #[.func (.func 90) #[] #[], .slice (some ⟨g1, 0, none⟩) n c1] 163) = W2 from (uh HW2).symm]
 refine (qLen_is q (some g) l n W2 ((uh HQ).keeps (uh HK2) (fun h => h) (fun _ _ h => h)) (by rw [uh HN])).mono ?_
 rintro e w' ⟨rfl, hw'⟩
 rw [hw']
 clear hw' w'
 have HRB := hide (show W1.heap.size < W2.heap.size from (uh HB2).lt)
 have HGB := hide (show g1 < W2.heap.size from ((uh HQR).lt.2 g1 rfl).1)
 have HRG := hide (show W1.heap.size ≠ g1 from ((uh HQR).lt.2 g1 rfl).2)
 have HRBW := hide (show w.heap.size ≤ W1.heap.size from uh HZ1)
 generalize hrb : W1.heap.size = rb at *
 generalize hga : W2.heap.size = ga0 at *
 go_wp2_with fail
 go_loopg [4] (n) (fun gk v wr => ∃ (m dn : List It) (ga cp : Nat), v = .slice (some ⟨ga, 0, none⟩) dn.length cp ∧ Hid (m.length = gk) ∧ Hid (dn.length + gk = n) ∧ Hid (ga ≠ rb ∧ ga ≠ g1) ∧ Hid (Own wr w.heap.size (.slice (some ⟨ga, 0, none⟩) dn.length cp) dn) ∧ Hid (QRep wr rb (some g1) m) ∧ Hid (Keeps (fun _ => False) w wr) ∧ Hid (allL (n + 1) l = dn ++ allL (gk + 1) m))
 case atStart => exact ⟨l, [], ga0, n, rfl, (uh HN).symm, by show _ = _; simp, ⟨by have := uh HRB; omega, by have := uh HGB; omega⟩, HOM, (uh HQR).keeps (uh HKM) (fun h => h) (fun _ _ h => h), (uh HK2).then (uh HKM), rfl⟩
 case round =>
  obtain ⟨m, dn, ga, cp, rfl, HM, HDN, HGA, HO, HQr, HKr, HE⟩ := hrel
  obtain ⟨k, hk⟩ : ∃ k, dn.length = k := ⟨_, rfl⟩
  rw [hk]
  have HKE := hide hk
  clear hk
  by_cases h0 : gk = 0
  ·go_wp2_with (go_at_call 91; refine (qLen_is rb (some g1) m 0 _ (uh HQr) (by have := uh HM; omega)).mono ?_; rintro e w' ⟨rfl, hw'⟩; rw [hw']; clear hw' w')
   go_ret
   have hkn : k = n := by have := uh HDN; have := uh HKE; omega
   subst hkn
   have ho := Own.row rfl (uh HO)
   have hall : allL (k + 1) l = dn := by
    rw [uh HE, h0]
    unfold allL
    rw [if_pos (by have := uh HM; omega), List.append_nil]
   refine ⟨ga, cp, rfl, ho.2, ?_, ?_, uh HKr⟩
   ·rw [hall]; exact ho.1
   ·rw [hall]; exact uh HKE
  ·have hgt : (0 : Int) < (gk : Int) := by omega
   have hgN : 0 < gk := by omega
   obtain ⟨x, hx⟩ : ∃ x, itAt m 0 = x := ⟨_, rfl⟩
   have HTK := hide (take_is rb g1 m x wr (uh HQr) (by have := uh HM; have := uh HDN; omega) (by have := uh HM; omega) hx)
   have HX := hide hx
   clear hx
   go_wp2_with (first | (go_at_call 91; refine (qLen_is rb (some g1) m gk _ (uh HQr) (by have := uh HM; omega)).mono ?_; rintro e w' ⟨rfl, hw'⟩; rw [hw']; clear hw' w') | (go_at_call 94; refine (uh HTK).mono ?_; rintro e W3 ⟨rfl, hq3, hk3⟩; have HQ3 := hide hq3; have HK3 := hide hk3; clear hq3 hk3; have HO3 := hide (show Own W3 w.heap.size (.slice (some ⟨ga, 0, none⟩) k cp) dn by rw [← uh HKE]; exact (uh HO).keeps (uh HK3) (fun i hi h => by
             have hi' : ga = i := by simpa [Value.ownBlock] using hi
             rcases h with h | h
             ·exact (uh HGA).1 (by omega)
             ·exact (uh HGA).2 (by omega)))) | (at_builtin; refine wpList_append_tks rfl _ _ rfl w.heap.size _ dn k (uh HKE) rfl (by exact (uh HO3).keeps (((Keeps.refl (fun _ => False) W3).alloc _).alloc _) (fun _ _ h => h)) (W3.heap.size + 1) 1 1 [x] rfl rfl (by exact fun j u hu => (Blk.newAt (by simp) (flat [x]) 87).cell hu) (by omega) (by have := uh HDN; have := uh HKE; omega) (by have h1 := (uh HKr).size; have h2 := (uh HK3).size; simp; omega) ?_; intro g2 c2 W4 hown4 hk4 hat4))
   have HBND := hide (show W3.heap.size ≤ W4.heap.size ∧ wr.heap.size ≤ W3.heap.size ∧ w.heap.size ≤ wr.heap.size from ⟨by have := hk4.size; simp at this; omega, (uh HK3).size, (uh HKr).size⟩)
   have hq3 := uh HQ3
   have hlt3 := hq3.lt
   have HK4 := hide (((Keeps.refl (fun i => i = ga) W3).alloc (.cells #[.int .i64 x.t, .int .i64 x.k, .int .i64 x.d, .int .i64 x.n] 87)).alloc (.cells #[.int .i64 x.t, .int .i64 x.k, .int .i64 x.d, .int .i64 x.n] 87) |>.trans hk4 (fun i hi hlt => by
         have hi' : (Value.slice (some ⟨ga, 0, none⟩) k cp).ownBlock = some i := hi
         have : ga = i := by simpa [Value.ownBlock] using hi'
         exact this.symm))
   have HO4 := hide hown4
   have HAT := hide (show g2 = ga ∨ W3.heap.size ≤ g2 from by
      rcases hat4 with h | h
      ·have h' : (Value.slice (some ⟨ga, 0, none⟩) k cp).ownBlock = some g2 := h
       exact .inl (by have : ga = g2 := (by simpa [Value.ownBlock] using h'); exact this.symm)
      ·exact .inr (by simp at h; omega))
   clear hown4 hk4 hat4
   have HGN := hide (show w.heap.size ≤ ga from (uh HO).base ga (by simp [Value.ownBlock]))
   go_wp2
   go_roundg (gk - 1)
   case measure => omega
   case rel =>
    have hgl := (hlt3.2 g1 rfl).1
    have hgr := hlt3.1
    have hGA := uh HGA
    refine ⟨takeL m, dn ++ [x], g2, c2, ?_, ?_, ?_, ?_, ?_, ?_, ?_, ?_⟩
    ·rw [List.length_append, uh HKE]; rfl
    ·show _ = _; rw [takeL_length]; have := uh HM; omega
    ·show _ = _; rw [List.length_append]; have := uh HDN; simp; omega
    ·show _ ∧ _
     rcases uh HAT with h | h
     ·rw [h]; exact hGA
     ·exact ⟨by omega, by omega⟩
    ·show Own _ _ _ _
     rw [List.length_append, uh HKE]; exact uh HO4
    ·exact hq3.keeps (uh HK4) (fun h => hGA.1 h.symm) (fun g hg h => by injection hg with hg; exact hGA.2 (by rw [hg]; exact h.symm))
    ·have hK3 : Keeps (fun _ => False) w W3 := (uh HKr).trans (uh HK3) (fun i hi hlt => by
        rcases hi with hi | hi
        ·have := uh HRBW; omega
        ·have := uh HG1; omega)
     exact hK3.trans (uh HK4) (fun i hi hlt => by have := uh HGN; omega)
    ·show _ = _
     rw [uh HE]
     conv => lhs; unfold allL
     rw [if_neg (by have := uh HM; omega), uh HX, show gk - 1 + 1 = gk by omega]
     simp
end Go.Proofs.YtahnliehdjncdaaGreatDoor.Qi
namespace Go.Proofs.YtahnliehdjncdaaGreatDoor.Qi
open Go.RowKit
theorem all_none (q : Nat) (w : World) (h : QRep w q none []) :
  Calls Tryz.prog 97 #[.pointer (some ⟨q, 0, none⟩)] w fun e w' => ∃ g cp, e = .returned (.slice (some ⟨g, 0, none⟩) 0 cp) ∧ w.heap.size ≤ g ∧ IRow w' g cp [] ∧ Keeps (fun _ => False) w w' := by
 obtain ⟨i0, hi0, hz0, hz1, hz2⟩ := info_parts info72
 have HQ := hide h
 have hb := h.2
 have hq0 : w.cell? ⟨q, 0, none⟩ = some (.func (.func 90) #[] #[]) := hb.cell rfl
 have hq1 : w.cell? ⟨q, 1, none⟩ = some (.slice none 0 0) := hb.cell rfl
 clear hb h
 go_enter Tryz.func97, Tryz.ntmps97
 go_wp2_with fail
 go_region_held3 (fun w' => w'.cell? ⟨q, 0, none⟩ = some (.func (.func 90) #[] #[]) ∧ w'.cell? ⟨q, 1, none⟩ = some (.slice none 0 0))
  (first | (go_split_ands; exact ⟨by assumption, by assumption⟩) | (go_split_ands; exact ⟨((Keeps.refl (fun _ => False) _).alloc _).cell (by assumption) (fun h => h), ((Keeps.refl (fun _ => False) _).alloc _).cell (by assumption) (fun h => h)⟩))
  (first | (go_at_call 144; refine (cloneNil_any _).mono ?_; rintro e w' ⟨rfl, rfl⟩))
 obtain ⟨W2, hW2⟩ : ∃ W2, W2 = (w.alloc (.cells #[.func (.func 90) #[] #[], .slice none 0 0] 163)).drew := ⟨_, rfl⟩
 have HB2 := hide (show Blk W2 w.heap.size [aheadV, .slice none 0 0] 163 by rw [hW2]; exact (Blk.new w _ _).drew)
 have HK2 := hide (show Keeps (fun _ => False) w W2 by rw [hW2]; exact ((Keeps.refl (fun _ => False) w).alloc _).drew)
 have HW2 := hide hW2
 clear hW2
 have HQR := hide (show QRep W2 w.heap.size none [] from ⟨rfl, uh HB2⟩)
 obtain ⟨wm, hmk, hown, hgr⟩ := run_make_own (P := Tryz.prog) W2 w.heap.size 139 87 i0 _ 4 Tryz.underlying139 hi0 hz0 hz1 .i64 .i64 0 (by rw [hz2]; omega) (by unfold maxLen; omega) (uh HK2).size
 have HKM := hide (show Keeps (fun _ => False) W2 wm from (Keeps.refl (fun _ => False) W2).grown hgr (fun k hk => by cases hk))
 have HOM := hide (show Own wm w.heap.size (.slice (some ⟨W2.heap.size, 0, none⟩) 0 0) [] from hown)
 have hmk2 : (Instr.makeSlice 139 (.int .i64 0) (.int .i64 0)).run Tryz.prog W2 = .ok (.slice (some ⟨W2.heap.size, 0, none⟩) 0 0) wm := hmk
 clear hown hgr hmk
 go_wp2_with fail
 rw [show (w.alloc (.cells #[.func (.func 90) #[] #[], .slice none 0 0] 163)).drew = W2 from (uh HW2).symm]
 refine (qLen_is q none [] 0 W2 ((uh HQ).keeps (uh HK2) (fun h => h) (fun _ h => by cases h)) rfl).mono ?_
 rintro e w' ⟨rfl, hw'⟩
 rw [hw']
 clear hw' w'
 generalize hrb : w.heap.size = rb at *
 go_wp2_with fail
 go_loopg [4] (0) (fun gk v wr => v = .slice (some ⟨W2.heap.size, 0, none⟩) 0 0 ∧ wr = wm)
 case atStart => exact ⟨rfl, rfl⟩
 case round =>
  obtain ⟨rfl, hwr⟩ := hrel
  rw [hwr]
  clear hwr wr
  go_wp2_with (go_at_call 91; refine (qLen_is rb none [] 0 _ ((uh HQR).keeps (uh HKM) (fun h => h) (fun _ h => by cases h)) rfl).mono ?_; rintro e w' ⟨rfl, hw'⟩; rw [hw']; clear hw' w')
  go_ret
  have ho := Own.row rfl (uh HOM)
  exact ⟨W2.heap.size, 0, rfl, by rw [hrb]; exact ho.2, ho.1, (uh HK2).then (uh HKM)⟩
end Go.Proofs.YtahnliehdjncdaaGreatDoor.Qi
namespace Go.Proofs.YtahnliehdjncdaaGreatDoor
open Go.RowKit
attribute [local go_sem ↓] execOp_load38 execOp_load40
attribute [local go_sem] run_load38 run_load40 bigVal_drew hasBig_drew bigVal_ne hasBig_ne bigVal_alloc hasBig_alloc bigVal_new hasBig_newB
def itemN (k : Nat) (y : It) : List Int := y.n :: (askedL k).map (fun j => [y.t, y.k, y.d].getD j 0)
def bufN (k : Nat) (l : List It) : List Int := l.flatMap (itemN k)
def serHead (x : Ser) : List Int := x.id :: (cfgNums x.k x.c ++ (toldL.map (refAt x.ref) ++ [x.rel, (x.l.length : Int)]))
def serNums (clock : Int) (x : Ser) : List Int := serHead x ++ (bufN x.k (Qi.allL (x.l.length + 1) x.l) ++ savN x.k x.c x.nt (clock - x.c.lag))
theorem askedL_le (k : Nat) : (askedL k).length ≤ 3 := by unfold askedL; split <;> simp
theorem itemN_length (k : Nat) (y : It) : (itemN k y).length ≤ 4 := by have := askedL_le k; simp [itemN]; omega
theorem bufN_length (k : Nat) (l : List It) : (bufN k l).length ≤ 4 * l.length := by
 induction l with
 | nil => simp [bufN]
 | cons y l ih => have := itemN_length k y; simp [bufN] at ih ⊢; omega
theorem bufN_append (k : Nat) (a b : List It) : bufN k (a ++ b) = bufN k a ++ bufN k b := by simp [bufN]
theorem bufN_take (k : Nat) (r : List It) (i : Nat) (h : i < r.length) : bufN k (r.take (i + 1)) = bufN k (r.take i) ++ itemN k (itAt r i) := by
 rw [List.take_add_one, bufN_append, List.getElem?_eq_getElem h]
 simp [bufN, itAt, List.getD_eq_getElem?_getD, List.getElem?_eq_getElem h]
theorem parts_item {w : World} {cb k : Nat} {y : It} {T : Nat} (h : Blk w cb [.int .i64 y.t, .int .i64 y.k, .int .i64 y.d, .int .i64 y.n] T) : PartsAt w (at' cb (askedL k)) ((askedL k).map (fun j => [y.t, y.k, y.d].getD j 0)) := by
 refine ⟨by simp [at'], fun i p n hp hn => ?_⟩
 have hall : ∀ j, j ∈ askedL k → w.cell? ⟨cb, j, none⟩ = some (.int .i64 ([y.t, y.k, y.d].getD j 0)) := by
  intro j hj
  have : j = 0 ∨ j = 1 ∨ j = 2 := by unfold askedL at hj; split at hj <;> simp at hj <;> omega
  rcases this with e | e | e <;> subst e <;> exact h.cell rfl
 unfold at' at hp
 rw [List.getElem?_map] at hp hn
 cases ho : (askedL k)[i]? with
 | none => rw [ho] at hp; cases hp
 | some o =>
  rw [ho] at hp hn
  simp only [Option.map_some, Option.some.injEq] at hp hn
  subst hp hn
  exact hall o (List.mem_of_getElem? ho)
theorem qall_any (q : Nat) (og : Option Nat) (l : List It) (w : World) (h : QRep w q og l) (hl : l.length ≤ 900) :
  Calls Tryz.prog 97 #[.pointer (some ⟨q, 0, none⟩)] w fun e w' => ∃ g cp, e = .returned (.slice (some ⟨g, 0, none⟩) l.length cp) ∧ w.heap.size ≤ g ∧ IRow w' g cp (Qi.allL (l.length + 1) l) ∧ (Qi.allL (l.length + 1) l).length = l.length ∧ Keeps (fun _ => False) w w' := by
 cases og with
 | none =>
  obtain ⟨rfl, hb⟩ := h
  refine (Qi.all_none q w ⟨rfl, hb⟩).mono ?_
  rintro e w' ⟨g, cp, rfl, hg, hr, hk⟩
  exact ⟨g, cp, rfl, hg, hr, rfl, hk⟩
 | some g => exact Qi.all_some q g l w h hl
structure SerOk (x : Ser) : Prop where
 id0 : 0 ≤ x.id ∧ x.id ≤ 9223372036854775807
 cfg : ∀ n, n ∈ cfgNums x.k x.c → 0 ≤ n ∧ n ≤ 9223372036854775807
 p0 : 0 ≤ pairsN x.k x.c
 p3 : pairsN x.k x.c ≤ 3
 refl : x.ref.length = 12
 ref : ∀ v, v ∈ x.ref → 0 ≤ v ∧ v ≤ 9223372036854775807
 rel : 0 ≤ x.rel ∧ x.rel ≤ 9223372036854775807
 len : x.l.length ≤ 8
 buf : ∀ n, n ∈ bufN x.k (Qi.allL (x.l.length + 1) x.l) → 0 ≤ n ∧ n ≤ 9223372036854775807
 note : SavOk x.k x.c x.nt
 valid : validB x.c = true
 kind : x.c.kind = x.k
 k1 : 1 ≤ x.k
 k5 : x.k ≤ 5
theorem refAt_bd {l : List Int} (h : ∀ v, v ∈ l → 0 ≤ v ∧ v ≤ 9223372036854775807) (j : Nat) : 0 ≤ refAt l j ∧ refAt l j ≤ 9223372036854775807 := by
 unfold refAt
 rw [List.getD_eq_getElem?_getD]
 cases hj : l[j]? with
 | none => simp
 | some v => exact h v (List.mem_of_getElem? hj)
theorem told_take (f : Nat → Int) (k j : Nat) (h : toldL[k]? = some j) : (toldL.map f).take (k + 1) = (toldL.map f).take k ++ [f j] := by
 rw [List.take_add_one, List.getElem?_map, h]
 rfl
attribute [local go_sem] ix0 ix1 ix2 ix3 ix4 ix5 ix6
end Go.Proofs.YtahnliehdjncdaaGreatDoor
namespace Go.Proofs.YtahnliehdjncdaaGreatDoor
open Go.RowKit
attribute [local go_sem ↓] execOp_load38 execOp_load40
attribute [local go_sem] run_load38 run_load40 bigVal_drew hasBig_drew bigVal_ne hasBig_ne bigVal_alloc hasBig_alloc bigVal_new hasBig_newB ix0 ix1 ix2 ix3 ix4 ix5 ix6
theorem cfgNums_length (k : Nat) (c : Cfg) (p3 : pairsN k c ≤ 3) : (cfgNums k c).length ≤ 14 := by
 have h1 : (namedL k).length ≤ 4 := by unfold namedL; split <;> simp
 have h2 : (seedsL (pairsN k c).toNat).length ≤ 6 := by simp [seedsL]; omega
 simp [cfgNums]; omega
theorem serSave_any (sb : SB) (x : Ser) (clock : Int) (b : Nat) (v : Value) (bs : List Nat) (w : World) (hs : SRep w sb x) (hi : SerOk x) (hw : WRep w b v bs) (hf : ∀ i, WFoot b v i → ¬ sb.foot x.k i) (c0 : 0 ≤ clock) (c1 : clock ≤ 4611686018427387904) (hbl : bs.length + 10 * x.nt.bs.length ≤ 140737479000000) :
  Calls Tryz.prog 72 #[.pointer (some ⟨sb.s, 0, none⟩), .pointer (some ⟨b, 0, none⟩), .int .i64 clock] w fun e w' => e = .returned (.tuple #[]) ∧ Wrote w b v (bs ++ encL (serNums clock x)) w' := by
 have HS := hide (show ∀ w', Keeps (WFoot b v) w w' → SRep w' sb x from fun w' hk => hs.keeps hk (fun i hi' hm => hf i hm hi'))
 have HF := hide hf
 have HI := hide hi
 have HLS := hide (show ∀ i, sb.foot x.k i → i < w.heap.size from hs.lt)
 have HW := hide (Wrote.refl hw)
 have d0 : w.cell? ⟨sb.s, 0, none⟩ = some (.int .i64 x.id) := hs.blk.cell rfl
 obtain ⟨i0, i1⟩ := hi.id0
 clear hs hi hw hf
 go_enter Tryz.func72, Tryz.ntmps72
 go_wp2_with fail
 refine (number_w b v bs x.id w w (uh HW) i0 i1 (by omega)).mono ?_
 rintro e w1 ⟨rfl, hw1⟩
 have HO1 := hide hw1
 clear hw1 d0
 obtain ⟨hv1, hh1⟩ := bigVal_Blk_part (uh HS w1 (uh HO1).kp).blk 1 20 x.c.cells rfl rfl
 go_wp2_with fail
 have HCL := hide (cfgNums_length x.k x.c (uh HI).p3)
 obtain ⟨v1, a1, a2, a3⟩ := uh HO1
 refine (saveConfig_any b v1 (bs ++ enc x.id) x.c x.k w1 a1 (uh HI).kind (uh HI).k1 (uh HI).k5 (uh HI).p0 (uh HI).p3 (uh HI).cfg (by have := enc_length x.id; rw [List.length_append]; omega)).mono ?_
 rintro e w2 ⟨rfl, hw2⟩
 have HO2 := hide (Wrote.then a2 a3 hw2)
 clear hw2 a1 a2 a3 v1 hv1 hh1 HO1
 go_wp2_with fail
 refine (told_any w2).mono ?_
 rintro e w3 ⟨rfl, hk3⟩
 have HO3 := hide ((uh HO2).still hk3)
 clear hk3 HO2
 have hl1 : (bs ++ enc x.id ++ encL (cfgNums x.k x.c)).length + 10 * x.nt.bs.length ≤ 140737479000150 := by
  have h1 := enc_length x.id
  have h2 := encL_length (cfgNums x.k x.c)
  have h3 := uh HCL
  rw [List.length_append, List.length_append]; omega
 obtain ⟨b1, hb1⟩ : ∃ b1, bs ++ enc x.id ++ encL (cfgNums x.k x.c) = b1 := ⟨_, rfl⟩
 rw [hb1] at HO3 hl1
 have HB1 := hide hb1
 clear hb1
 go_wp2_with fail
 go_loopw [23] (fun i wr => ∃ k : Nat, k ≤ 7 ∧ i = .int .i64 k ∧ Hid (Wrote w b v (b1 ++ encL ((toldL.map (refAt x.ref)).take k)) wr)) (fun i _ => 7 - (intOf i).toNat)
 case atStart => exact ⟨0, by omega, rfl, by show Wrote _ _ _ _ _; rw [List.take_zero, encL_nil, List.append_nil]; exact uh HO3⟩
 case round =>
  obtain ⟨k, hk, rfl, HOr⟩ := hrel
  by_cases hlt7 : k < 7
  ·have hk7 : k = 0 ∨ k = 1 ∨ k = 2 ∨ k = 3 ∨ k = 4 ∨ k = 5 ∨ k = 6 := by omega
   rcases hk7 with hk7 | hk7 | hk7 | hk7 | hk7 | hk7 | hk7
   all_goals subst hk7
   ·have hc : wr.cell? ⟨sb.s, 40, none⟩ = some (.int .i64 (refAt x.ref 5)) := (uh HS wr (uh HOr).kp).blk.cell (ser_ref sb x (uh HI).refl 5 (by omega))
    obtain ⟨n0, n1⟩ := refAt_bd (uh HI).ref 5
    have HTK := hide (told_take (refAt x.ref) 0 5 rfl)
    go_wp2_with fail
    refine (number_w b v _ (refAt x.ref 5) w wr (uh HOr) n0 n1 (by have h1 := encL_length ((toldL.map (refAt x.ref)).take 0); have h2 : ((toldL.map (refAt x.ref)).take 0).length ≤ 7 := (by rw [List.length_take]; omega); rw [List.length_append]; omega)).mono ?_
    rintro e w4 ⟨rfl, hw4⟩
    have HO4 := hide hw4
    clear hw4 hc
    go_wp2
    go_roundw
    case rel =>
     refine ⟨1, by omega, rfl, ?_⟩
     show Wrote _ _ _ _ _
     have := uh HO4
     rw [uh HTK, encL_append, encL_one, ← List.append_assoc]
     exact this
    case measure => simp [intOf]
   ·have hc : wr.cell? ⟨sb.s, 41, none⟩ = some (.int .i64 (refAt x.ref 6)) := (uh HS wr (uh HOr).kp).blk.cell (ser_ref sb x (uh HI).refl 6 (by omega))
    obtain ⟨n0, n1⟩ := refAt_bd (uh HI).ref 6
    have HTK := hide (told_take (refAt x.ref) 1 6 rfl)
    go_wp2_with fail
    refine (number_w b v _ (refAt x.ref 6) w wr (uh HOr) n0 n1 (by have h1 := encL_length ((toldL.map (refAt x.ref)).take 1); have h2 : ((toldL.map (refAt x.ref)).take 1).length ≤ 7 := (by rw [List.length_take]; omega); rw [List.length_append]; omega)).mono ?_
    rintro e w4 ⟨rfl, hw4⟩
    have HO4 := hide hw4
    clear hw4 hc
    go_wp2
    go_roundw
    case rel =>
     refine ⟨2, by omega, rfl, ?_⟩
     show Wrote _ _ _ _ _
     have := uh HO4
     rw [uh HTK, encL_append, encL_one, ← List.append_assoc]
     exact this
    case measure => simp [intOf]
   ·have hc : wr.cell? ⟨sb.s, 42, none⟩ = some (.int .i64 (refAt x.ref 7)) := (uh HS wr (uh HOr).kp).blk.cell (ser_ref sb x (uh HI).refl 7 (by omega))
    obtain ⟨n0, n1⟩ := refAt_bd (uh HI).ref 7
    have HTK := hide (told_take (refAt x.ref) 2 7 rfl)
    go_wp2_with fail
    refine (number_w b v _ (refAt x.ref 7) w wr (uh HOr) n0 n1 (by have h1 := encL_length ((toldL.map (refAt x.ref)).take 2); have h2 : ((toldL.map (refAt x.ref)).take 2).length ≤ 7 := (by rw [List.length_take]; omega); rw [List.length_append]; omega)).mono ?_
    rintro e w4 ⟨rfl, hw4⟩
    have HO4 := hide hw4
    clear hw4 hc
    go_wp2
    go_roundw
    case rel =>
     refine ⟨3, by omega, rfl, ?_⟩
     show Wrote _ _ _ _ _
     have := uh HO4
     rw [uh HTK, encL_append, encL_one, ← List.append_assoc]
     exact this
    case measure => simp [intOf]
   ·have hc : wr.cell? ⟨sb.s, 43, none⟩ = some (.int .i64 (refAt x.ref 8)) := (uh HS wr (uh HOr).kp).blk.cell (ser_ref sb x (uh HI).refl 8 (by omega))
    obtain ⟨n0, n1⟩ := refAt_bd (uh HI).ref 8
    have HTK := hide (told_take (refAt x.ref) 3 8 rfl)
    go_wp2_with fail
    refine (number_w b v _ (refAt x.ref 8) w wr (uh HOr) n0 n1 (by have h1 := encL_length ((toldL.map (refAt x.ref)).take 3); have h2 : ((toldL.map (refAt x.ref)).take 3).length ≤ 7 := (by rw [List.length_take]; omega); rw [List.length_append]; omega)).mono ?_
    rintro e w4 ⟨rfl, hw4⟩
    have HO4 := hide hw4
    clear hw4 hc
    go_wp2
    go_roundw
    case rel =>
     refine ⟨4, by omega, rfl, ?_⟩
     show Wrote _ _ _ _ _
     have := uh HO4
     rw [uh HTK, encL_append, encL_one, ← List.append_assoc]
     exact this
    case measure => simp [intOf]
   ·have hc : wr.cell? ⟨sb.s, 45, none⟩ = some (.int .i64 (refAt x.ref 10)) := (uh HS wr (uh HOr).kp).blk.cell (ser_ref sb x (uh HI).refl 10 (by omega))
    obtain ⟨n0, n1⟩ := refAt_bd (uh HI).ref 10
    have HTK := hide (told_take (refAt x.ref) 4 10 rfl)
    go_wp2_with fail
    refine (number_w b v _ (refAt x.ref 10) w wr (uh HOr) n0 n1 (by have h1 := encL_length ((toldL.map (refAt x.ref)).take 4); have h2 : ((toldL.map (refAt x.ref)).take 4).length ≤ 7 := (by rw [List.length_take]; omega); rw [List.length_append]; omega)).mono ?_
    rintro e w4 ⟨rfl, hw4⟩
    have HO4 := hide hw4
    clear hw4 hc
    go_wp2
    go_roundw
    case rel =>
     refine ⟨5, by omega, rfl, ?_⟩
     show Wrote _ _ _ _ _
     have := uh HO4
     rw [uh HTK, encL_append, encL_one, ← List.append_assoc]
     exact this
    case measure => simp [intOf]
   ·have hc : wr.cell? ⟨sb.s, 44, none⟩ = some (.int .i64 (refAt x.ref 9)) := (uh HS wr (uh HOr).kp).blk.cell (ser_ref sb x (uh HI).refl 9 (by omega))
    obtain ⟨n0, n1⟩ := refAt_bd (uh HI).ref 9
    have HTK := hide (told_take (refAt x.ref) 5 9 rfl)
    go_wp2_with fail
    refine (number_w b v _ (refAt x.ref 9) w wr (uh HOr) n0 n1 (by have h1 := encL_length ((toldL.map (refAt x.ref)).take 5); have h2 : ((toldL.map (refAt x.ref)).take 5).length ≤ 7 := (by rw [List.length_take]; omega); rw [List.length_append]; omega)).mono ?_
    rintro e w4 ⟨rfl, hw4⟩
    have HO4 := hide hw4
    clear hw4 hc
    go_wp2
    go_roundw
    case rel =>
     refine ⟨6, by omega, rfl, ?_⟩
     show Wrote _ _ _ _ _
     have := uh HO4
     rw [uh HTK, encL_append, encL_one, ← List.append_assoc]
     exact this
    case measure => simp [intOf]
   ·have hc : wr.cell? ⟨sb.s, 46, none⟩ = some (.int .i64 (refAt x.ref 11)) := (uh HS wr (uh HOr).kp).blk.cell (ser_ref sb x (uh HI).refl 11 (by omega))
    obtain ⟨n0, n1⟩ := refAt_bd (uh HI).ref 11
    have HTK := hide (told_take (refAt x.ref) 6 11 rfl)
    go_wp2_with fail
    refine (number_w b v _ (refAt x.ref 11) w wr (uh HOr) n0 n1 (by have h1 := encL_length ((toldL.map (refAt x.ref)).take 6); have h2 : ((toldL.map (refAt x.ref)).take 6).length ≤ 7 := (by rw [List.length_take]; omega); rw [List.length_append]; omega)).mono ?_
    rintro e w4 ⟨rfl, hw4⟩
    have HO4 := hide hw4
    clear hw4 hc
    go_wp2
    go_roundw
    case rel =>
     refine ⟨7, by omega, rfl, ?_⟩
     show Wrote _ _ _ _ _
     have := uh HO4
     rw [uh HTK, encL_append, encL_one, ← List.append_assoc]
     exact this
    case measure => simp [intOf]
  ·have hk7 : k = 7 := by omega
   subst hk7
   have htk : (toldL.map (refAt x.ref)).take 7 = toldL.map (refAt x.ref) := rfl
   rw [htk] at HOr
   have hl2 : (b1 ++ encL (toldL.map (refAt x.ref))).length + 10 * x.nt.bs.length ≤ 140737479000250 := by
    have h2 := encL_length (toldL.map (refAt x.ref))
    have h3 : (toldL.map (refAt x.ref)).length = 7 := rfl
    rw [List.length_append]; omega
   obtain ⟨b2, hb2⟩ : ∃ b2, b1 ++ encL (toldL.map (refAt x.ref)) = b2 := ⟨_, rfl⟩
   rw [hb2] at HOr hl2
   have HB2 := hide hb2
   clear hb2 htk
   have d34 : wr.cell? ⟨sb.s, 34, none⟩ = some (.int .i64 x.rel) := (uh HS wr (uh HOr).kp).blk.cell rfl
   obtain ⟨r0, r1⟩ := (uh HI).rel
   go_wp2_with fail
   refine (number_w b v b2 x.rel w wr (uh HOr) r0 r1 (by omega)).mono ?_
   rintro e w4 ⟨rfl, hw4⟩
   have HO4 := hide hw4
   clear hw4 d34 HOr
   have HS4 := hide (uh HS w4 (uh HO4).kp)
   have d32 : w4.cell? ⟨sb.s, 32, none⟩ = some (.pointer (some ⟨sb.q, 0, none⟩)) := (uh HS4).blk.cell rfl
   have HLen := hide (len_any sb.q sb.g x.l w4 (uh HS4).que)
   have hl8 := (uh HI).len
   have HQA := hide (show ∀ w', Keeps (WFoot b v) w w' → _ from fun w' hk' => qall_any sb.q sb.g x.l w' (uh HS w' hk').que (by omega))
   have HBN := hide (uh HI).buf
   have HNUM := hide (show serNums clock x = (x.id :: (cfgNums x.k x.c ++ (toldL.map (refAt x.ref) ++ [x.rel, (x.l.length : Int)]))) ++ (bufN x.k (Qi.allL (x.l.length + 1) x.l) ++ savN x.k x.c x.nt (clock - x.c.lag)) from rfl)
   generalize Qi.allL (x.l.length + 1) x.l = R at *
   generalize x.l.length = n at *
   go_wp2_with fail
   refine (uh HLen).mono ?_
   rintro e w5 ⟨rfl, hw5⟩
   rw [hw5]
   clear hw5 w5 HLen
   go_wp2_with fail
   refine (number_w b v _ n w w4 (uh HO4) (by omega) (by omega) (by have := enc_length x.rel; rw [List.length_append]; omega)).mono ?_
   rintro e w5 ⟨rfl, hw5⟩
   have HO5 := hide hw5
   clear hw5 d32 HS4 HO4
   have d32 : w5.cell? ⟨sb.s, 32, none⟩ = some (.pointer (some ⟨sb.q, 0, none⟩)) := (uh HS w5 (uh HO5).kp).blk.cell rfl
   go_wp2_with fail
   obtain ⟨v6, q1, q2, q3⟩ := uh HO5
   have HNF := hide (show ∀ i, sb.foot x.k i → ¬ WFoot b v6 i from fun i hi => wfoot_not (fun h => uh HF i h hi) q2 (uh HLS i hi))
   have HQ2 := hide q2
   have HQ3 := hide q3
   have HLT := hide q1.lt
   refine (uh HQA w5 (uh HO5).kp).mono ?_
   rintro e w6 ⟨g, cp, rfl, hg, hr6, hlen, hk6⟩
   have HS6 := hide (show ∀ w', Keeps (WFoot b v6) w6 w' → SRep w' sb x from fun w' hk' => ((uh HS w5 (uh HO5).kp).still hk6).keeps hk' (uh HNF))
   have HG := hide (show ¬ WFoot b v6 g from fun h => by have := uh HLT g h; omega)
   have HR6 := hide hr6
   have HLN := hide hlen
   have HW6 := hide (Wrote.refl (q1.still hk6))
   have HK6 := hide hk6
   have hl3 : (b2 ++ enc x.rel ++ enc (n : Int)).length + 10 * x.nt.bs.length ≤ 140737479000300 := by
    have h1 := enc_length x.rel
    have h2 := enc_length (n : Int)
    rw [List.length_append, List.length_append]; omega
   obtain ⟨b3, hb3⟩ : ∃ b3, b2 ++ enc x.rel ++ enc (n : Int) = b3 := ⟨_, rfl⟩
   rw [hb3] at HW6 hl3
   have HB3 := hide hb3
   clear hb3 hk6 hr6 hlen q1 q2 q3 hg HO5 HQA d32 HLT
   go_wp2_with fail
   go_loopw [54] (fun i wr => ∃ k : Nat, i = .int .i64 k ∧ k ≤ n ∧ Hid (Wrote w6 b v6 (b3 ++ encL (bufN x.k (R.take k))) wr)) (fun i _ => n - (intOf i).toNat)
   case atStart => exact ⟨0, rfl, Nat.zero_le _, by show Wrote _ _ _ _ _; simp only [List.take_zero, bufN, List.flatMap_nil, encL_nil, List.append_nil]; exact uh HW6⟩
   case round =>
    obtain ⟨k, rfl, hk2, HOr⟩ := hrel
    have hk0 : (0 : Int) ≤ (k : Int) := by omega
    have HSr := hide (uh HS6 wr (uh HOr).kp)
    have hlb : (b3 ++ encL (bufN x.k (R.take k))).length + 10 * x.nt.bs.length ≤ 140737479000620 := by
     have h1 := encL_length (bufN x.k (R.take k))
     have h2 := bufN_length x.k (R.take k)
     rw [List.length_take, uh HLN] at h2
     rw [List.length_append]; omega
    by_cases hlk : k < n
    ·obtain ⟨v', hwr, hvr, hkr⟩ := uh HOr
     have hkn : k < R.length := by rw [uh HLN]; exact hlk
     obtain ⟨x0, x1, x2, x3⟩ := ((uh HR6).keeps hkr (uh HG)).cells k hkn
     have HTK := hide (bufN_take x.k R k hkn)
     have HNX := hide (show ∀ n, n ∈ itemN x.k (itAt R k) → 0 ≤ n ∧ n ≤ 9223372036854775807 from fun n hn => uh HBN n (by
          have e : bufN x.k (R.take (k + 1) ++ R.drop (k + 1)) = bufN x.k R := by rw [List.take_append_drop]
          rw [← e, bufN_append, bufN_take x.k R k hkn]
          simp only [List.mem_append]
          exact .inl (.inr hn)))
     have HLT2 := hide hwr.lt
     have HWr := hide hwr
     have HVr := hide hvr
     have HKr := hide hkr
     have hkE : (k : Int) < (n : Int) := by omega
     generalize itAt R k = y at *
     clear hwr hvr hkr
     obtain ⟨wa, hwa⟩ : ∃ wa, wa = wr.alloc (.cells #[.int .i64 y.t, .int .i64 y.k, .int .i64 y.d, .int .i64 y.n] 87) := ⟨_, rfl⟩
     have HBa := hide (show Blk wa wr.heap.size [.int .i64 y.t, .int .i64 y.k, .int .i64 y.d, .int .i64 y.n] 87 by rw [hwa]; exact Blk.new wr _ _)
     have HKa := hide (show Keeps (fun _ => False) wr wa by rw [hwa]; exact (Keeps.refl _ _).alloc _)
     have HWa := hide ((uh HWr).still (uh HKa))
     have HNF1 := hide (show ¬ WFoot b v' wr.heap.size from fun hf => by have := uh HLT2 _ hf; omega)
     obtain ⟨n0, n1⟩ := uh HNX y.n (by simp [itemN])
     have hc3 : wa.cell? ⟨wr.heap.size, 3, none⟩ = some (.int .i64 y.n) := (uh HBa).cell rfl
     have HEQ := hide hwa.symm
     have HSa := hide (show ∀ w', Keeps (WFoot b v') wa w' → w'.cell? ⟨sb.s, 25, none⟩ = some (.func (.func (askedF x.k)) #[] #[]) from fun w' hk' => hk'.cell (((uh HSr).still (uh HKa)).blk.cell rfl) (wfoot_not (uh HNF sb.s (.inl rfl)) (uh HVr) (Nat.lt_of_lt_of_le (uh HLS sb.s (.inl rfl)) (Nat.le_trans (uh HQ3).size (uh HK6).size))))
     clear hwa
     go_wp2_with fail
     rw [uh HEQ]
     refine (number_any b v' _ y.n wa (uh HWa) n0 n1 (by omega)).mono ?_
     rintro e w2' ⟨rfl, v2, hw2, hv2, hk2'⟩
     have hlt2 : wr.heap.size < wa.heap.size := (uh HBa).lt
     have HB2' := hide ((uh HBa).keeps hk2' (uh HNF1))
     have HNF2 := hide (wfoot_not (uh HNF1) hv2 hlt2)
     have HW2' := hide hw2
     have HV2 := hide hv2
     have HK2 := hide hk2'
     have HL2 := hide hw2.lt
     have d25 : w2'.cell? ⟨sb.s, 25, none⟩ = some (.func (.func (askedF x.k)) #[] #[]) := uh HSa w2' hk2'
     have hown := own_asked x.k (uh HI).k1 (uh HI).k5
     clear hw2 hv2 hk2' hc3 HBa
     go_wp2_with fail
     refine (asked_any x.k wr.heap.size w2' (uh HI).k1 (uh HI).k5).mono ?_
     rintro e w3' ⟨pv, rfl, hown3, hk3⟩
     obtain ⟨pa, pcap, hpv, _⟩ := row_form hown3
     subst hpv
     have HW3 := hide ((uh HW2').still hk3)
     have HB3' := hide ((uh HB2').keeps hk3 (fun h => h))
     have HO3' := hide hown3
     have HK3 := hide hk3
     have HAL := hide (show ((askedL x.k).map (fun j => [y.t, y.k, y.d].getD j 0)).length ≤ 3 by rw [List.length_map]; exact askedL_le x.k)
     clear hown3 hk3 hown d25
     go_wp2_with fail
     refine (write_parts b v2 _ _ w2'.heap.size wr.heap.size (askedL x.k) ((askedL x.k).map (fun j => [y.t, y.k, y.d].getD j 0)) w3' (uh HW3) (uh HO3') (parts_item (uh HB3')) (uh HNF2) (fun i hi h => by have := uh HL2 i h; omega) (fun n hn => uh HNX n (by unfold itemN; exact List.mem_cons_of_mem _ hn)) (by have := enc_length y.n; have := uh HAL; rw [List.length_append]; omega) (by have := uh HAL; omega)).mono ?_
     rintro e w4' ⟨rfl, hw4⟩
     have HF4 := hide (show Wrote w6 b v6 (b3 ++ encL (bufN x.k (R.take (k + 1)))) w4' by
        have hA := Wrote.then (uh HVr) (uh HKr) (Wrote.pre (uh HKa) (Wrote.then (uh HV2) (uh HK2) (Wrote.pre (uh HK3) hw4)))
        rw [uh HTK, encL_append]
        have e : encL (itemN x.k y) = enc y.n ++ encL ((askedL x.k).map (fun j => [y.t, y.k, y.d].getD j 0)) := encL_cons _ _
        rw [e]
        simp only [List.append_assoc] at hA ⊢
        exact hA)
     clear hw4
     go_wp2
     go_roundw
     case rel => exact ⟨k + 1, by go_num, by omega, HF4⟩
     case measure => simp [intOf]; omega
    ·have hkE : k = n := by omega
     subst hkE
     have htk : R.take k = R := List.take_of_length_le (by rw [uh HLN]; omega)
     rw [htk] at HOr hlb
     have hcm : 0 ≤ x.c.lag ∧ x.c.lag ≤ 100 := by
      have := (uh HI).valid
      simp only [validB, commonB, inB, Bool.and_eq_true, decide_eq_true_eq] at this
      omega
     obtain ⟨l0, l1⟩ := hcm
     have d30 : wr.cell? ⟨sb.s, 30, none⟩ = some (.func (.func (savF x.k)) (capsN sb.n.d) #[]) := (uh HSr).blk.cell rfl
     have d2 : wr.cell? ⟨sb.s, 2, none⟩ = some (.int .i64 x.c.lag) := (uh HSr).blk.cell rfl
     have hown := own_sav x.k (uh HI).k1 (uh HI).k5
     obtain ⟨v7, p1, p2, p3⟩ := uh HOr
     have HP1 := hide p1
     have HP2 := hide p2
     have HP3 := hide p3
     have HNF7 := hide (show ∀ i, sb.foot x.k i → ¬ WFoot b v7 i from fun i hi => wfoot_not (uh HNF i hi) p2 (Nat.lt_of_lt_of_le (uh HLS i hi) (Nat.le_trans (uh HQ3).size (uh HK6).size)))
     clear p1 p2 p3 HOr
     go_wp2_with fail
     go_region_held3 (fun w' => w'.cell? ⟨sb.s, 30, none⟩ = some (.func (.func (savF x.k)) (capsN sb.n.d) #[]) ∧ w'.cell? ⟨sb.s, 2, none⟩ = some (.int .i64 x.c.lag))
      (first | (simp [*]; done) | (go_split_ands; exact ⟨hw1.kp.cell (by assumption) (uh HNF7 sb.s (.inl rfl)), hw1.kp.cell (by assumption) (uh HNF7 sb.s (.inl rfl))⟩))
      (first | (go_at_call 67; refine (wm_any sb.s x.c.lag clock _ (by go_keep) l0 l1 c0 c1).mono ?_; rintro e w' ⟨rfl, rfl⟩) | (refine (sav_any x.k sb.n x.c x.nt b v7 _ (clock - x.c.lag) _ _ (by first | rfl | simp) (by exact (uh HSr).note.still (Keeps.refl _ _).drew) (by exact (uh HP1).still (Keeps.refl _ _).drew) (fun i h hn => uh HNF7 i (.inr (.inr (.inr hn))) h) (uh HI).note (uh HI).valid (uh HI).kind (uh HI).k1 (uh HI).k5 (by omega) (by omega) (by omega)).mono ?_; rintro e w1 ⟨rfl, hw1⟩))
     go_wp2
     go_end0
     refine ⟨rfl, ?_⟩
     have h9 := Wrote.then (uh HQ2) (uh HQ3) (Wrote.pre (uh HK6) (Wrote.then (uh HP2) (uh HP3) (Wrote.pre ((Keeps.refl (fun _ => False) wr).drew) hw1)))
     rw [uh HNUM]
     rw [← uh HB3, ← uh HB2, ← uh HB1] at h9
     rw [encL_append, encL_append, encL_cons, encL_append, encL_append, encL_cons, encL_one]
     simp only [List.append_assoc] at h9 ⊢
     exact h9
end Go.Proofs.YtahnliehdjncdaaGreatDoor
namespace Go.Proofs.YtahnliehdjncdaaGreatDoor
open Go.RowKit
theorem Qi.allL_length : ∀ (f : Nat) (l : List It), (Qi.allL f l).length ≤ l.length
 | 0, _ => Nat.zero_le _
 | f + 1, l => by
  unfold Qi.allL
  split
  ·simp
  ·have := Qi.allL_length f (takeL l)
   rw [Qi.takeL_length] at this
   rw [List.length_cons]; omega
theorem Dr.allL_length : ∀ (f : Nat) (l : List Dr.It), (Dr.allL f l).length ≤ l.length
 | 0, _ => Nat.zero_le _
 | f + 1, l => by
  unfold Dr.allL
  split
  ·simp
  ·have := Dr.allL_length f (Dr.takeL l)
   rw [Dr.takeL_length] at this
   rw [List.length_cons]; omega
theorem savB_length (l : List Bk) (f s : Nat) (h : s ≤ l.length) : (savB l f s).length ≤ f + (l.length - s) := by
 induction f generalizing s with
 | zero => simp [savB]
 | succ f ih =>
  have he := endZ_le l (2 ^ f) s h
  have := ih (endZ l (2 ^ f) s) he.2
  rw [savB_succ, List.length_cons, List.length_append, List.length_map, List.length_take, List.length_drop]
  omega
theorem sizesC_le {l : List Bk} (hsz : ∀ x ∈ l, 1 ≤ x.sz ∧ x.sz < 4611686018427387904) : sizesC l ≤ 62 := by
 unfold sizesC
 split
 ·omega
 ·rename_i h0
  have hb := hsz (bkAt l 0) (bkAt_mem (by omega))
  have hs := bitLen_spec (bkAt l 0).sz.toNat
  have h2 := hs.2 (by omega)
  rcases Nat.lt_or_ge (bitLen (bkAt l 0).sz.toNat - 1) 62 with h3 | h3
  ·omega
  ·have := Nat.pow_le_pow_right (show 1 ≤ 2 by omega) h3
   have e : (2 : Nat) ^ 62 = 4611686018427387904 := by decide
   omega
theorem savN_length {k : Nat} {c : Cfg} {nt : Note} (h : SavOk k c nt) (hv : validB c = true) (hk : c.kind = k) (m : Int) : (savN k c nt m).length ≤ nt.bs.length + 50000 := by
 unfold savN
 split
 ·simp
 ·split
  ·have h1 := savB_length nt.bs (sizesC nt.bs) 0 (Nat.zero_le _)
   have h2 := sizesC_le h.bz
   unfold savC
   rw [List.length_cons]; omega
  ·split
   ·rename_i h2
    obtain ⟨_, a2, a3, _⟩ := valid_distinct hv hk h2
    have h1 := savD_length nt.rg (regN c) (m - c.window) h.rl
    have h3 : regN c ≤ 2 ^ 4 := Nat.pow_le_pow_right (n := 2) (by omega) (show c.bits.toNat ≤ 4 by omega)
    omega
   ·split
    ·rename_i h3
     obtain ⟨_, hrw, _⟩ := valid_often hv hk h3
     obtain ⟨o1, _⟩ := h.oc h3
     have h1 := panesN_length c (panesO c nt.op nt.cl (m - c.window)) (by have := hrw.r1; omega) (by have := hrw.w1; omega)
     have h2 : (panesO c nt.op nt.cl (m - c.window)).length ≤ 1001 := by
      unfold panesO
      rw [List.length_append, List.length_drop]
      split <;> simp <;> omega
     unfold savO
     rw [List.length_cons]; omega
    ·split
     ·rename_i h5
      have h1 := h.tl h5
      have h2 := Dr.allL_length (nt.tk.length + 1) nt.tk
      rw [savT_length]; omega
     ·simp
theorem serNums_length {x : Ser} (h : SerOk x) (clock : Int) : (serNums clock x).length ≤ x.nt.bs.length + 51000 := by
 have h1 := savN_length h.note h.valid h.kind (clock - x.c.lag)
 have h2 := bufN_length x.k (Qi.allL (x.l.length + 1) x.l)
 have h3 := Qi.allL_length (x.l.length + 1) x.l
 have h4 := h.len
 have h5 := cfgNums_length x.k x.c h.p3
 unfold serNums serHead
 rw [List.length_append, List.length_append, List.length_cons, List.length_append, List.length_append, List.length_map]
 have h6 : toldL.length = 7 := rfl
 simp only [List.length_cons, List.length_nil]
 omega
def sersN (clock : Int) (xs : List Ser) : List Int := xs.flatMap (serNums clock)
def wholeNums (clock : Int) (xs : List Ser) : List Int := clock :: (xs.length : Int) :: sersN clock xs
def bodyB (clock : Int) (xs : List Ser) : List Nat := formB ++ encL (wholeNums clock xs)
def savedL (clock : Int) (xs : List Ser) : List Nat := bodyB clock xs ++ enc (sumH (bodyB clock xs))
def savedB (clock : Int) (xs : List Ser) : ByteArray := strB (savedL clock xs)
theorem sersN_append (clock : Int) (a b : List Ser) : sersN clock (a ++ b) = sersN clock a ++ sersN clock b := by simp [sersN]
theorem sersN_length (clock : Int) (xs : List Ser) (h : ∀ x, x ∈ xs → SerOk x) : (sersN clock xs).length ≤ 1000000051000 * xs.length := by
 induction xs with
 | nil => simp [sersN]
 | cons x l ih =>
  have h1 := serNums_length (h x (by simp)) clock
  have h2 := (h x (by simp)).note.bn
  have h3 := ih (fun y hy => h y (by simp [hy]))
  have e : sersN clock (x :: l) = serNums clock x ++ sersN clock l := by simp [sersN]
  rw [e, List.length_append, List.length_cons]; omega
theorem ERep.keepsM {M : Nat → Prop} {w w' : World} {e : Nat} {v : Value} {clock : Int} {ps : List (SB × Ser)} (h : ERep w e v clock ps) (hk : Keeps M w w') (hn : ∀ i, EFoot e v ps i → ¬ M i) : ERep w' e v clock ps :=
 ⟨h.blk.keeps hk (hn e (.inl rfl)), ownsM h.row hk (fun i hi => hn i (.inr (.inl hi))), fun p hp => (h.reps p hp).keeps hk (fun i hi => hn i (.inr (.inr ⟨p, hp, hi⟩))), h.apart, h.ev, h.ef⟩
theorem saved_any (e : Nat) (v : Value) (clock : Int) (ps : List (SB × Ser)) (w : World) (h : ERep w e v clock ps) (hok : ∀ x, x ∈ ps.map (·.2) → SerOk x) (six : ps.length ≤ 6) (c0 : 0 ≤ clock) (c1 : clock ≤ 4611686018427387904) :
  Calls Tryz.prog 47 #[.pointer (some ⟨e, 0, none⟩)] w fun r w' => r = .returned (.string (savedB clock (ps.map (·.2)))) ∧ Keeps (fun _ => False) w w' := by
 have HE := hide h
 have HOK := hide hok
 have HLT := hide (show ∀ i, EFoot e v ps i → i < w.heap.size from h.lt)
 obtain ⟨va, vcap, hv, hva⟩ := row_form h.row
 have HV := hide hv
 have HVA := hide hva
 have HNEW := hide (newWriter_any w)
 clear h hok hv hva
 obtain ⟨n, hn⟩ : ∃ n, ps.length = n := ⟨_, rfl⟩
 have HN := hide hn
 rw [hn] at six
 clear hn
 go_enter Tryz.func47, Tryz.ntmps47
 go_wp2_with fail
 refine (uh HNEW).mono ?_
 rintro r w1 ⟨b, u, rfl, hw1, hb1, hk1⟩
 have HNF := hide (show ∀ i, EFoot e v ps i → ¬ WFoot b u i from fun i hi h => by have h1 := uh HLT i hi; have h2 := hb1 i h; omega)
 have HE1 := hide (show ∀ w', Keeps (WFoot b u) w1 w' → ERep w' e v clock ps from fun w' hk' => ((uh HE).still hk1).keepsM hk' (uh HNF))
 have HW1 := hide (Wrote.refl hw1)
 have HK1 := hide hk1
 have HB1 := hide hb1
 have hc0 : w1.cell? ⟨e, 0, none⟩ = some (.int .i64 clock) := (uh HE1 w1 (Keeps.refl _ _)).blk.cell rfl
 clear hw1 hb1 hk1 HNEW
 go_wp2_with fail
 refine (number_w b u formB clock w1 w1 (uh HW1) c0 (by omega) (by decide)).mono ?_
 rintro r w2 ⟨rfl, hw2⟩
 have HO2 := hide hw2
 clear hw2 hc0 HW1
 have hc1 : w2.cell? ⟨e, 1, none⟩ = some (.slice va n vcap) := by
  have := (uh HE1 w2 (uh HO2).kp).blk.cell (i := 1) rfl
  rw [this, uh HV, uh HN]
 have hf8 : formB.length = 8 := rfl
 go_wp2_with fail
 refine (number_w b u _ n w1 w2 (uh HO2) (by omega) (by omega) (by have := enc_length clock; rw [List.length_append]; omega)).mono ?_
 rintro r w3 ⟨rfl, hw3⟩
 have HO3 := hide hw3
 clear hw3 hc1 HO2
 have hc1 : w3.cell? ⟨e, 1, none⟩ = some (.slice va n vcap) := by
  have := (uh HE1 w3 (uh HO3).kp).blk.cell (i := 1) rfl
  rw [this, uh HV, uh HN]
 have hl3 : (formB ++ enc clock ++ enc (n : Int)).length ≤ 28 := by
  have h1 := enc_length clock
  have h2 := enc_length (n : Int)
  rw [List.length_append, List.length_append]; omega
 obtain ⟨b0, hb0⟩ : ∃ b0, formB ++ enc clock ++ enc (n : Int) = b0 := ⟨_, rfl⟩
 rw [hb0] at HO3 hl3
 have HB0 := hide hb0
 clear hb0
 go_wp2_with fail
 clear hc1
 go_loopw [25] (fun i wr => ∃ k : Nat, i = .int .i64 k ∧ k ≤ n ∧ Hid (Wrote w1 b u (b0 ++ encL (sersN clock ((ps.take k).map (·.2)))) wr)) (fun i _ => n - (intOf i).toNat)
 case atStart => exact ⟨0, rfl, Nat.zero_le _, by show Wrote _ _ _ _ _; simp only [List.take_zero, List.map_nil, sersN, List.flatMap_nil, encL_nil, List.append_nil]; exact uh HO3⟩
 case round =>
  obtain ⟨k, rfl, hk, HOr⟩ := hrel
  have hk0 : (0 : Int) ≤ (k : Int) := by omega
  have HLB := hide (show (b0 ++ encL (sersN clock ((ps.take k).map (·.2)))).length ≤ 28 + 10 * (1000000051000 * k) by
     have h1 := encL_length (sersN clock ((ps.take k).map (·.2)))
     have h2 := sersN_length clock ((ps.take k).map (·.2)) (fun x hx => uh HOK x (by
          obtain ⟨p, hp, rfl⟩ := List.mem_map.1 hx
          exact List.mem_map_of_mem (List.mem_of_mem_take hp)))
     have h3 : ((ps.take k).map (·.2)).length = k := by rw [List.length_map, List.length_take, uh HN]; omega
     rw [h3] at h2
     rw [List.length_append]; omega)
  by_cases hlk : k < n
  ·obtain ⟨g, hg, _⟩ := uh HVA (by rw [uh HN]; omega)
   subst hg
   have hkp : k < ps.length := by rw [uh HN]; exact hlk
   obtain ⟨p, hp⟩ : ∃ p, ps[k]? = some p := ⟨_, List.getElem?_eq_getElem hkp⟩
   have HEr := hide (uh HE1 wr (uh HOr).kp)
   have hcg : wr.cell? ⟨g, k, none⟩ = some (.pointer (some ⟨p.1.s, 0, none⟩)) := by
    rcases row_cells (uh HEr).row with ⟨h0, _⟩ | ⟨g', cap', hv', hc⟩
    ·omega
    ·rw [uh HV] at hv'
     cases hv'
     exact hc k _ (by unfold ptrs; rw [List.getElem?_map, hp]; rfl)
   have hce : wr.cell? ⟨e, 0, none⟩ = some (.int .i64 clock) := (uh HEr).blk.cell rfl
   have HTK := hide (show sersN clock ((ps.take (k + 1)).map (·.2)) = sersN clock ((ps.take k).map (·.2)) ++ serNums clock p.2 by
      rw [List.take_add_one, hp, List.map_append, sersN_append]
      simp [sersN])
   have hpm : p ∈ ps := List.mem_of_getElem? hp
   have HSR := hide ((uh HEr).reps p hpm)
   have HSK := hide (uh HOK p.2 (List.mem_map_of_mem hpm))
   have HSF := hide (show ∀ i, p.1.foot p.2.k i → EFoot e v ps i from fun i hi => .inr (.inr ⟨p, hpm, hi⟩))
   have hbn := (uh HSK).note.bn
   have hlb := uh HLB
   have hkE : (k : Int) < (n : Int) := by omega
   obtain ⟨u', z1, z2, z3⟩ := uh HOr
   have HZ2 := hide z2
   have HZ3 := hide z3
   have HSV := hide (serSave_any p.1 p.2 clock b u' _ wr (uh HSR) (uh HSK) z1 (fun i h hi => wfoot_not (uh HNF i (uh HSF i hi)) z2 (Nat.lt_of_lt_of_le (uh HLT i (uh HSF i hi)) (uh HK1).size) h) c0 c1 (by omega))
   clear hp hkp hpm z1 z2 z3
   go_wp2_with fail
   refine (uh HSV).mono ?_
   rintro r w4 ⟨rfl, hw4⟩
   have HO4 := hide (Wrote.then (uh HZ2) (uh HZ3) hw4)
   clear hw4 hcg hce
   go_wp2
   go_roundw
   case rel =>
    refine ⟨k + 1, by go_num, by omega, ?_⟩
    show Wrote _ _ _ _ _
    have := uh HO4
    rw [uh HTK, encL_append, ← List.append_assoc]
    exact this
   case measure => simp [intOf]; omega
  ·have hkE : k = n := by omega
   subst hkE
   have htk : ps.take k = ps := List.take_of_length_le (by rw [uh HN]; omega)
   rw [htk] at HOr HLB
   have hlb := uh HLB
   obtain ⟨u', z1, z2, z3⟩ := uh HOr
   have HZ2 := hide z2
   have HZ3 := hide z3
   have HCL := hide (close_any b u' _ wr z1 (by omega))
   have HSB := hide (show savedB clock (ps.map (·.2)) = strB (b0 ++ encL (sersN clock (ps.map (·.2))) ++ enc (sumH (b0 ++ encL (sersN clock (ps.map (·.2)))))) by
      have e1 : bodyB clock (ps.map (·.2)) = b0 ++ encL (sersN clock (ps.map (·.2))) := by
       unfold bodyB wholeNums
       rw [encL_cons, encL_cons, ← uh HB0, List.length_map, uh HN]
       simp only [List.append_assoc]
      unfold savedB savedL
      rw [e1])
   clear z1 z2 z3
   go_wp2_with fail
   refine (uh HCL).mono ?_
   rintro r w4 ⟨rfl, hk4⟩
   have HK4 := hide hk4
   clear hk4
   go_wp2
   go_ret
   refine ⟨by rw [uh HSB, List.append_assoc]; rfl, ?_⟩
   refine (uh HK1).trans ((uh HZ3).trans (uh HK4) (fun i hi hlt => ?_)) (fun i hi hlt => ?_) (M' := WFoot b u)
   ·rcases hi with hi | hi
    ·exact .inl hi
    ·rcases uh HZ2 i hi with h1 | h1
     ·exact .inr h1
     ·omega
   ·have := uh HB1 i hi
    omega
end Go.Proofs.YtahnliehdjncdaaGreatDoor
namespace Go.Proofs.YtahnliehdjncdaaGreatDoor
open Go.RowKit
structure WS where
 clock : Int
 xs : List Ser
def saveM (s : WS) : ByteArray := savedB s.clock s.xs
def loadM (_ : ByteArray) : Option WS := none
def loadS (s : WS) (o : OpM) : WS × Int × List Int :=
 match loadM o.bytes with
 | none => (s, 14, [])
 | some s' => (s', 0, [])
def createM (s : WS) (o : OpM) : WS × Int × List Int :=
 if inB o.id 0 99 = true ∧ (findS s.xs o.id).isNone = true then
  if validB o.cfg = true then (if s.xs.length < 6 then (⟨s.clock, s.xs ++ [newSer o.id o.cfg o.cfg.kind.toNat]⟩, 0, []) else (s, 4, [])) else (s, 3, [])
 else (s, 2, [])
def addM (s : WS) (o : OpM) : WS × Int × List Int :=
 match findS s.xs o.id with
 | none => (s, 2, [])
 | some x => if refE x s.clock o.item = 0 then (⟨s.clock, updS s.xs o.id (accS x o.item)⟩, 0, [x.acc + 1])
  else (⟨s.clock, updS s.xs o.id (refS x (refE x s.clock o.item).toNat)⟩, refE x s.clock o.item, [])
def tickM (s : WS) (o : OpM) : WS × Int × List Int :=
 if inB o.a 0 4611686018427387904 = true then
  if inB o.b 0 100 = true then (⟨maxC s.clock o.a, (sweepL (maxC s.clock o.a) o.b (s.xs.map (tickOne (maxC s.clock o.a)))).1⟩, 0, [(sweepL (maxC s.clock o.a) o.b (s.xs.map (tickOne (maxC s.clock o.a)))).2]) else (s, 12, [])
 else (s, 5, [])
def queryM (s : WS) (o : OpM) : WS × Int × List Int :=
 match findS s.xs o.id with
 | none => (s, 2, [])
 | some x => (s, qryN x.k x.c x.nt o.a (s.clock - x.c.lag))
def statsM (s : WS) (o : OpM) : WS × Int × List Int :=
 match findS s.xs o.id with
 | none => (s, 2, [])
 | some x => (s, 0, statsL x)
def stepM (s : WS) (o : OpM) : WS × Int × List Int :=
 if o.kind = 1 then createM s o else if o.kind = 2 then addM s o else if o.kind = 3 then tickM s o else if o.kind = 4 then queryM s o else if o.kind = 5 then statsM s o else if o.kind = 6 then (s, 0, []) else if o.kind = 7 then loadS s o else (s, 1, [])
def bytesM (s : WS) (o : OpM) : ByteArray := if o.kind = 6 then saveM s else noBytes
theorem SInv.mono {n m : Int} {x : Ser} (h : SInv n x) (hm : n ≤ m) : SInv m x := by
 have h1 := h.accn
 exact ⟨h.valid, h.kind, h.k1, h.k5, h.acc0, by omega, h.rel0, h.rela, h.reflen, fun v hv => by have := h.refn v hv; omega, h.cap, h.times, h.note, h.heap, h.last0, h.lastn, h.lastl, h.fits⟩
theorem newSer_inv {n : Int} (id : Int) (c : Cfg) (h : validB c = true) (hn : 0 ≤ n) : SInv n (newSer id c c.kind.toNat) := by
 obtain ⟨k, hk, h1, h5, hc, _⟩ := valid_parts h
 have hkn : c.kind.toNat = k := by omega
 simp only [commonB, inB, Bool.and_eq_true, decide_eq_true_eq] at hc
 refine ⟨h, ?_, ?_, ?_, by simp [newSer], by simpa [newSer] using hn, by simp [newSer], by simp [newSer], rfl, ?_, ?_, by simp [newSer], ?_, ?_, by simp [newSer], by simp [newSer], by simp [newSer], by simp [newSer]⟩
 ·show c.kind = (c.kind.toNat : Int); omega
 ·show 1 ≤ c.kind.toNat; omega
 ·show c.kind.toNat ≤ 5; omega
 ·intro v hv
  have : v = 0 := by simpa [newSer] using hv
  omega
 ·show ((0 : Nat) : Int) ≤ c.cap; omega
 ·exact NInv.zero c.kind.toNat c h (by omega)
 ·intro i h1 h2; simp [newSer] at h2
theorem updS_mem {xs : List Ser} {id : Int} {y z : Ser} (h : z ∈ updS xs id y) : z ∈ xs ∨ z = y := by
 induction xs with
 | nil => simp [updS] at h
 | cons a l ih =>
  unfold updS at h
  split at h
  ·rcases List.mem_cons.1 h with h | h
   ·exact .inr h
   ·exact .inl (by simp [h])
  ·rcases List.mem_cons.1 h with h | h
   ·exact .inl (by simp [h])
   ·rcases ih h with h | h
    ·exact .inl (by simp [h])
    ·exact .inr h
theorem updS_length (xs : List Ser) (id : Int) (y : Ser) : (updS xs id y).length = xs.length := by
 induction xs with
 | nil => rfl
 | cons a l ih =>
  unfold updS
  split
  ·rfl
  ·simp [ih]
theorem EInv.mono {n m clock : Int} {xs : List Ser} (h : EInv n clock xs) (hm : n ≤ m) : EInv m clock xs := ⟨h.c0, h.c1, h.six, fun x hx => (h.sers x hx).mono hm, h.marks⟩
theorem refE_zero {x : Ser} {clock : Int} {y : It} (h : refE x clock y = 0) : 0 ≤ y.t ∧ y.t ≤ 4611686018427387904 ∧ (x.l.length : Int) < x.c.cap ∧ clock - x.c.lag < y.t ∧ y.t ≤ clock + x.c.skew ∧ kindE x.c x.k y = 0 ∧ x.acc < 4611686018427387904 := by
 unfold refE at h
 cases h1 : inB y.t 0 4611686018427387904 with
 | false => rw [h1] at h; simp at h
 | true =>
  obtain ⟨a, b⟩ := inB_iff h1
  rw [h1] at h
  simp only [if_true] at h
  split at h
  ·omega
  ·split at h
   ·omega
   ·split at h
    ·rename_i h2; exact absurd h h2
    ·rename_i h2
     split at h
     ·omega
     ·split at h
      ·omega
      ·exact ⟨a, b, by omega, by omega, by omega, by simpa using h2, by omega⟩
theorem sweepL_mem {P : Ser → Prop} (clock : Int) (h : ∀ b x, P x → P (swpS clock b x)) (b : Int) (xs : List Ser) (hx : ∀ x, x ∈ xs → P x) : ∀ x, x ∈ (sweepL clock b xs).1 → P x := by
 induction xs generalizing b with
 | nil => intro x hx; simp [sweepL] at hx
 | cons a l ih =>
  intro x hx'
  simp only [sweepL, List.mem_cons] at hx'
  rcases hx' with hx' | hx'
  ·rw [hx']; exact h b a (hx a (by simp))
  ·exact ih _ (fun y hy => hx y (by simp [hy])) x hx'
theorem sweepL_length (clock b : Int) (xs : List Ser) : (sweepL clock b xs).1.length = xs.length := by
 induction xs generalizing b with
 | nil => rfl
 | cons a l ih => simp [sweepL, ih]
theorem tickOne_marks {clock nc : Int} {x : Ser} (hc : clock ≤ nc) (h : x.last = 0 ∨ x.last ≤ clock - x.c.lag) : (tickOne nc x).last = 0 ∨ (tickOne nc x).last ≤ nc - (tickOne nc x).c.lag := by
 have h1 : (tickOne nc x).c = x.c := (relS_k (x.l.length + 1) x (nc - x.c.lag)).2.1
 rw [h1]
 rcases relS_last (x.l.length + 1) x (nc - x.c.lag) with h2 | h2
 ·have h3 : (tickOne nc x).last = x.last := h2
  rw [h3]
  rcases h with h | h
  ·exact .inl h
  ·exact .inr (by omega)
 ·exact .inr h2
def LoadOk (n : Int) (o : OpM) : Prop := o.kind = 7 → ∀ s', loadM o.bytes = some s' → EInv n s'.clock s'.xs
theorem loadOk_none {n : Int} {o : OpM} (h : o.kind ≠ 7) : LoadOk n o := fun e => (h e).elim
theorem stepM_inv {n : Int} {s : WS} (o : OpM) (h : EInv n s.clock s.xs) (hn : 0 ≤ n) (hL : LoadOk (n + 1) o) : EInv (n + 1) (stepM s o).1.clock (stepM s o).1.xs := by
 have hs : EInv (n + 1) s.clock s.xs := h.mono (by omega)
 unfold stepM
 split
 ·unfold createM
  split
  ·split
   ·split
    ·rename_i h2 h3
     refine ⟨h.c0, h.c1, by simp; omega, fun x hx => ?_, fun x hx => ?_⟩
     ·rcases List.mem_append.1 hx with hx | hx
      ·exact hs.sers x hx
      ·rw [List.mem_singleton] at hx; subst hx; exact newSer_inv _ _ h2 (by omega)
     ·rcases List.mem_append.1 hx with hx | hx
      ·exact hs.marks x hx
      ·rw [List.mem_singleton] at hx; subst hx; exact .inl rfl
    ·exact hs
   ·exact hs
  ·exact hs
 ·split
  ·unfold addM
   split
   ·exact hs
   ·rename_i x hf
    have hx : x ∈ s.xs := List.mem_of_find?_eq_some hf
    have hxi := h.sers x hx
    have hxm := h.marks x hx
    split
    ·rename_i hr
     obtain ⟨t0, t1, hc, hl, _, hk, _⟩ := refE_zero hr
     refine ⟨h.c0, h.c1, by show (updS _ _ _).length ≤ 6; rw [updS_length]; exact h.six, fun z hz => ?_, fun z hz => ?_⟩
     ·rcases updS_mem hz with hz | hz
      ·exact hs.sers z hz
      ·subst hz; exact accS_inv (hxi.mono (by omega)) o.item t0 t1 hc (by have := hxi.accn; omega) (by rcases hxm with h | h <;> omega) hk
     ·rcases updS_mem hz with hz | hz
      ·exact hs.marks z hz
      ·subst hz; exact hxm
    ·refine ⟨h.c0, h.c1, by show (updS _ _ _).length ≤ 6; rw [updS_length]; exact h.six, fun z hz => ?_, fun z hz => ?_⟩
     ·rcases updS_mem hz with hz | hz
      ·exact hs.sers z hz
      ·subst hz
       have hrr := refE_range x s.clock o.item
       exact refS_inv (hxi.mono (by omega)) _ (fun v hv => by have := hxi.refn v hv; omega) (by omega)
     ·rcases updS_mem hz with hz | hz
      ·exact hs.marks z hz
      ·subst hz; exact hxm
  ·split
   ·unfold tickM
    split
    ·rename_i ha
     obtain ⟨a0, a1⟩ := inB_iff ha
     have hc0 := h.c0
     have hc1 := h.c1
     have hmx : s.clock ≤ maxC s.clock o.a := by unfold maxC; split <;> omega
     split
     ·refine ⟨?_, ?_, by show (sweepL _ _ _).1.length ≤ 6; rw [sweepL_length]; simpa using h.six, fun z hz => ?_, fun z hz => ?_⟩
      ·show 0 ≤ maxC s.clock o.a; unfold maxC; split <;> omega
      ·show maxC s.clock o.a ≤ _; unfold maxC; split <;> omega
      ·refine sweepL_mem (P := SInv (n + 1)) _ (fun b x hx => swpS_inv _ b hx) _ _ (fun z hz => ?_) z hz
       obtain ⟨x, hx, rfl⟩ := List.mem_map.1 hz
       exact relS_inv _ (hs.sers x hx) _
      ·refine sweepL_mem (P := fun z => z.last = 0 ∨ z.last ≤ maxC s.clock o.a - z.c.lag) _ (fun b x hx => hx) _ _ (fun z hz => ?_) z hz
       obtain ⟨x, hx, rfl⟩ := List.mem_map.1 hz
       exact tickOne_marks hmx (h.marks x hx)
     ·exact hs
    ·exact hs
   ·split
    ·unfold queryM
     split
     ·exact hs
     ·exact hs
    ·split
     ·unfold statsM
      split <;> exact hs
     ·split
      ·exact hs
      ·split
       ·rename_i h7
        unfold loadS
        split
        ·exact hs
        ·rename_i s' hs'
         exact hL h7 s' hs'
       ·exact hs
end Go.Proofs.YtahnliehdjncdaaGreatDoor
namespace Go.Proofs.YtahnliehdjncdaaGreatDoor
open Go.RowKit
def storeBig (ty : TypeId) (a x : Value) : Sem Next := do Instr.storeAt ty a x; pure .skip
theorem execOp_store40 (ρ : Operand → Value) (dst : Option Tmp) (x y : Operand) (ty : TypeId) (pos : String) (after : Array Edge) (guard : Option (Nat × Bool)) :
  execOp ρ { dst, op := .store 40 x y, type := ty, pos, after, guard } = storeBig 40 (ρ x) (ρ y) := rfl
def setFrom (arr : Array Value) (o : Nat) : List Value → Array Value
 | [] => arr
 | c :: r => setFrom (arr.setIfInBounds o c) (o + 1) r
theorem setCells_new (w : World) (T : TypeId) : ∀ (cs : List Value) (o : Nat) (arr : Array Value), (w.alloc (.cells arr T)).setCells w.heap.size o cs = w.alloc (.cells (setFrom arr o cs) T)
 | [], _, _ => rfl
 | c :: r, o, arr => by
  unfold World.setCells setFrom
  rw [World.setCell_alloc_at _ _ _ _ _ rfl]
  exact setCells_new w T r (o + 1) (arr.setIfInBounds o c)
theorem setFrom_all : ∀ (cs : List Value) (pre : List Value) (rest : List Value), rest.length = cs.length → setFrom (pre ++ rest).toArray pre.length cs = (pre ++ cs).toArray
 | [], pre, rest, h => by
  have : rest = [] := List.length_eq_zero_iff.1 h
  subst this; rfl
 | c :: r, pre, rest, h => by
  cases rest with
  | nil => simp at h
  | cons d q =>
   unfold setFrom
   have h1 : ((pre ++ d :: q).toArray.setIfInBounds pre.length c) = ((pre ++ [c]) ++ q).toArray := by simp
   rw [h1]
   have := setFrom_all r (pre ++ [c]) q (by simpa using h)
   rw [List.length_append] at this
   simpa using this
theorem run_store40 (w : World) (zs : List Value) (cs : List Value) (hz : zs.length = 26) (hc : cs.length = 26) (h1 : cs.toArray.all (·.oneCell') = true) :
  (storeBig 40 (.pointer (some ⟨w.heap.size, 0, none⟩)) (.agg cs.toArray)).run Tryz.prog (w.alloc (.cells zs.toArray 40)) = .ok .skip (w.alloc (.cells cs.toArray 40)) := by
 unfold storeBig
 have ht : (w.alloc (.cells zs.toArray 40)).there w.heap.size 0 cs.toArray.size := by
  intro j hj
  have hj' : j < 26 := by simpa [hc] using hj
  rw [Nat.zero_add, World.cell?_alloc_new, World.frozen?_alloc_new]
  simp [hz, hj']
 rw [Sem.run_bind, run_storeAt_mid _ w.heap.size 0 40 cs.toArray ht (by rw [size40]; simp [hc]) h1]
 have h2 := setFrom_all cs [] zs (by omega)
 simp only [List.nil_append, List.length_nil] at h2
 rw [setCells_new, List.toList_toArray, h2]
 rfl
end Go.Proofs.YtahnliehdjncdaaGreatDoor
namespace Go.Proofs.YtahnliehdjncdaaGreatDoor
open Go.RowKit
attribute [local go_sem ↓] execOp_load38 execOp_load40
attribute [local go_sem] run_load38 run_load40 bigVal_drew hasBig_drew bigVal_ne hasBig_ne bigVal_alloc hasBig_alloc
theorem step_wrap {w w0 w1 w9 : World} {e ob : Nat} {v : Value} {ps : List (SB × Ser)} {clock' : Int} {xs' : List Ser} {code : Int} {nums : List Int} {nv v' : Value} {ps' : List (SB × Ser)}
  (hk0 : Keeps (fun _ => False) w w0) (hob : w.heap.size = ob) (hlt : ∀ i, EFoot e v ps i → i < ob) (hsz : ob + 1 < w0.heap.size)
  (hE : ERep w1 e v' clock' ps') (hx : ps'.map (·.2) = xs') (hn : w1.ownsRow w0.heap.size 3 1 nv nums.length (ints nums)) (hk : Keeps (EFoot e v ps) w0 w1)
  (hf : ∀ i, EFoot e v' ps' i → EFoot e v ps i ∨ w0.heap.size ≤ i) (hd : ∀ i, nv.ownBlock = some i → ¬ EFoot e v' ps' i) (hkf : Keeps (fun i => i = ob + 1) w1 w9) :
  StepPost w e v ps clock' xs' code nums (.returned (ansV code nv)) w9 := by
 have hs := hk0.size
 refine ⟨nv, v', ps', rfl, hE.keeps hkf (fun i hi h => ?_), hx, owns_keeps (owns_base hn hs) hkf (fun i hi h => ?_), ?_, fun i hi => ?_, hd⟩
 ·rcases hf i hi with h1 | h1
  ·have := hlt i h1; omega
  ·omega
 ·have := (hn.lt i hi).1; omega
 ·exact ((hk0.mono (M' := EFoot e v ps) (fun _ _ h => h.elim)).then (hk.mono (fun _ _ h => h))).trans hkf (fun i hi hlt => by omega)
 ·rcases hf i hi with h1 | h1
  ·exact .inl h1
  ·exact .inr (by omega)
theorem nv_form {w : World} {base : Nat} {nv : Value} {n : Nat} {xs : List Value} (h : w.ownsRow base 3 1 nv n xs) : ∃ a cap, nv = .slice a n cap := by
 rcases h.2 with ⟨h1, h2⟩ | ⟨g, cap, cur, h1, _⟩
 ·exact ⟨none, 0, by rw [h1, h2]⟩
 ·exact ⟨some ⟨g, 0, none⟩, cap, h1⟩
theorem step_1 (e : Nat) (v : Value) (clock : Int) (ps : List (SB × Ser)) (o : OpM) (w : World) (h : ERep w e v clock ps) (hkind : o.kind = 1) (clock' : Int) (xs' : List Ser) (code : Int) (nums : List Int)
  (hc : ∀ w0, ERep w0 e v clock ps → Calls Tryz.prog 42 #[.pointer (some ⟨e, 0, none⟩), o.val] w0 fun r w' => StepPost w0 e v ps clock' xs' code nums r w') :
  Calls Tryz.prog 35 #[.pointer (some ⟨e, 0, none⟩), o.val] w fun r w' => StepPost w e v ps clock' xs' code nums r w' := by
 have h0 : o.cells[0]? = some (.int .i64 o.kind) := rfl
 have hv0 : bigVal (w.alloc (.cells o.cells.toArray 40)) w.heap.size 0 26 = .agg o.cells.toArray := bigVal_new w o.cells 40 26 rfl
 have hh0 : hasBig (w.alloc (.cells o.cells.toArray 40)) w.heap.size 0 26 = true := hasBig_new w o.cells 40 26 rfl
 have hn1 : (o.kind == 1) = true := by simp [hkind]
 have HE := hide h
 have HC := hide hc
 clear h hc hkind
 unfold OpM.val
 go_enter Tryz.func35, Tryz.ntmps35
 go_wp2_with fail
 have hk0 : Keeps (fun _ => False) w ((w.alloc (.cells o.cells.toArray 40)).alloc (.cells #[.int .i64 0, .slice none 0 0, .string ⟨#[]⟩] 33)) := ((Keeps.refl (fun _ => False) w).alloc _).alloc _
 have HO0 := hide (show Blk ((w.alloc (.cells o.cells.toArray 40)).alloc (.cells #[.int .i64 0, .slice none 0 0, .string ⟨#[]⟩] 33)) w.heap.size o.cells 40 from (Blk.new w o.cells 40).alloc _)
 have HR0 := hide (show Blk ((w.alloc (.cells o.cells.toArray 40)).alloc (.cells #[.int .i64 0, .slice none 0 0, .string ⟨#[]⟩] 33)) (w.heap.size + 1) [.int .i64 0, .slice none 0 0, .string noBytes] 33 from Blk.newAt (by simp) [_, _, _] 33)
 have HE0 := hide ((uh HE).still hk0)
 have HK0 := hide hk0
 clear hk0
 generalize (w.alloc (.cells o.cells.toArray 40)).alloc (.cells #[.int .i64 0, .slice none 0 0, .string ⟨#[]⟩] 33) = w0 at *
 have HLT := hide (show ∀ i, EFoot e v ps i → i < w.heap.size from (uh HE).lt)
 generalize hob : w.heap.size = ob at *
 have HOB := hide hob
 clear hob
 have hsz0 : ob + 1 < w0.heap.size := (uh HR0).lt
 refine (uh HC w0 (uh HE0)).mono ?_
 rintro r w1 ⟨nv, v', ps', rfl, hE1, hx1, hn1, hk1, hf1, hd1⟩
 obtain ⟨na, ncap, hnv⟩ := nv_form hn1
 subst hnv
 unfold ansV
 have HR1 := hide ((uh HR0).keeps hk1 (fun h => by have := uh HLT _ h; omega))
 have HW := hide (show ∀ w9, Keeps (fun i => i = ob + 1) w1 w9 → StepPost w e v ps clock' xs' code nums (.returned (ansV code (.slice na nums.length ncap))) w9 from fun w9 hkf => step_wrap (uh HK0) (uh HOB) (uh HLT) hsz0 hE1 hx1 hn1 hk1 hf1 hd1 hkf)
 clear hE1 hx1 hn1 hk1 hf1 hd1
 have r0 : w1.cell? ⟨ob + 1, 0, none⟩ = some (.int .i64 0) := (uh HR1).cell rfl
 have r1 : w1.cell? ⟨ob + 1, 1, none⟩ = some (.slice none 0 0) := (uh HR1).cell rfl
 have r2 : w1.cell? ⟨ob + 1, 2, none⟩ = some (.string noBytes) := (uh HR1).cell rfl
 have rf := (uh HR1).frozen
 go_wp2
 have hbf := (((uh HR1).setCell 0 (.int .i64 code)).setCell 1 (.slice na nums.length ncap)).setCell 2 (.string noBytes)
 have HKF := hide ((((Keeps.refl (fun i => i = ob + 1) w1).setCell (p := ⟨ob + 1, 0, none⟩) (Or.inl rfl) (.int .i64 code)).setCell (p := ⟨ob + 1, 1, none⟩) (Or.inl rfl) (.slice na nums.length ncap)).setCell (p := ⟨ob + 1, 2, none⟩) (Or.inl rfl) (.string noBytes))
 have e9 : (((w1.setCell ⟨ob + 1, 0, none⟩ (.int .i64 code)).setCell ⟨ob + 1, 1, none⟩ (.slice na nums.length ncap)).setCell ⟨ob + 1, 2, none⟩ (.string ⟨#[]⟩)) = (((w1.setCell ⟨ob + 1, 0, none⟩ (.int .i64 code)).setCell ⟨ob + 1, 1, none⟩ (.slice na nums.length ncap)).setCell ⟨ob + 1, 2, none⟩ (.string noBytes)) := rfl
 first | rw [e9] | skip
 generalize (((w1.setCell ⟨ob + 1, 0, none⟩ (.int .i64 code)).setCell ⟨ob + 1, 1, none⟩ (.slice na nums.length ncap)).setCell ⟨ob + 1, 2, none⟩ (.string noBytes)) = w9 at *
 have q0 : w9.cell? ⟨ob + 1, 0, none⟩ = some (.int .i64 code) := hbf.cell rfl
 have q1 : w9.cell? ⟨ob + 1, 1, none⟩ = some (.slice na nums.length ncap) := hbf.cell rfl
 have q2 : w9.cell? ⟨ob + 1, 2, none⟩ = some (.string noBytes) := hbf.cell rfl
 refine bodyPost_ret (v := ansV code (.slice na nums.length ncap)) (by simp [results, Tryz.results35, go_sem, q0, q1, q2, ansV]) rfl ?_
 have hkf := uh HKF
 exact uh HW w9 hkf
theorem step_2 (e : Nat) (v : Value) (clock : Int) (ps : List (SB × Ser)) (o : OpM) (w : World) (h : ERep w e v clock ps) (hkind : o.kind = 2) (clock' : Int) (xs' : List Ser) (code : Int) (nums : List Int)
  (hc : ∀ w0, ERep w0 e v clock ps → Calls Tryz.prog 43 #[.pointer (some ⟨e, 0, none⟩), o.val] w0 fun r w' => StepPost w0 e v ps clock' xs' code nums r w') :
  Calls Tryz.prog 35 #[.pointer (some ⟨e, 0, none⟩), o.val] w fun r w' => StepPost w e v ps clock' xs' code nums r w' := by
 have h0 : o.cells[0]? = some (.int .i64 o.kind) := rfl
 have hv0 : bigVal (w.alloc (.cells o.cells.toArray 40)) w.heap.size 0 26 = .agg o.cells.toArray := bigVal_new w o.cells 40 26 rfl
 have hh0 : hasBig (w.alloc (.cells o.cells.toArray 40)) w.heap.size 0 26 = true := hasBig_new w o.cells 40 26 rfl
 have hn1 : (o.kind == 1) = false := by simp [hkind]
 have hn2 : (o.kind == 2) = true := by simp [hkind]
 have HE := hide h
 have HC := hide hc
 clear h hc hkind
 unfold OpM.val
 go_enter Tryz.func35, Tryz.ntmps35
 go_wp2_with fail
 have hk0 : Keeps (fun _ => False) w ((w.alloc (.cells o.cells.toArray 40)).alloc (.cells #[.int .i64 0, .slice none 0 0, .string ⟨#[]⟩] 33)) := ((Keeps.refl (fun _ => False) w).alloc _).alloc _
 have HO0 := hide (show Blk ((w.alloc (.cells o.cells.toArray 40)).alloc (.cells #[.int .i64 0, .slice none 0 0, .string ⟨#[]⟩] 33)) w.heap.size o.cells 40 from (Blk.new w o.cells 40).alloc _)
 have HR0 := hide (show Blk ((w.alloc (.cells o.cells.toArray 40)).alloc (.cells #[.int .i64 0, .slice none 0 0, .string ⟨#[]⟩] 33)) (w.heap.size + 1) [.int .i64 0, .slice none 0 0, .string noBytes] 33 from Blk.newAt (by simp) [_, _, _] 33)
 have HE0 := hide ((uh HE).still hk0)
 have HK0 := hide hk0
 clear hk0
 generalize (w.alloc (.cells o.cells.toArray 40)).alloc (.cells #[.int .i64 0, .slice none 0 0, .string ⟨#[]⟩] 33) = w0 at *
 have HLT := hide (show ∀ i, EFoot e v ps i → i < w.heap.size from (uh HE).lt)
 generalize hob : w.heap.size = ob at *
 have HOB := hide hob
 clear hob
 have hsz0 : ob + 1 < w0.heap.size := (uh HR0).lt
 refine (uh HC w0 (uh HE0)).mono ?_
 rintro r w1 ⟨nv, v', ps', rfl, hE1, hx1, hn1, hk1, hf1, hd1⟩
 obtain ⟨na, ncap, hnv⟩ := nv_form hn1
 subst hnv
 unfold ansV
 have HR1 := hide ((uh HR0).keeps hk1 (fun h => by have := uh HLT _ h; omega))
 have HW := hide (show ∀ w9, Keeps (fun i => i = ob + 1) w1 w9 → StepPost w e v ps clock' xs' code nums (.returned (ansV code (.slice na nums.length ncap))) w9 from fun w9 hkf => step_wrap (uh HK0) (uh HOB) (uh HLT) hsz0 hE1 hx1 hn1 hk1 hf1 hd1 hkf)
 clear hE1 hx1 hn1 hk1 hf1 hd1
 have r0 : w1.cell? ⟨ob + 1, 0, none⟩ = some (.int .i64 0) := (uh HR1).cell rfl
 have r1 : w1.cell? ⟨ob + 1, 1, none⟩ = some (.slice none 0 0) := (uh HR1).cell rfl
 have r2 : w1.cell? ⟨ob + 1, 2, none⟩ = some (.string noBytes) := (uh HR1).cell rfl
 have rf := (uh HR1).frozen
 go_wp2
 have hbf := (((uh HR1).setCell 0 (.int .i64 code)).setCell 1 (.slice na nums.length ncap)).setCell 2 (.string noBytes)
 have HKF := hide ((((Keeps.refl (fun i => i = ob + 1) w1).setCell (p := ⟨ob + 1, 0, none⟩) (Or.inl rfl) (.int .i64 code)).setCell (p := ⟨ob + 1, 1, none⟩) (Or.inl rfl) (.slice na nums.length ncap)).setCell (p := ⟨ob + 1, 2, none⟩) (Or.inl rfl) (.string noBytes))
 have e9 : (((w1.setCell ⟨ob + 1, 0, none⟩ (.int .i64 code)).setCell ⟨ob + 1, 1, none⟩ (.slice na nums.length ncap)).setCell ⟨ob + 1, 2, none⟩ (.string ⟨#[]⟩)) = (((w1.setCell ⟨ob + 1, 0, none⟩ (.int .i64 code)).setCell ⟨ob + 1, 1, none⟩ (.slice na nums.length ncap)).setCell ⟨ob + 1, 2, none⟩ (.string noBytes)) := rfl
 first | rw [e9] | skip
 generalize (((w1.setCell ⟨ob + 1, 0, none⟩ (.int .i64 code)).setCell ⟨ob + 1, 1, none⟩ (.slice na nums.length ncap)).setCell ⟨ob + 1, 2, none⟩ (.string noBytes)) = w9 at *
 have q0 : w9.cell? ⟨ob + 1, 0, none⟩ = some (.int .i64 code) := hbf.cell rfl
 have q1 : w9.cell? ⟨ob + 1, 1, none⟩ = some (.slice na nums.length ncap) := hbf.cell rfl
 have q2 : w9.cell? ⟨ob + 1, 2, none⟩ = some (.string noBytes) := hbf.cell rfl
 refine bodyPost_ret (v := ansV code (.slice na nums.length ncap)) (by simp [results, Tryz.results35, go_sem, q0, q1, q2, ansV]) rfl ?_
 have hkf := uh HKF
 exact uh HW w9 hkf
theorem step_3 (e : Nat) (v : Value) (clock : Int) (ps : List (SB × Ser)) (o : OpM) (w : World) (h : ERep w e v clock ps) (hkind : o.kind = 3) (clock' : Int) (xs' : List Ser) (code : Int) (nums : List Int)
  (hc : ∀ w0, ERep w0 e v clock ps → Keeps (fun _ => False) w w0 → Calls Tryz.prog 44 #[.pointer (some ⟨e, 0, none⟩), o.val] w0 fun r w' => StepPost w0 e v ps clock' xs' code nums r w') :
  Calls Tryz.prog 35 #[.pointer (some ⟨e, 0, none⟩), o.val] w fun r w' => StepPost w e v ps clock' xs' code nums r w' := by
 have h0 : o.cells[0]? = some (.int .i64 o.kind) := rfl
 have hv0 : bigVal (w.alloc (.cells o.cells.toArray 40)) w.heap.size 0 26 = .agg o.cells.toArray := bigVal_new w o.cells 40 26 rfl
 have hh0 : hasBig (w.alloc (.cells o.cells.toArray 40)) w.heap.size 0 26 = true := hasBig_new w o.cells 40 26 rfl
 have hn1 : (o.kind == 1) = false := by simp [hkind]
 have hn2 : (o.kind == 2) = false := by simp [hkind]
 have hn3 : (o.kind == 3) = true := by simp [hkind]
 have HE := hide h
 have HC := hide hc
 clear h hc hkind
 unfold OpM.val
 go_enter Tryz.func35, Tryz.ntmps35
 go_wp2_with fail
 have hk0 : Keeps (fun _ => False) w ((w.alloc (.cells o.cells.toArray 40)).alloc (.cells #[.int .i64 0, .slice none 0 0, .string ⟨#[]⟩] 33)) := ((Keeps.refl (fun _ => False) w).alloc _).alloc _
 have HO0 := hide (show Blk ((w.alloc (.cells o.cells.toArray 40)).alloc (.cells #[.int .i64 0, .slice none 0 0, .string ⟨#[]⟩] 33)) w.heap.size o.cells 40 from (Blk.new w o.cells 40).alloc _)
 have HR0 := hide (show Blk ((w.alloc (.cells o.cells.toArray 40)).alloc (.cells #[.int .i64 0, .slice none 0 0, .string ⟨#[]⟩] 33)) (w.heap.size + 1) [.int .i64 0, .slice none 0 0, .string noBytes] 33 from Blk.newAt (by simp) [_, _, _] 33)
 have HE0 := hide ((uh HE).still hk0)
 have HK0 := hide hk0
 clear hk0
 generalize (w.alloc (.cells o.cells.toArray 40)).alloc (.cells #[.int .i64 0, .slice none 0 0, .string ⟨#[]⟩] 33) = w0 at *
 have HLT := hide (show ∀ i, EFoot e v ps i → i < w.heap.size from (uh HE).lt)
 generalize hob : w.heap.size = ob at *
 have HOB := hide hob
 clear hob
 have hsz0 : ob + 1 < w0.heap.size := (uh HR0).lt
 refine (uh HC w0 (uh HE0) (uh HK0)).mono ?_
 rintro r w1 ⟨nv, v', ps', rfl, hE1, hx1, hn1, hk1, hf1, hd1⟩
 obtain ⟨na, ncap, hnv⟩ := nv_form hn1
 subst hnv
 unfold ansV
 have HR1 := hide ((uh HR0).keeps hk1 (fun h => by have := uh HLT _ h; omega))
 have HW := hide (show ∀ w9, Keeps (fun i => i = ob + 1) w1 w9 → StepPost w e v ps clock' xs' code nums (.returned (ansV code (.slice na nums.length ncap))) w9 from fun w9 hkf => step_wrap (uh HK0) (uh HOB) (uh HLT) hsz0 hE1 hx1 hn1 hk1 hf1 hd1 hkf)
 clear hE1 hx1 hn1 hk1 hf1 hd1
 have r0 : w1.cell? ⟨ob + 1, 0, none⟩ = some (.int .i64 0) := (uh HR1).cell rfl
 have r1 : w1.cell? ⟨ob + 1, 1, none⟩ = some (.slice none 0 0) := (uh HR1).cell rfl
 have r2 : w1.cell? ⟨ob + 1, 2, none⟩ = some (.string noBytes) := (uh HR1).cell rfl
 have rf := (uh HR1).frozen
 go_wp2
 have hbf := (((uh HR1).setCell 0 (.int .i64 code)).setCell 1 (.slice na nums.length ncap)).setCell 2 (.string noBytes)
 have HKF := hide ((((Keeps.refl (fun i => i = ob + 1) w1).setCell (p := ⟨ob + 1, 0, none⟩) (Or.inl rfl) (.int .i64 code)).setCell (p := ⟨ob + 1, 1, none⟩) (Or.inl rfl) (.slice na nums.length ncap)).setCell (p := ⟨ob + 1, 2, none⟩) (Or.inl rfl) (.string noBytes))
 have e9 : (((w1.setCell ⟨ob + 1, 0, none⟩ (.int .i64 code)).setCell ⟨ob + 1, 1, none⟩ (.slice na nums.length ncap)).setCell ⟨ob + 1, 2, none⟩ (.string ⟨#[]⟩)) = (((w1.setCell ⟨ob + 1, 0, none⟩ (.int .i64 code)).setCell ⟨ob + 1, 1, none⟩ (.slice na nums.length ncap)).setCell ⟨ob + 1, 2, none⟩ (.string noBytes)) := rfl
 first | rw [e9] | skip
 generalize (((w1.setCell ⟨ob + 1, 0, none⟩ (.int .i64 code)).setCell ⟨ob + 1, 1, none⟩ (.slice na nums.length ncap)).setCell ⟨ob + 1, 2, none⟩ (.string noBytes)) = w9 at *
 have q0 : w9.cell? ⟨ob + 1, 0, none⟩ = some (.int .i64 code) := hbf.cell rfl
 have q1 : w9.cell? ⟨ob + 1, 1, none⟩ = some (.slice na nums.length ncap) := hbf.cell rfl
 have q2 : w9.cell? ⟨ob + 1, 2, none⟩ = some (.string noBytes) := hbf.cell rfl
 refine bodyPost_ret (v := ansV code (.slice na nums.length ncap)) (by simp [results, Tryz.results35, go_sem, q0, q1, q2, ansV]) rfl ?_
 have hkf := uh HKF
 exact uh HW w9 hkf
theorem step_4 (e : Nat) (v : Value) (clock : Int) (ps : List (SB × Ser)) (o : OpM) (w : World) (h : ERep w e v clock ps) (hkind : o.kind = 4) (clock' : Int) (xs' : List Ser) (code : Int) (nums : List Int)
  (hc : ∀ w0, ERep w0 e v clock ps → Calls Tryz.prog 45 #[.pointer (some ⟨e, 0, none⟩), o.val] w0 fun r w' => StepPost w0 e v ps clock' xs' code nums r w') :
  Calls Tryz.prog 35 #[.pointer (some ⟨e, 0, none⟩), o.val] w fun r w' => StepPost w e v ps clock' xs' code nums r w' := by
 have h0 : o.cells[0]? = some (.int .i64 o.kind) := rfl
 have hv0 : bigVal (w.alloc (.cells o.cells.toArray 40)) w.heap.size 0 26 = .agg o.cells.toArray := bigVal_new w o.cells 40 26 rfl
 have hh0 : hasBig (w.alloc (.cells o.cells.toArray 40)) w.heap.size 0 26 = true := hasBig_new w o.cells 40 26 rfl
 have hn1 : (o.kind == 1) = false := by simp [hkind]
 have hn2 : (o.kind == 2) = false := by simp [hkind]
 have hn3 : (o.kind == 3) = false := by simp [hkind]
 have hn4 : (o.kind == 4) = true := by simp [hkind]
 have HE := hide h
 have HC := hide hc
 clear h hc hkind
 unfold OpM.val
 go_enter Tryz.func35, Tryz.ntmps35
 go_wp2_with fail
 have hk0 : Keeps (fun _ => False) w ((w.alloc (.cells o.cells.toArray 40)).alloc (.cells #[.int .i64 0, .slice none 0 0, .string ⟨#[]⟩] 33)) := ((Keeps.refl (fun _ => False) w).alloc _).alloc _
 have HO0 := hide (show Blk ((w.alloc (.cells o.cells.toArray 40)).alloc (.cells #[.int .i64 0, .slice none 0 0, .string ⟨#[]⟩] 33)) w.heap.size o.cells 40 from (Blk.new w o.cells 40).alloc _)
 have HR0 := hide (show Blk ((w.alloc (.cells o.cells.toArray 40)).alloc (.cells #[.int .i64 0, .slice none 0 0, .string ⟨#[]⟩] 33)) (w.heap.size + 1) [.int .i64 0, .slice none 0 0, .string noBytes] 33 from Blk.newAt (by simp) [_, _, _] 33)
 have HE0 := hide ((uh HE).still hk0)
 have HK0 := hide hk0
 clear hk0
 generalize (w.alloc (.cells o.cells.toArray 40)).alloc (.cells #[.int .i64 0, .slice none 0 0, .string ⟨#[]⟩] 33) = w0 at *
 have HLT := hide (show ∀ i, EFoot e v ps i → i < w.heap.size from (uh HE).lt)
 generalize hob : w.heap.size = ob at *
 have HOB := hide hob
 clear hob
 have hsz0 : ob + 1 < w0.heap.size := (uh HR0).lt
 refine (uh HC w0 (uh HE0)).mono ?_
 rintro r w1 ⟨nv, v', ps', rfl, hE1, hx1, hn1, hk1, hf1, hd1⟩
 obtain ⟨na, ncap, hnv⟩ := nv_form hn1
 subst hnv
 unfold ansV
 have HR1 := hide ((uh HR0).keeps hk1 (fun h => by have := uh HLT _ h; omega))
 have HW := hide (show ∀ w9, Keeps (fun i => i = ob + 1) w1 w9 → StepPost w e v ps clock' xs' code nums (.returned (ansV code (.slice na nums.length ncap))) w9 from fun w9 hkf => step_wrap (uh HK0) (uh HOB) (uh HLT) hsz0 hE1 hx1 hn1 hk1 hf1 hd1 hkf)
 clear hE1 hx1 hn1 hk1 hf1 hd1
 have r0 : w1.cell? ⟨ob + 1, 0, none⟩ = some (.int .i64 0) := (uh HR1).cell rfl
 have r1 : w1.cell? ⟨ob + 1, 1, none⟩ = some (.slice none 0 0) := (uh HR1).cell rfl
 have r2 : w1.cell? ⟨ob + 1, 2, none⟩ = some (.string noBytes) := (uh HR1).cell rfl
 have rf := (uh HR1).frozen
 go_wp2
 have hbf := (((uh HR1).setCell 0 (.int .i64 code)).setCell 1 (.slice na nums.length ncap)).setCell 2 (.string noBytes)
 have HKF := hide ((((Keeps.refl (fun i => i = ob + 1) w1).setCell (p := ⟨ob + 1, 0, none⟩) (Or.inl rfl) (.int .i64 code)).setCell (p := ⟨ob + 1, 1, none⟩) (Or.inl rfl) (.slice na nums.length ncap)).setCell (p := ⟨ob + 1, 2, none⟩) (Or.inl rfl) (.string noBytes))
 have e9 : (((w1.setCell ⟨ob + 1, 0, none⟩ (.int .i64 code)).setCell ⟨ob + 1, 1, none⟩ (.slice na nums.length ncap)).setCell ⟨ob + 1, 2, none⟩ (.string ⟨#[]⟩)) = (((w1.setCell ⟨ob + 1, 0, none⟩ (.int .i64 code)).setCell ⟨ob + 1, 1, none⟩ (.slice na nums.length ncap)).setCell ⟨ob + 1, 2, none⟩ (.string noBytes)) := rfl
 first | rw [e9] | skip
 generalize (((w1.setCell ⟨ob + 1, 0, none⟩ (.int .i64 code)).setCell ⟨ob + 1, 1, none⟩ (.slice na nums.length ncap)).setCell ⟨ob + 1, 2, none⟩ (.string noBytes)) = w9 at *
 have q0 : w9.cell? ⟨ob + 1, 0, none⟩ = some (.int .i64 code) := hbf.cell rfl
 have q1 : w9.cell? ⟨ob + 1, 1, none⟩ = some (.slice na nums.length ncap) := hbf.cell rfl
 have q2 : w9.cell? ⟨ob + 1, 2, none⟩ = some (.string noBytes) := hbf.cell rfl
 refine bodyPost_ret (v := ansV code (.slice na nums.length ncap)) (by simp [results, Tryz.results35, go_sem, q0, q1, q2, ansV]) rfl ?_
 have hkf := uh HKF
 exact uh HW w9 hkf
theorem step_5 (e : Nat) (v : Value) (clock : Int) (ps : List (SB × Ser)) (o : OpM) (w : World) (h : ERep w e v clock ps) (hkind : o.kind = 5) (clock' : Int) (xs' : List Ser) (code : Int) (nums : List Int)
  (hc : ∀ w0, ERep w0 e v clock ps → Calls Tryz.prog 46 #[.pointer (some ⟨e, 0, none⟩), o.val] w0 fun r w' => StepPost w0 e v ps clock' xs' code nums r w') :
  Calls Tryz.prog 35 #[.pointer (some ⟨e, 0, none⟩), o.val] w fun r w' => StepPost w e v ps clock' xs' code nums r w' := by
 have h0 : o.cells[0]? = some (.int .i64 o.kind) := rfl
 have hv0 : bigVal (w.alloc (.cells o.cells.toArray 40)) w.heap.size 0 26 = .agg o.cells.toArray := bigVal_new w o.cells 40 26 rfl
 have hh0 : hasBig (w.alloc (.cells o.cells.toArray 40)) w.heap.size 0 26 = true := hasBig_new w o.cells 40 26 rfl
 have hn1 : (o.kind == 1) = false := by simp [hkind]
 have hn2 : (o.kind == 2) = false := by simp [hkind]
 have hn3 : (o.kind == 3) = false := by simp [hkind]
 have hn4 : (o.kind == 4) = false := by simp [hkind]
 have hn5 : (o.kind == 5) = true := by simp [hkind]
 have HE := hide h
 have HC := hide hc
 clear h hc hkind
 unfold OpM.val
 go_enter Tryz.func35, Tryz.ntmps35
 go_wp2_with fail
 have hk0 : Keeps (fun _ => False) w ((w.alloc (.cells o.cells.toArray 40)).alloc (.cells #[.int .i64 0, .slice none 0 0, .string ⟨#[]⟩] 33)) := ((Keeps.refl (fun _ => False) w).alloc _).alloc _
 have HO0 := hide (show Blk ((w.alloc (.cells o.cells.toArray 40)).alloc (.cells #[.int .i64 0, .slice none 0 0, .string ⟨#[]⟩] 33)) w.heap.size o.cells 40 from (Blk.new w o.cells 40).alloc _)
 have HR0 := hide (show Blk ((w.alloc (.cells o.cells.toArray 40)).alloc (.cells #[.int .i64 0, .slice none 0 0, .string ⟨#[]⟩] 33)) (w.heap.size + 1) [.int .i64 0, .slice none 0 0, .string noBytes] 33 from Blk.newAt (by simp) [_, _, _] 33)
 have HE0 := hide ((uh HE).still hk0)
 have HK0 := hide hk0
 clear hk0
 generalize (w.alloc (.cells o.cells.toArray 40)).alloc (.cells #[.int .i64 0, .slice none 0 0, .string ⟨#[]⟩] 33) = w0 at *
 have HLT := hide (show ∀ i, EFoot e v ps i → i < w.heap.size from (uh HE).lt)
 generalize hob : w.heap.size = ob at *
 have HOB := hide hob
 clear hob
 have hsz0 : ob + 1 < w0.heap.size := (uh HR0).lt
 refine (uh HC w0 (uh HE0)).mono ?_
 rintro r w1 ⟨nv, v', ps', rfl, hE1, hx1, hn1, hk1, hf1, hd1⟩
 obtain ⟨na, ncap, hnv⟩ := nv_form hn1
 subst hnv
 unfold ansV
 have HR1 := hide ((uh HR0).keeps hk1 (fun h => by have := uh HLT _ h; omega))
 have HW := hide (show ∀ w9, Keeps (fun i => i = ob + 1) w1 w9 → StepPost w e v ps clock' xs' code nums (.returned (ansV code (.slice na nums.length ncap))) w9 from fun w9 hkf => step_wrap (uh HK0) (uh HOB) (uh HLT) hsz0 hE1 hx1 hn1 hk1 hf1 hd1 hkf)
 clear hE1 hx1 hn1 hk1 hf1 hd1
 have r0 : w1.cell? ⟨ob + 1, 0, none⟩ = some (.int .i64 0) := (uh HR1).cell rfl
 have r1 : w1.cell? ⟨ob + 1, 1, none⟩ = some (.slice none 0 0) := (uh HR1).cell rfl
 have r2 : w1.cell? ⟨ob + 1, 2, none⟩ = some (.string noBytes) := (uh HR1).cell rfl
 have rf := (uh HR1).frozen
 go_wp2
 have hbf := (((uh HR1).setCell 0 (.int .i64 code)).setCell 1 (.slice na nums.length ncap)).setCell 2 (.string noBytes)
 have HKF := hide ((((Keeps.refl (fun i => i = ob + 1) w1).setCell (p := ⟨ob + 1, 0, none⟩) (Or.inl rfl) (.int .i64 code)).setCell (p := ⟨ob + 1, 1, none⟩) (Or.inl rfl) (.slice na nums.length ncap)).setCell (p := ⟨ob + 1, 2, none⟩) (Or.inl rfl) (.string noBytes))
 have e9 : (((w1.setCell ⟨ob + 1, 0, none⟩ (.int .i64 code)).setCell ⟨ob + 1, 1, none⟩ (.slice na nums.length ncap)).setCell ⟨ob + 1, 2, none⟩ (.string ⟨#[]⟩)) = (((w1.setCell ⟨ob + 1, 0, none⟩ (.int .i64 code)).setCell ⟨ob + 1, 1, none⟩ (.slice na nums.length ncap)).setCell ⟨ob + 1, 2, none⟩ (.string noBytes)) := rfl
 first | rw [e9] | skip
 generalize (((w1.setCell ⟨ob + 1, 0, none⟩ (.int .i64 code)).setCell ⟨ob + 1, 1, none⟩ (.slice na nums.length ncap)).setCell ⟨ob + 1, 2, none⟩ (.string noBytes)) = w9 at *
 have q0 : w9.cell? ⟨ob + 1, 0, none⟩ = some (.int .i64 code) := hbf.cell rfl
 have q1 : w9.cell? ⟨ob + 1, 1, none⟩ = some (.slice na nums.length ncap) := hbf.cell rfl
 have q2 : w9.cell? ⟨ob + 1, 2, none⟩ = some (.string noBytes) := hbf.cell rfl
 refine bodyPost_ret (v := ansV code (.slice na nums.length ncap)) (by simp [results, Tryz.results35, go_sem, q0, q1, q2, ansV]) rfl ?_
 have hkf := uh HKF
 exact uh HW w9 hkf
theorem step_no (e : Nat) (v : Value) (clock : Int) (ps : List (SB × Ser)) (o : OpM) (w : World) (h : ERep w e v clock ps) (hkind : o.kind < 1 ∨ 7 < o.kind) :
  Calls Tryz.prog 35 #[.pointer (some ⟨e, 0, none⟩), o.val] w fun r w' => StepPost w e v ps clock (ps.map (·.2)) 1 [] r w' := by
 have h0 : o.cells[0]? = some (.int .i64 o.kind) := rfl
 have hn1 : (o.kind == 1) = false := by simp; omega
 have hn2 : (o.kind == 2) = false := by simp; omega
 have hn3 : (o.kind == 3) = false := by simp; omega
 have hn4 : (o.kind == 4) = false := by simp; omega
 have hn5 : (o.kind == 5) = false := by simp; omega
 have hn6 : (o.kind == 6) = false := by simp; omega
 have hn7 : (o.kind == 7) = false := by simp; omega
 have HE := hide h
 clear h hkind
 unfold OpM.val
 go_enter Tryz.func35, Tryz.ntmps35
 go_wp2_with fail
 have hk0 : Keeps (fun _ => False) w ((w.alloc (.cells o.cells.toArray 40)).alloc (.cells #[.int .i64 0, .slice none 0 0, .string ⟨#[]⟩] 33)) := ((Keeps.refl (fun _ => False) w).alloc _).alloc _
 have HO0 := hide (show Blk ((w.alloc (.cells o.cells.toArray 40)).alloc (.cells #[.int .i64 0, .slice none 0 0, .string ⟨#[]⟩] 33)) w.heap.size o.cells 40 from (Blk.new w o.cells 40).alloc _)
 have HR0 := hide (show Blk ((w.alloc (.cells o.cells.toArray 40)).alloc (.cells #[.int .i64 0, .slice none 0 0, .string ⟨#[]⟩] 33)) (w.heap.size + 1) [.int .i64 0, .slice none 0 0, .string noBytes] 33 from Blk.newAt (by simp) [_, _, _] 33)
 have HE0 := hide ((uh HE).still hk0)
 have HK0 := hide hk0
 clear hk0
 generalize (w.alloc (.cells o.cells.toArray 40)).alloc (.cells #[.int .i64 0, .slice none 0 0, .string ⟨#[]⟩] 33) = w0 at *
 have HLT := hide (show ∀ i, EFoot e v ps i → i < w.heap.size from (uh HE).lt)
 generalize hob : w.heap.size = ob at *
 have HOB := hide hob
 clear hob
 have hsz0 : ob + 1 < w0.heap.size := (uh HR0).lt
 refine (no_any 1 w0).mono ?_
 rintro r w1 ⟨rfl, hk1⟩
 unfold ansV
 have HR1 := hide ((uh HR0).keeps hk1 (fun h => h))
 have HK1 := hide ((uh HK0).then hk1)
 clear hk1
 have r0 : w1.cell? ⟨ob + 1, 0, none⟩ = some (.int .i64 0) := (uh HR1).cell rfl
 have r1 : w1.cell? ⟨ob + 1, 1, none⟩ = some (.slice none 0 0) := (uh HR1).cell rfl
 have r2 : w1.cell? ⟨ob + 1, 2, none⟩ = some (.string noBytes) := (uh HR1).cell rfl
 have rf := (uh HR1).frozen
 go_wp2
 have hbf := (((uh HR1).setCell 0 (.int .i64 1)).setCell 1 (.slice none 0 0)).setCell 2 (.string noBytes)
 have HKF := hide ((((Keeps.refl (fun i => i = ob + 1) w1).setCell (p := ⟨ob + 1, 0, none⟩) (Or.inl rfl) (.int .i64 1)).setCell (p := ⟨ob + 1, 1, none⟩) (Or.inl rfl) (.slice none 0 0)).setCell (p := ⟨ob + 1, 2, none⟩) (Or.inl rfl) (.string noBytes))
 have e9 : (((w1.setCell ⟨ob + 1, 0, none⟩ (.int .i64 1)).setCell ⟨ob + 1, 1, none⟩ (.slice none 0 0)).setCell ⟨ob + 1, 2, none⟩ (.string ⟨#[]⟩)) = (((w1.setCell ⟨ob + 1, 0, none⟩ (.int .i64 1)).setCell ⟨ob + 1, 1, none⟩ (.slice none 0 0)).setCell ⟨ob + 1, 2, none⟩ (.string noBytes)) := rfl
 first | rw [e9] | skip
 generalize (((w1.setCell ⟨ob + 1, 0, none⟩ (.int .i64 1)).setCell ⟨ob + 1, 1, none⟩ (.slice none 0 0)).setCell ⟨ob + 1, 2, none⟩ (.string noBytes)) = w9 at *
 have q0 : w9.cell? ⟨ob + 1, 0, none⟩ = some (.int .i64 1) := hbf.cell rfl
 have q1 : w9.cell? ⟨ob + 1, 1, none⟩ = some (.slice none 0 0) := hbf.cell rfl
 have q2 : w9.cell? ⟨ob + 1, 2, none⟩ = some (.string noBytes) := hbf.cell rfl
 refine bodyPost_ret (v := ansV 1 (.slice none 0 0)) (by simp [results, Tryz.results35, go_sem, q0, q1, q2, ansV]) rfl ?_
 have hkf := uh HKF
 have hob := uh HOB
 have hkk : Keeps (fun _ => False) w w9 := (uh HK1).trans hkf (fun i hi hlt => by omega)
 exact step_still (uh HE) hkk (World.ownsRow_nil _ _ _ _)
end Go.Proofs.YtahnliehdjncdaaGreatDoor
