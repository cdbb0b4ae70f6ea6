import Derived.Test.YtahnliehdjncdaaGreatDoorXBK
set_option maxRecDepth 100000
set_option maxHeartbeats 16000000
namespace Go.Proofs.YtahnliehdjncdaaGreatDoor
open Go.RowKit
attribute [local go_sem ↓] execOp_load38 execOp_load40
attribute [local go_sem] run_load38 run_load40 bigVal_drew hasBig_drew bigVal_ne hasBig_ne bigVal_alloc hasBig_alloc bigVal_new hasBig_newB
def AnsPost (w : World) (c : Int × List Int) (r : Ending) (w' : World) : Prop := ∃ nv, r = .returned (ansV c.1 nv) ∧ w'.ownsRow w.heap.size 3 1 nv c.2.length (ints c.2) ∧ Keeps (fun _ => False) w w'
theorem rstats_no (e : Nat) (v : Value) (clock ticks : Int) (ps : List (RB × RSer)) (o : OpM) (w : World) (h : RWRep w e v clock ticks ps) (hl : ps.length ≤ 1000) (hf : findRP ps o.id = none) :
  Calls Tryz.prog 54 #[.pointer (some ⟨e, 0, none⟩), o.val] w fun r w' => AnsPost w (2, []) r w' := by
 have h1 : o.cells[1]? = some (.int .i64 o.id) := rfl
 have HE := hide h
 clear h
 unfold OpM.val
 go_enter Tryz.func54, Tryz.ntmps54
 go_wp2_with fail
 have hk0 : Keeps (fun _ => False) w ((w.alloc (.cells o.cells.toArray 40)).alloc (.cells #[.int .i64 0, .slice none 0 0, .string ⟨#[]⟩] 33)) := ((Keeps.refl (fun _ => False) w).alloc _).alloc _
 have HR0 := hide (show Blk ((w.alloc (.cells o.cells.toArray 40)).alloc (.cells #[.int .i64 0, .slice none 0 0, .string ⟨#[]⟩] 33)) (w.heap.size + 1) [.int .i64 0, .slice none 0 0, .string noBytes] 33 from Blk.newAt (by simp) [_, _, _] 33)
 have HE0 := hide ((uh HE).still hk0)
 have HK0 := hide hk0
 clear hk0
 generalize (w.alloc (.cells o.cells.toArray 40)).alloc (.cells #[.int .i64 0, .slice none 0 0, .string ⟨#[]⟩] 33) = w0 at *
 generalize hob : w.heap.size = ob at *
 have HOB := hide hob
 clear hob
 refine (rfind_any e v clock ticks o.id ps w0 (uh HE0) hl).mono ?_
 rintro r w1 ⟨rfl, hw1⟩
 rw [hw1, hf]
 clear hw1 w1
 unfold rptrOf
 go_wp2_with fail
 refine (rno_any 2 w0).mono ?_
 rintro r w1 ⟨rfl, hk1⟩
 unfold ansV
 have HR1 := hide ((uh HR0).keeps hk1 (fun h => h))
 have HK1 := hide ((uh HK0).then hk1)
 clear hk1
 have r0 : w1.cell? ⟨ob + 1, 0, none⟩ = some (.int .i64 0) := (uh HR1).cell rfl
 have r1 : w1.cell? ⟨ob + 1, 1, none⟩ = some (.slice none 0 0) := (uh HR1).cell rfl
 have r2 : w1.cell? ⟨ob + 1, 2, none⟩ = some (.string noBytes) := (uh HR1).cell rfl
 have rf := (uh HR1).frozen
 go_wp2
 have hbf := (((uh HR1).setCell 0 (.int .i64 2)).setCell 1 (.slice none 0 0)).setCell 2 (.string noBytes)
 have HKF := hide ((((Keeps.refl (fun i => i = ob + 1) w1).setCell (p := ⟨ob + 1, 0, none⟩) (Or.inl rfl) (.int .i64 2)).setCell (p := ⟨ob + 1, 1, none⟩) (Or.inl rfl) (.slice none 0 0)).setCell (p := ⟨ob + 1, 2, none⟩) (Or.inl rfl) (.string noBytes))
 have e9 : (((w1.setCell ⟨ob + 1, 0, none⟩ (.int .i64 2)).setCell ⟨ob + 1, 1, none⟩ (.slice none 0 0)).setCell ⟨ob + 1, 2, none⟩ (.string ⟨#[]⟩)) = (((w1.setCell ⟨ob + 1, 0, none⟩ (.int .i64 2)).setCell ⟨ob + 1, 1, none⟩ (.slice none 0 0)).setCell ⟨ob + 1, 2, none⟩ (.string noBytes)) := rfl
 first | rw [e9] | skip
 generalize (((w1.setCell ⟨ob + 1, 0, none⟩ (.int .i64 2)).setCell ⟨ob + 1, 1, none⟩ (.slice none 0 0)).setCell ⟨ob + 1, 2, none⟩ (.string noBytes)) = w9 at *
 have q0 : w9.cell? ⟨ob + 1, 0, none⟩ = some (.int .i64 2) := hbf.cell rfl
 have q1 : w9.cell? ⟨ob + 1, 1, none⟩ = some (.slice none 0 0) := hbf.cell rfl
 have q2 : w9.cell? ⟨ob + 1, 2, none⟩ = some (.string noBytes) := hbf.cell rfl
 refine bodyPost_ret (v := ansV 2 (.slice none 0 0)) (by simp [results, Tryz.results54, go_sem, q0, q1, q2, ansV]) rfl ?_
 have hob := uh HOB
 exact ⟨_, rfl, World.ownsRow_nil _ _ _ _, (uh HK1).trans (uh HKF) (fun i hi hlt => by omega)⟩
theorem rcells_ref (b : RB) (y : RSer) (c : Nat) (h : c < y.ref.length) : (rCells b y)[23 + c]? = some (.int .i64 (refAt y.ref c)) := by
 have : (rCells b y)[23 + c]? = (y.ref.map (Value.int .i64 ·))[c]? := by rw [Nat.add_comm]; rfl
 rw [this, List.getElem?_map, List.getElem?_eq_getElem h]
 unfold refAt
 rw [List.getD_eq_getElem?_getD, List.getElem?_eq_getElem h]; rfl
theorem rstats_yes (n : Int) (e : Nat) (v : Value) (clock ticks : Int) (ps : List (RB × RSer)) (o : OpM) (w : World) (h : RWRep w e v clock ticks ps) (hi : RWInv n clock ticks (ps.map (·.2))) (hn : n < 1099511627776) (p : RB × RSer) (hf : findRP ps o.id = some p) :
  Calls Tryz.prog 54 #[.pointer (some ⟨e, 0, none⟩), o.val] w fun r w' => AnsPost w (0, (p.2.items.length : Int) :: ((p.2.items.length : Int) - (waitT p.2.items).length) :: toldL.map (refAt p.2.ref)) r w' := by
 have hmem : p ∈ ps := List.mem_of_find?_eq_some hf
 have HM := hide hmem
 have hip := hi.sers p.2 (List.mem_map_of_mem hmem)
 have hil := hip.items
 have hrl := hip.refl
 have hl : ps.length ≤ 1000 := by have := hi.six; rw [List.length_map] at this; omega
 have h1 : o.cells[1]? = some (.int .i64 o.id) := rfl
 have HE := hide h
 have HF := hide hf
 have hwl := wait_rel p.2.items
 clear h hip hmem hi hf
 unfold OpM.val
 go_enter Tryz.func54, Tryz.ntmps54
 go_wp2_with fail
 have hk0 : Keeps (fun _ => False) w ((w.alloc (.cells o.cells.toArray 40)).alloc (.cells #[.int .i64 0, .slice none 0 0, .string ⟨#[]⟩] 33)) := ((Keeps.refl (fun _ => False) w).alloc _).alloc _
 have HR0 := hide (show Blk ((w.alloc (.cells o.cells.toArray 40)).alloc (.cells #[.int .i64 0, .slice none 0 0, .string ⟨#[]⟩] 33)) (w.heap.size + 1) [.int .i64 0, .slice none 0 0, .string noBytes] 33 from Blk.newAt (by simp) [_, _, _] 33)
 have HE0 := hide ((uh HE).still hk0)
 have HK0 := hide hk0
 clear hk0
 generalize (w.alloc (.cells o.cells.toArray 40)).alloc (.cells #[.int .i64 0, .slice none 0 0, .string ⟨#[]⟩] 33) = w0 at *
 generalize hob : w.heap.size = ob at *
 have HOB := hide hob
 clear hob
 refine (rfind_any e v clock ticks o.id ps w0 (uh HE0) hl).mono ?_
 rintro r w1 ⟨rfl, hw1⟩
 rw [hw1, uh HF]
 clear hw1 w1
 unfold rptrOf
 have HP0 := hide ((uh HE0).reps p (uh HM))
 have hrf : ∀ c, c < 15 → w0.cell? ⟨p.1.s, 23 + c, none⟩ = some (.int .i64 (refAt p.2.ref c)) := fun c hc => (uh HP0).blk.cell (rcells_ref p.1 p.2 c (by omega))
 have f0 := hrf 0 (by omega)
 have f1 := hrf 1 (by omega)
 have f2 := hrf 2 (by omega)
 have f3 := hrf 3 (by omega)
 have f4 := hrf 4 (by omega)
 have f5 := hrf 5 (by omega)
 have f6 := hrf 6 (by omega)
 have f7 := hrf 7 (by omega)
 have f8 := hrf 8 (by omega)
 have f9 := hrf 9 (by omega)
 have f10 := hrf 10 (by omega)
 have f11 := hrf 11 (by omega)
 have f12 := hrf 12 (by omega)
 have f13 := hrf 13 (by omega)
 have f14 := hrf 14 (by omega)
 clear hrf hrl
 simp only [Nat.reduceAdd] at f0 f1 f2 f3 f4 f5 f6 f7 f8 f9 f10 f11 f12 f13 f14
 have hsl := (uh HP0).blk.lt
 go_wp2_with fail
 have hka : Keeps (fun _ => False) w0 (w0.alloc (.cells ((List.range 15).map fun c => Value.int .i64 (refAt p.2.ref c)).toArray 117)) := (Keeps.refl (fun _ => False) w0).alloc _
 have HA1 := hide (Blk.new w0 ((List.range 15).map fun c => Value.int .i64 (refAt p.2.ref c)) 117)
 have HR1 := hide ((uh HR0).keeps hka (fun h => h))
 have HP1 := hide ((uh HP0).still hka)
 have HK1 := hide ((uh HK0).then hka)
 have e1 : ((List.range 15).map fun c => Value.int .i64 (refAt p.2.ref c)).toArray = #[.int .i64 (refAt p.2.ref 0), .int .i64 (refAt p.2.ref 1), .int .i64 (refAt p.2.ref 2), .int .i64 (refAt p.2.ref 3), .int .i64 (refAt p.2.ref 4), .int .i64 (refAt p.2.ref 5), .int .i64 (refAt p.2.ref 6), .int .i64 (refAt p.2.ref 7), .int .i64 (refAt p.2.ref 8), .int .i64 (refAt p.2.ref 9), .int .i64 (refAt p.2.ref 10), .int .i64 (refAt p.2.ref 11), .int .i64 (refAt p.2.ref 12), .int .i64 (refAt p.2.ref 13), .int .i64 (refAt p.2.ref 14)] := rfl
 rw [e1] at HA1 HR1 HP1 HK1
 clear e1 hka f0 f1 f2 f3 f4 f5 f6 f7 f8 f9 f10 f11 f12 f13 f14
 generalize w0.alloc (.cells #[.int .i64 (refAt p.2.ref 0), .int .i64 (refAt p.2.ref 1), .int .i64 (refAt p.2.ref 2), .int .i64 (refAt p.2.ref 3), .int .i64 (refAt p.2.ref 4), .int .i64 (refAt p.2.ref 5), .int .i64 (refAt p.2.ref 6), .int .i64 (refAt p.2.ref 7), .int .i64 (refAt p.2.ref 8), .int .i64 (refAt p.2.ref 9), .int .i64 (refAt p.2.ref 10), .int .i64 (refAt p.2.ref 11), .int .i64 (refAt p.2.ref 12), .int .i64 (refAt p.2.ref 13), .int .i64 (refAt p.2.ref 14)] 117) = w1 at *
 generalize hab : w0.heap.size = ab at *
 refine (rwaiting_any p.1 p.2 w1 (uh HP1) (by omega)).mono ?_
 rintro r w2 ⟨rfl, hw2⟩
 rw [hw2]
 clear hw2 w2
 have g5 : w1.cell? ⟨ab, 5, none⟩ = some (.int .i64 (refAt p.2.ref 5)) := (uh HA1).cell rfl
 have g6 : w1.cell? ⟨ab, 6, none⟩ = some (.int .i64 (refAt p.2.ref 6)) := (uh HA1).cell rfl
 have g7 : w1.cell? ⟨ab, 7, none⟩ = some (.int .i64 (refAt p.2.ref 7)) := (uh HA1).cell rfl
 have g8 : w1.cell? ⟨ab, 8, none⟩ = some (.int .i64 (refAt p.2.ref 8)) := (uh HA1).cell rfl
 have g9 : w1.cell? ⟨ab, 9, none⟩ = some (.int .i64 (refAt p.2.ref 9)) := (uh HA1).cell rfl
 have g10 : w1.cell? ⟨ab, 10, none⟩ = some (.int .i64 (refAt p.2.ref 10)) := (uh HA1).cell rfl
 have g11 : w1.cell? ⟨ab, 11, none⟩ = some (.int .i64 (refAt p.2.ref 11)) := (uh HA1).cell rfl
 obtain ⟨ia, icap, hiv, -, -, -⟩ := row_view (uh HP1).its
 have s21 : w1.cell? ⟨p.1.s, 21, none⟩ = some (.slice ia p.2.items.length icap) := by rw [← hiv]; exact (uh HP1).blk.cell rfl
 have hobl : ob + 1 < w1.heap.size := (uh HR1).lt
 have hszo : ob ≤ w1.heap.size := by omega
 clear hiv
 obtain ⟨i0, hi0, hz0, hz1, hz2⟩ := info_parts info3
 generalize hL : p.2.items.length = L at *
 generalize hW : (waitT p.2.items).length = W at *
 have HL := hide hL
 have HW := hide hW
 have HAB := hide hab
 clear hL hW hab
 have hwr : IntKind.i64.wrap ((L : Int) - (W : Int)) = (L : Int) - (W : Int) := wrap_in (by omega) (by omega)
 go_wp2_with fail
 go_region
 have HO2 := hide (show (w1.alloc (.cells #[.int .i64 (L : Int), .int .i64 ((L : Int) - (W : Int))] 3)).drew.ownsRow ob 3 1 (.slice (some ⟨w1.heap.size, 0, none⟩) 2 2) 2 [.int .i64 (L : Int), .int .i64 ((L : Int) - (W : Int))] from
    ⟨rfl, .inr ⟨w1.heap.size, 2, #[.int .i64 (L : Int), .int .i64 ((L : Int) - (W : Int))], rfl, hszo, (Blk.new w1 [.int .i64 (L : Int), .int .i64 ((L : Int) - (W : Int))] 3).drew, by omega, by unfold maxLen; omega, rfl, rfl⟩⟩)
 have hkA : Keeps (fun _ => False) w1 (w1.alloc (.cells #[.int .i64 (L : Int), .int .i64 ((L : Int) - (W : Int))] 3)).drew := ((Keeps.refl (fun _ => False) w1).alloc _).drew
 have hszA : (w1.alloc (.cells #[.int .i64 (L : Int), .int .i64 ((L : Int) - (W : Int))] 3)).drew.heap.size = w1.heap.size + 1 := by simp
 have HR2 := hide ((uh HR1).keeps hkA (fun h => h))
 have HA2 := hide ((uh HA1).keeps hkA (fun h => h))
 have HK2 := hide ((uh HK1).then hkA)
 clear hkA g5 g6 g7 g8 g9 g10 g11 s21 HR1 HA1
 generalize (w1.alloc (.cells #[.int .i64 (L : Int), .int .i64 ((L : Int) - (W : Int))] 3)).drew = w2 at *
 have g5 : w2.cell? ⟨ab, 5, none⟩ = some (.int .i64 (refAt p.2.ref 5)) := (uh HA2).cell rfl
 have g6 : w2.cell? ⟨ab, 6, none⟩ = some (.int .i64 (refAt p.2.ref 6)) := (uh HA2).cell rfl
 have g7 : w2.cell? ⟨ab, 7, none⟩ = some (.int .i64 (refAt p.2.ref 7)) := (uh HA2).cell rfl
 have g8 : w2.cell? ⟨ab, 8, none⟩ = some (.int .i64 (refAt p.2.ref 8)) := (uh HA2).cell rfl
 have g9 : w2.cell? ⟨ab, 9, none⟩ = some (.int .i64 (refAt p.2.ref 9)) := (uh HA2).cell rfl
 have g10 : w2.cell? ⟨ab, 10, none⟩ = some (.int .i64 (refAt p.2.ref 10)) := (uh HA2).cell rfl
 have g11 : w2.cell? ⟨ab, 11, none⟩ = some (.int .i64 (refAt p.2.ref 11)) := (uh HA2).cell rfl
 generalize hs1 : w1.heap.size = s1 at *
 have HS1 := hide hs1
 clear hs1
 generalize hLW : (L : Int) - (W : Int) = LW at *
 have HLW := hide hLW
 clear hLW
 have HB := hide (heap_alloc_new w2)
 have HSZ := hide hszA
 have hsz2 : ob + 1 < w2.heap.size := by omega
 have hs1b : ob + 1 < s1 := by omega
 clear hszA
 go_wp2_with (at_builtin; refine wpList_append_lies _ rfl _ _ _ rfl ob 3 i0 _ 1 8 Tryz.underlying31 hi0 hz0 hz1 hz2 rfl (by omega) (.slice (some ⟨s1, 0, none⟩) 2 2) 2 [.int .i64 (L : Int), .int .i64 LW] rfl ((uh HO2).alloc _) ⟨w2.heap.size, 0, none⟩ 7 7 [.int .i64 (refAt p.2.ref 5), .int .i64 (refAt p.2.ref 6), .int .i64 (refAt p.2.ref 7), .int .i64 (refAt p.2.ref 8), .int .i64 (refAt p.2.ref 10), .int .i64 (refAt p.2.ref 9), .int .i64 (refAt p.2.ref 11)] rfl rfl (World.news_of_block (cs := #[.int .i64 (refAt p.2.ref 5), .int .i64 (refAt p.2.ref 6), .int .i64 (refAt p.2.ref 7), .int .i64 (refAt p.2.ref 8), .int .i64 (refAt p.2.ref 10), .int .i64 (refAt p.2.ref 9), .int .i64 (refAt p.2.ref 11)]) (t := 3) (fr := (0, 0)) (uh HB _)) (by simp [Value.oneCell']) (by omega) (by unfold maxLen; omega) (by omega) (by simp; omega) (w2.heap.size + 1) (by simp) ?_; intro gg cap' w3 hown1 hgrow hat hlt3; have HOW := hide hown1; have HK3 := hide ((((Keeps.refl (fun i => i = s1) w2).alloc _).grown hgrow (fun k hk => .inl (by simpa [Value.ownBlock] using hk.symm)))); have HGG := hide (show gg = s1 ∨ gg = w2.heap.size + 1 by rcases hat with h | h; left; simpa [Value.ownBlock] using h.symm; right; exact h); have HR3 := hide ((uh HR2).keeps (uh HK3) (fun h => by omega)); clear hown1 hgrow hat; have r0 : w3.cell? ⟨ob + 1, 0, none⟩ = some (.int .i64 0) := (uh HR3).cell rfl; have r1 : w3.cell? ⟨ob + 1, 1, none⟩ = some (.slice none 0 0) := (uh HR3).cell rfl; have r2 : w3.cell? ⟨ob + 1, 2, none⟩ = some (.string noBytes) := (uh HR3).cell rfl; have rf := (uh HR3).frozen)
 have hbf := (((uh HR3).setCell 0 (.int .i64 0)).setCell 1 (.slice (some ⟨gg, 0, none⟩) (2 + 7) cap')).setCell 2 (.string noBytes)
 have HKF := hide ((((Keeps.refl (fun i => i = ob + 1) w3).setCell (p := ⟨ob + 1, 0, none⟩) (Or.inl rfl) (.int .i64 0)).setCell (p := ⟨ob + 1, 1, none⟩) (Or.inl rfl) (.slice (some ⟨gg, 0, none⟩) (2 + 7) cap')).setCell (p := ⟨ob + 1, 2, none⟩) (Or.inl rfl) (.string noBytes))
 have e9 : (((w3.setCell ⟨ob + 1, 0, none⟩ (.int .i64 0)).setCell ⟨ob + 1, 1, none⟩ (.slice (some ⟨gg, 0, none⟩) 9 cap')).setCell ⟨ob + 1, 2, none⟩ (.string ⟨#[]⟩)) = (((w3.setCell ⟨ob + 1, 0, none⟩ (.int .i64 0)).setCell ⟨ob + 1, 1, none⟩ (.slice (some ⟨gg, 0, none⟩) (2 + 7) cap')).setCell ⟨ob + 1, 2, none⟩ (.string noBytes)) := rfl
 first | rw [e9] | skip
 generalize (((w3.setCell ⟨ob + 1, 0, none⟩ (.int .i64 0)).setCell ⟨ob + 1, 1, none⟩ (.slice (some ⟨gg, 0, none⟩) (2 + 7) cap')).setCell ⟨ob + 1, 2, none⟩ (.string noBytes)) = w9 at *
 have q0 : w9.cell? ⟨ob + 1, 0, none⟩ = some (.int .i64 0) := hbf.cell rfl
 have q1 : w9.cell? ⟨ob + 1, 1, none⟩ = some (.slice (some ⟨gg, 0, none⟩) (2 + 7) cap') := hbf.cell rfl
 have q2 : w9.cell? ⟨ob + 1, 2, none⟩ = some (.string noBytes) := hbf.cell rfl
 refine bodyPost_ret (v := ansV 0 (.slice (some ⟨gg, 0, none⟩) 9 cap')) (by simp [results, Tryz.results54, go_sem, q0, q1, q2, ansV]) rfl ?_
 have hob := uh HOB
 have hsz := uh HSZ
 have hs1 := uh HS1
 have hgg := uh HGG
 refine ⟨_, rfl, ?_, ?_⟩
 ·have h3 := owns_keeps (uh HOW) (uh HKF) (fun i hi h => by
     have : gg = i := by simpa [Value.ownBlock] using hi
     omega)
  rw [uh HL, uh HW, uh HLW, hob]
  exact h3
 ·have h2 : Keeps (fun i => i = s1) w w3 := ((uh HK2).mono (M' := fun i => i = s1) (fun _ _ h => h.elim)).then (uh HK3)
  refine (h2.trans (M' := fun i => i = ob + 1) (uh HKF) (fun i hi hlt => by omega)).mono (fun i hi h => by omega)
end Go.Proofs.YtahnliehdjncdaaGreatDoor
namespace Go.Proofs.YtahnliehdjncdaaGreatDoor
open Go.RowKit
attribute [local go_sem ↓] execOp_load38 execOp_load40
attribute [local go_sem] run_load38 run_load40 bigVal_drew hasBig_drew bigVal_ne hasBig_ne bigVal_alloc hasBig_alloc bigVal_new hasBig_newB
theorem decGo_cons (c : Cfg) (l : List RIt) (k : Nat) (hi lo : Int) (hk : k < l.length) : decGo c (l.drop k) hi lo = (if 0 < (rAt l k).tick then decGo c (l.drop (k + 1)) (hi + optInt (weightO c (rAt l k).t) / 2305843009213693952 + (lo + optInt (weightO c (rAt l k).t) % 2305843009213693952) / 2305843009213693952) ((lo + optInt (weightO c (rAt l k).t) % 2305843009213693952) % 2305843009213693952) else decGo c (l.drop (k + 1)) hi lo) := by
 rw [List.drop_eq_getElem_cons hk, decGo, rAt_get _ _ hk]
theorem rdecayed_any (b : RB) (y : RSer) (mark : Int) (w : World) (h : RRep w b y) (hc : y.c.weighs) (hl : y.items.length ≤ 1099511627776) (ht : ∀ z, z ∈ y.items → 0 ≤ z.t ∧ z.t ≤ 4611686018427387904) (m0 : -100 ≤ mark) (m1 : mark ≤ 4611686018427387904) :
  Calls Tryz.prog 81 #[.pointer (some ⟨b.s, 0, none⟩), .int .i64 mark] w fun r w' => ∃ g, r = .returned (.slice (some ⟨g, 0, none⟩) 3 3) ∧ w.heap.size ≤ g ∧ Blk w' g [.int .i64 (decGo y.c y.items 0 0).1, .int .i64 (decGo y.c y.items 0 0).2, .int .i64 (optInt (weightO y.c mark))] 3 ∧ Keeps (fun _ => False) w w' := by
 obtain ⟨a, cap, hv, -, ha, hcells⟩ := row_view h.its
 have HR := hide h
 have HC := hide hcells
 have HA := hide ha
 have HT := hide ht
 have HCW := hide hc
 have HV := hide hv
 clear h hcells ha ht hc hv
 generalize hn : y.items.length = n at *
 have HN := hide hn
 clear hn
 go_enter Tryz.func81, Tryz.ntmps81
 go_wp2_with fail
 go_loopw [5, 6, 7] (fun h l i wr => ∃ (k : Nat) (hi lo : Int), k ≤ n ∧ h = .int .i64 hi ∧ l = .int .i64 lo ∧ i = .int .i64 k ∧ 0 ≤ hi ∧ hi ≤ 2 * k ∧ 0 ≤ lo ∧ lo < 2305843009213693952 ∧ Hid (Keeps (fun _ => False) w wr) ∧ Hid (decGo y.c y.items 0 0 = decGo y.c (y.items.drop k) hi lo)) (fun _ _ i _ => n - (intOf i).toNat)
 case atStart => exact ⟨0, 0, 0, by omega, rfl, rfl, rfl, by omega, by omega, by omega, by omega, Keeps.refl _ _, rfl⟩
 case round =>
  obtain ⟨k, hi, lo, hk, rfl, rfl, rfl, hi0, hi1, lo0, lo1, HKr, HE⟩ := hrel
  have HRr := hide ((uh HR).still (uh HKr))
  have s21 : wr.cell? ⟨b.s, 21, none⟩ = some (.slice a n cap) := by
   have := (uh HRr).blk.cell (i := 21) (v := b.iv) rfl
   rw [uh HV] at this; exact this
  by_cases hlt : k < n
  ·have hkl : k < y.items.length := by rw [uh HN]; exact hlt
   obtain ⟨g, hg⟩ := uh HA (by omega)
   have z0 := (uh HKr).cell ((uh HC g hg).1 (k * 5 + 0) _ (by rw [iFlat_get _ _ _ hkl (by omega)]; rfl)) (fun h => h)
   have z4 := (uh HKr).cell ((uh HC g hg).1 (k * 5 + 4) _ (by rw [iFlat_get _ _ _ hkl (by omega)]; rfl)) (fun h => h)
   rw [Nat.add_zero] at z0
   subst hg
   have htm := uh HT (rAt y.items k) (by rw [rAt_get _ _ hkl]; exact List.getElem_mem _)
   obtain ⟨tm0, tm1⟩ := htm
   have HD := hide (decGo_cons y.c y.items k hi lo hkl)
   have hwb := weight_bd y.c (rAt y.items k).t
   generalize rAt y.items k = z at *
   have hk0 : (0 : Int) ≤ (k : Int) := by omega
   have hkn : (k : Int) < (n : Int) := by omega
   clear hkl
   by_cases htk : 0 < z.tick
   ·have HD' := hide (by have := uh HD; rw [if_pos htk] at this; exact (uh HE).trans this)
    obtain ⟨bg1, bg2⟩ := bigVal_ser (uh HRr).blk
    have hbs : b.s < wr.heap.size := (uh HRr).blk.lt
    clear HD HE
    go_wp2_with fail
    go_region_held3 (fun w' => bigVal w' b.s 1 20 = .agg y.c.cells.toArray ∧ hasBig w' b.s 1 20 = true ∧ w'.cell? ⟨b.s, 21, none⟩ = some (.slice (some ⟨g, 0, none⟩) n cap) ∧ w'.cell? ⟨g, k * 5, none⟩ = some (.int .i64 z.t))
     (first | (simp [*, bigVal_drew, hasBig_drew]; done) | (go_split_ands; exact ⟨(bigVal_keeps hk1 (fun h => h) (by exact hbs)).1.trans (by assumption), (bigVal_keeps hk1 (fun h => h) (by exact hbs)).2.trans (by assumption), hk1.cell (by assumption) (fun h => h), hk1.cell (by assumption) (fun h => h)⟩))
     (first | (go_at_call 109; refine (rweight_any y.c z.t _ (uh HCW) (by omega) tm1).mono ?_; rintro r w1 ⟨rfl, hk1⟩))
    have HK1 := hide ((uh HKr).then (((Keeps.refl (fun _ => False) wr).drew).then hk1))
    clear hk1 bg1 bg2 s21 z0 z4 hbs
    obtain ⟨wt0, wt1⟩ := hwb
    generalize optInt (weightO y.c z.t) = wt at *
    have hq0 : 0 ≤ wt / 2305843009213693952 := by omega
    have hq1 : wt / 2305843009213693952 ≤ 1 := by omega
    have hr0 : 0 ≤ wt % 2305843009213693952 := by omega
    have hr1 : wt % 2305843009213693952 < 2305843009213693952 := by omega
    have hs0 : 0 ≤ (lo + wt % 2305843009213693952) / 2305843009213693952 := by omega
    have hs1 : (lo + wt % 2305843009213693952) / 2305843009213693952 ≤ 1 := by omega
    go_wp2
    go_roundw
    case rel => exact ⟨k + 1, _, _, by omega, rfl, rfl, by go_num, by omega, by omega, by omega, by omega, HK1, uh HD'⟩
    case measure => simp [intOf]; omega
   ·have HD' := hide (by have := uh HD; rw [if_neg htk] at this; exact (uh HE).trans this)
    clear HD HE hwb
    go_wp2
    go_roundw
    case rel => exact ⟨k + 1, hi, lo, by omega, rfl, rfl, by go_num, by omega, by omega, by omega, by omega, HKr, uh HD'⟩
    case measure => simp [intOf]; omega
  ·have hkn : k = n := by omega
   subst hkn
   have HE' := hide (show decGo y.c y.items 0 0 = (hi, lo) by rw [uh HE, List.drop_eq_nil_of_le (by rw [uh HN]; exact Nat.le_refl _)]; rfl)
   obtain ⟨bg1, bg2⟩ := bigVal_ser (uh HRr).blk
   go_wp2_with fail
   refine (rweight_any y.c mark wr (uh HCW) m0 m1).mono ?_
   rintro r w1 ⟨rfl, hk1⟩
   have HK1 := hide ((uh HKr).then hk1)
   clear hk1 bg1 bg2 s21
   go_wp2
   go_ret
   rw [uh HE']
   exact ⟨w1.heap.size, rfl, (uh HK1).size, Blk.new w1 [.int .i64 hi, .int .i64 lo, .int .i64 (optInt (weightO y.c mark))] 3, (uh HK1).alloc _⟩
end Go.Proofs.YtahnliehdjncdaaGreatDoor
