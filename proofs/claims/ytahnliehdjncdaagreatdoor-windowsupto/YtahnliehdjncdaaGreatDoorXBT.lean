import Derived.Test.YtahnliehdjncdaaGreatDoorXBS
set_option maxRecDepth 100000
set_option maxHeartbeats 16000000
namespace Go.Proofs.YtahnliehdjncdaaGreatDoor
open Go.RowKit
attribute [local go_sem ↓] execOp_load38 execOp_load40 execOp_store40 execOp_bs22 execOp_build40 execOp_store38
attribute [local go_sem] run_load38 run_load40 bigVal_drew hasBig_drew bigVal_ne hasBig_ne bigVal_alloc hasBig_alloc run_bs1
attribute [local go_sem ↓ 2000] execOp_appS
attribute [local go_sem ↓] Go.wp_at_zero Go.wp_at_succ
def qOp (id a : Int) : OpM := ⟨4, id, a, 0, 0, cfg0, noBytes⟩
theorem run_q40 (id a : Int) (w : World) : (buildBig 40 #[(0, .int .i64 4), (1, .int .i64 id), (2, .int .i64 a)]).run Tryz.prog w = .ok (.value (.agg (qOp id a).cells.toArray)) w := by kernel_rfl
attribute [local go_sem] run_q40
theorem run_bsq (id a : Int) (w : World) : (bsBig 22 1 #[(0, .agg #[.int .i64 4, .int .i64 id, .int .i64 a, .int .i64 0, .int .i64 0, .int .i64 0, .int .i64 0, .int .i64 0, .int .i64 0, .int .i64 0, .int .i64 0, .int .i64 0, .int .i64 0, .int .i64 0, .int .i64 0, .int .i64 0, .int .i64 0, .int .i64 0, .int .i64 0, .int .i64 0, .int .i64 0, .int .i64 0, .int .i64 0, .int .i64 0, .int .i64 0, .string ⟨#[]⟩])]).run Tryz.prog w = .ok (.value (.slice (some ⟨w.heap.size, 0, none⟩) 1 1)) (w.alloc (.cells #[.int .i64 4, .int .i64 id, .int .i64 a, .int .i64 0, .int .i64 0, .int .i64 0, .int .i64 0, .int .i64 0, .int .i64 0, .int .i64 0, .int .i64 0, .int .i64 0, .int .i64 0, .int .i64 0, .int .i64 0, .int .i64 0, .int .i64 0, .int .i64 0, .int .i64 0, .int .i64 0, .int .i64 0, .int .i64 0, .int .i64 0, .int .i64 0, .int .i64 0, .string ⟨#[]⟩] 40)) := by kernel_rfl
attribute [local go_sem] run_bsq
theorem codes_at {w : World} {base g n cap : Nat} {l : List Ans} {t : List OpM} (h : ARep w base (.slice (some ⟨g, 0, none⟩) n cap) l) (hm : l.map (fun x => (x.code, x.nums)) = runM ws0 t) : CodesAt w g (codesOf t) := by
 intro i hi
 have hl : l.length = t.length := by have := congrArg List.length hm; rwa [List.length_map, runM_length] at this
 rw [codesOf_length] at hi
 obtain ⟨x, hx⟩ : ∃ x, l[i]? = some x := ⟨l[i]'(by omega), List.getElem?_eq_getElem _⟩
 obtain ⟨g', e, a0, _, _⟩ := ans_cells h i x hx
 have e1 : some (x.code, x.nums) = (runM ws0 t)[i]? := by rw [← hm, List.getElem?_map, hx]; rfl
 have e2 : codeAt (codesOf t) i = x.code := by
  unfold codeAt codesOf
  rw [List.getD_eq_getElem?_getD, List.getElem?_map, ← e1]
  rfl
 rw [e2]
 injection e with e3
 injection e3 with e3
 rw [e3]
 exact a0
end Go.Proofs.YtahnliehdjncdaaGreatDoor
