import Derived.Test.YtahnliehdjncdabGreatDoorXBP
import Derived.Test.YtahnliehdjncdabGreatDoorXBQ
set_option maxRecDepth 100000
set_option maxHeartbeats 16000000
namespace Go.Proofs.YtahnliehdjncdabGreatDoor
section
open Go.ChangeShapes Go.WideShapes Go.ChangeAt Go.RowKit Go.Deep
theorem qL2(os:Os): laidMet Tryz.prog Rows.smallRow.laid ((qJ8 os).forCall (λ_ _=>0) ⟨#[],#[.int .i64 0,.int .i64 0,.slice none 0 0],[]⟩).memory :=
 laidMet_of_run' 8 (by kernel_rfl) (by kernel_rfl)
theorem qRj(os:Os){H:Type}(enc:TypeId×Value->H): ∃places,DataW.whole enc Tryz.prog ((qJ8 os).forCall (λ_ _=>0) ⟨#[],#[.int .i64 0,.int .i64 0,.slice none 0 0],[]⟩).memory Tryz.f5.params.toList Rows.smallSpec.vars false #[Value.int IntKind.i64 0,Value.int IntKind.i64 0,Value.slice none 0 0].toList 8=some ([.lit (.int .i64 0),.lit (.int .i64 0),.nil],[],places) :=
 ⟨[],by kernel_rfl⟩
theorem qQb(os:Os)(started:os.Started)(H:Type)(enc:TypeId×Value->H)(F:Stop.Interp):
  ReturnsInHanded {} Tryz.checked os 5 .any ((OpenSpec.ofChange Rows.smallSpec).preRow enc Tryz.prog Tryz.f5 Rows.smallRow.domain false Rows.smallRow.laid) (((OpenSpec.ofChange Rows.smallSpec).at F).post enc Tryz.prog Tryz.f5 false true false false):=by
 obtain⟨places,hx⟩:=qRj os enc
 refine returnsInHanded_of_row (C:=Tryz.checked) (s:=OpenSpec.ofChange Rows.smallSpec) Tryz.own started (by kernel_rfl) Tryz.func5
  (witness_row_at (enc:=enc) (C:=Tryz.checked) false (qJ8 os) #[.int .i64 0,.int .i64 0,.slice none 0 0] rfl (by kernel_rfl) (by kernel_rfl) (by kernel_rfl)
     (OpenSpec.preRow_of_cond 8 hx (by kernel_rfl) (λk hk=>by cases hk) (by kernel_rfl) (qL2 os))) ?_
 intro W base args ds gs before hval0 hW _ _ hsz0 hL _ _
 have hsz:(DataW.weightsEach Tryz.prog (Tryz.f5.params.toList++Rows.smallSpec.plain.varTypes Tryz.prog) (ds++gs)).all (·<=reachBytes)=true:=hsz0
 clear hsz0
 have hval:∀(j:Nat) t v,Tryz.f5.params[j]?=some t->args[j]?=some v->Value.okWide Tryz.prog W .any base t v:=hval0
 have hW':=hW
 obtain⟨p,q,hA0,hV,rfl,_,_⟩:=hW
 have hA:DataW.TrodAll enc Tryz.prog W 0 (λ_=>true) true Tryz.f5.params.toList args.toList ds p:=hA0
 rw[Tryz.params5]at hA hval hsz
 obtain⟨v0,v1,v2,d0,d1,d2,p0,p1,p2,rfl,rfl,rfl,h0,h1,h2⟩:=trodAll_three hA
 obtain⟨rfl,rfl⟩:=trodVars_none hV
 obtain⟨m0,rfl,rfl,rfl,wm0⟩:=open_int Tryz.underlying3 (hval 0 3 v0 rfl rfl) h0
 obtain⟨m1,rfl,rfl,rfl,wm1⟩:=open_int Tryz.underlying3 (hval 1 3 v1 rfl rfl) h1
 obtain⟨a2,len2,cap2,rfl⟩:=okWide_slice Tryz.underlying36 (hval 2 36 v2 rfl rfl)
 have h2k:=h2
 obtain⟨fuel2,hf2⟩:=h2
 clear hA0 hval0
 simp only[List.append_nil,List.nil_append]at hW'
 have hlt2:∀x∈p2,x.block<W.heap.size:=λx hx=>by simpa using hW'.lt x hx
 obtain⟨q0,q1⟩:=qK9 wm0
 obtain⟨r0,r1⟩:=qK9 wm1
 obtain⟨l,hl⟩:=qYm hf2 hlt2 (λ_ elems spare he hle=>by
    subst he
    have:=sized_slice hsz (j:=2) (t:=36) (e:=3) rfl rfl Tryz.underlying36
    rw[zD1]at this
    simp only[reachBytes]at this
    omega)
 refine(qWe m0 m1 (.slice a2 len2 cap2) l W hl (zEf hL) q0 q1 r0 r1).mono ?_
 rintro e W' ⟨rfl,hk⟩
 have hb:=hk.below
 have hargs2:DataW.Trod enc Tryz.prog W' 0 (λb=>decide (b<W.heap.size)) true 36 (.slice a2 len2 cap2) d2 p2 :=
  Below.trod Tryz.laidOut (by kernel_rfl) (of_decide_eq_true (by kernel_rfl)) h2k hb hlt2
 exact⟨_,rfl,_,_,_,[],_,[],hW',trodAll_mk1 (shut_bool Tryz.underlying4 _),trodAll_mk3 (shut_int Tryz.underlying3 wm0) (shut_int Tryz.underlying3 wm1) hargs2,rfl,hb.frame _,λh=>by cases h⟩
theorem qUy: Rows.SmallSaid :=
 OpenClaim.holds_of_cond 5 Tryz.f5 rfl rfl rfl rfl rfl rfl rfl ⟨rfl,rfl,rfl,rfl,rfl⟩ rfl rfl rfl rfl rfl (by kernel_rfl) Tryz.func5 (by kernel_rfl)
  (of_decide_eq_true (by kernel_rfl)) (by unfold Func.isWrapper;first | (rw[if_pos (by decide +kernel)];kernel_rfl) | (rw[if_neg (by decide +kernel)];exact⟨rfl,rfl⟩))
  (λos started H enc _ F=>by rw[OpenClaim.pre_eq_preRow];exact qQb os started H enc F)
theorem qRc(f:FuncId)(fn:Func)(hf:Tryz.pinned.checked.prog.funcNamed "sketch/sketchkeep.Small"=some f)(hfn:Tryz.pinned.checked.prog.funcs[f]?=some fn):
  false=Tryz.pinned.checked.prog.looks []/\∀(j:Nat) t,fn.params[j]?=some t->Tryz.pinned.checked.prog.wantsStandIn t=false:=by
 obtain rfl:f=5:=Option.some.inj ((show Tryz.prog.funcNamed "sketch/sketchkeep.Small"=some 5 by kernel_rfl).symm.trans hf) |>.symm
 obtain rfl:fn=Tryz.f5:=(Option.some.inj (Tryz.func5.symm.trans hfn)).symm
 refine⟨by kernel_rfl,λj t ht=>?_⟩
 rw[Tryz.params5]at ht
 have hm:t=3\/t=36:=by simpa using Array.mem_of_getElem? ht
 rcases hm with rfl | rfl
 ·exact(show Tryz.prog.wantsStandIn 3=false by kernel_rfl)
 ·exact(show Tryz.prog.wantsStandIn 36=false by kernel_rfl)
theorem small_card: Rows.SmallCardSaid :=
 Claim7.holds_tied_plain_at .later [] _ _ _ _ qUy (λ_ h=>by cases h) (by kernel_rfl) (λ_ h=>by cases h) small_row_tie rfl ⟨rfl,rfl⟩ (by kernel_rfl) rfl qRc (by kernel_rfl)
end
end Go.Proofs.YtahnliehdjncdabGreatDoor
