import Derived.Test.YtahnliehdjncdaaGreatDoorXBW
import Derived.Test.YtahnliehdjncdaaGreatDoorXBL
set_option maxRecDepth 100000
set_option maxHeartbeats 16000000
namespace Go.Proofs.YtahnliehdjncdaaGreatDoor
section
open Go.ChangeShapes Go.WideShapes Go.ChangeAt Go.RowKit Go.Deep
theorem qKm(os:Os): laidMet Tryz.prog Rows.prefixRow.laid ((qKf os).forCall (λ_ _=>0) ⟨#[],#[.slice none 0 0,.int .i64 0],[]⟩).memory :=
 laidMet_of_run' 8 (by kernel_rfl) (by kernel_rfl)
theorem qPq(os:Os){H:Type}(enc:TypeId×Value->H): ∃places,DataW.whole enc Tryz.prog ((qKf os).forCall (λ_ _=>0) ⟨#[],#[.slice none 0 0,.int .i64 0],[]⟩).memory Tryz.f5.params.toList Rows.prefixSpec.vars false #[Value.slice none 0 0,Value.int IntKind.i64 0].toList 8=some ([.nil,.lit (.int .i64 0)],[],places) :=
 ⟨[],by kernel_rfl⟩
theorem qMv(os:Os)(started:os.Started)(H:Type)(enc:TypeId×Value->H)(F:Stop.Interp):
  ReturnsInHanded {} Tryz.checked os 5 .any ((OpenSpec.ofChange Rows.prefixSpec).preRow enc Tryz.prog Tryz.f5 Rows.prefixRow.domain false Rows.prefixRow.laid) (((OpenSpec.ofChange Rows.prefixSpec).at F).post enc Tryz.prog Tryz.f5 false true false false):=by
 obtain⟨places,hx⟩:=qPq os enc
 refine returnsInHanded_of_row (C:=Tryz.checked) (s:=OpenSpec.ofChange Rows.prefixSpec) Tryz.own started (by kernel_rfl) Tryz.func5
  (witness_row_at (enc:=enc) (C:=Tryz.checked) false (qKf os) #[.slice none 0 0,.int .i64 0] rfl (by kernel_rfl) (by kernel_rfl) (by kernel_rfl)
     (OpenSpec.preRow_of_cond 8 hx (by kernel_rfl) (λk hk=>by cases hk) (by kernel_rfl) (qKm os))) ?_
 intro W base args ds gs before hval0 hW _ _ hsz0 hL _ _
 have hsz:(DataW.weightsEach Tryz.prog (Tryz.f5.params.toList++Rows.prefixSpec.plain.varTypes Tryz.prog) (ds++gs)).all (·<=reachBytes)=true:=hsz0
 clear hsz0
 have hval:∀(j:Nat) t v,Tryz.f5.params[j]?=some t->args[j]?=some v->Value.okWide Tryz.prog W .any base t v:=hval0
 have hW':=hW
 obtain⟨p,q,hA0,hV,rfl,_,_⟩:=hW
 have hA:DataW.TrodAll enc Tryz.prog W 0 (λ_=>true) true Tryz.f5.params.toList args.toList ds p:=hA0
 rw[Tryz.params5]at hA hval hsz
 obtain⟨v0,v1,d0,d1,p0,p1,rfl,rfl,rfl,h0,h1⟩:=trodAll_two hA
 obtain⟨rfl,rfl⟩:=trodVars_none hV
 obtain⟨m,rfl,rfl,rfl,wm⟩:=open_int Tryz.underlying3 (hval 1 3 v1 rfl rfl) h1
 obtain⟨a0,len,cap,rfl⟩:=okWide_slice Tryz.underlying22 (hval 0 22 v0 rfl rfl)
 have h0k:=h0
 obtain⟨fuel,hf⟩:=h0
 clear hA0 hval0
 simp only[List.append_nil]at hW'
 have hlt:∀x∈p0,x.block<W.heap.size:=λx hx=>by simpa using hW'.lt x hx
 obtain⟨m0,m1⟩:=qXh wm
 obtain⟨ops,hsc,hol,hd,hbz⟩:=qPo hf hlt
 have hlen:ops.length<=651562446088:=by
  by_cases hl0:len=0
  ·omega
  ·obtain⟨elems,spare,rfl,hle⟩:=hd hl0
   have:=sized_slice hsz (j:=0) (t:=22) (e:=40) rfl rfl Tryz.underlying22
   rw[zCs]at this
   simp only[reachBytes]at this
   omega
 refine(zC2 (.slice a0 len cap) ops m W hsc hlen hbz (zDs hL) m0 m1).mono ?_
 rintro e W' ⟨rfl,hk⟩
 have hb:=hk.below
 have hargs:DataW.Trod enc Tryz.prog W' 0 (λb=>decide (b<W.heap.size)) true 22 (.slice a0 len cap) d0 p0 :=
  Below.trod Tryz.laidOut (by kernel_rfl) (of_decide_eq_true (by kernel_rfl)) h0k hb hlt
 exact⟨_,rfl,_,_,_,[],p0++[],[],hW',trodAll_mk1 (shut_bool Tryz.underlying4 _),trodAll_mk2 hargs (shut_int Tryz.underlying3 wm),rfl,hb.frame _,λh=>by cases h⟩
theorem qRt: Rows.PrefixSaid :=
 OpenClaim.holds_of_cond 5 Tryz.f5 rfl rfl rfl rfl rfl rfl rfl ⟨rfl,rfl,rfl,rfl,rfl⟩ rfl rfl rfl rfl rfl (by kernel_rfl) Tryz.func5 (by kernel_rfl)
  (of_decide_eq_true (by kernel_rfl)) (by unfold Func.isWrapper;first | (rw[if_pos (by decide +kernel)];kernel_rfl) | (rw[if_neg (by decide +kernel)];exact⟨rfl,rfl⟩))
  (λos started H enc _ F=>by rw[OpenClaim.pre_eq_preRow];exact qMv os started H enc F)
theorem qPm(f:FuncId)(fn:Func)(hf:Tryz.pinned.checked.prog.funcNamed "sketch/sketchkeep.Prefix"=some f)(hfn:Tryz.pinned.checked.prog.funcs[f]?=some fn):
  false=Tryz.pinned.checked.prog.looks []/\∀(j:Nat) t,fn.params[j]?=some t->Tryz.pinned.checked.prog.wantsStandIn t=false:=by
 obtain rfl:f=5:=Option.some.inj ((show Tryz.prog.funcNamed "sketch/sketchkeep.Prefix"=some 5 by kernel_rfl).symm.trans hf) |>.symm
 obtain rfl:fn=Tryz.f5:=(Option.some.inj (Tryz.func5.symm.trans hfn)).symm
 refine⟨by kernel_rfl,λj t ht=>?_⟩
 rw[Tryz.params5]at ht
 have hm:t=22\/t=3:=by simpa using Array.mem_of_getElem? ht
 rcases hm with rfl | rfl
 ·exact(show Tryz.prog.wantsStandIn 22=false by kernel_rfl)
 ·exact(show Tryz.prog.wantsStandIn 3=false by kernel_rfl)
theorem prefix_card: Rows.PrefixCardSaid :=
 Claim7.holds_tied_plain_at .later [] _ _ _ _ qRt (λ_ h=>by cases h) (by kernel_rfl) (λ_ h=>by cases h) prefix_row_tie rfl ⟨rfl,rfl⟩ (by kernel_rfl) rfl qPm (by kernel_rfl)
end
end Go.Proofs.YtahnliehdjncdaaGreatDoor
