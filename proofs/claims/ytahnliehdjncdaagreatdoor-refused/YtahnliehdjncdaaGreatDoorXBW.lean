import Derived.Test.YtahnliehdjncdaaGreatDoorXBV
import Derived.Test.YtahnliehdjncdaaGreatDoorXBJ
set_option maxRecDepth 100000
set_option maxHeartbeats 16000000
namespace Go.Proofs.YtahnliehdjncdaaGreatDoor
section
open Go.ChangeShapes Go.WideShapes Go.ChangeAt Go.RowKit Go.Deep
def zI{H:Type}: DataW H:=.lit (.int .i64 0)
def zOpD{H:Type}: DataW H:=.agg [zI,zI,zI,zI,zI,.agg [zI,zI,zI,zI,zI,zI,zI,zI,zI,zI,zI,zI,zI,zI,.agg [.agg [zI,zI],.agg [zI,zI],.agg [zI,zI]]],.lit (.string [])]
theorem qJw(os:Os): laidMet Tryz.prog Rows.refusedRow.laid ((qLk os).forCall (λ_ _=>0) ⟨#[],#[.slice none 0 0,.int .i64 0,.agg cz0.toArray],[]⟩).memory :=
 laidMet_of_run' 8 (by kernel_rfl) (by kernel_rfl)
theorem qNg(os:Os){H:Type}(enc:TypeId×Value->H): ∃places,DataW.whole enc Tryz.prog ((qLk os).forCall (λ_ _=>0) ⟨#[],#[.slice none 0 0,.int .i64 0,.agg cz0.toArray],[]⟩).memory Tryz.f6.params.toList Rows.refusedSpec.vars false #[Value.slice none 0 0,Value.int IntKind.i64 0,Value.agg cz0.toArray].toList 8=some ([.nil,.lit (.int .i64 0),zOpD],[],places) :=
 ⟨[],by kernel_rfl⟩
theorem qL2(os:Os)(started:os.Started)(H:Type)(enc:TypeId×Value->H)(F:Stop.Interp):
  ReturnsInHanded {} Tryz.checked os 6 .any ((OpenSpec.ofChange Rows.refusedSpec).preRow enc Tryz.prog Tryz.f6 Rows.refusedRow.domain false Rows.refusedRow.laid) (((OpenSpec.ofChange Rows.refusedSpec).at F).post enc Tryz.prog Tryz.f6 false true false false):=by
 obtain⟨places,hx⟩:=qNg os enc
 refine returnsInHanded_of_row (C:=Tryz.checked) (s:=OpenSpec.ofChange Rows.refusedSpec) Tryz.own started (by kernel_rfl) Tryz.func6
  (witness_row_at (enc:=enc) (C:=Tryz.checked) false (qLk os) #[.slice none 0 0,.int .i64 0,.agg cz0.toArray] rfl (by kernel_rfl) (by kernel_rfl) (by kernel_rfl)
     (OpenSpec.preRow_of_cond 8 hx (by kernel_rfl) (λk hk=>by cases hk) (by kernel_rfl) (qJw os))) ?_
 intro W base args ds gs before hval0 hW _ _ hsz0 hL _ _
 have hsz:(DataW.weightsEach Tryz.prog (Tryz.f6.params.toList++Rows.refusedSpec.plain.varTypes Tryz.prog) (ds++gs)).all (·<=reachBytes)=true:=hsz0
 clear hsz0
 have hval:∀(j:Nat) t v,Tryz.f6.params[j]?=some t->args[j]?=some v->Value.okWide Tryz.prog W .any base t v:=hval0
 have hW':=hW
 obtain⟨p,q,hA0,hV,rfl,_,_⟩:=hW
 have hA:DataW.TrodAll enc Tryz.prog W 0 (λ_=>true) true Tryz.f6.params.toList args.toList ds p:=hA0
 rw[Tryz.params6]at hA hval hsz
 obtain⟨v0,v1,v2,d0,d1,d2,p0,p1,p2,rfl,rfl,rfl,h0,h1,h2⟩:=trodAll_three hA
 obtain⟨rfl,rfl⟩:=trodVars_none hV
 obtain⟨m,rfl,rfl,rfl,wm⟩:=open_int Tryz.underlying3 (hval 1 3 v1 rfl rfl) h1
 obtain⟨a0,len,cap,rfl⟩:=okWide_slice Tryz.underlying22 (hval 0 22 v0 rfl rfl)
 obtain⟨cs,rfl,_⟩:=okWide_struct Tryz.underlying40 (hval 2 40 v2 rfl rfl)
 have h0k:=h0
 have h2k:=h2
 obtain⟨fuel,hf⟩:=h0
 obtain⟨fuel2,hf2⟩:=h2
 clear hA0 hval0
 simp only[List.append_nil]at hW'
 have hlt:∀x∈p0,x.block<W.heap.size:=λx hx=>by simpa using hW'.lt x (List.mem_append_left _ hx)
 have hlt2:∀x∈p2,x.block<W.heap.size:=λx hx=>by simpa using hW'.lt x (List.mem_append_right _ hx)
 obtain⟨m0,m1⟩:=qYt wm
 obtain⟨ops,hsc,hol,hd⟩:=qSb hf hlt
 obtain⟨V,bs,hcs,_,hbz⟩:=qZl hf2
 have hlen:ops.length<=651562446088:=by
  by_cases hl0:len=0
  ·omega
  ·obtain⟨elems,spare,rfl,hle⟩:=hd hl0
   have:=sized_slice hsz (j:=0) (t:=22) (e:=40) rfl rfl Tryz.underlying22
   rw[zEb]at this
   simp only[reachBytes]at this
   omega
 have hcs':cs=(zFb V bs).cells.toArray:=by
  rw[<-hcs];simp[Value.cells]
 have hrun:=zDg (.slice a0 len cap) ops m (zFb V bs) W hsc hlen hbz (zE0 hL) m0 m1
 unfold OpM.val at hrun
 rw[<-hcs']at hrun
 refine hrun.mono ?_
 rintro e W' ⟨rfl,hk⟩
 have hb:=hk.below
 have hargs:DataW.Trod enc Tryz.prog W' 0 (λb=>decide (b<W.heap.size)) true 22 (.slice a0 len cap) d0 p0 :=
  Below.trod Tryz.laidOut (by kernel_rfl) (of_decide_eq_true (by kernel_rfl)) h0k hb hlt
 have hargs2:DataW.Trod enc Tryz.prog W' 0 (λb=>decide (b<W.heap.size)) true 40 (.agg cs) d2 p2 :=
  Below.trod Tryz.laidOut (by kernel_rfl) (of_decide_eq_true (by kernel_rfl)) h2k hb hlt2
 exact⟨_,rfl,_,_,_,[],p0++([]++p2),[],hW',trodAll_mk1 (shut_bool Tryz.underlying4 _),trodAll_mk3 hargs (shut_int Tryz.underlying3 wm) hargs2,rfl,hb.frame _,λh=>by cases h⟩
theorem qP8: Rows.RefusedSaid :=
 OpenClaim.holds_of_cond 6 Tryz.f6 rfl rfl rfl rfl rfl rfl rfl ⟨rfl,rfl,rfl,rfl,rfl⟩ rfl rfl rfl rfl rfl (by kernel_rfl) Tryz.func6 (by kernel_rfl)
  (of_decide_eq_true (by kernel_rfl)) (by unfold Func.isWrapper;first | (rw[if_pos (by decide +kernel)];kernel_rfl) | (rw[if_neg (by decide +kernel)];exact⟨rfl,rfl⟩))
  (λos started H enc _ F=>by rw[OpenClaim.pre_eq_preRow];exact qL2 os started H enc F)
theorem qOt(f:FuncId)(fn:Func)(hf:Tryz.pinned.checked.prog.funcNamed "sketch/sketchkeep.Refused"=some f)(hfn:Tryz.pinned.checked.prog.funcs[f]?=some fn):
  false=Tryz.pinned.checked.prog.looks []/\∀(j:Nat) t,fn.params[j]?=some t->Tryz.pinned.checked.prog.wantsStandIn t=false:=by
 obtain rfl:f=6:=Option.some.inj ((show Tryz.prog.funcNamed "sketch/sketchkeep.Refused"=some 6 by kernel_rfl).symm.trans hf) |>.symm
 obtain rfl:fn=Tryz.f6:=(Option.some.inj (Tryz.func6.symm.trans hfn)).symm
 refine⟨by kernel_rfl,λj t ht=>?_⟩
 rw[Tryz.params6]at ht
 have hm:t=22\/t=3\/t=40:=by simpa using Array.mem_of_getElem? ht
 rcases hm with rfl | rfl | rfl
 ·exact(show Tryz.prog.wantsStandIn 22=false by kernel_rfl)
 ·exact(show Tryz.prog.wantsStandIn 3=false by kernel_rfl)
 ·exact(show Tryz.prog.wantsStandIn 40=false by kernel_rfl)
theorem refused_card: Rows.RefusedCardSaid :=
 Claim7.holds_tied_plain_at .later [] _ _ _ _ qP8 (λ_ h=>by cases h) (by kernel_rfl) (λ_ h=>by cases h) refused_row_tie rfl ⟨rfl,rfl⟩ (by kernel_rfl) rfl qOt (by kernel_rfl)
end
end Go.Proofs.YtahnliehdjncdaaGreatDoor
