import Derived.Test.YtahnliehdjncdabGreatDoorXBQ
import Derived.Test.YtahnliehdjncdabGreatDoorXBD
set_option maxRecDepth 100000
set_option maxHeartbeats 16000000
namespace Go.Proofs.YtahnliehdjncdabGreatDoor
section
open Go.ChangeShapes Go.WideShapes Go.ChangeAt Go.RowKit Go.Deep
theorem qLd(os:Os): laidMet Tryz.prog Rows.foreignRow.laid ((qL9 os).forCall (λ_ _=>0) ⟨#[],#[.slice none 0 0,.int .i64 0,.string ⟨#[]⟩],[]⟩).memory :=
 laidMet_of_run' 8 (by kernel_rfl) (by kernel_rfl)
theorem qQ2(os:Os){H:Type}(enc:TypeId×Value->H): ∃places,DataW.whole enc Tryz.prog ((qL9 os).forCall (λ_ _=>0) ⟨#[],#[.slice none 0 0,.int .i64 0,.string ⟨#[]⟩],[]⟩).memory Tryz.f4.params.toList Rows.foreignSpec.vars false #[Value.slice none 0 0,Value.int IntKind.i64 0,Value.string ⟨#[]⟩].toList 8=some ([.nil,.lit (.int .i64 0),.lit (.string [])],[],places) :=
 ⟨[],by kernel_rfl⟩
theorem qN7(os:Os)(started:os.Started)(H:Type)(enc:TypeId×Value->H)(F:Stop.Interp):
  ReturnsInHanded {} Tryz.checked os 4 .any ((OpenSpec.ofChange Rows.foreignSpec).preRow enc Tryz.prog Tryz.f4 Rows.foreignRow.domain false Rows.foreignRow.laid) (((OpenSpec.ofChange Rows.foreignSpec).at F).post enc Tryz.prog Tryz.f4 false true false false):=by
 obtain⟨places,hx⟩:=qQ2 os enc;refine returnsInHanded_of_row (C:=Tryz.checked) (s:=OpenSpec.ofChange Rows.foreignSpec) Tryz.own started (by kernel_rfl) Tryz.func4
  (witness_row_at (enc:=enc) (C:=Tryz.checked) false (qL9 os) #[.slice none 0 0,.int .i64 0,.string ⟨#[]⟩] rfl (by kernel_rfl) (by kernel_rfl) (by kernel_rfl)
     (OpenSpec.preRow_of_cond 8 hx (by kernel_rfl) (λk hk=>by cases hk) (by kernel_rfl) (qLd os))) ?_
 intro W base args ds gs before hval0 hW _ _ hsz0 hL _ _;have hsz:(DataW.weightsEach Tryz.prog (Tryz.f4.params.toList++Rows.foreignSpec.plain.varTypes Tryz.prog) (ds++gs)).all (·<=reachBytes)=true:=hsz0;clear hsz0;have hval:∀(j:Nat) t v,Tryz.f4.params[j]?=some t->args[j]?=some v->Value.okWide Tryz.prog W .any base t v:=hval0;have hW':=hW;obtain⟨p,q,hA0,hV,rfl,_,_⟩:=hW;have hA:DataW.TrodAll enc Tryz.prog W 0 (λ_=>true) true Tryz.f4.params.toList args.toList ds p:=hA0;rw[Tryz.params4]at hA hval hsz;obtain⟨v0,v1,v2,d0,d1,d2,p0,p1,p2,rfl,rfl,rfl,h0,h1,h2⟩:=trodAll_three hA;obtain⟨rfl,rfl⟩:=trodVars_none hV;obtain⟨m,rfl,rfl,rfl,wm⟩:=open_int Tryz.underlying3 (hval 1 3 v1 rfl rfl) h1;obtain⟨tx,rfl⟩:=okWide_string Tryz.underlying9 (hval 2 9 v2 rfl rfl);obtain⟨a0,len,cap,rfl⟩:=okWide_slice Tryz.underlying22 (hval 0 22 v0 rfl rfl);have h0k:=h0;have h2k:=h2;obtain⟨fuel,hf⟩:=h0;obtain⟨fuel2,hf2⟩:=h2;clear hA0 hval0;simp only[List.append_nil]at hW';have hlt:∀x∈p0,x.block<W.heap.size:=λx hx=>by simpa using hW'.lt x (List.mem_append_left _ hx)
 have hlt2:∀x∈p2,x.block<W.heap.size:=λx hx=>by simpa using hW'.lt x (List.mem_append_right _ hx)
 obtain⟨m0,m1⟩:=zA7 wm;obtain⟨ops,hsc,hol,hd⟩:=qU4 hf hlt;obtain⟨tx2,ht1,_,htz⟩:=DataW.trod_string Tryz.underlying9 hf2;have htx:tx2=tx:=by simpa[Value.cells] using ht1.symm
 subst htx;have hlen:ops.length<=651562446080:=by
  by_cases hl0:len=0
  ·omega
  ·obtain⟨elems,spare,rfl,hle⟩:=hd hl0
   have:=sized_slice hsz (j:=0) (t:=22) (e:=34) rfl rfl Tryz.underlying22;rw[zHn]at this;simp only[reachBytes]at this;omega
 refine(zF2 (.slice a0 len cap) ops m tx2 W hsc hlen htz (zIz hL) m0 m1).mono ?_;rintro e W' ⟨rfl,hk⟩;have hb:=hk.below;have hargs:DataW.Trod enc Tryz.prog W' 0 (λb=>decide (b<W.heap.size)) true 22 (.slice a0 len cap) d0 p0 :=
  Below.trod Tryz.laidOut (by kernel_rfl) (of_decide_eq_true (by kernel_rfl)) h0k hb hlt
 have hargs2:DataW.Trod enc Tryz.prog W' 0 (λb=>decide (b<W.heap.size)) true 9 (.string tx2) d2 p2 :=
  Below.trod Tryz.laidOut (by kernel_rfl) (of_decide_eq_true (by kernel_rfl)) h2k hb hlt2
 exact⟨_,rfl,_,_,_,[],p0++([]++p2),[],hW',trodAll_mk1 (shut_bool Tryz.underlying4 _),trodAll_mk3 hargs (shut_int Tryz.underlying3 wm) hargs2,rfl,hb.frame _,λh=>by cases h⟩
theorem qRp: Rows.ForeignSaid :=
 OpenClaim.holds_of_cond 4 Tryz.f4 rfl rfl rfl rfl rfl rfl rfl ⟨rfl,rfl,rfl,rfl,rfl⟩ rfl rfl rfl rfl rfl (by kernel_rfl) Tryz.func4 (by kernel_rfl)
  (of_decide_eq_true (by kernel_rfl)) (by unfold Func.isWrapper;first | (rw[if_pos (by decide +kernel)];kernel_rfl) | (rw[if_neg (by decide +kernel)];exact⟨rfl,rfl⟩))
  (λos started H enc _ F=>by rw[OpenClaim.pre_eq_preRow];exact qN7 os started H enc F)
theorem qO3(f:FuncId)(fn:Func)(hf:Tryz.pinned.checked.prog.funcNamed "sketch/sketchkeep.Foreign"=some f)(hfn:Tryz.pinned.checked.prog.funcs[f]?=some fn):
  false=Tryz.pinned.checked.prog.looks []/\∀(j:Nat) t,fn.params[j]?=some t->Tryz.pinned.checked.prog.wantsStandIn t=false:=by
 obtain rfl:f=4:=Option.some.inj ((show Tryz.prog.funcNamed "sketch/sketchkeep.Foreign"=some 4 by kernel_rfl).symm.trans hf) |>.symm
 obtain rfl:fn=Tryz.f4:=(Option.some.inj (Tryz.func4.symm.trans hfn)).symm;refine⟨by kernel_rfl,λj t ht=>?_⟩;rw[Tryz.params4]at ht;have hm:t=22\/t=3\/t=9:=by simpa using Array.mem_of_getElem? ht
 rcases hm with rfl | rfl | rfl
 ·exact(show Tryz.prog.wantsStandIn 22=false by kernel_rfl)
 ·exact(show Tryz.prog.wantsStandIn 3=false by kernel_rfl)
 ·exact(show Tryz.prog.wantsStandIn 9=false by kernel_rfl)
theorem foreign_card: Rows.ForeignCardSaid :=
 Claim7.holds_tied_plain_at .later [] _ _ _ _ qRp (λ_ h=>by cases h) (by kernel_rfl) (λ_ h=>by cases h) foreign_row_tie rfl ⟨rfl,rfl⟩ (by kernel_rfl) rfl qO3 (by kernel_rfl)
end
end Go.Proofs.YtahnliehdjncdabGreatDoor
