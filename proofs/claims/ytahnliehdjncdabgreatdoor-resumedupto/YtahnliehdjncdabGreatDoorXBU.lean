import Derived.Test.YtahnliehdjncdabGreatDoorXBT
import Derived.Test.YtahnliehdjncdabGreatDoorXBS
set_option maxRecDepth 100000
set_option maxHeartbeats 16000000
namespace Go.Proofs.YtahnliehdjncdabGreatDoor
section
open Go.ChangeShapes Go.WideShapes Go.ChangeAt Go.RowKit Go.Deep
theorem bulk1{H:Type}(d:DataW H): 1<=Rows.uptoBulk d:=by
 cases d with
 | lit l=>cases l <;> simp[Rows.uptoBulk]
 | nil=>simp[Rows.uptoBulk]
 | ptr d=>simp[Rows.uptoBulk]
 | slice elems spare=>simp[Rows.uptoBulk]
 | agg parts=>simp[Rows.uptoBulk]
 | iface t d=>simp[Rows.uptoBulk]
 | map entries=>simp[Rows.uptoBulk]
 | held h=>simp[Rows.uptoBulk]
theorem zA3{H:Type}(l:List (DataW H)): l.length<=Rows.uptoBulkAll l:=by
 induction l with
 | nil=>simp[Rows.uptoBulkAll]
 | cons x r ih=>have:=bulk1 x;simp only[Rows.uptoBulkAll,List.length_cons];omega
theorem qK4(os:Os): laidMet Tryz.prog Rows.resumedUptoRow.laid ((qMv os).forCall (λ_ _=>0) ⟨#[],#[.slice none 0 0,.int .i64 0,.slice none 0 0],[]⟩).memory :=
 laidMet_of_run' 8 (by kernel_rfl) (by kernel_rfl)
theorem qO0(os:Os){H:Type}(enc:TypeId×Value->H): ∃places,DataW.whole enc Tryz.prog ((qMv os).forCall (λ_ _=>0) ⟨#[],#[.slice none 0 0,.int .i64 0,.slice none 0 0],[]⟩).memory Tryz.f3.params.toList Rows.resumedSpec.vars false #[Value.slice none 0 0,Value.int IntKind.i64 0,Value.slice none 0 0].toList 8=some ([.nil,.lit (.int .i64 0),.nil],[],places) :=
 ⟨[],by kernel_rfl⟩
theorem qM8(os:Os)(started:os.Started)(H:Type)(enc:TypeId×Value->H)(F:Stop.Interp):
  ReturnsInHanded {} Tryz.checked os 3 .any ((Rows.OpenSpec.upto Rows.resumedSpec).preRow enc Tryz.prog Tryz.f3 Rows.resumedUptoRow.domain false Rows.resumedUptoRow.laid) (((Rows.OpenSpec.upto Rows.resumedSpec).at F).post enc Tryz.prog Tryz.f3 false true false false):=by
 obtain⟨places,hx⟩:=qO0 os enc
 refine returnsInHanded_of_row (C:=Tryz.checked) (s:=Rows.OpenSpec.upto Rows.resumedSpec) Tryz.own started (by kernel_rfl) Tryz.func3
  (witness_row_at (enc:=enc) (C:=Tryz.checked) false (qMv os) #[.slice none 0 0,.int .i64 0,.slice none 0 0] rfl (by kernel_rfl) (by kernel_rfl) (by kernel_rfl)
     (OpenSpec.preRow_of_cond 8 hx (by kernel_rfl) (λk hk=>by cases hk;kernel_rfl) (by kernel_rfl) (qK4 os))) ?_
 intro W base args ds gs before hval0 hW _ hcond _ hL _ _
 have hval:∀(j:Nat) t v,Tryz.f3.params[j]?=some t->args[j]?=some v->Value.okWide Tryz.prog W .any base t v:=hval0
 have hW':=hW
 obtain⟨p,q,hA0,hV,rfl,_,_⟩:=hW
 have hA:DataW.TrodAll enc Tryz.prog W 0 (λ_=>true) true Tryz.f3.params.toList args.toList ds p:=hA0
 rw[Tryz.params3]at hA hval
 obtain⟨v0,v1,v2,d0,d1,d2,p0,p1,p2,rfl,rfl,rfl,h0,h1,h2⟩:=trodAll_three hA
 obtain⟨rfl,rfl⟩:=trodVars_none hV
 obtain⟨m,rfl,rfl,rfl,wm⟩:=open_int Tryz.underlying3 (hval 1 3 v1 rfl rfl) h1
 obtain⟨a0,len0,cap0,rfl⟩:=okWide_slice Tryz.underlying22 (hval 0 22 v0 rfl rfl)
 obtain⟨a2,len2,cap2,rfl⟩:=okWide_slice Tryz.underlying22 (hval 2 22 v2 rfl rfl)
 have h0k:=h0
 have h2k:=h2
 obtain⟨fuel0,hf0⟩:=h0
 obtain⟨fuel2,hf2⟩:=h2
 clear hA0 hval0
 simp only[List.append_nil]at hW'
 have hlt0:∀x∈p0,x.block<W.heap.size:=λx hx=>by simpa using hW'.lt x (by simp[hx])
 have hlt2:∀x∈p2,x.block<W.heap.size:=λx hx=>by simpa using hW'.lt x (by simp[hx])
 obtain⟨ops,hsc,hol,hd⟩:=qL4 hf0 hlt0
 obtain⟨oth,hsc2,hol2,hd2⟩:=qL4 hf2 hlt2
 obtain⟨m0,m1⟩:=zAd wm
 have hs:Rows.uptoBulkAll ([d0,.lit (.int .i64 m),d2]++[])<=1048576:=of_decide_eq_true (hcond _ rfl)
 simp only[List.append_nil,Rows.uptoBulkAll]at hs
 have hlen:ops.length<=1048576:=by
  by_cases hl0:len0=0
  ·omega
  ·obtain⟨elems,spare,rfl,hle⟩:=hd hl0
   have h1:=zA3 elems
   have h2:=zA3 spare
   simp only[Rows.uptoBulk]at hs
   omega
 have hlen2:oth.length<=1048576:=by
  by_cases hl0:len2=0
  ·omega
  ·obtain⟨elems,spare,rfl,hle⟩:=hd2 hl0
   have h1:=zA3 elems
   have h2:=zA3 spare
   simp only[Rows.uptoBulk]at hs
   omega
 refine(zDp (.slice a0 len0 cap0) (.slice a2 len2 cap2) ops oth m W hsc hsc2 hlen hlen2 (zGx hL) m0 m1).mono ?_
 rintro e W' ⟨rfl,hk⟩
 have hb:=hk.below
 have hargs0:DataW.Trod enc Tryz.prog W' 0 (λb=>decide (b<W.heap.size)) true 22 (.slice a0 len0 cap0) d0 p0 :=
  Below.trod Tryz.laidOut (by kernel_rfl) (of_decide_eq_true (by kernel_rfl)) h0k hb hlt0
 have hargs2:DataW.Trod enc Tryz.prog W' 0 (λb=>decide (b<W.heap.size)) true 22 (.slice a2 len2 cap2) d2 p2 :=
  Below.trod Tryz.laidOut (by kernel_rfl) (of_decide_eq_true (by kernel_rfl)) h2k hb hlt2
 exact⟨_,rfl,_,_,_,[],_,[],hW',trodAll_mk1 (shut_bool Tryz.underlying4 _),trodAll_mk3 hargs0 (shut_int Tryz.underlying3 wm) hargs2,rfl,hb.frame _,λh=>by cases h⟩
theorem qR0: Rows.ResumedUptoSaid :=
 OpenClaim.holds_of_cond 3 Tryz.f3 rfl rfl rfl rfl rfl rfl rfl ⟨rfl,rfl,rfl,rfl,rfl⟩ rfl rfl rfl rfl rfl (by kernel_rfl) Tryz.func3 (by kernel_rfl)
  (of_decide_eq_true (by kernel_rfl)) (by unfold Func.isWrapper;first | (rw[if_pos (by decide +kernel)];kernel_rfl) | (rw[if_neg (by decide +kernel)];exact⟨rfl,rfl⟩))
  (λos started H enc _ F=>by rw[OpenClaim.pre_eq_preRow];exact qM8 os started H enc F)
theorem qPt(f:FuncId)(fn:Func)(hf:Tryz.pinned.checked.prog.funcNamed "sketch/sketchkeep.Resumed"=some f)(hfn:Tryz.pinned.checked.prog.funcs[f]?=some fn):
  false=Tryz.pinned.checked.prog.looks []/\∀(j:Nat) t,fn.params[j]?=some t->Tryz.pinned.checked.prog.wantsStandIn t=false:=by
 obtain rfl:f=3:=Option.some.inj ((show Tryz.prog.funcNamed "sketch/sketchkeep.Resumed"=some 3 by kernel_rfl).symm.trans hf) |>.symm
 obtain rfl:fn=Tryz.f3:=(Option.some.inj (Tryz.func3.symm.trans hfn)).symm
 refine⟨by kernel_rfl,λj t ht=>?_⟩
 rw[Tryz.params3]at ht
 have hm:t=22\/t=3\/t=22:=by simpa using Array.mem_of_getElem? ht
 rcases hm with rfl | rfl | rfl
 ·exact(show Tryz.prog.wantsStandIn 22=false by kernel_rfl)
 ·exact(show Tryz.prog.wantsStandIn 3=false by kernel_rfl)
 ·exact(show Tryz.prog.wantsStandIn 22=false by kernel_rfl)
theorem resumed_card: Rows.ResumedUptoCardSaid :=
 Claim7.holds_tied_plain_at .later [] _ _ _ _ qR0 (λ_ h=>by cases h) (by kernel_rfl) (λ_ h=>by cases h) resumedUpto_row_tie rfl ⟨rfl,rfl⟩ (by kernel_rfl) rfl qPt (by kernel_rfl)
end
end Go.Proofs.YtahnliehdjncdabGreatDoor
