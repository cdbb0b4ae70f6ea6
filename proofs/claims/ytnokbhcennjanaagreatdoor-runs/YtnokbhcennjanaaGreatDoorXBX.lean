import Derived.Test.YtnokbhcennjanaaGreatDoorXBW
set_option maxRecDepth 100000
set_option maxHeartbeats 16000000
namespace Go.Proofs.YtnokbhcennjanaaGreatDoor
section
open Go.ChangeShapes Go.WideShapes Go.ChangeAt Go.RowKit Go.Deep
theorem S4(a:Os): laidMet Tryz.prog Rows.runsRow.laid ((LZ a).forCall (λ_ _=>0) ⟨#[],#[.slice none 0 0],[]⟩).memory :=
 laidMet_of_run' 8 (by kernel_rfl) (by kernel_rfl)
theorem Vx(c:Os){a:Type}(enc:TypeId×Value->a): ∃places,DataW.whole enc Tryz.prog ((LZ c).forCall (λ_ _=>0) ⟨#[],#[.slice none 0 0],[]⟩).memory Tryz.f3.params.toList Rows.runsSpec.vars false #[Value.slice none 0 0].toList 8=some ([.nil],[],places) :=
 ⟨[],by kernel_rfl⟩
theorem Ue(c:Os)(started:c.Started)(I:Type)(enc:TypeId×Value->I)(H:Stop.Interp):
  ReturnsInHanded {} Tryz.checked c 3 .any ((OpenSpec.ofChange Rows.runsSpec).preRow enc Tryz.prog Tryz.f3 Rows.runsRow.domain false Rows.runsRow.laid) (((OpenSpec.ofChange Rows.runsSpec).at H).post enc Tryz.prog Tryz.f3 false true false false):=by
 obtain⟨places,l⟩:=Vx c enc;refine returnsInHanded_of_row (C:=Tryz.checked) (s:=OpenSpec.ofChange Rows.runsSpec) own started (by kernel_rfl) Tryz.func3
  (witness_row_at (enc:=enc) (C:=Tryz.checked) false (LZ c) #[.slice none 0 0] rfl (by kernel_rfl) (by kernel_rfl) (by kernel_rfl)
     (OpenSpec.preRow_of_cond 8 l (by kernel_rfl) (λaa k=>by cases k) (by kernel_rfl) (S4 c))) ?_
 intro a base args r N before F x _ _ D Q _ _;have B:(DataW.weightsEach Tryz.prog (Tryz.f3.params.toList++Rows.runsSpec.plain.varTypes Tryz.prog) (r++N)).all (·<=reachBytes)=true:=D;clear D;have E:∀(m:Nat) t v,Tryz.f3.params[m]?=some t->args[m]?=some v->Value.okWide Tryz.prog a .any base t v:=F;have i:=x;obtain⟨h,ab,w,R,rfl,_,_⟩:=x;have d:DataW.TrodAll enc Tryz.prog a 0 (λ_=>true) true Tryz.f3.params.toList args.toList r h:=w;rw[Tryz.params3]at d E B;obtain⟨X,L,rfl,rfl,u⟩:=trodAll_one d;obtain⟨rfl,rfl⟩:=trodVars_none R;obtain⟨o,len,q,rfl⟩:=okWide_slice Tryz.underlying22 (E 0 22 X rfl rfl);have P:=u;obtain⟨fuel,U⟩:=u;clear w F;simp only[iz]at i;have A:∀n∈h,n.block<a.heap.size:=λn l=>by simpa using i.lt n l
 obtain⟨G,W,Z,T,d⟩:=SJ U A;have hlen:G.length<=651562446080:=by
  by_cases V:len=0
  ·omega
  obtain⟨elems,spare,rfl,Y⟩:=T V;have:=sized_slice B (j:=0) (t:=22) (e:=48) rfl rfl Tryz.underlying22;rw[zL8]at this;simp only[reachBytes]at this;omega
 refine(ZD (.slice o len q) G a W hlen d (zPd Q)).mono ?_;rintro M J ⟨rfl,k⟩;have z:=k.below;have S:DataW.Trod enc Tryz.prog J 0 (λb=>decide (b<a.heap.size)) true 22 (.slice o len q) L h :=
  Below.trod laidOut (by kernel_rfl) (of_decide_eq_true (by kernel_rfl)) P z A
 exact⟨_,rfl,_,_,_,[],h,[],i,trodAll_mk1 (shut_bool Tryz.underlying4 _),trodAll_mk1 S,rfl,z.frame _,λO=>by cases O⟩
theorem X2: Rows.RunsSaid :=
 OpenClaim.holds_of_cond 3 Tryz.f3 rfl rfl rfl rfl rfl rfl rfl ⟨rfl,rfl,rfl,rfl,rfl⟩ rfl rfl rfl rfl rfl (by kernel_rfl) Tryz.func3 (by kernel_rfl)
  (of_decide_eq_true (by kernel_rfl)) (by unfold Func.isWrapper;first | (rw[h9 (by decide +kernel)];kernel_rfl) | (rw[hZ (by decide +kernel)];exact⟨rfl,rfl⟩))
  (λd started c enc _ a=>by rw[OpenClaim.pre_eq_preRow];exact Ue d started c enc a)
theorem VE(f:FuncId)(fn:Func)(d:Tryz.pinned.checked.prog.funcNamed "sketch/sketchlaw.Runs"=some f)(e:Tryz.pinned.checked.prog.funcs[f]?=some fn):
  false=Tryz.pinned.checked.prog.looks []/\∀(j:Nat) a,fn.params[j]?=some a->Tryz.pinned.checked.prog.wantsStandIn a=false:=by
 obtain rfl:f=3:=jA ((show Tryz.prog.funcNamed "sketch/sketchlaw.Runs"=some 3 by kernel_rfl).symm.trans d) |>.symm
 obtain rfl:fn=Tryz.f3:=(jA (Tryz.func3.symm.trans e)).symm;refine⟨by kernel_rfl,λj a c=>?_⟩;rw[Tryz.params3]at c;obtain rfl:a=22:=by simpa using Array.mem_of_getElem? c
 exact(show Tryz.prog.wantsStandIn 22=false by kernel_rfl)
theorem runs_card: Rows.RunsCardSaid :=
 Claim7.holds_tied_plain_at .later [] _ _ _ _ X2 (λ_ a=>by cases a) (by kernel_rfl) (λ_ a=>by cases a) runs_row_tie rfl ⟨rfl,rfl⟩ (by kernel_rfl) rfl VE (by kernel_rfl)
