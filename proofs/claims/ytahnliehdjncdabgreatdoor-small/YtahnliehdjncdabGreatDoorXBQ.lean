import Derived.Test.YtahnliehdjncdabGreatDoorXBO
import Derived.Test.YtahnliehdjncdabGreatDoorXBP
set_option maxRecDepth 100000
set_option maxHeartbeats 16000000
namespace Go.Proofs.YtahnliehdjncdabGreatDoor
section
open Go.ChangeShapes Go.WideShapes Go.ChangeAt Go.RowKit Go.Deep
theorem zE3: Tryz.prog.bytesOf 3=8:=by kernel_rfl
theorem qWc{H:Type}{enc:TypeId×Value->H}{W:World}{fuel:Nat}{a0:Option Addr}{len cap:Nat}{d:DataW H}{p:List MemPlace}(hf:DataW.trod enc Tryz.prog W 0 (λ_=>true) true fuel 36 (Value.slice a0 len cap).cells.toList=some (d,p))(hlt:∀x∈p,x.block<W.heap.size)(hlen:len≠0->∀elems spare,d=.slice elems spare->len<=elems.length+spare.length->len<=140737488355328):
  ∃l,zEk W W.heap.size (.slice a0 len cap) l:=by
 by_cases hl0:len=0
 ·subst hl0
  exact⟨[],.inl ⟨⟨_,_,rfl⟩,rfl⟩⟩
 ·rcases open_slice Tryz.underlying36 hf with ⟨hcs,hx⟩ | ⟨a,len',cap',k,n,D,Pl,hcs,_,hl,hm,hk,hx,hcell⟩
  ·simp[Value.cells]at hcs
   exact absurd hcs.2.1 hl0
  ·simp[Value.cells]at hcs
   obtain⟨rfl,rfl,rfl⟩:=hcs
   simp only[Prod.mk.injEq]at hx
   obtain⟨rfl,rfl⟩:=hx
   simp only[if_true]at hk
   subst k
   rw[cells3]at hcell
   obtain⟨b,off,spot⟩:=a
   have hspot:spot=none:=by
    obtain⟨cs',h1,_⟩:=hcell 0 (by omega)
    obtain⟨_,h2,h3⟩:=World.cells?_some h1
    have h4:=h3 0 (by omega)
    rw[List.getElem?_eq_getElem (by omega)]at h4
    simpa[Addr.add] using World.cell?_spot h4
   subst hspot
   have hbW:b<W.heap.size:=hlt (.cell b off) (List.mem_append_left _ (MemPlace.mem_row.2 ⟨0,by rw[cells3];omega,by simp⟩))
   have hints:∀i,i<len->∃u:Int,W.cell? ⟨b,off+i,none⟩=some (.int .i64 u)/\-9223372036854775808<=u/\u<=9223372036854775807:=by
    intro i hi
    obtain⟨cs',h1,h2⟩:=hcell i (by omega)
    obtain⟨u,h5,h6⟩:=zDh h2
    obtain⟨_,h3,h4⟩:=World.cells?_some h1
    have:=h4 0 (by omega)
    rw[add_add,add_plain,h5,Nat.add_zero,Nat.mul_one]at this
    exact⟨u,this,qKc h6⟩
   obtain⟨U,hU⟩:=choose_lt (α:=Int) hints
   refine⟨(List.range len).map U,.inr ⟨b,off,cap,by simp,by simp;omega,by simpa using hlen hl0 _ _ rfl (by simp),hbW,?_⟩⟩
   intro i u hu
   have hi:i<len:=by have:=(List.getElem?_eq_some_iff.1 hu).1;simpa using this
   have:U i=u:=by simpa[hi] using hu
   rw[<-this]
   exact hU i hi
theorem qLm(os:Os): laidMet Tryz.prog Rows.smallRow.laid ((qKq os).forCall (λ_ _=>0) ⟨#[],#[.int .i64 0,.int .i64 0,.slice none 0 0],[]⟩).memory :=
 laidMet_of_run' 8 (by kernel_rfl) (by kernel_rfl)
theorem qRp(os:Os){H:Type}(enc:TypeId×Value->H): ∃places,DataW.whole enc Tryz.prog ((qKq os).forCall (λ_ _=>0) ⟨#[],#[.int .i64 0,.int .i64 0,.slice none 0 0],[]⟩).memory Tryz.f5.params.toList Rows.smallSpec.vars false #[Value.int IntKind.i64 0,Value.int IntKind.i64 0,Value.slice none 0 0].toList 8=some ([.lit (.int .i64 0),.lit (.int .i64 0),.nil],[],places) :=
 ⟨[],by kernel_rfl⟩
theorem qQy(os:Os)(started:os.Started)(H:Type)(enc:TypeId×Value->H)(F:Stop.Interp):
  ReturnsInHanded {} Tryz.checked os 5 .any ((OpenSpec.ofChange Rows.smallSpec).preRow enc Tryz.prog Tryz.f5 Rows.smallRow.domain false Rows.smallRow.laid) (((OpenSpec.ofChange Rows.smallSpec).at F).post enc Tryz.prog Tryz.f5 false true false false):=by
 obtain⟨places,hx⟩:=qRp os enc
 refine returnsInHanded_of_row (C:=Tryz.checked) (s:=OpenSpec.ofChange Rows.smallSpec) Tryz.own started (by kernel_rfl) Tryz.func5
  (witness_row_at (enc:=enc) (C:=Tryz.checked) false (qKq os) #[.int .i64 0,.int .i64 0,.slice none 0 0] rfl (by kernel_rfl) (by kernel_rfl) (by kernel_rfl)
     (OpenSpec.preRow_of_cond 8 hx (by kernel_rfl) (λk hk=>by cases hk) (by kernel_rfl) (qLm os))) ?_
 intro W base args ds gs before hval0 hW _ _ hsz0 hL _ _
 have hsz:(DataW.weightsEach Tryz.prog (Tryz.f5.params.toList++Rows.smallSpec.plain.varTypes Tryz.prog) (ds++gs)).all (·<=reachBytes)=true:=hsz0
 clear hsz0
 have hval:∀(j:Nat) t v,Tryz.f5.params[j]?=some t->args[j]?=some v->Value.okWide Tryz.prog W .any base t v:=hval0
 have hW':=hW
 obtain⟨p,q,hA0,hV,rfl,_,_⟩:=hW
 have hA:DataW.TrodAll enc Tryz.prog W 0 (λ_=>true) true Tryz.f5.params.toList args.toList ds p:=hA0
 rw[Tryz.params5]at hA hval hsz
 obtain⟨v0,v1,v2,d0,d1,d2,p0,p1,p2,rfl,rfl,rfl,h0,h1,h2⟩:=trodAll_three hA
 obtain⟨rfl,rfl⟩:=trodVars_none hV
 obtain⟨m0,rfl,rfl,rfl,wm0⟩:=open_int Tryz.underlying3 (hval 0 3 v0 rfl rfl) h0
 obtain⟨m1,rfl,rfl,rfl,wm1⟩:=open_int Tryz.underlying3 (hval 1 3 v1 rfl rfl) h1
 obtain⟨a2,len2,cap2,rfl⟩:=okWide_slice Tryz.underlying36 (hval 2 36 v2 rfl rfl)
 have h2k:=h2
 obtain⟨fuel2,hf2⟩:=h2
 clear hA0 hval0
 simp only[List.append_nil,List.nil_append]at hW'
 have hlt2:∀x∈p2,x.block<W.heap.size:=λx hx=>by simpa using hW'.lt x hx
 obtain⟨q0,q1⟩:=qKc wm0
 obtain⟨r0,r1⟩:=qKc wm1
 obtain⟨l,hl⟩:=qWc hf2 hlt2 (λ_ elems spare he hle=>by
    subst he
    have:=sized_slice hsz (j:=2) (t:=36) (e:=3) rfl rfl Tryz.underlying36
    rw[zE3]at this
    simp only[reachBytes]at this
    omega)
 refine(qXl m0 m1 (.slice a2 len2 cap2) l W hl (zDe hL) q0 q1 r0 r1).mono ?_
 rintro e W' ⟨rfl,hk⟩
 have hb:=hk.below
 have hargs2:DataW.Trod enc Tryz.prog W' 0 (λb=>decide (b<W.heap.size)) true 36 (.slice a2 len2 cap2) d2 p2 :=
  Below.trod Tryz.laidOut (by kernel_rfl) (of_decide_eq_true (by kernel_rfl)) h2k hb hlt2
 exact⟨_,rfl,_,_,_,[],_,[],hW',trodAll_mk1 (shut_bool Tryz.underlying4 _),trodAll_mk3 (shut_int Tryz.underlying3 wm0) (shut_int Tryz.underlying3 wm1) hargs2,rfl,hb.frame _,λh=>by cases h⟩
theorem qUm: Rows.SmallSaid :=
 OpenClaim.holds_of_cond 5 Tryz.f5 rfl rfl rfl rfl rfl rfl rfl ⟨rfl,rfl,rfl,rfl,rfl⟩ rfl rfl rfl rfl rfl (by kernel_rfl) Tryz.func5 (by kernel_rfl)
  (of_decide_eq_true (by kernel_rfl)) (by unfold Func.isWrapper;first | (rw[if_pos (by decide +kernel)];kernel_rfl) | (rw[if_neg (by decide +kernel)];exact⟨rfl,rfl⟩))
  (λos started H enc _ F=>by rw[OpenClaim.pre_eq_preRow];exact qQy os started H enc F)
theorem qSw(f:FuncId)(fn:Func)(hf:Tryz.pinned.checked.prog.funcNamed "sketch/sketchkeep.Small"=some f)(hfn:Tryz.pinned.checked.prog.funcs[f]?=some fn):
  false=Tryz.pinned.checked.prog.looks []/\∀(j:Nat) t,fn.params[j]?=some t->Tryz.pinned.checked.prog.wantsStandIn t=false:=by
 obtain rfl:f=5:=Option.some.inj ((show Tryz.prog.funcNamed "sketch/sketchkeep.Small"=some 5 by kernel_rfl).symm.trans hf) |>.symm
 obtain rfl:fn=Tryz.f5:=(Option.some.inj (Tryz.func5.symm.trans hfn)).symm
 refine⟨by kernel_rfl,λj t ht=>?_⟩
 rw[Tryz.params5]at ht
 have hm:t=3\/t=36:=by simpa using Array.mem_of_getElem? ht
 rcases hm with rfl | rfl
 ·exact(show Tryz.prog.wantsStandIn 3=false by kernel_rfl)
 ·exact(show Tryz.prog.wantsStandIn 36=false by kernel_rfl)
theorem small_card: Rows.SmallCardSaid :=
 Claim7.holds_tied_plain_at .later [] _ _ _ _ qUm (λ_ h=>by cases h) (by kernel_rfl) (λ_ h=>by cases h) small_row_tie rfl ⟨rfl,rfl⟩ (by kernel_rfl) rfl qSw (by kernel_rfl)
end
end Go.Proofs.YtahnliehdjncdabGreatDoor
