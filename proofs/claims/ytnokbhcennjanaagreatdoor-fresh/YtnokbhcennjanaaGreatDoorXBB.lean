import Derived.Test.YtnokbhcennjanaaGreatDoorXBA
open Go.RowKit Go.Proofs.Tryz
set_option maxRecDepth 100000
set_option maxHeartbeats 16000000
namespace Go.Proofs.YtnokbhcennjanaaGreatDoor
section
theorem zOe: (prog.info? 9).map (λa=>(a.zero,a.size,a.bytes))=some (some (.string ⟨#[]⟩),1,16):=by kernel_rfl
theorem Hg{i:Nat}(a:Cc (.slice none 0 0) [] i): False:=by
 rcases a with a | ⟨d,c,_⟩
 ·cases a
 cases c
theorem II(w:World)(base:Nat): dT (w.alloc (.cells #[.slice none 0 0,.slice none 0 0] 31)) base w.heap.size (.slice none 0 0) (.slice none 0 0) [] [] :=
 ⟨aD.new w [_,_] _,⟨iy _ _ _ _,λe c a=>by simp at a,λc a=>by cases a⟩,⟨iy _ _ _ _,λe c a=>by simp at a,λc a=>by cases a⟩,Hg,Hg,λ_ d=>(Hg d).elim⟩
theorem cC.low{w:World}{base c:Nat}{v:Value}{l:List cH}(a:cC w base v l)(d:c<=base): cC w c v l:=⟨EQ a.row d,λh e=>EQ (a.aI h e) d,a.apart⟩
theorem Yr(v:Value)(e:List aO)(w:World)(b1:bG w v e)(hlen:e.length<=651562446080)(bq:∀ax,ax∈e->-9223372036854775808<=ax.a/\ax.a<=9223372036854775807)(L:eG w):
  Calls prog 4 #[v] w λq dt=>q=.returned (.bool true)/\lX w dt:=by
 obtain⟨dn,dc,di,dj,dk⟩:=jg zOe;have bl:=Aa L;have a7:=Aa (UH v e w b1 hlen L bq);have W:=TI.all e (by omega) _ (ir _);have J:=Aa W.lr;have bf:=Aa W.nu;have a4:=Aa W.la;clear b1 L bq W;go_enter func4,ntmps4;go_wp2_with fail
 refine a7.o.mono ?_;rintro q b7 ⟨F,az,rfl,k,D,_,bv⟩;have U:=Aa k;have a1:=Aa D;have a8:=Aa bv;clear k D bv a7;go_wp2_with fail
 refine(Vs w.heap.size F (tr e e.length).real b7 U.o (by rw[J.o];exact hlen)).mono ?_;rintro q m ⟨g,rfl,ap,O⟩;have cg:=Aa ap;have ag:=Aa (a8.o.then O);have bh:=Aa (FK (An U.o O (λ_ _ c=>c)));have cj:=Aa (show C0 m w.heap.size F (tr e e.length).real from An U.o O (λ_ _ c=>c));have bi:=Aa (FK (An a1.o O (λ_ _ c=>c)));have ak:=Aa (FK ap.own);have bk:=Aa (bl.o.keeps ag.o id);rw[J.o];rw[J.o]at ak;have ed:w.heap.size<=m.heap.size:=ag.o.size;clear ap O U a1 a8 bl;go_wp2_with fail
 have bc:=Aa (II m w.heap.size);have A:=Aa ((aA.refl (λ_=>False) m).alloc (.cells #[.slice none 0 0,.slice none 0 0] 31));have ee:m.heap.size<(m.alloc (.cells #[.slice none 0 0,.slice none 0 0] 31)).heap.size:=by simp
 generalize m.alloc (.cells #[.slice none 0 0,.slice none 0 0] 31)=R at *
 refine(MJ e hlen _ (ir _) _ R (ak.o.keeps A.o) (bk.o.keeps A.o id)).mono ?_;rintro q b8 ⟨ab,o,rfl,M,E,an,X,b2⟩;have bz:o.length=e.length:=by rw[Jx E,a4.o]
 have co:=Aa (show ∀i,i∈o->i.aI.length<=1000 from λi z=>by
    have:=bf.o (i.code,i.aI) (by rw[<-E];exact iI.2 ⟨i,z,rfl⟩);simp only at this
    omega)
 have I:=Aa (N9 R.heap.size e F az ab o b8 (bh.o.keeps (A.o.then X)) (bi.o.keeps (A.o.then X)) M E an hlen);have a2:=Aa M;have ba:=Aa X;have ck:=Aa b2;have x:=Aa bz;have cd:=Aa an;clear M E an X b2 bz;go_wp2_with fail
 refine I.o.mono ?_;rintro q s ⟨rfl,Y⟩;have ad:=Aa (a2.o.keeps Y (λ_ _ c=>c));have V:=Aa (ba.o.then Y);have eg:R.heap.size<=s.heap.size:=V.o.size;have ef:b8.heap.size<=s.heap.size:=Y.size;clear Y I;obtain⟨bn,bp,rfl⟩:=BI ad.o.row;have G:=ad;rw[x.o]at G;rw[x.o];have bg:=Aa (λ(base:Nat) (ab:Value) (b4:List cH) (w:World) (k:bG w F (tr e e.length).real) (D:bG w az (tr e e.length).told) (M:cC w base ab b4) E N=>N9 base e F az ab b4 w k D M E N hlen);have bj:=Aa (λ(w:World) (c:bG w (σ g e.length (e.length+2)) (tr e e.length).real) (L:eG w)=>MJ e hlen _ (ir _) _ w c L);generalize e.length=Q at *
 go_wp2_with fail
 go_loopw [9,10] (λay a wr=>∃h:Nat,h<=Q/\a=ι h/\Hid (wr.ownsRow s.heap.size 9 1 ay h ((o.take h).map (λi=>Value.string i.bs)))/\Hid (lX s wr)) (λ_ a _=>Q-(intOf a).toNat)
 case atStart=>exact⟨0,by omega,rfl,iy _ _ _ _,aA.refl _ _⟩
 case round =>
  obtain⟨h,d9,rfl,C,l⟩:=hrel;generalize u9=ay at *
  by_cases dg:h<Q
  ·obtain⟨i,z⟩:∃i,o[h]?=some i:=⟨o[h]'(by rw[x.o];exact dg),h9 _⟩;obtain⟨d4,rfl,_,_,T⟩:=Ik G.o h i z;have dz:=l.o.cell T id;have cn:=Aa z;have ea:(0:Int)<=(h:Int):=by omega
   have eb:(h:Int)<(Q:Int):=by omega
   have dm:=l.o.size;clear T z;go_wp2_with (at_builtin;refine jf _ rfl _ _ _ rfl s.heap.size 9 dn _ 1 16 underlying35 dc di dj dk rfl (by omega) ay h _ rfl (C.o.alloc _) ⟨wr.heap.size,0,none⟩ 1 1 [.string i.bs] rfl rfl (iJ (cs:=#[.string i.bs]) (t:=9) (fr:=(0,0)) (iH wr _)) (by simp[Value.oneCell']) (by omega) (by unfold maxLen;omega) (by omega) (by simp;omega) (wr.heap.size+1) (by simp) ?_;intro d2 d0 S dh db d6 ec)
   go_roundw;case rel =>
    refine⟨h+1,by omega,by go_num,?_,Aa ((l.o.alloc _).grown db (λj bu=>.inr (C.o.lt j bu).1))⟩;rw[ji,cn.o,iB];exact Aa dh
   case measure=>simp[intOf];omega
  obtain rfl:h=Q:=by omega
  rw[iw (Nat.le_of_eq x.o)]at C;have bd:=Aa (bc.o.keeps (V.o.then l.o) (λ_ _ c=>c));have a3:=Aa ((G.o.keeps l.o (λ_ _ c=>c)).low (show w.heap.size<=R.heap.size by omega));have ae:=Aa (show ∀a,CG (.slice bn h bp) o a->R.heap.size<=a/\a<s.heap.size from G.o.lt);have a9:=Aa (A.o.then (V.o.then l.o));have eh:s.heap.size<=wr.heap.size:=l.o.size;clear bc ad G l a2 ba V A;generalize wr=du at *
  go_wp2_with fail
  refine(O3 w.heap.size m.heap.size 0 0 _ _ _ [] [] o du bd.o rfl rfl a3.o ck.o (λa d n=>?_) co.o (by rw[x.o];omega) (by rw[x.o];omega) (by omega) (by omega)).mono ?_
  ·rcases n with n | n | n
   ·have:=(ae.o a d).1;omega
   ·exact Hg n
   exact Hg n
  rintro cv S ⟨rfl,b6,bo,bm,a0,b5,dq,br,aq,bt⟩;have P:∀a,Es m.heap.size (.slice none 0 0) (.slice none 0 0) [] [] a\/CG (.slice bn h bp) o a->m.heap.size<=a/\a<s.heap.size:=λa d=>by
   rcases d with (d | d | d) | d
   ·omega
   ·exact(Hg d).elim
   ·exact(Hg d).elim
   have:=ae.o a d;omega
  have u:=Aa (a9.o.trans aq (λa d au=>by have:=(P a d).1;omega));have al:=Aa (An C.o aq (λa d n=>by have k:=(P a n).2;have D:=(C.o.lt a d).1;omega));have dl:w.heap.size<=S.heap.size:=by have:=u.o.size;omega
  rw[x.o,ja]at b5;have be:=Aa br
  have cf:=Aa (show ∀a,Es m.heap.size b6 bo bm a0 a->a<m.heap.size->False from λa d au=>by
     rcases bt a d with k | k | k
     ·have:=(P a (.inl k)).1;omega
     ·have:=(P a (.inr k)).1;omega
     omega)
  clear br aq bt P C bd a3 ae a9;go_wp2_with fail
  refine(bj.o S (ak.o.keeps u.o) (bk.o.keeps u.o id)).mono ?_;rintro q dw ⟨ds,r,rfl,N,aa,ao,Z,b3⟩;have b0:r.length=h:=by rw[Jx aa,a4.o]
  have cp:=Aa (show ∀i,i∈r->i.aI.length<=1000 from λi z=>by
     have:=bf.o (i.code,i.aI) (by rw[<-aa];exact iI.2 ⟨i,z,rfl⟩);simp only at this
     omega)
  have I:=Aa (bg.o S.heap.size ds r dw (bh.o.keeps (u.o.then Z)) (bi.o.keeps (u.o.then Z)) N aa ao);have a5:=Aa N;have cl:=Aa b3;have cc:=Aa (ao.trans cd.o.symm);have bb:=Aa Z;have B:=Aa b0;clear N b3 ao Z aa b0 bg bj;go_wp2_with fail
  refine I.o.mono ?_;rintro q b9 ⟨rfl,ar⟩;have aj:=Aa (bb.o.then ar);have af:=Aa (a5.o.keeps ar (λ_ _ c=>c));obtain⟨cr,cu,rfl⟩:=BI af.o.row;rw[B.o];have H:=af;rw[B.o]at H;obtain⟨ej,ek,rfl⟩:=BI al.o;have am:=Aa (An al.o aj.o (λ_ _ c=>c));clear ar I bb al;go_wp2_with fail
  go_loopw [12] (λa wr=>∃j:Nat,j<=h/\a=ι j/\Hid (lX b9 wr)) (λa _=>h-(intOf a).toNat)
  case atStart=>exact⟨0,by omega,rfl,aA.refl _ _⟩
  case round =>
   obtain⟨j,bu,rfl,l⟩:=hrel;by_cases de:j<h
   ·obtain⟨y,aw⟩:∃y,r[j]?=some y:=⟨r[j]'(by rw[B.o];exact de),h9 _⟩;obtain⟨d3,rfl,_,_,ca⟩:=Ik H.o j y aw;obtain⟨da,el,cw,_,_⟩:=am.o.form (by omega);injection cw with cx d1 cy;subst cx cy
    have T:κ b9 da j (.string y.bs):=Gw am.o (by
       have k:(r.map (·.bs))[j]?=some y.bs:=by rw[iS,aw];rfl
       rw[cc.o]at k;rw[iS]at k ⊢;cases hq:o[j]? with
       | none=>rw[hq]at k;cases k
       | some i=>rw[hq]at k;simpa using k)
    have em:=l.o.cell ca id;have dz:=l.o.cell T id;have d7:(0:Int)<=(j:Int):=by omega
    have d8:(j:Int)<(h:Int):=by omega
    clear ca T aw;go_wp2_with fail
    go_region
    go_wp2_with fail
    go_roundw;case rel=>exact⟨j+1,by omega,by go_num,l.o.drew⟩
    case measure=>simp[intOf];omega
   obtain rfl:j=h:=by omega
   have ai:=Aa (aj.o.then l.o);have ci:=Aa (be.o.keeps ai.o (λ_ _ c=>c));have ce:=Aa ((H.o.keeps l.o (λ_ _ c=>c)).low dl);have a6:=Aa (λa (d:CG (.slice cr j cu) r a)=>(H.o.lt a d).1);have dm:S.heap.size<=wr.heap.size:=ai.o.size;clear af H l aj a5 am;go_wp2_with fail
   refine(O3 w.heap.size m.heap.size j 1 b6 bo _ bm a0 r wr ci.o b5 dq ce.o cl.o (λa d n=>by have k:=a6.o a d;have D:=be.o.lt a n;omega) cp.o (by rw[B.o];omega) (by rw[B.o];omega) (by omega) (by omega)).mono ?_;rintro cv dx ⟨rfl,dr,ct,cq,cb,dp,ei,bs,bx,_⟩
   have ah:=Aa ((u.o.then ai.o).trans bx (λa d au=>by
        have d5:=u.o.size;rcases d with d | d
        ·exact cf.o a d au
        have:=a6.o a d;omega))
   have ch:=Aa bs;rw[B.o]at dp;clear bs bx;go_wp2_with fail
   refine(VT w.heap.size m.heap.size dr ct cq cb dx ch.o (by omega) (by omega)).mono ?_;rintro q dy ⟨rfl,rfl⟩;have av:=XZ b7.heap.size w.heap.size g F (tr e j).real dy (cg.o.keeps ah.o id) (An cj.o ah.o (λ_ _ c=>c)) (by rw[J.o];exact hlen);rw[J.o]at av;have cm:=Aa av;clear av;go_wp2_with fail
   refine cm.o.mono ?_;rintro q wc ⟨rfl,df⟩;go_wp2;go_ret;exact⟨rfl,ag.o.then (ah.o.then df)⟩
end
section
open Go.ChangeShapes Go.WideShapes Go.ChangeAt Go.RowKit Go.Deep
theorem Sw(a:Os): laidMet prog Rows.freshRow.laid ((Mp a).forCall (λ_ _=>0) ⟨#[],#[.slice none 0 0],[]⟩).memory :=
 laidMet_of_run' 8 (by kernel_rfl) (by kernel_rfl)
theorem Un(c:Os){a:Type}(enc:TypeId×Value->a): ∃places,DataW.whole enc prog ((Mp c).forCall (λ_ _=>0) ⟨#[],#[.slice none 0 0],[]⟩).memory Tryz.f4.params.toList Rows.freshSpec.vars false #[Value.slice none 0 0].toList 8=some ([.nil],[],places) :=
 ⟨[],by kernel_rfl⟩
theorem TH(c:Os)(started:c.Started)(I:Type)(enc:TypeId×Value->I)(H:Stop.Interp):
  ReturnsInHanded {} checked c 4 .any ((OpenSpec.ofChange Rows.freshSpec).preRow enc prog Tryz.f4 Rows.freshRow.domain false Rows.freshRow.laid) (((OpenSpec.ofChange Rows.freshSpec).at H).post enc prog Tryz.f4 false true false false):=by
 obtain⟨places,l⟩:=Un c enc;refine returnsInHanded_of_row (C:=checked) (s:=OpenSpec.ofChange Rows.freshSpec) Ls started (by kernel_rfl) func4
  (witness_row_at (enc:=enc) (C:=checked) false (Mp c) #[.slice none 0 0] rfl (by kernel_rfl) (by kernel_rfl) (by kernel_rfl)
     (OpenSpec.preRow_of_cond 8 l (by kernel_rfl) (λaa k=>by cases k) (by kernel_rfl) (Sw c))) ?_
 intro a base args r N before F x _ _ D Q _ _;have B:(DataW.weightsEach prog (Tryz.f4.params.toList++Rows.freshSpec.plain.varTypes prog) (r++N)).all (·<=reachBytes)=true:=D;clear D;have E:∀(m:Nat) t v,Tryz.f4.params[m]?=some t->args[m]?=some v->Value.okWide prog a .any base t v:=F;have i:=x;obtain⟨h,ab,w,R,rfl,_,_⟩:=x;have d:DataW.TrodAll enc prog a 0 (λ_=>true) true Tryz.f4.params.toList args.toList r h:=w;rw[params4]at d E B;obtain⟨X,L,rfl,rfl,u⟩:=trodAll_one d;obtain⟨rfl,rfl⟩:=trodVars_none R;obtain⟨o,len,q,rfl⟩:=okWide_slice underlying22 (E 0 22 X rfl rfl);have P:=u;obtain⟨fuel,U⟩:=u;clear w F;simp only[iC]at i;have A:∀n∈h,n.block<a.heap.size:=λn l=>by simpa using i.lt n l
 obtain⟨G,W,Z,T,d⟩:=Ts U A;have hlen:G.length<=651562446080:=by
  by_cases V:len=0
  ·omega
  obtain⟨elems,spare,rfl,Y⟩:=T V;have:=sized_slice B (j:=0) (t:=22) (e:=48) rfl rfl underlying22;rw[zMx]at this;simp only[reachBytes]at this;omega
 refine(Yr (.slice o len q) G a W hlen d (zP7 Q)).mono ?_;rintro M J ⟨rfl,k⟩;have z:=k.below;have S:DataW.Trod enc prog J 0 (λb=>decide (b<a.heap.size)) true 22 (.slice o len q) L h :=
  Below.trod Z2 (by kernel_rfl) (of_decide_eq_true (by kernel_rfl)) P z A
 exact⟨_,rfl,_,_,_,[],h,[],i,trodAll_mk1 (shut_bool underlying4 _),trodAll_mk1 S,rfl,z.frame _,λO=>by cases O⟩
theorem Vx: Rows.FreshSaid :=
 OpenClaim.holds_of_cond 4 Tryz.f4 rfl rfl rfl rfl rfl rfl rfl ⟨rfl,rfl,rfl,rfl,rfl⟩ rfl rfl rfl rfl rfl (by kernel_rfl) func4 (by kernel_rfl)
  (of_decide_eq_true (by kernel_rfl)) (by unfold Func.isWrapper;first | (rw[ij (by decide +kernel)];kernel_rfl) | (rw[ig (by decide +kernel)];exact⟨rfl,rfl⟩))
  (λd started c enc _ a=>by rw[OpenClaim.pre_eq_preRow];exact TH d started c enc a)
theorem TY(f:FuncId)(fn:Func)(d:Tryz.pinned.checked.prog.funcNamed "sketch/sketchlaw.Fresh"=some f)(e:Tryz.pinned.checked.prog.funcs[f]?=some fn):
  false=Tryz.pinned.checked.prog.looks []/\∀(j:Nat) a,fn.params[j]?=some a->Tryz.pinned.checked.prog.wantsStandIn a=false:=by
 obtain rfl:f=4:=jD ((show prog.funcNamed "sketch/sketchlaw.Fresh"=some 4 by kernel_rfl).symm.trans d) |>.symm
 obtain rfl:fn=Tryz.f4:=(jD (func4.symm.trans e)).symm;refine⟨by kernel_rfl,λj a c=>?_⟩;rw[params4]at c;obtain rfl:a=22:=by simpa using Array.mem_of_getElem? c
 exact(show prog.wantsStandIn 22=false by kernel_rfl)
theorem fresh_card: Rows.FreshCardSaid :=
 Claim7.holds_tied_plain_at .later [] _ _ _ _ Vx (λ_ a=>by cases a) (by kernel_rfl) (λ_ a=>by cases a) fresh_row_tie rfl ⟨rfl,rfl⟩ (by kernel_rfl) rfl TY (by kernel_rfl)
