import Derived.Test.YtnokbhcennjanaaGreatDoorXBV
open Go.RowKit Go.Proofs.Tryz
set_option maxRecDepth 100000
set_option maxHeartbeats 16000000
namespace Go.Proofs.YtnokbhcennjanaaGreatDoor
section
attribute [local go_sem ↓] AN B2 La Na
attribute [local go_sem] AO B4 A5 A6 AI AJ BC BD N1
def Ec(ops:List aO)(j:Nat): List aO:=match (tr ops ops.length).told[j]? with
 | some o=>if o.kind=6 then(tr ops j).ss else[]
 | none=>[]
theorem zLu(a:List aO)(c:a.length<=1000000000000)(k:Nat)(t:aO)(e:k<a.length)(d:(tr a (k+1)).told=(tr a k).told++[t]): (tr a a.length).told[k]?=some t :=
 K5 (GM a c a.length (il _) k (by omega)).2.1 ((GM a c a.length (il _) (k+1) (by omega)).2.1.trans d)
theorem zLf{w:World}{base T:Nat}{v:Value}{n:Nat}{j:List Value}(e:w.ownsRow base T 1 v n j){i:Nat}{d:Value}(a:j[i]?=some d): ∃g c,v=.slice (some ⟨g,0,none⟩) n c/\w.cell? ⟨g,i,none⟩=some d:=by
 have t:=(ik.1 a).1;have o:=e.1;rcases e.2 with ⟨_,h⟩ | ⟨g,c,k,h,_,l,q,r,s,m⟩
 ·omega
 refine⟨g,c,h,?_⟩;have:k[i]?=some d:=by
  rw[<-m,iV]at a;rw[h9 (by omega)]at a;simpa using a
 simp[World.cell?,l,this]
theorem Gg{i:Nat}(a:(Value.slice none 0 0).ownBlock=some i): False:=by simp[Value.ownBlock]at a
theorem XO(e:List aO)(hlen:e.length<=651562446080)(v:Value)(w:World)(cw:bI w v (tr e e.length).told):
  Calls prog 16 #[v] w λai aa=>∃v u,ai=.returned v/\cY aa w.heap.size v u/\u.map (λB=>(B.code,B.aL))=(tr e e.length).an/\(∀B,B∈u->B.bs=Ai)/\lO w aa:=by
 have bp:=TI.all e (by omega);obtain⟨e0,e2,rfl,cx⟩:=Hs cw;rw[(bp _ (il _)).lt];have b6:=Aa cx;clear cw cx;obtain⟨eu,eb,er,es,et⟩:=jh Rb;obtain⟨ev,cm,em,en,eo⟩:=jh zOi;generalize cq:e.length=r at *
 have J:=Aa cq;have b7:=Aa bp;clear cq bp;go_enter func16,ntmps16;go_wp2_with fail
 go_loopg [3,4,5,6] (r) (λg O R S a wr=>∃(d:Nat) (u:List dU) (H:List Value),g=r-d/\d<=r/\a=.int .i64 d/\Hid (H.length=d)/\Hid (RR wr w.heap.size (Ec e) O u R (tr e d).ss S H (.slice none 0 0) [])/\Hid (u.map (λB=>(B.code,B.aL))=(tr e d).an)/\Hid (lO w wr))
 case atStart =>
  exact⟨0,[],[],rfl,by omega,rfl,rfl,⟨⟨ir _ _ _ _,λB m=>by simp at m,λB m=>by simp at m⟩,ir _ _ _ _,ir _ _ _ _,ir _ _ _ _,λk ay Z=>by simp at Z,λa h=>(by cases h),λa h=>(by cases h),λa h=>(by cases h),λay Z=>by simp at Z,λB m=>by simp at m⟩,rfl,aA.refl _ _⟩
 case round =>
  obtain⟨d,u,H,fd,cn,rfl,ad,a2,bj,al⟩:=hrel;generalize u3=O at *
  generalize u4=R at *
  generalize u5=S at *
  by_cases cp:d<r
  ·obtain⟨L,ct⟩:∃L,e[d]?=some L:=⟨e[d]'(by rw[J.o];exact cp),hX _⟩;have aq:=b7.o d (by omega);obtain⟨i,ca,cy,q,dc⟩:=Wn e (by rw[J.o];omega) d L ct;have a9:=zLu e (by rw[J.o];omega) d i (by rw[J.o];exact cp) cy;rw[J.o]at a9;obtain⟨ex,ey,d5,Y,cv⟩:=b6.o d i a9;obtain⟨ek,ea⟩:=Jl cv Y al.o;subst d5;have ej:∀be:List Value,be.length=26->(Eu 48 (.pointer (some ⟨wr.heap.size,0,none⟩)) (.agg i.cells.toArray)).run prog (wr.alloc (.cells be.toArray 48))=.ok .skip (wr.alloc (.cells i.cells.toArray 48)):=λbe ep=>JI wr be i.cells ep rfl (Jb i);have fk:(0:Int)<=(d:Int):=by omega
   have fl:(d:Int)<(r:Int):=by omega
   have a3:=Aa (show Ec e d=if i.kind=6 then(tr e d).ss else[] by unfold Ec;rw[J.o,a9]);have dn:=Aa q
   have b4:=Aa (show u.length=d by
      have:=congrArg List.length bj.o;rw[im,aq.la]at this
      exact this)
   have ds:=Aa aq.g;have dy:=Aa dc
   have du:=Aa (show ∀k Q,(tr e d).told[k]?=some Q->∃aw ax,(some ⟨ex,ey,none⟩:Option Addr)=some ⟨aw,ax,none⟩/\Ec e k=(if Q.kind=6 then(tr e k).ss else[])/\wr.cell? ⟨aw,ax+k*26+0,none⟩=some (.int .i64 Q.kind) from λk Q ag=>by
      have a6:=(ik.1 ag).1;rw[aq.lt]at a6;have cb:(tr e r).told[k]?=some Q:=by
       have x:=(GM e (by rw[J.o];omega) r (by rw[J.o];omega) d (by omega)).2.1;rw[<-x,iV,h9 a6]at ag;exact ag
      obtain⟨aw,ax,ao,fq,ei⟩:=b6.o k Q cb
      exact⟨aw,ax,ao,by unfold Ec;rw[J.o,cb],al.o.cell (ei 0 _ rfl) id⟩)
   have d3:i.cells[0]?=some (.int .i64 i.kind):=rfl;have ft:=aq.sl;clear cv a9 ct aq cy q dc;go_upto_block 2 with fail
   clear d3;obtain⟨l,de,bi,am,aj⟩:=C5 wr i.cells;rw[<-de];have ab:=Aa (a2.o.still bi.o);have G:=Aa (show ∀a,Hk O u R S H (.slice none 0 0) a->a<wr.heap.size from λa h=>(a2.o.lt a h).2);have fv:=al.o.size;have a0:=Aa (al.o.then bi.o);clear ek ea ej de;generalize ef:wr.heap.size=j at *
   clear ef;have fs:j<l.heap.size:=am.o.lt;have e8:j+1<l.heap.size:=aj.o.lt;have cg:w.heap.size<=l.heap.size:=by omega
   obtain⟨ba,a5⟩:=CE am.o 26 rfl;have a4:=Hq ab.o.S;go_cut [4,8] (λbu bv T=>∃(code:Int) (aL:List Int) (z:Option Addr) (A:Nat),ca=(code,aL)/\Hid (aD T (j+1) [.int .i64 code,.slice z aL.length A,.string Ai] 39)/\Hid (RR T w.heap.size (Ec e) O u bu (tr e (d+1)).ss S H (.slice z aL.length A) aL)/\Hid (Dj T w.heap.size bv (Ec e d))/\Hid (∀a,bv.ownBlock=some a->bu.ownBlock≠some a/\S.ownBlock≠some a/\O.ownBlock≠some a)/\Hid (lO w T))
   case first =>
    have cr:∀T,lO l T->Hid (RR T w.heap.size (Ec e) O u R (tr e d).ss S H (.slice none 0 0) []):=λT cn=>ab.o.still cn;have b5:=Aa cr;clear cr;rcases dy.o with ⟨bo,q,D⟩ | ⟨V,cd,q,D⟩ | ⟨k,V,ce,a6,⟨Q,ag,br⟩,q,D⟩ | ⟨⟨bt,dg⟩,q,D⟩
    ·have bn:(i.kind==6)=true:=by simpa using bo
     have N:=Aa D;have ak:=Aa q;have M:=Aa (show Ec e d=(tr e d).ss by rw[a3.o,h9 bo]);clear D q bo;go_wp2_with (at_builtin;refine II rfl _ _ rfl w.heap.size (.slice none 0 0) [] rfl (ir _ _ _ _) R (tr e d).ss rfl (by exact a4) (by simp;omega) cg ?_;intro dz c2 F av P au)
     simp only[jZ,ja,jt]at av au;go_meet
     have W:lO l F:=P.mono (λa _ c=>Gg c);refine⟨0,[],none,0,ak.o,aj.o.keeps W id,?_,?_,λa h=>?_,a0.o.then W⟩
     ·show RR _ _ _ _ _ _ _ _ _ _ _;rw[N.o];exact uh (b5.o F W)
     ·show Dj _ _ _ _;rw[M.o];exact av
     have fe:l.heap.size<=a:=(au a h).resolve_left (λc=>Gg c);exact⟨λc=>by have:=G.o a (.inr (.inl c));omega,λc=>by have:=G.o a (.inr (.inr (.inl c)));omega,λc=>by have:=G.o a (.inl (.inl c));omega⟩
    ·have bn:(i.kind==6)=false:=by simp[V]
     have b9:(i.kind==7)=true:=by simpa using V
     have ew:l.cell? ⟨j,2,none⟩=some (.int .i64 (-1)):=by rw[<-cd];exact am.o.cell rfl
     have N:=Aa D;have ak:=Aa q;have M:=Aa (show Ec e d=[] by rw[a3.o,hZ (by omega)]);clear D q V cd;go_wp2_with fail
     refine(Ju 14 _).mono ?_;rintro ai s ⟨rfl,C⟩;unfold Av;have b0:=Aa (aj.o.keeps C id);obtain⟨dh,di,dj,dk⟩:=b0.o.three;go_wp2_with fail
     go_meet
     have X:=Ik s (j+1) (.int .i64 14) (.slice none 0 0) (.string Ai);refine⟨14,[],none,0,ak.o,((b0.o.setCell 0 _).setCell 1 _).setCell 2 _,?_,?_,λa h=>(Gg h).elim,(a0.o.then C).trans X (λa h Y=>by omega)⟩
     ·show RR _ _ _ _ _ _ _ _ _ _ _;rw[N.o];exact(uh (b5.o s C)).keeps X (λa h c=>by have:=G.o a h;omega)
     show Dj _ _ _ _;rw[M.o];exact ir _ _ _ _
    ·have bn:(i.kind==6)=false:=by simp[V]
     have b9:(i.kind==7)=true:=by simpa using V
     have ew:l.cell? ⟨j,2,none⟩=some (.int .i64 k):=by rw[<-ce];exact am.o.cell rfl
     obtain⟨aw,ax,ao,bs,ci⟩:=du.o k Q ag;injection ao with ao;injection ao with d1 d2 _;subst d1 d2;have d0:=bi.o.cell ci id;rw[kg,br]at d0;rw[h9 br]at bs;obtain⟨ay,Z⟩:∃ay,H[k]?=some ay:=⟨H[k]'(by rw[ad.o];exact a6),hX _⟩;obtain⟨e6,e3,da,fc⟩:=zLf ab.o.T Z;rw[ad.o]at da;subst da;have ar:=ab.o.V k ay Z;rw[bs]at ar;have ez:=Aa ar;have dx:=Aa (Hq ar);obtain⟨f0,f1,rfl⟩:=DC ar;have N:=Aa D;have ak:=Aa q;have M:=Aa (show Ec e d=[] by rw[a3.o,hZ (by omega)]);have cm:(0:Int)<=(k:Int):=by omega
     have fh:(k:Int)<(d:Int):=by omega
     have fi:(k:Int)<(r:Int):=by omega
     have fj:(tr e k).ss.length<=k:=(b7.o k (by omega)).sl;clear D q V ce ci bs Z ar ag br;go_wp2_with (at_builtin;refine II rfl _ _ rfl w.heap.size (.slice none 0 0) [] rfl (ir _ _ _ _) _ (tr e k).ss rfl (by exact dx.o) (by simp;omega) cg ?_;intro dz c2 F av P au)
     simp only[jZ,ja,jt]at av au;go_meet
     have W:lO l F:=P.mono (λa _ c=>Gg c);refine⟨0,[],none,0,ak.o,aj.o.keeps W id,?_,?_,λa h=>(Gg h).elim,a0.o.then W⟩
     ·show RR _ _ _ _ _ _ _ _ _ _ _;rw[N.o];exact ab.o.steps (W.mono (λ_ _ c=>c.elim)) av (λa h=>(au a h).elim (λc=>(Gg c).elim) .inr)
     show Dj _ _ _ _;rw[M.o];exact ir _ _ _ _
    have bn:(i.kind==6)=false:=by simpa using bt
    have b9:(i.kind==7)=false:=by simpa using dg
    have N:=Aa D;have M:=Aa (show Ec e d=[] by rw[a3.o,hZ bt])
    have bg:=Aa (show bZ (d:Int) (BA Bn (tr e d).ss).clock (BA Bn (tr e d).ss).aC (BA Bn (tr e d).ss).xs from by
       have U:=PX (tr e d).ss Ro (by omega);have e7:=U.tn
       exact⟨U.c0,U.c1,U.t0,by omega,U.bX,λB m=>(U.bD B m).mono (by omega),U.bL⟩)
    have d8:∃f:Nat,(∀x I E s,aZ s x I (BA Bn (tr e d).ss).clock (BA Bn (tr e d).ss).aC E->E.map (·.2)=(BA Bn (tr e d).ss).xs->(∀a,bG x I E a->l.heap.size<=a)->Calls prog f #[.pointer (some ⟨x,0,none⟩),i.val] s λai aa=>KO l.heap.size s ca ai aa) /\
      (((i.kind==4)=true/\f=30)\/(((i.kind==4)=false/\(i.kind==5)=true)/\f=31)\/(((i.kind==4)=false/\(i.kind==5)=false)/\f=32)):=by
     by_cases ah:i.kind=4
     ·refine⟨_,λx I E s ap m ae=>?_,.inl ⟨by simpa using ah,rfl⟩⟩;have:=V3 l.heap.size d x I _ _ E i s ap (by rw[m];exact bg.o) (by omega) (by rw[m];exact ds.o.gE);rw[m]at this;rw[q];unfold Hg;rw[h9 ah];exact this
     by_cases bb:i.kind=5
     ·refine⟨_,λx I E s ap m ae=>?_,.inr (.inl ⟨⟨by simpa using ah,by simpa using bb⟩,rfl⟩)⟩;have:=XT l.heap.size d x I _ _ E i s ap (by rw[m];exact bg.o) (by omega);rw[m]at this;rw[q];unfold Hg Hj;rw[hZ ah,h9 bb];exact this
     refine⟨_,λx I E s ap m ae=>?_,.inr (.inr ⟨⟨by simpa using ah,by simpa using bb⟩,rfl⟩)⟩;have:=Zt l.heap.size d x I _ _ E i s ap (by rw[m];exact bg.o) (by omega) ae;rw[m]at this;rw[q];unfold Hg Hj;rw[hZ ah,hZ bb];exact this
    obtain⟨f,ae,ed⟩:=d8;have dr:=Aa ae;have dw:=Aa (a4.keeps ((aA.refl (λ_=>False) l).drew));clear ae q D a4 bt dg;rcases ed with ⟨an,rfl⟩ | ⟨⟨an,bm⟩,rfl⟩ | ⟨⟨an,bm⟩,rfl⟩;all_goals
     go_wp2_with fail
     go_region_held3 (λaa=>Ao aa j 0 26=.agg i.cells.toArray/\Ay aa j 0 26=true)
      (first
         | (go_split_ands;rw[(Cb (b:=j) (o:=0) (n:=26) (Ik F (j+1) _ _ _) (by omega) db).1,(Cb (b:=j) (o:=0) (n:=26) (Ik F (j+1) _ _ _) (by omega) db).2];exact⟨by assumption,by assumption⟩)
         | (go_split_ands;rw[(Cb (b:=j) (o:=0) (n:=26) P (by omega) (by have:=C.size;simp at this;omega)).1,(Cb (b:=j) (o:=0) (n:=26) P (by omega) (by have:=C.size;simp at this;omega)).2];exact⟨by assumption,by assumption⟩)
         | (go_split_ands;rw[(Cb (b:=j) (o:=0) (n:=26) C id (by simp;omega)).1,(Cb (b:=j) (o:=0) (n:=26) C id (by simp;omega)).2];first | exact⟨ba,a5⟩ | exact⟨by assumption,by assumption⟩)
         | (rw[A5,A6];exact⟨ba,a5⟩)
         | (go_split_ands;exact⟨by assumption,by assumption⟩))
      (first
         | (go_at_call 29;refine(VV R (tr e d).ss _ (by exact dw.o) (by omega)).mono ?_;rintro ai s ⟨x,I,E,rfl,cc,df,C,ck⟩)
         | ((first | go_at_call 30 | go_at_call 31 | go_at_call 32);refine(dr.o x I E _ cc df (by exact ck)).mono ?_;rintro ai F ⟨code,aL,fw,cj,rfl,a8,P⟩;have b1:=Aa cj;clear cj;obtain⟨z,A,ee⟩:=Jy a8;subst ee;unfold Av;have af:lO l F:=(((aA.refl (λ_=>False) l).drew).then C).trans P (λa h Y=>by omega);have db:j<F.heap.size:=(by have:=af.size;omega);have bf:=Aa (aj.o.keeps af id);obtain⟨dh,di,dj,dk⟩:=bf.o.three))
     all_goals
      have el:l.heap.size<=s.heap.size:=C.size;have X:=Ik F (j+1) (.int .i64 code) (.slice z aL.length A) (.string Ai)
      have a1:=Aa ((ab.o.hE (by omega) af (FG a8 el)).keeps X (λa h ff=>by
           have fp:a<j\/s.heap.size<=a:=by
            rcases h with c | c | c | c | c
            ·exact .inl (G.o a (.inl c))
            ·exact .inl (G.o a (.inr (.inl c)))
            ·exact .inl (G.o a (.inr (.inr (.inl c))))
            ·exact .inr (a8.lt a c).1
            exact .inl (G.o a (.inr (.inr (.inr (.inr c)))))
           omega))
      have bz:=Aa (((bf.o.setCell 0 (.int .i64 code)).setCell 1 (.slice z aL.length A)).setCell 2 (.string Ai));have dt:=Aa ((am.o.keeps af id).keeps X (λc=>by omega));have bh:=Aa ((a0.o.then af).trans X (λa h Y=>by omega));first | rw[show(⟨#[]⟩:ByteArray)=Ai from rfl] | skip
      clear X a8 P C cc df ck dh di dj dk af bf ba a5;generalize((F.setCell ⟨j+1,0,none⟩ (.int .i64 code)).setCell ⟨j+1,1,none⟩ (.slice z aL.length A)).setCell ⟨j+1,2,none⟩ (.string Ai)=bx at *
      have e9:=bh.o.size;first
       | (go_wp2_with fail
          go_meet
          refine⟨code,aL,z,A,b1.o,bz,?_,?_,λa h=>(Gg h).elim,bh⟩
          ·show RR _ _ _ _ _ _ _ _ _ _ _;rw[N.o,show[i].filter Es=[] by first | (simp[Es,an];done) | (simp[Es,an,bm];done),iz];exact a1.o
          show Dj _ _ _ _
          rw[M.o];exact ir _ _ _ _)
       | (obtain⟨fu,fg⟩:=CE dt.o 26 rfl
          go_wp2_with (at_builtin;refine II rfl _ _ rfl w.heap.size R (tr e d).ss rfl (by exact A2 a1.o.S ((aA.refl (λ_=>False) bx).alloc _) (λ_ _ c=>c)) _ [i] rfl (by exact LO (aD.new bx i.cells 48)) (by simp;omega) (by simp;omega) ?_;intro e1 c4 f2 eg ec d6)
          go_meet
          have bq:=((aA.refl (λa=>R.ownBlock=some a) bx).alloc (.cells i.cells.toArray 48)).then ec;refine⟨code,aL,z,A,b1.o,bz.o.keeps bq (λc=>by have:=G.o _ (.inr (.inl c));omega),?_,?_,λa h=>(Gg h).elim,bh.o.trans bq (λa h Y=>by have:=(a1.o.S.lt a h).1;omega)⟩
          ·show RR _ _ _ _ _ _ _ _ _ _ _;rw[N.o,show[i].filter Es=[i] by simp[Es,an,bm]];exact a1.o.steps bq eg (λa h=>(d6 a h).elim .inl (λc=>.inr (by simp at c;omega)))
          show Dj _ _ _ _
          rw[M.o];exact ir _ _ _ _)
   case rest =>
    obtain⟨code,aL,z,A,ch,dl,bk,b8,dq,b2⟩:=hcut;generalize u4=bu at *
    generalize u8=bv at *
    obtain⟨bc,bd,rfl⟩:=DC b8.o;have dp:=Aa ch;clear ch ba a5 a4;have fb:=b2.o.size;go_wp2_with (at_builtin;first | (refine jf _ rfl _ _ _ rfl w.heap.size 22 ev _ 1 24 underlying61 cm em en eo rfl (by omega) S d H rfl (by have:=bk.o.T;rw[ad.o]at this;exact this.alloc _) ⟨wc.heap.size,0,none⟩ 1 1 [.slice bc (Ec e d).length bd] rfl rfl (iT (cs:=#[.slice bc (Ec e d).length bd]) (t:=22) (fr:=(0,0)) (iJ wc _)) (by simp[Value.oneCell']) (by omega) (by unfold maxLen;omega) (by omega) (by simp;omega) (wc.heap.size+1) (by simp) ?_;intro e4 c5 az cu cl cf fm;have a7:=((aA.refl (λa=>S.ownBlock=some a) wc).alloc (.cells #[.slice bc (Ec e d).length bd] 22)).then (Lt cl);have bl:=Aa (bk.o.saved a7 (by rw[ad.o];exact cu) (λa h=>(QW cf a h).elim .inl (λc=>.inr (by omega))) (by rw[ad.o];exact b8.o) dq.o);have dm:=Aa (dl.o.keeps a7 (λc=>by have:=G.o _ (.inr (.inr (.inl c)));omega));have b3:=Aa (b2.o.trans a7 (λa h Y=>by have:=(bk.o.T.lt a h).1;omega));obtain⟨fx,fy,fz,_⟩:=dm.o.three;have fa:w.heap.size<=az.heap.size:=b3.o.size;clear cu cl cf a7) | (refine jf _ rfl _ _ _ rfl w.heap.size 39 eu _ 3 48 underlying32 eb er es et rfl (by omega) O d (Ej u) rfl (by have:=bl.o.A.row;rw[b4.o]at this;exact this.alloc _) ⟨az.heap.size,0,none⟩ 1 1 [.int .i64 code,.slice z aL.length A,.string Ai] rfl rfl (iT (cs:=#[.int .i64 code,.slice z aL.length A,.string Ai]) (t:=39) (fr:=(0,0)) (iJ az _)) (by simp[Value.oneCell']) (by omega) (by unfold maxLen;omega) (by omega) (by simp;omega) (az.heap.size+1) (by simp) ?_;intro e5 c6 f3 eh d9 d7 fo))
    go_roundg (r-(d+1))
    case rel =>
     have co:=((aA.refl (λa=>O.ownBlock=some a) az).alloc (.cells #[.int .i64 code,.slice z aL.length A,.string Ai] 39)).then (Lt d9);have d4:=bl.o.out (code:=code) co (by rw[b4.o];exact eh) (λa h=>(QW d7 a h).elim .inl (λc=>.inr (by omega)));refine⟨d+1,u++[⟨code,.slice z aL.length A,aL,Ai⟩],H++[.slice bc (Ec e d).length bd],rfl,by omega,by go_num,?_,Aa d4,?_,?_⟩
     ·show _=_;rw[hY,ad.o];rfl
     ·show _=_;rw[dn.o,dp.o,iy,bj.o];rfl
     exact b3.o.trans co (λa h Y=>by have:=(bl.o.A.lt a (.inl h)).1;omega)
    case measure=>omega
  obtain rfl:d=r:=by omega
  go_wp2;go_ret;exact⟨_,u,rfl,a2.o.A,bj.o,a2.o.nb,al.o⟩
theorem L4{l:List dU}{x:List (Int×List Int)}(a:l.map (λx=>(x.code,x.aL))=x): l.length=x.length:=by rw[<-a,im]
theorem ZQ(a:WS): (Cs a).toList.isEmpty=false:=by
 have d:(Cs a).size≠0:=by
  unfold Cs D4;rw[Ji];unfold FN Em;simp[Bt]
 cases hb:(Cs a).toList.isEmpty with
 | false=>rfl
 | true =>
  have c:=kN.1 hb;rw[ByteArray.toList_eq]at c;exfalso;apply d;have e:=congrArg List.length c;exact e
theorem Vu(u b2:Nat)(o:aO)(code:Int)(bs:ByteArray)(x z:Value)(l:List Int)(w:World)(n:w.ownsRow u 3 1 x l.length (ints l))(q:w.ownsRow b2 3 1 z l.length (ints l))(H:l.length<=1000)(G:(o.kind=6/\∃i,bs=Cs i)\/(o.kind≠6/\bs=Ai)):
  Calls prog 17 #[o.val,Hd code x bs,Av code z] w λF j=>F=.returned (.bool true)/\lO w j:=by
 obtain⟨c,c1,rfl⟩:=Jy n;obtain⟨d,c2,rfl⟩:=Jy q;have m:=Aa ((((aA.refl (λ_=>False) w).alloc (.cells o.cells.toArray 48)).alloc (.cells #[.int .i64 code,.slice c l.length c1,.string bs] 39)).alloc (.cells #[.int .i64 code,.slice d l.length c2,.string Ai] 39));have D:=Aa (show aD (((w.alloc (.cells o.cells.toArray 48)).alloc (.cells #[.int .i64 code,.slice c l.length c1,.string bs] 39)).alloc (.cells #[.int .i64 code,.slice d l.length c2,.string Ai] 39)) w.heap.size o.cells 48 from((aD.new w o.cells 48).alloc _).alloc _);have s:=Aa (show aD (((w.alloc (.cells o.cells.toArray 48)).alloc (.cells #[.int .i64 code,.slice c l.length c1,.string bs] 39)).alloc (.cells #[.int .i64 code,.slice d l.length c2,.string Ai] 39)) (w.heap.size+1) [.int .i64 code,.slice c l.length c1,.string bs] 39 from(aD.newAt (by simp) [_,_,_] 39).alloc _);have C:=Aa (show aD (((w.alloc (.cells o.cells.toArray 48)).alloc (.cells #[.int .i64 code,.slice c l.length c1,.string bs] 39)).alloc (.cells #[.int .i64 code,.slice d l.length c2,.string Ai] 39)) (w.heap.size+2) [.int .i64 code,.slice d l.length c2,.string Ai] 39 from aD.newAt (by simp) [_,_,_] 39);have A:=Aa (A2 n m.o (λ_ _ a=>a));have B:=Aa (A2 q m.o (λ_ _ a=>a));clear n q;unfold aO.val Av Hd;go_enter func17,ntmps17;go_wp2_with fail
 generalize((w.alloc (.cells o.cells.toArray 48)).alloc (.cells #[.int .i64 code,.slice c l.length c1,.string bs] 39)).alloc (.cells #[.int .i64 code,.slice d l.length c2,.string Ai] 39)=L at *
 generalize w.heap.size=h at *
 refine(Yd u b2 _ _ l L A.o B.o H).mono ?_;rintro J k ⟨rfl,e⟩;have t:=Aa (m.o.then e);have N:k.cell? ⟨h+1,0,none⟩=some (.int .i64 code):=e.cell (s.o.cell rfl) id;have O:k.cell? ⟨h+2,0,none⟩=some (.int .i64 code):=e.cell (C.o.cell rfl) id;have I:k.cell? ⟨h+1,2,none⟩=some (.string bs):=e.cell (s.o.cell rfl) id;have M:k.cell? ⟨h,0,none⟩=some (.int .i64 o.kind):=e.cell (D.o.cell rfl) id;clear e;go_wp2_with fail
 go_region_held3 (λj=>j.cell? ⟨h+1,0,none⟩=some (.int .i64 code)/\j.cell? ⟨h+2,0,none⟩=some (.int .i64 code)) (go_keep)
  (first | (go_at_call 19;refine(YV _ _).mono ?_;rintro J Q ⟨rfl,rfl⟩))
 rcases G with ⟨r,i,rfl⟩ | ⟨r,rfl⟩
 ·have E:(o.kind==6)=true:=by simpa using r
  have v:=ZQ i;generalize Cs i=P at *
  go_wp2;go_ret;exact⟨by simp,t.o.drew⟩
 have E:(o.kind==6)=false:=by simpa using r
 have v:(Ai !=⟨#[]⟩)=false:=by decide
 unfold Ai at I v;go_wp2;go_ret;exact⟨rfl,t.o.drew⟩
theorem Sf(base:Nat)(e:List aO)(av ab au:Value)(l:List dU)(w:World)(an:bI w av (tr e e.length).real)(aq:bI w ab (tr e e.length).told)(r:cY w base au l)(X:l.map (λc=>(c.code,c.aL))=(tr e e.length).an)(ag:l.map (·.bs)=(tr e e.length).bs)(hlen:e.length<=651562446080):
  Calls prog 9 #[av,ab,au] w λaa i=>aa=.returned (.bool true)/\lO w i:=by
 have B:=TI.all e (by omega) _ (il _);have V:l.length=e.length:=by rw[L4 X,B.la]
 obtain⟨bh,bk,rfl,ap⟩:=Hs an;obtain⟨bf,bi,rfl⟩:=DC r.row;have a7:=Aa ap;have a8:=Aa aq;have aw:=Aa r;have O:=Aa X;have a3:=Aa B.nu;have a6:=Aa (zLh e (by omega));have az:=Aa ag;rw[B.lr,V];clear ag an ap aq r X B;have N:=Aa V;clear V;go_enter func9,ntmps9;go_wp2_with fail
 refine(XO e hlen ab w a8.o).mono ?_;rintro aa bd ⟨bq,G,rfl,S,Y,ah,T⟩;have a0:=Aa ah;clear ah;have W:G.length=e.length:=by rw[<-N.o,L4 Y,L4 O.o]
 obtain⟨bg,bj,rfl⟩:=DC S.row;rw[W];have ay:=Aa S;have a2:=Aa Y;have ad:=Aa W;have ax:=Aa (aw.o.keeps T (λ_ _ d=>d));have M:=Aa T;clear S Y W T;generalize aj:e.length=j at *
 have be:=Aa aj;have bo:((j:Int) !=(j:Int))=false:=by simp
 clear aj;go_wp2_with fail
 go_loopw [8] (λZ wr=>∃a:Nat,a<=j/\Z=.int .i64 a/\Hid (lO bd wr)) (λZ _=>j-(intOf Z).toNat)
 case atStart=>exact⟨0,by omega,rfl,aA.refl _ _⟩
 case round =>
  obtain⟨a,bl,rfl,m⟩:=hrel;by_cases U:a<j
  ·obtain⟨t,P,al,af,am⟩:=a6.o a U;obtain⟨c,q⟩:∃c,l[a]?=some c:=⟨l[a]'(by rw[N.o];exact U),hX _⟩;obtain⟨y,s⟩:∃y,G[a]?=some y:=⟨G[a]'(by rw[ad.o];exact U),hX _⟩;have bc:(c.code,c.aL)=(y.code,y.aL):=by
    have k:(l.map (λc=>(c.code,c.aL)))[a]?=some (c.code,c.aL):=by rw[iP,q];rfl
    have A:(G.map (λc=>(c.code,c.aL)))[a]?=some (y.code,y.aL):=by rw[iP,s];rfl
    rw[O.o]at k;rw[a2.o]at A;rw[k]at A;injection A
   have bb:c.aL.length<=1000:=by
    have:=a3.o (c.code,c.aL) (by rw[<-O.o];exact iE.2 ⟨c,iu q,rfl⟩);simp only at this;omega
   have ar:c.bs=P:=by
    have k:(l.map (·.bs))[a]?=some c.bs:=by rw[iP,q];rfl
    rw[az.o,af]at k;injection k with k;exact k.symm
   have E:=ax.o.keeps m.o (λ_ _ d=>d);have F:=ay.o.keeps m.o (λ_ _ d=>d);have a4:=Aa (E.aL c (iu q));have ae:=Aa (F.aL y (iu s));obtain⟨Q,rfl,I,J,v⟩:=Mf (by rw[N.o]at E;exact E) a c q;obtain⟨R,rfl,x,L,z⟩:=Mf (by rw[ad.o]at F;exact F) a y s;rw[ar]at v;rw[a0.o y (iu s)]at z;injection bc with ai ak;rw[<-ai]at x;rw[<-ak]at ae;obtain⟨u,H,r,ba,ao⟩:=a7.o a t al;obtain⟨D,C⟩:=Jl ao ba (M.o.then m.o);subst r;have bp:u<wr.heap.size:=by have k:=M.o.size;have A:=m.o.size;omega
   have a5:=Aa am;have bm:(0:Int)<=(a:Int):=by omega
   have bn:(a:Int)<(j:Int):=by omega
   clear q s al ao ai ak E F af am ar;go_wp2_with fail
   go_region_held3 (λi=>(Ao i u (H+a*26) 26=.agg t.cells.toArray/\Ay i u (H+a*26) 26=true)/\(i.cell? ⟨Q,a*3,none⟩=some (.int .i64 c.code)/\i.cell? ⟨Q,a*3+1,none⟩=some c.nv/\i.cell? ⟨Q,a*3+2,none⟩=some (.string P))/\(i.cell? ⟨R,a*3,none⟩=some (.int .i64 c.code)/\i.cell? ⟨R,a*3+1,none⟩=some y.nv/\i.cell? ⟨R,a*3+2,none⟩=some (.string Ai)))
    (first
       | (rw[(Cb (b:=u) (o:=H+a*26) (n:=26) h id (by simp;omega)).1,(Cb (b:=u) (o:=H+a*26) (n:=26) h id (by simp;omega)).2,A5,A6];exact⟨⟨D,C⟩,⟨h.cell I id,h.cell J id,h.cell v id⟩,⟨h.cell x id,h.cell L id,h.cell z id⟩⟩)
       | (rw[A5,A6];exact⟨⟨D,C⟩,⟨I,J,v⟩,⟨x,L,z⟩⟩)
       | exact⟨⟨D,C⟩,⟨I,J,v⟩,⟨x,L,z⟩⟩)
    (first | (go_at_call 17;refine(Vu base w.heap.size t c.code P c.nv y.nv c.aL _ (by exact a4.o) (by exact ae.o) bb a5.o).mono ?_;rintro aa br ⟨rfl,h⟩))
   have a1:=Aa (m.o.then (((aA.refl (λ_=>False) wr).drew).then h));clear h D C I J v x L z;go_wp2;go_roundw;case rel=>exact⟨a+1,by omega,by go_num,a1⟩
   case measure=>simp[intOf];omega
  have a9:a=j:=by omega
  subst a9;go_wp2;go_ret;exact⟨rfl,M.o.then m.o⟩
theorem WZ(v:Value)(a:List aO)(w:World)(s:bI w v a)(hlen:a.length<=651562446080)(m:∀h,h∈a->-9223372036854775808<=h.a/\h.a<=9223372036854775807)(e:eE w):
  Calls prog 5 #[v] w λd I=>d=.returned (.bool true)/\lO w I:=by
 have C:=Aa e;have z:=Aa (Uk v a w s hlen e m);clear s e m;go_enter func5,ntmps5;go_wp2_with fail
 refine z.o.mono ?_;rintro d u ⟨t,G,rfl,k,l,_,q⟩;have i:=Aa (Hq k);have x:=Aa (Hq l);have j:=Aa q;clear k l q;go_wp2_with fail
 refine(Qa a hlen _ (il _) t u i.o (C.o.keeps j.o id)).mono ?_;rintro d J ⟨H,F,rfl,n,r,o,c⟩;have B:=Aa (Sf u.heap.size a t G H F J (i.o.keeps c) (x.o.keeps c) n r o hlen);have A:=Aa (j.o.then c);clear n r o c;go_wp2_with fail
 refine B.o.mono ?_;rintro d L ⟨rfl,E⟩;go_wp2;go_ret;exact⟨rfl,A.o.then E⟩
theorem ZD(v:Value)(a:List aO)(w:World)(h:bI w v a)(hlen:a.length<=651562446080)(d:∀c,c∈a->-9223372036854775808<=c.a/\c.a<=9223372036854775807)(e:eE w):
  Calls prog 3 #[v] w λi l=>i=.returned (.bool true)/\lO w l:=by
 have j:=Aa (WZ v a w h hlen d e);clear h e d;go_enter func3,ntmps3;go_wp2_with fail
 refine j.o.mono ?_;rintro i m ⟨rfl,k⟩;go_wp2;go_ret;exact⟨rfl,k⟩
