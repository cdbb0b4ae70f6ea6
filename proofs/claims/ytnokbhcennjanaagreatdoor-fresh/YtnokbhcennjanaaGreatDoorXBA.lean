import Derived.Test.YtnokbhcennjanaaGreatDoorXAZ
import Derived.OwnWalk
open Go.RowKit Go.Proofs.Tryz
set_option maxRecDepth 100000
set_option maxHeartbeats 16000000
namespace Go.Proofs.YtnokbhcennjanaaGreatDoor
section
attribute [local go_sem ↓] AH Bs JR Nw
attribute [local go_sem] AI Bt A3 A4 AJ AL B8 B9 Oj
theorem JK{a:List aO}{k:Nat}(m:TI a k){w:World}{base:Nat}{v:Value}(r:w.ownsRow base 3 1 v (Dp (tr a k).real).length (ints (Dp (tr a k).real))):
  ∃h d,v=.slice h (tr a k).sv.length d/\∀e c,(tr a k).sv[e]?=some c->∃g,h=some ⟨g,0,none⟩/\w.cell? ⟨g,e,none⟩=some (ι c.1):=by
 have j:Dp (tr a k).real=(tr a k).sv.map (λc=>(c.1:Int)):=by unfold Dp;rw[m.ix,kk];rfl
 have l:(Dp (tr a k).real).length=(tr a k).sv.length:=by rw[j,iu]
 rcases Kv r with ⟨o,h,d,rfl⟩ | ⟨g,d,rfl,q⟩
 ·have n:(tr a k).sv.length=0:=by rw[<-l,o];rfl
  exact⟨h,d,by rw[n],λe c i=>by have:=(iq.1 i).1;omega⟩
 refine⟨some ⟨g,0,none⟩,d,by rw[l],λe c i=>⟨g,rfl,?_⟩⟩;have s:=(iq.1 i).1;rw[q e (by omega),j,γ,iS,i];rfl
theorem UH(v:Value)(j:List aO)(w:World)(bs:bG w v j)(hlen:j.length<=651562446080)(be:eG w)(bc:∀d,d∈j->-9223372036854775808<=d.a/\d.a<=9223372036854775807):
  Calls prog 6 #[v] w λF ar=>∃ap aq,F=.returned (.tuple #[ap,aq])/\C0 ar w.heap.size ap (tr j j.length).real/\C0 ar w.heap.size aq (tr j j.length).told/\(∀a,ap.ownBlock=some a->aq.ownBlock≠some a)/\lX w ar:=by
 obtain⟨dk,dr,rfl,bt⟩:=Gi bs;have cd:=Aa bt;have cf:=Aa be;have b3:=Aa bc;have bf:=TI.all j (by omega);clear bs bt be bc;generalize bo:j.length=q at *
 have ad:=Aa bo;have ce:=Aa bf;clear bo bf;go_enter func6,ntmps6;go_wp2_with fail
 go_loopg [4,5,6] (q) (λg k y a wr=>∃(h:Nat),g=q-h/\h<=q/\a=ι h/\Hid (C0 wr w.heap.size k (tr j h).real)/\Hid (C0 wr w.heap.size y (tr j h).told)/\Hid (∀a,k.ownBlock=some a->y.ownBlock≠some a)/\Hid (lX w wr))
 case atStart=>exact⟨0,rfl,by omega,rfl,iy _ _ _ _,iy _ _ _ _,(by intro a i;cases i),aA.refl _ _⟩
 case round =>
  obtain⟨h,bi,bl,rfl,L,M,H,I⟩:=hrel;generalize u4=eg at *
  generalize u5=eh at *
  by_cases cr:h<q
  ·obtain⟨d,al⟩:∃d,j[h]?=some d:=⟨j[h]'(by rw[ad.o];exact cr),h9 _⟩;obtain⟨ed,ee,cn,D,br⟩:=cd.o h d al;obtain⟨cx,cp⟩:=GK br D I.o;subst cn;have cv:∀l:List Value,l.length=26->(E0 48 (π wr.heap.size) (.agg d.cells.toArray)).run prog (wr.alloc (.cells l.toArray 48))=.ok .skip (wr.alloc (.cells d.cells.toArray 48)):=λl E=>Kb wr l d.cells E rfl (Jl d);have cw:∀l:List Value,l.length=26->(E0 48 (π (wr.heap.size+1)) (.agg d.cells.toArray)).run prog ((wr.alloc (.cells d.cells.toArray 48)).alloc (.cells l.toArray 48))=.ok .skip ((wr.alloc (.cells d.cells.toArray 48)).alloc (.cells d.cells.toArray 48)):=λl E=>by
    have:=Kb (wr.alloc (.cells d.cells.toArray 48)) l d.cells E rfl (Jl d);rw[jR]at this;exact this
   have bu:Ap (wr.alloc (.cells d.cells.toArray 48)) wr.heap.size 0 26=.agg d.cells.toArray:=Bd wr d.cells 48 26 rfl;have bk:Az (wr.alloc (.cells d.cells.toArray 48)) wr.heap.size 0 26=true:=LP wr d.cells 48 26 rfl;have cm:d.cells[0]?=some (ι d.kind):=rfl;have a5:=Aa al;have d3:(0:Int)<=(h:Int):=by omega
   have d4:(h:Int)<(q:Int):=by omega
   have r:=ce.o h bl;obtain⟨av,aw,t⟩:=BI L.o;obtain⟨ax,ay,u⟩:=BI M.o;rw[r.lr]at t;rw[r.lt]at u;subst t u;have W:=Aa r.lr;have b6:=Aa r.lt;have J:=Aa r;clear br al r;go_upto_if 24 with fail
   have R:lX wr ((wr.alloc (.cells d.cells.toArray 48)).alloc (.cells d.cells.toArray 48)):=((aA.refl (λ_=>False) wr).alloc _).alloc _;have a6:=Aa (show aD ((wr.alloc (.cells d.cells.toArray 48)).alloc (.cells d.cells.toArray 48)) wr.heap.size d.cells 48 from(aD.new wr d.cells 48).alloc _);have ae:=Aa (show aD ((wr.alloc (.cells d.cells.toArray 48)).alloc (.cells d.cells.toArray 48)) (wr.heap.size+1) d.cells 48 from aD.newAt (by simp) d.cells 48);have af:=Aa (An L.o R (λ_ _ e=>e));have cj:=Aa (An M.o R (λ_ _ e=>e));have a3:=Aa (I.o.then R);have B:=Aa (show ∀a,(Value.slice av h aw).ownBlock=some a->w.heap.size<=a/\a<wr.heap.size from λa i=>L.o.lt a i);have N:=Aa (show ∀a,(Value.slice ax h ay).ownBlock=some a->w.heap.size<=a/\a<wr.heap.size from λa i=>M.o.lt a i);have ea:=I.o.size;clear R cv cw cx cp bu bk cm;generalize(wr.alloc (.cells d.cells.toArray 48)).alloc (.cells d.cells.toArray 48)=V at *
   generalize ct:wr.heap.size=c at *
   have d5:c+1<V.heap.size:=ae.o.lt;clear ct;obtain⟨F,U,ag,ah,cy⟩:=(tr j h).fH d;rw[<-Iw a5.o]at ag ah;have b7:=Aa ag;have b8:=Aa ah;clear ag ah;go_cut [] (λau=>Hid (aD au c F.cells 48)/\Hid (aD au (c+1) U.cells 48)/\Hid (aA (λa=>a=c\/a=c+1) V au))
   case first =>
    rcases cy with ⟨O,rfl,rfl⟩ | ⟨O,E,rfl,rfl⟩ | ⟨k,O,bb,t,rfl,rfl⟩
    ·have cl:(d.kind==7)=false:=by simpa using O
     go_wp2_with fail
     go_meet
     exact⟨a6,ae,aA.refl _ _⟩
    all_goals
     have cl:(d.kind==7)=true:=by simpa using O
     go_wp2_with fail
     refine(Yz _ (tr j h).real V (FK af.o) (by rw[W.o];omega)).mono ?_;rintro ba x ⟨ec,rfl,am,P⟩;obtain⟨da,eb,rfl,ak⟩:=JK J.o am;have A:=Aa (a6.o.keeps P id);have G:=Aa (ae.o.keeps P id);have a2:=Aa P;have ao:=A.o.c2;have bx:κ x c 25 (.string d.bytes):=A.o.cell rfl;have T:=G.o.c2;have bz:=A.o.frozen;have qf:=G.o.frozen;have b9:=Aa (show ∀g,da=some ⟨g,0,none⟩->V.heap.size<=g from λg bi=>(am.lt g (by rw[bi];simp[Value.ownBlock])).1);clear am P
    ·rw[E];clear ak;go_wp2_with fail
     go_meet
     refine⟨?_,?_,?_⟩
     ·exact(A.o.setCell 25 (.string Ai)).aW (p:=⟨c+1,2,none⟩) (by show c+1≠c;omega) _
     ·exact(G.o.aW (p:=⟨c,25,none⟩) (by show c≠c+1;omega) _).setCell 2 (ι (-1))
     exact((a2.o.mono (λ_ _ e=>e.elim)).setCell (p:=⟨c,25,none⟩) (Or.inl (.inl rfl)) _).setCell (p:=⟨c+1,2,none⟩) (Or.inl (.inr rfl)) _
    obtain⟨g,rfl,bj⟩:=ak _ k t;have d1:=b9.o g rfl;obtain⟨ef,df,dg,b2,dh,di⟩:=J.o.sv k (iz t);have cg:=Aa b2;have bd:=b3.o d (iz a5.o);have d8:(tr j h).sv.length<=h:=by
     have n:=QV (tr j h).real;unfold Dp at n;rw[J.o.ix,iu,iu,W.o]at n;exact n
    have d6:=MB d.a bb;generalize(tr j h).sv.length=an at *
    generalize bq:G5 d.a an=b0 at *
    have cb:=Aa bq;have dt:(0:Int)<=(b0:Int):=by omega
    have du:(b0:Int)<(an:Int):=by omega
    have dw:(0:Int)<=(k.1:Int):=by omega
    have dx:(k.1:Int)<(h:Int):=by omega
    clear bq t df dg b2 dh di ak;go_wp2_with fail
    have a0:=Aa (show aD ((x.setCell ⟨c,25,none⟩ (.string ⟨#[]⟩)).setCell ⟨c+1,2,none⟩ (ι (-1))) c (d.cells.set 25 (.string Ai)) 48 from(A.o.setCell 25 (.string Ai)).aW (p:=⟨c+1,2,none⟩) (by show c+1≠c;omega) _);have X:=Aa (show aD ((x.setCell ⟨c,25,none⟩ (.string ⟨#[]⟩)).setCell ⟨c+1,2,none⟩ (ι (-1))) (c+1) (d.cells.set 2 (ι (-1))) 48 from(G.o.aW (p:=⟨c,25,none⟩) (by show c≠c+1;omega) _).setCell 2 (ι (-1)));have s:aA (λa=>a=c\/a=c+1) x ((x.setCell ⟨c,25,none⟩ (.string ⟨#[]⟩)).setCell ⟨c+1,2,none⟩ (ι (-1))):=((aA.refl _ _).setCell (p:=⟨c,25,none⟩) (Or.inl (.inl rfl)) _).setCell (p:=⟨c+1,2,none⟩) (Or.inl (.inr rfl)) _;have co:=s.cell bj (by show ¬(g=c\/g=c+1);omega);have Z:=Aa ((a2.o.mono (M':=λa=>a=c\/a=c+1) (λ_ _ e=>e.elim)).then s);clear s bj ao bx T bz qf;generalize(x.setCell ⟨c,25,none⟩ (.string ⟨#[]⟩)).setCell ⟨c+1,2,none⟩ (ι (-1))=z at *
    have ao:=a0.o.c2;refine(XW d.a an z (by omega) (by omega) bd.1 bd.2).mono ?_;rintro ba dc ⟨rfl,_,rfl⟩;rw[cb.o];have T:=X.o.c2;have qf:=X.o.frozen;go_wp2_with fail
    have b4:=Aa (a0.o.aW (p:=⟨c+1,2,none⟩) (by show c+1≠c;omega) (ι k.1));have b5:=Aa (X.o.setCell 2 (ι k.1));have aa:=Aa (Z.o.setCell (p:=⟨c+1,2,none⟩) (Or.inl (.inr rfl)) (ι k.1));clear ao T qf co;generalize dc.setCell ⟨c+1,2,none⟩ (ι k.1)=b1 at *
    refine(MJ j (by rw[ad.o];exact hlen) h (by rw[ad.o];exact bl) _ b1 (FK (An af.o aa.o (λa i e=>by have:=B.o a i;omega))) (cf.o.keeps ((a3.o.trans aa.o (λa i D=>by omega))) id)).mono ?_;rintro ba de ⟨dq,S,rfl,ai,cs,aj,Q,_⟩;have bn:S.length=h:=by
     have:=congrArg List.length aj;rw[iu,J.o.lb]at this;exact this
    obtain⟨y,u⟩:∃y,S[k.1]?=some y:=⟨S[k.1]'(by omega),h9 _⟩;have bv:y.bs=Cx k.2.1:=by
     have n:(S.map (·.bs))[k.1]?=some y.bs:=by rw[iS,u];rfl
     rw[aj,cg.o]at n;injection n with n;exact n.symm
    obtain⟨dl,dm,rfl⟩:=BI ai.row;obtain⟨ds,rfl,_,_,dj⟩:=Ik ai k.1 y u;rw[bv]at dj;rw[bn];have Y:=Aa (b4.o.keeps Q id);have a1:=Aa (b5.o.keeps Q id);have ca:=Aa (aa.o.then (Q.mono (λ_ _ e=>e.elim)));have T:=a1.o.c2;have bx:κ de c 25 (.string Ai):=Y.o.cell rfl;have bz:=Y.o.frozen;clear ai cs aj Q bn u bv;generalize Cx k.2.1=db at *
    go_wp2_with fail
    go_meet
    refine⟨?_,?_,?_⟩
    ·exact Y.o.setCell 25 (.string db)
    ·exact a1.o.aW (p:=⟨c,25,none⟩) (by show c≠c+1;omega) _
    exact ca.o.setCell (p:=⟨c,25,none⟩) (Or.inl (.inl rfl)) _
   case rest =>
    obtain⟨cc,a8,ab⟩:=hcut;have ch:=Aa (An af.o ab.o (λa i e=>by have:=B.o a i;omega));have ck:=Aa (An cj.o ab.o (λa i e=>by have:=N.o a i;omega));have a4:=Aa (a3.o.trans ab.o (λa i D=>by omega));have dz:w.heap.size<=wc.heap.size:=a4.o.size;have d0:c+1<wc.heap.size:=a8.o.lt;obtain⟨bu,bk⟩:=CM cc.o 26 rfl;go_wp2_with (at_builtin;first | (refine IY rfl _ _ rfl w.heap.size (.slice av h aw) (tr j h).real rfl (by exact An ch.o ((aA.refl (λ_=>False) wc).alloc _) (λ_ _ e=>e)) _ [F] rfl (by exact LU (aD.new wc F.cells 48)) (by have:=W.o;simp;omega) (by simp;omega) ?_;intro dn c2 z bp s bg;have C:=((aA.refl (λa=>(Value.slice av h aw).ownBlock=some a) wc).alloc _).then s;have a9:=Aa bp;have ci:=Aa (An ck.o C (λa i o=>H.o a o i));have a7:=Aa (a8.o.keeps C (λe=>by have:=B.o _ e;omega));have Z:=Aa (a4.o.trans C (λa i D=>by have:=(B.o a i).1;omega));have az:=Aa bg;have d7:wc.heap.size<=z.heap.size:=C.size;have d9:=(CM a7.o 26 rfl).1;have d2:=(CM a7.o 26 rfl).2;clear bp s C bg) | (refine IY rfl _ _ rfl w.heap.size (.slice ax h ay) (tr j h).told rfl (by exact An ci.o ((aA.refl (λ_=>False) z).alloc _) (λ_ _ e=>e)) _ [U] rfl (by exact LU (aD.new z U.cells 48)) (by have:=b6.o;simp;omega) (by simp;omega) ?_;intro dp c3 b1 cu cq bh))
    go_roundg (q-(h+1))
    case rel =>
     have bm:=((aA.refl (λa=>(Value.slice ax h ay).ownBlock=some a) z).alloc (.cells U.cells.toArray 48)).then cq;refine⟨h+1,rfl,by omega,by go_num,?_,?_,?_,?_⟩
     ·show C0 _ _ _ _;rw[b7.o];refine An a9.o bm (λa i o=>?_);have m:=N.o a o;rcases az.o a i with e | e
      ·exact H.o a e o
      simp at e;omega
     ·show C0 _ _ _ _;rw[b8.o];exact cu
     ·intro a i o;rcases az.o a i with e | e
      ·have bb:=B.o a e;rcases bh a o with m | m
       ·exact H.o a e m
       simp at m;omega
      simp at e;rcases bh a o with m | m
      ·have:=N.o a m;omega
      have dy:=(a9.o.lt a i).2;simp at m;omega
     exact Z.o.trans bm (λa i D=>by have:=(N.o a i).1;omega)
    case measure=>omega
  obtain rfl:h=q:=by omega
  go_wp2;go_ret2;exact⟨_,_,rfl,L.o,M.o,H.o,I.o⟩
def Eh(ops:List aO)(j:Nat): List aO:=match (tr ops ops.length).told[j]? with
 | some o=>if o.kind=6 then(tr ops j).ss else[]
 | none=>[]
theorem zMi(a:List aO)(c:a.length<=1000000000000)(k:Nat)(t:aO)(e:k<a.length)(d:(tr a (k+1)).told=(tr a k).told++[t]): (tr a a.length).told[k]?=some t :=
 KZ (GX a c a.length (ir _) k (by omega)).2.1 ((GX a c a.length (ir _) (k+1) (by omega)).2.1.trans d)
theorem zL3{w:World}{base T:Nat}{v:Value}{n:Nat}{h:List Value}(d:w.ownsRow base T 1 v n h){i:Nat}{u:Value}(a:h[i]?=some u): ∃g c,v=σ g n c/\w.cell? ⟨g,i,none⟩=some u:=by
 have s:=(iq.1 a).1;have m:=d.1;rcases d.2 with ⟨_,e⟩ | ⟨g,c,j,e,_,k,o,q,r,l⟩
 ·omega
 refine⟨g,c,e,?_⟩;have:j[i]?=some u:=by
  rw[<-l,iW]at a;rw[ij (by omega)]at a;simpa using a
 simp[World.cell?,k,this]
theorem Gp{i:Nat}(a:(Value.slice none 0 0).ownBlock=some i): False:=by simp[Value.ownBlock]at a
theorem YH(e:List aO)(hlen:e.length<=651562446080)(v:Value)(w:World)(cw:bG w v (tr e e.length).told):
  Calls prog 16 #[v] w λai aa=>∃v u,ai=.returned v/\cC aa w.heap.size v u/\u.map (λB=>(B.code,B.aI))=(tr e e.length).an/\(∀B,B∈u->B.bs=Ai)/\lX w aa:=by
 have bp:=TI.all e (by omega);obtain⟨e0,e2,rfl,cx⟩:=Gi cw;rw[(bp _ (ir _)).lt];have b6:=Aa cx;clear cw cx;obtain⟨eu,eb,er,es,et⟩:=jg Nn;obtain⟨ev,cm,em,en,eo⟩:=jg zPb;generalize cq:e.length=r at *
 have J:=Aa cq;have b7:=Aa bp;clear cq bp;go_enter func16,ntmps16;go_wp2_with fail
 go_loopg [3,4,5,6] (r) (λg O R S a wr=>∃(d:Nat) (u:List cH) (H:List Value),g=r-d/\d<=r/\a=ι d/\Hid (H.length=d)/\Hid (RR wr w.heap.size (Eh e) O u R (tr e d).ss S H (.slice none 0 0) [])/\Hid (u.map (λB=>(B.code,B.aI))=(tr e d).an)/\Hid (lX w wr))
 case atStart =>
  exact⟨0,[],[],rfl,by omega,rfl,rfl,⟨⟨iy _ _ _ _,λB m=>by simp at m,λB m=>by simp at m⟩,iy _ _ _ _,iy _ _ _ _,iy _ _ _ _,λk ay Z=>by simp at Z,λa h=>(by cases h),λa h=>(by cases h),λa h=>(by cases h),λay Z=>by simp at Z,λB m=>by simp at m⟩,rfl,aA.refl _ _⟩
 case round =>
  obtain⟨d,u,H,fd,cn,rfl,ad,a2,bj,al⟩:=hrel;generalize u3=O at *
  generalize u4=R at *
  generalize u5=S at *
  by_cases cp:d<r
  ·obtain⟨L,ct⟩:∃L,e[d]?=some L:=⟨e[d]'(by rw[J.o];exact cp),h9 _⟩;have aq:=b7.o d (by omega);obtain⟨i,ca,cy,q,dc⟩:=Xw e (by rw[J.o];omega) d L ct;have a9:=zMi e (by rw[J.o];omega) d i (by rw[J.o];exact cp) cy;rw[J.o]at a9;obtain⟨ex,ey,d5,Y,cv⟩:=b6.o d i a9;obtain⟨ek,ea⟩:=GK cv Y al.o;subst d5;have ej:∀be:List Value,be.length=26->(E0 48 (π wr.heap.size) (.agg i.cells.toArray)).run prog (wr.alloc (.cells be.toArray 48))=.ok .skip (wr.alloc (.cells i.cells.toArray 48)):=λbe ep=>Kb wr be i.cells ep rfl (Jl i);have fk:(0:Int)<=(d:Int):=by omega
   have fl:(d:Int)<(r:Int):=by omega
   have a3:=Aa (show Eh e d=if i.kind=6 then(tr e d).ss else[] by unfold Eh;rw[J.o,a9]);have dn:=Aa q
   have b4:=Aa (show u.length=d by
      have:=congrArg List.length bj.o;rw[iu,aq.la]at this
      exact this)
   have ds:=Aa aq.g;have dy:=Aa dc
   have du:=Aa (show ∀k Q,(tr e d).told[k]?=some Q->∃aw ax,(some ⟨ex,ey,none⟩:Option Addr)=some ⟨aw,ax,none⟩/\Eh e k=(if Q.kind=6 then(tr e k).ss else[])/\κ wr aw (ax+k*26+0) (ι Q.kind) from λk Q ag=>by
      have a6:=(iq.1 ag).1;rw[aq.lt]at a6;have cb:(tr e r).told[k]?=some Q:=by
       have x:=(GX e (by rw[J.o];omega) r (by rw[J.o];omega) d (by omega)).2.1;rw[<-x,iW,ij a6]at ag;exact ag
      obtain⟨aw,ax,ao,fq,ei⟩:=b6.o k Q cb
      exact⟨aw,ax,ao,by unfold Eh;rw[J.o,cb],al.o.cell (ei 0 _ rfl) id⟩)
   have d3:i.cells[0]?=some (ι i.kind):=rfl;have ft:=aq.sl;clear cv a9 ct aq cy q dc;go_upto_block 2 with fail
   clear d3;obtain⟨l,de,bi,am,aj⟩:=CC wr i.cells;rw[<-de];have ab:=Aa (a2.o.still bi.o);have G:=Aa (show ∀a,Hy O u R S H (.slice none 0 0) a->a<wr.heap.size from λa h=>(a2.o.lt a h).2);have fv:=al.o.size;have a0:=Aa (al.o.then bi.o);clear ek ea ej de;generalize ef:wr.heap.size=j at *
   clear ef;have fs:j<l.heap.size:=am.o.lt;have e8:j+1<l.heap.size:=aj.o.lt;have cg:w.heap.size<=l.heap.size:=by omega
   obtain⟨ba,a5⟩:=CM am.o 26 rfl;have a4:=FK ab.o.S;go_cut [4,8] (λbu bv T=>∃(code:Int) (aI:List Int) (z:Option Addr) (A:Nat),ca=(code,aI)/\Hid (aD T (j+1) [ι code,.slice z aI.length A,.string Ai] 39)/\Hid (RR T w.heap.size (Eh e) O u bu (tr e (d+1)).ss S H (.slice z aI.length A) aI)/\Hid (C0 T w.heap.size bv (Eh e d))/\Hid (∀a,bv.ownBlock=some a->bu.ownBlock≠some a/\S.ownBlock≠some a/\O.ownBlock≠some a)/\Hid (lX w T))
   case first =>
    have cr:∀T,lX l T->Hid (RR T w.heap.size (Eh e) O u R (tr e d).ss S H (.slice none 0 0) []):=λT cn=>ab.o.still cn;have b5:=Aa cr;clear cr;rcases dy.o with ⟨bo,q,D⟩ | ⟨V,cd,q,D⟩ | ⟨k,V,ce,a6,⟨Q,ag,br⟩,q,D⟩ | ⟨⟨bt,dg⟩,q,D⟩
    ·have bn:(i.kind==6)=true:=by simpa using bo
     have N:=Aa D;have ak:=Aa q;have M:=Aa (show Eh e d=(tr e d).ss by rw[a3.o,ij bo]);clear D q bo;go_wp2_with (at_builtin;refine IY rfl _ _ rfl w.heap.size (.slice none 0 0) [] rfl (iy _ _ _ _) R (tr e d).ss rfl (by exact a4) (by simp;omega) cg ?_;intro dz c2 F av P au)
     simp only[j4,ja,jv]at av au;go_meet
     have W:lX l F:=P.mono (λa _ c=>Gp c);refine⟨0,[],none,0,ak.o,aj.o.keeps W id,?_,?_,λa h=>?_,a0.o.then W⟩
     ·show RR _ _ _ _ _ _ _ _ _ _ _;rw[N.o];exact uh (b5.o F W)
     ·show C0 _ _ _ _;rw[M.o];exact av
     have fe:l.heap.size<=a:=(au a h).resolve_left (λc=>Gp c);exact⟨λc=>by have:=G.o a (.inr (.inl c));omega,λc=>by have:=G.o a (.inr (.inr (.inl c)));omega,λc=>by have:=G.o a (.inl (.inl c));omega⟩
    ·have bn:(i.kind==6)=false:=by simp[V]
     have b9:(i.kind==7)=true:=by simpa using V
     have ew:κ l j 2 (ι (-1)):=by rw[<-cd];exact am.o.cell rfl
     have N:=Aa D;have ak:=Aa q;have M:=Aa (show Eh e d=[] by rw[a3.o,ig (by omega)]);clear D q V cd;go_wp2_with fail
     refine(JE 14 _).mono ?_;rintro ai s ⟨rfl,C⟩;unfold Aw;have b0:=Aa (aj.o.keeps C id);obtain⟨dh,di,dj,dk⟩:=b0.o.three;go_wp2_with fail
     go_meet
     have X:=I0 s (j+1) (ι 14) (.slice none 0 0) (.string Ai);refine⟨14,[],none,0,ak.o,((b0.o.setCell 0 _).setCell 1 _).setCell 2 _,?_,?_,λa h=>(Gp h).elim,(a0.o.then C).trans X (λa h Y=>by omega)⟩
     ·show RR _ _ _ _ _ _ _ _ _ _ _;rw[N.o];exact(uh (b5.o s C)).keeps X (λa h c=>by have:=G.o a h;omega)
     show C0 _ _ _ _;rw[M.o];exact iy _ _ _ _
    ·have bn:(i.kind==6)=false:=by simp[V]
     have b9:(i.kind==7)=true:=by simpa using V
     have ew:κ l j 2 (ι k):=by rw[<-ce];exact am.o.cell rfl
     obtain⟨aw,ax,ao,bs,ci⟩:=du.o k Q ag;injection ao with ao;injection ao with d1 d2 _;subst d1 d2;have d0:=bi.o.cell ci id;rw[j0,br]at d0;rw[ij br]at bs;obtain⟨ay,Z⟩:∃ay,H[k]?=some ay:=⟨H[k]'(by rw[ad.o];exact a6),h9 _⟩;obtain⟨e6,e3,da,fc⟩:=zL3 ab.o.T Z;rw[ad.o]at da;subst da;have ar:=ab.o.V k ay Z;rw[bs]at ar;have ez:=Aa ar;have dx:=Aa (FK ar);obtain⟨f0,f1,rfl⟩:=BI ar;have N:=Aa D;have ak:=Aa q;have M:=Aa (show Eh e d=[] by rw[a3.o,ig (by omega)]);have cm:(0:Int)<=(k:Int):=by omega
     have fh:(k:Int)<(d:Int):=by omega
     have fi:(k:Int)<(r:Int):=by omega
     have fj:(tr e k).ss.length<=k:=(b7.o k (by omega)).sl;clear D q V ce ci bs Z ar ag br;go_wp2_with (at_builtin;refine IY rfl _ _ rfl w.heap.size (.slice none 0 0) [] rfl (iy _ _ _ _) _ (tr e k).ss rfl (by exact dx.o) (by simp;omega) cg ?_;intro dz c2 F av P au)
     simp only[j4,ja,jv]at av au;go_meet
     have W:lX l F:=P.mono (λa _ c=>Gp c);refine⟨0,[],none,0,ak.o,aj.o.keeps W id,?_,?_,λa h=>(Gp h).elim,a0.o.then W⟩
     ·show RR _ _ _ _ _ _ _ _ _ _ _;rw[N.o];exact ab.o.steps (W.mono (λ_ _ c=>c.elim)) av (λa h=>(au a h).elim (λc=>(Gp c).elim) .inr)
     show C0 _ _ _ _;rw[M.o];exact iy _ _ _ _
    have bn:(i.kind==6)=false:=by simpa using bt
    have b9:(i.kind==7)=false:=by simpa using dg
    have N:=Aa D;have M:=Aa (show Eh e d=[] by rw[a3.o,ig bt])
    have bg:=Aa (show bZ (d:Int) (BF Br (tr e d).ss).clock (BF Br (tr e d).ss).aC (BF Br (tr e d).ss).xs from by
       have U:=Qz (tr e d).ss RF (by omega);have e7:=U.tn
       exact⟨U.c0,U.c1,U.t0,by omega,U.bX,λB m=>(U.bD B m).mono (by omega),U.bL⟩)
    have d8:∃f:Nat,(∀x I E s,aZ s x I (BF Br (tr e d).ss).clock (BF Br (tr e d).ss).aC E->E.map (·.2)=(BF Br (tr e d).ss).xs->(∀a,bH x I E a->l.heap.size<=a)->Calls prog f #[π x,i.val] s λai aa=>Lh l.heap.size s ca ai aa) /\
      (((i.kind==4)=true/\f=30)\/(((i.kind==4)=false/\(i.kind==5)=true)/\f=31)\/(((i.kind==4)=false/\(i.kind==5)=false)/\f=32)):=by
     by_cases ah:i.kind=4
     ·refine⟨_,λx I E s ap m ae=>?_,.inl ⟨by simpa using ah,rfl⟩⟩;have:=VZ l.heap.size d x I _ _ E i s ap (by rw[m];exact bg.o) (by omega) (by rw[m];exact ds.o.gG);rw[m]at this;rw[q];unfold Hu;rw[ij ah];exact this
     by_cases bb:i.kind=5
     ·refine⟨_,λx I E s ap m ae=>?_,.inr (.inl ⟨⟨by simpa using ah,by simpa using bb⟩,rfl⟩)⟩;have:=Yx l.heap.size d x I _ _ E i s ap (by rw[m];exact bg.o) (by omega);rw[m]at this;rw[q];unfold Hu Hw;rw[ig ah,ij bb];exact this
     refine⟨_,λx I E s ap m ae=>?_,.inr (.inr ⟨⟨by simpa using ah,by simpa using bb⟩,rfl⟩)⟩;have:=ZQ l.heap.size d x I _ _ E i s ap (by rw[m];exact bg.o) (by omega) ae;rw[m]at this;rw[q];unfold Hu Hw;rw[ig ah,ig bb];exact this
    obtain⟨f,ae,ed⟩:=d8;have dr:=Aa ae;have dw:=Aa (a4.keeps ((aA.refl (λ_=>False) l).drew));clear ae q D a4 bt dg;rcases ed with ⟨an,rfl⟩ | ⟨⟨an,bm⟩,rfl⟩ | ⟨⟨an,bm⟩,rfl⟩;all_goals
     go_wp2_with fail
     go_region_held3 (λaa=>Ap aa j 0 26=.agg i.cells.toArray/\Az aa j 0 26=true)
      (first
         | (go_split_ands;rw[(Cf (b:=j) (o:=0) (n:=26) (I0 F (j+1) _ _ _) (by omega) db).1,(Cf (b:=j) (o:=0) (n:=26) (I0 F (j+1) _ _ _) (by omega) db).2];exact⟨by assumption,by assumption⟩)
         | (go_split_ands;rw[(Cf (b:=j) (o:=0) (n:=26) P (by omega) (by have:=C.size;simp at this;omega)).1,(Cf (b:=j) (o:=0) (n:=26) P (by omega) (by have:=C.size;simp at this;omega)).2];exact⟨by assumption,by assumption⟩)
         | (go_split_ands;rw[(Cf (b:=j) (o:=0) (n:=26) C id (by simp;omega)).1,(Cf (b:=j) (o:=0) (n:=26) C id (by simp;omega)).2];first | exact⟨ba,a5⟩ | exact⟨by assumption,by assumption⟩)
         | (rw[A3,A4];exact⟨ba,a5⟩)
         | (go_split_ands;exact⟨by assumption,by assumption⟩))
      (first
         | (go_at_call 29;refine(WK R (tr e d).ss _ (by exact dw.o) (by omega)).mono ?_;rintro ai s ⟨x,I,E,rfl,cc,df,C,ck⟩)
         | ((first | go_at_call 30 | go_at_call 31 | go_at_call 32);refine(dr.o x I E _ cc df (by exact ck)).mono ?_;rintro ai F ⟨code,aI,fw,cj,rfl,a8,P⟩;have b1:=Aa cj;clear cj;obtain⟨z,A,ee⟩:=Iv a8;subst ee;unfold Aw;have af:lX l F:=(((aA.refl (λ_=>False) l).drew).then C).trans P (λa h Y=>by omega);have db:j<F.heap.size:=(by have:=af.size;omega);have bf:=Aa (aj.o.keeps af id);obtain⟨dh,di,dj,dk⟩:=bf.o.three))
     all_goals
      have el:l.heap.size<=s.heap.size:=C.size;have X:=I0 F (j+1) (ι code) (.slice z aI.length A) (.string Ai)
      have a1:=Aa ((ab.o.hI (by omega) af (EQ a8 el)).keeps X (λa h ff=>by
           have fp:a<j\/s.heap.size<=a:=by
            rcases h with c | c | c | c | c
            ·exact .inl (G.o a (.inl c))
            ·exact .inl (G.o a (.inr (.inl c)))
            ·exact .inl (G.o a (.inr (.inr (.inl c))))
            ·exact .inr (a8.lt a c).1
            exact .inl (G.o a (.inr (.inr (.inr (.inr c)))))
           omega))
      have bz:=Aa (((bf.o.setCell 0 (ι code)).setCell 1 (.slice z aI.length A)).setCell 2 (.string Ai));have dt:=Aa ((am.o.keeps af id).keeps X (λc=>by omega));have bh:=Aa ((a0.o.then af).trans X (λa h Y=>by omega));first | rw[show(⟨#[]⟩:ByteArray)=Ai from rfl] | skip
      clear X a8 P C cc df ck dh di dj dk af bf ba a5;generalize((F.setCell ⟨j+1,0,none⟩ (ι code)).setCell ⟨j+1,1,none⟩ (.slice z aI.length A)).setCell ⟨j+1,2,none⟩ (.string Ai)=bx at *
      have e9:=bh.o.size;first
       | (go_wp2_with fail
          go_meet
          refine⟨code,aI,z,A,b1.o,bz,?_,?_,λa h=>(Gp h).elim,bh⟩
          ·show RR _ _ _ _ _ _ _ _ _ _ _;rw[N.o,show[i].filter Ex=[] by first | (simp[Ex,an];done) | (simp[Ex,an,bm];done),iC];exact a1.o
          show C0 _ _ _ _
          rw[M.o];exact iy _ _ _ _)
       | (obtain⟨fu,fg⟩:=CM dt.o 26 rfl
          go_wp2_with (at_builtin;refine IY rfl _ _ rfl w.heap.size R (tr e d).ss rfl (by exact An a1.o.S ((aA.refl (λ_=>False) bx).alloc _) (λ_ _ c=>c)) _ [i] rfl (by exact LU (aD.new bx i.cells 48)) (by simp;omega) (by simp;omega) ?_;intro e1 c4 f2 eg ec d6)
          go_meet
          have bq:=((aA.refl (λa=>R.ownBlock=some a) bx).alloc (.cells i.cells.toArray 48)).then ec;refine⟨code,aI,z,A,b1.o,bz.o.keeps bq (λc=>by have:=G.o _ (.inr (.inl c));omega),?_,?_,λa h=>(Gp h).elim,bh.o.trans bq (λa h Y=>by have:=(a1.o.S.lt a h).1;omega)⟩
          ·show RR _ _ _ _ _ _ _ _ _ _ _;rw[N.o,show[i].filter Ex=[i] by simp[Ex,an,bm]];exact a1.o.steps bq eg (λa h=>(d6 a h).elim .inl (λc=>.inr (by simp at c;omega)))
          show C0 _ _ _ _
          rw[M.o];exact iy _ _ _ _)
   case rest =>
    obtain⟨code,aI,z,A,ch,dl,bk,b8,dq,b2⟩:=hcut;generalize u4=bu at *
    generalize u8=bv at *
    obtain⟨bc,bd,rfl⟩:=BI b8.o;have dp:=Aa ch;clear ch ba a5 a4;have fb:=b2.o.size;go_wp2_with (at_builtin;first | (refine jf _ rfl _ _ _ rfl w.heap.size 22 ev _ 1 24 underlying61 cm em en eo rfl (by omega) S d H rfl (by have:=bk.o.T;rw[ad.o]at this;exact this.alloc _) ⟨wc.heap.size,0,none⟩ 1 1 [.slice bc (Eh e d).length bd] rfl rfl (iJ (cs:=#[.slice bc (Eh e d).length bd]) (t:=22) (fr:=(0,0)) (iH wc _)) (by simp[Value.oneCell']) (by omega) (by unfold maxLen;omega) (by omega) (by simp;omega) (wc.heap.size+1) (by simp) ?_;intro e4 c5 az cu cl cf fm;have a7:=((aA.refl (λa=>S.ownBlock=some a) wc).alloc (.cells #[.slice bc (Eh e d).length bd] 22)).then (LM cl);have bl:=Aa (bk.o.saved a7 (by rw[ad.o];exact cu) (λa h=>(Ru cf a h).elim .inl (λc=>.inr (by omega))) (by rw[ad.o];exact b8.o) dq.o);have dm:=Aa (dl.o.keeps a7 (λc=>by have:=G.o _ (.inr (.inr (.inl c)));omega));have b3:=Aa (b2.o.trans a7 (λa h Y=>by have:=(bk.o.T.lt a h).1;omega));obtain⟨fx,fy,fz,_⟩:=dm.o.three;have fa:w.heap.size<=az.heap.size:=b3.o.size;clear cu cl cf a7) | (refine jf _ rfl _ _ _ rfl w.heap.size 39 eu _ 3 48 underlying32 eb er es et rfl (by omega) O d (CS u) rfl (by have:=bl.o.A.row;rw[b4.o]at this;exact this.alloc _) ⟨az.heap.size,0,none⟩ 1 1 [ι code,.slice z aI.length A,.string Ai] rfl rfl (iJ (cs:=#[ι code,.slice z aI.length A,.string Ai]) (t:=39) (fr:=(0,0)) (iH az _)) (by simp[Value.oneCell']) (by omega) (by unfold maxLen;omega) (by omega) (by simp;omega) (az.heap.size+1) (by simp) ?_;intro e5 c6 f3 eh d9 d7 fo))
    go_roundg (r-(d+1))
    case rel =>
     have co:=((aA.refl (λa=>O.ownBlock=some a) az).alloc (.cells #[ι code,.slice z aI.length A,.string Ai] 39)).then (LM d9);have d4:=bl.o.out (code:=code) co (by rw[b4.o];exact eh) (λa h=>(Ru d7 a h).elim .inl (λc=>.inr (by omega)));refine⟨d+1,u++[⟨code,.slice z aI.length A,aI,Ai⟩],H++[.slice bc (Eh e d).length bd],rfl,by omega,by go_num,?_,Aa d4,?_,?_⟩
     ·show _=_;rw[ic,ad.o];rfl
     ·show _=_;rw[dn.o,dp.o,iB,bj.o];rfl
     exact b3.o.trans co (λa h Y=>by have:=(bl.o.A.lt a (.inl h)).1;omega)
    case measure=>omega
  obtain rfl:d=r:=by omega
  go_wp2;go_ret;exact⟨_,u,rfl,a2.o.A,bj.o,a2.o.nb,al.o⟩
theorem Jx{l:List cH}{x:List (Int×List Int)}(a:l.map (λx=>(x.code,x.aI))=x): l.length=x.length:=by rw[<-a,iu]
theorem ZU(a:WS): (Cx a).toList.isEmpty=false:=by
 have d:(Cx a).size≠0:=by
  unfold Cx DC;rw[Jz];unfold FS Er;simp[Bz]
 cases hb:(Cx a).toList.isEmpty with
 | false=>rfl
 | true =>
  have c:=kV.1 hb;rw[ByteArray.toList_eq]at c;exfalso;apply d;have e:=congrArg List.length c;exact e
theorem Vv(u b2:Nat)(o:aO)(code:Int)(bs:ByteArray)(x z:Value)(l:List Int)(w:World)(n:w.ownsRow u 3 1 x l.length (ints l))(q:w.ownsRow b2 3 1 z l.length (ints l))(H:l.length<=1000)(G:(o.kind=6/\∃i,bs=Cx i)\/(o.kind≠6/\bs=Ai)):
  Calls prog 17 #[o.val,Hq code x bs,Aw code z] w λF j=>F=.returned (.bool true)/\lX w j:=by
 obtain⟨c,c1,rfl⟩:=Iv n;obtain⟨d,c2,rfl⟩:=Iv q;have m:=Aa ((((aA.refl (λ_=>False) w).alloc (.cells o.cells.toArray 48)).alloc (.cells #[ι code,.slice c l.length c1,.string bs] 39)).alloc (.cells #[ι code,.slice d l.length c2,.string Ai] 39));have D:=Aa (show aD (((w.alloc (.cells o.cells.toArray 48)).alloc (.cells #[ι code,.slice c l.length c1,.string bs] 39)).alloc (.cells #[ι code,.slice d l.length c2,.string Ai] 39)) w.heap.size o.cells 48 from((aD.new w o.cells 48).alloc _).alloc _);have s:=Aa (show aD (((w.alloc (.cells o.cells.toArray 48)).alloc (.cells #[ι code,.slice c l.length c1,.string bs] 39)).alloc (.cells #[ι code,.slice d l.length c2,.string Ai] 39)) (w.heap.size+1) [ι code,.slice c l.length c1,.string bs] 39 from(aD.newAt (by simp) [_,_,_] 39).alloc _);have C:=Aa (show aD (((w.alloc (.cells o.cells.toArray 48)).alloc (.cells #[ι code,.slice c l.length c1,.string bs] 39)).alloc (.cells #[ι code,.slice d l.length c2,.string Ai] 39)) (w.heap.size+2) [ι code,.slice d l.length c2,.string Ai] 39 from aD.newAt (by simp) [_,_,_] 39);have A:=Aa (An n m.o (λ_ _ a=>a));have B:=Aa (An q m.o (λ_ _ a=>a));clear n q;unfold aO.val Aw Hq;go_enter func17,ntmps17;go_wp2_with fail
 generalize((w.alloc (.cells o.cells.toArray 48)).alloc (.cells #[ι code,.slice c l.length c1,.string bs] 39)).alloc (.cells #[ι code,.slice d l.length c2,.string Ai] 39)=L at *
 generalize w.heap.size=h at *
 refine(Y6 u b2 _ _ l L A.o B.o H).mono ?_;rintro J k ⟨rfl,e⟩;have t:=Aa (m.o.then e);have N:κ k (h+1) 0 (ι code):=e.cell (s.o.cell rfl) id;have O:κ k (h+2) 0 (ι code):=e.cell (C.o.cell rfl) id;have I:κ k (h+1) 2 (.string bs):=e.cell (s.o.cell rfl) id;have M:κ k h 0 (ι o.kind):=e.cell (D.o.cell rfl) id;clear e;go_wp2_with fail
 go_region_held3 (λj=>j.cell? ⟨h+1,0,none⟩=some (ι code)/\j.cell? ⟨h+2,0,none⟩=some (ι code)) (go_keep)
  (first | (go_at_call 19;refine(Q7 _ _).mono ?_;rintro J Q ⟨rfl,rfl⟩))
 rcases G with ⟨r,i,rfl⟩ | ⟨r,rfl⟩
 ·have E:(o.kind==6)=true:=by simpa using r
  have v:=ZU i;generalize Cx i=P at *
  go_wp2;go_ret;exact⟨by simp,t.o.drew⟩
 have E:(o.kind==6)=false:=by simpa using r
 have v:(Ai !=⟨#[]⟩)=false:=by decide
 unfold Ai at I v;go_wp2;go_ret;exact⟨rfl,t.o.drew⟩
theorem N9(base:Nat)(e:List aO)(av ab au:Value)(l:List cH)(w:World)(an:bG w av (tr e e.length).real)(aq:bG w ab (tr e e.length).told)(r:cC w base au l)(X:l.map (λc=>(c.code,c.aI))=(tr e e.length).an)(ag:l.map (·.bs)=(tr e e.length).bs)(hlen:e.length<=651562446080):
  Calls prog 9 #[av,ab,au] w λaa i=>aa=.returned (.bool true)/\lX w i:=by
 have B:=TI.all e (by omega) _ (ir _);have V:l.length=e.length:=by rw[Jx X,B.la]
 obtain⟨bh,bk,rfl,ap⟩:=Gi an;obtain⟨bf,bi,rfl⟩:=BI r.row;have a7:=Aa ap;have a8:=Aa aq;have aw:=Aa r;have O:=Aa X;have a3:=Aa B.nu;have a6:=Aa (zL5 e (by omega));have az:=Aa ag;rw[B.lr,V];clear ag an ap aq r X B;have N:=Aa V;clear V;go_enter func9,ntmps9;go_wp2_with fail
 refine(YH e hlen ab w a8.o).mono ?_;rintro aa bd ⟨bq,G,rfl,S,Y,ah,T⟩;have a0:=Aa ah;clear ah;have W:G.length=e.length:=by rw[<-N.o,Jx Y,Jx O.o]
 obtain⟨bg,bj,rfl⟩:=BI S.row;rw[W];have ay:=Aa S;have a2:=Aa Y;have ad:=Aa W;have ax:=Aa (aw.o.keeps T (λ_ _ d=>d));have M:=Aa T;clear S Y W T;generalize aj:e.length=j at *
 have be:=Aa aj;have bo:((j:Int) !=(j:Int))=false:=by simp
 clear aj;go_wp2_with fail
 go_loopw [8] (λZ wr=>∃a:Nat,a<=j/\Z=ι a/\Hid (lX bd wr)) (λZ _=>j-(intOf Z).toNat)
 case atStart=>exact⟨0,by omega,rfl,aA.refl _ _⟩
 case round =>
  obtain⟨a,bl,rfl,m⟩:=hrel;by_cases U:a<j
  ·obtain⟨t,P,al,af,am⟩:=a6.o a U;obtain⟨c,q⟩:∃c,l[a]?=some c:=⟨l[a]'(by rw[N.o];exact U),h9 _⟩;obtain⟨y,s⟩:∃y,G[a]?=some y:=⟨G[a]'(by rw[ad.o];exact U),h9 _⟩;have bc:(c.code,c.aI)=(y.code,y.aI):=by
    have k:(l.map (λc=>(c.code,c.aI)))[a]?=some (c.code,c.aI):=by rw[iS,q];rfl
    have A:(G.map (λc=>(c.code,c.aI)))[a]?=some (y.code,y.aI):=by rw[iS,s];rfl
    rw[O.o]at k;rw[a2.o]at A;rw[k]at A;injection A
   have bb:c.aI.length<=1000:=by
    have:=a3.o (c.code,c.aI) (by rw[<-O.o];exact iI.2 ⟨c,iz q,rfl⟩);simp only at this;omega
   have ar:c.bs=P:=by
    have k:(l.map (·.bs))[a]?=some c.bs:=by rw[iS,q];rfl
    rw[az.o,af]at k;injection k with k;exact k.symm
   have E:=ax.o.keeps m.o (λ_ _ d=>d);have F:=ay.o.keeps m.o (λ_ _ d=>d);have a4:=Aa (E.aI c (iz q));have ae:=Aa (F.aI y (iz s));obtain⟨Q,rfl,I,J,v⟩:=Ik (by rw[N.o]at E;exact E) a c q;obtain⟨R,rfl,x,L,z⟩:=Ik (by rw[ad.o]at F;exact F) a y s;rw[ar]at v;rw[a0.o y (iz s)]at z;injection bc with ai ak;rw[<-ai]at x;rw[<-ak]at ae;obtain⟨u,H,r,ba,ao⟩:=a7.o a t al;obtain⟨D,C⟩:=GK ao ba (M.o.then m.o);subst r;have bp:u<wr.heap.size:=by have k:=M.o.size;have A:=m.o.size;omega
   have a5:=Aa am;have bm:(0:Int)<=(a:Int):=by omega
   have bn:(a:Int)<(j:Int):=by omega
   clear q s al ao ai ak E F af am ar;go_wp2_with fail
   go_region_held3 (λi=>(Ap i u (H+a*26) 26=.agg t.cells.toArray/\Az i u (H+a*26) 26=true)/\(i.cell? ⟨Q,a*3,none⟩=some (ι c.code)/\i.cell? ⟨Q,a*3+1,none⟩=some c.nv/\i.cell? ⟨Q,a*3+2,none⟩=some (.string P))/\(i.cell? ⟨R,a*3,none⟩=some (ι c.code)/\i.cell? ⟨R,a*3+1,none⟩=some y.nv/\i.cell? ⟨R,a*3+2,none⟩=some (.string Ai)))
    (first
       | (rw[(Cf (b:=u) (o:=H+a*26) (n:=26) h id (by simp;omega)).1,(Cf (b:=u) (o:=H+a*26) (n:=26) h id (by simp;omega)).2,A3,A4];exact⟨⟨D,C⟩,⟨h.cell I id,h.cell J id,h.cell v id⟩,⟨h.cell x id,h.cell L id,h.cell z id⟩⟩)
       | (rw[A3,A4];exact⟨⟨D,C⟩,⟨I,J,v⟩,⟨x,L,z⟩⟩)
       | exact⟨⟨D,C⟩,⟨I,J,v⟩,⟨x,L,z⟩⟩)
    (first | (go_at_call 17;refine(Vv base w.heap.size t c.code P c.nv y.nv c.aI _ (by exact a4.o) (by exact ae.o) bb a5.o).mono ?_;rintro aa br ⟨rfl,h⟩))
   have a1:=Aa (m.o.then (((aA.refl (λ_=>False) wr).drew).then h));clear h D C I J v x L z;go_wp2;go_roundw;case rel=>exact⟨a+1,by omega,by go_num,a1⟩
   case measure=>simp[intOf];omega
  have a9:a=j:=by omega
  subst a9;go_wp2;go_ret;exact⟨rfl,M.o.then m.o⟩
end
section
theorem dO.at{w:World}{base T z size:Nat}{l:Int->List Value}{a:Option Addr}{m c:Nat}{e:List Value}(d:dO w base T z size l (.slice a m c) e){k:Nat}(F:k<e.length):
  ∃g x b i j,a=some ⟨g,0,none⟩/\x=.slice b i j/\i<=maxLen/\w.cell? ⟨g,k,none⟩=some x/\∀o,o<i->∃d,b=some ⟨d,0,none⟩/\∀n q,(l (77+(k/4:Nat)))[n]?=some q->w.cell? ⟨d,o*(l (77+(k/4:Nat))).length+n,none⟩=some q:=by
 obtain⟨g,H,r,_,_⟩:=d.row.form (by omega);have u:=d.row;rw[r]at u;injection r with A J B;subst A B;have v:e[k]?=some e[k]:=h9 F;obtain⟨i,h⟩:=d.full k _ v;obtain⟨b,j,t⟩:=BI h;refine⟨g,e[k],b,i,j,rfl,t,?_,Gw u v,λo E=>?_⟩
 ·rcases h.2 with ⟨_,N⟩ | ⟨_,_,_,_,_,_,O,s,_⟩
  ·unfold maxLen;omega
  omega
 rw[t]at h;obtain⟨s,I,C,_,_⟩:=h.form (by omega);injection C with D L M;subst D;exact⟨s,rfl,λn q G=>Gw h (zN9 _ E G)⟩
theorem VT(base z:Nat)(nv E:Value)(q n:List Value)(w:World)(j:dT w base z nv E q n)(Y:q.length<=10424999137280)(X:n.length<=100):
  Calls prog 11 #[π z] w λI U=>I=.returned (.bool true)/\U=w:=by
 obtain⟨ab,ad,rfl⟩:=BI j.n.row;obtain⟨V,W,rfl⟩:=BI j.a.row;have C:=Aa j.n;have A:=Aa j.a;have c0:=j.b.c0;have c1:=j.b.c1;clear j;generalize x:q.length=m at *
 generalize v:n.length=l at *
 have D:=Aa x;have B:=Aa v;clear x v;go_enter func11,ntmps11;go_wp2_with fail
 go_loopw [3] (λd wr=>∃c:Nat,c<=m/\d=ι c/\w=wr) (λd _=>m-(intOf d).toNat)
 case atStart=>exact⟨0,by omega,rfl,rfl⟩
 case round =>
  obtain⟨c,Z,rfl,rfl⟩:=hrel;by_cases P:c<m
  ·obtain⟨g,T,b,h,H,rfl,rfl,u,G,e⟩:=C.o.at (k:=c) (by rw[D.o];exact P);have o:=Aa e;unfold maxLen at u;have O:(0:Int)<=(c:Int):=by omega
   have Q:(c:Int)<(m:Int):=by omega
   have R:Int.tdiv (c:Int) 4=((c/4:Nat):Int):=by rw[jd (by omega)];omega
   clear e;go_wp2_with fail
   go_loopw [4] (λd wr=>∃a:Nat,a<=h/\d=ι a/\w=wr) (λd _=>h-(intOf d).toNat)
   case atStart=>exact⟨0,by omega,rfl,rfl⟩
   case round =>
    obtain⟨a,L,rfl,rfl⟩:=hrel;by_cases t:a<h
    ·obtain⟨J,rfl,e⟩:=o.o a t;have s:=e 0 _ rfl;rw[show ∀r:Value,[r].length=1 from λ_=>rfl,Nat.mul_one,j0]at s;have M:(0:Int)<=(a:Int):=by omega
     have N:(a:Int)<(h:Int):=by omega
     clear e;go_wp2_with fail
     go_roundw;case rel=>exact⟨a+1,by omega,by go_num,by simp⟩
     case measure=>simp[intOf];omega
    obtain rfl:a=h:=by omega
    go_wp2_with fail
    go_roundw;case rel=>exact⟨c+1,by omega,by go_num,by simp⟩
    case measure=>simp[intOf];omega
  obtain rfl:c=m:=by omega
  go_wp2_with fail
  go_loopw [5] (λd wr=>∃c:Nat,c<=l/\d=ι c/\w=wr) (λd _=>l-(intOf d).toNat)
  case atStart=>exact⟨0,by omega,rfl,rfl⟩
  case round =>
   obtain⟨i,R,rfl,rfl⟩:=hrel;by_cases S:i<l
   ·obtain⟨g,T,b,h,H,rfl,rfl,u,G,e⟩:=A.o.at (k:=i) (by rw[B.o];exact S);have o:=Aa e;unfold maxLen at u;have O:(0:Int)<=(i:Int):=by omega
    have Q:(i:Int)<(l:Int):=by omega
    have aa:Int.tdiv (i:Int) 4=((i/4:Nat):Int):=by rw[jd (by omega)];omega
    clear e;go_wp2_with fail
    go_loopw [6] (λd wr=>∃a:Nat,a<=h/\d=ι a/\w=wr) (λd _=>h-(intOf d).toNat)
    case atStart=>exact⟨0,by omega,rfl,rfl⟩
    case round =>
     obtain⟨a,L,rfl,rfl⟩:=hrel;by_cases t:a<h
     ·obtain⟨J,rfl,e⟩:=o.o a t;have s:=e 0 _ rfl;rw[show ∀r b F:Value,[r,b,F].length=3 from λ_ _ _=>rfl,j0]at s;have M:(0:Int)<=(a:Int):=by omega
      have N:(a:Int)<(h:Int):=by omega
      clear e;go_wp2_with fail
      refine(Q7 _ _).mono ?_;rintro ae af ⟨rfl,rfl⟩;go_wp2_with fail
      go_roundw;case rel=>exact⟨a+1,by omega,by go_num,by simp⟩
      case measure=>simp[intOf];omega
     obtain rfl:a=h:=by omega
     go_wp2_with fail
     go_roundw;case rel=>exact⟨i+1,by omega,by go_num,by simp⟩
     case measure=>simp[intOf];omega
   obtain rfl:i=l:=by omega
   go_wp2;go_ret;exact⟨rfl,rfl⟩
theorem TD{w:World}(t:TypeId)(g a k base:Nat)(l:List aO)(v:Value)(i:C0 w base v l)(cs:List Value)(c:aD w g cs 48)(o:l.length<=a)(x:l.length*26<=cs.length):
  (Builtin.copy_ #[22,22] t #[σ g a k,v]).run prog w=.ok (goInt l.length) (w.setCells g 0 (BN l)):=by
 obtain⟨B,d,z,s,A⟩:=jg No;have q:Nat.min l.length a=l.length:=jG o;have h:=kS (P:=prog) g 0 (BN l) 0 w (λj n=>c.some (by rw[Gg]at n;omega)) (λj _=>c.frozen _) (Pg l);simp only[j0]at h;rcases OF i with ⟨rfl,rfl⟩ | ⟨m,u,rfl,_⟩
 ·simp[Builtin.copy_,jL underlying22,Builtin.lenOf,Builtin.firstCells,sizeOf,typeInfo,d,BN,World.setCells,storeCells]
 have e:=run_loadCells_list (P:=prog) w ⟨m,0,none⟩ (BN l) (λj C r=>by rw[kl,ja];exact Gw i r);rw[Gg]at e;simp[Builtin.copy_,jL underlying22,Builtin.lenOf,Builtin.firstCells,sizeOf,typeInfo,d,s,q,e,h]
structure Hand (w:World) (base g:Nat) (l:List aO):Prop where
 le:base<=g
 mx:l.length+2<=maxLen
 ex:∃cs,aD w g cs 48/\cs.length=(l.length+2)*26/\cs.take (l.length*26)=BN l/\cs[l.length*26]?=some (ι 77)/\cs[(l.length+1)*26]?=some (ι 77)
theorem Hand.own{w:World}{base g:Nat}{l:List aO}(a:Hand w base g l): C0 w base (σ g l.length (l.length+2)) l:=by
 obtain⟨c,d,e,h,_⟩:=a.ex;exact⟨Gg l,.inr ⟨g,_,c.toArray,rfl,a.le,d,by omega,a.mx,by simpa using e,by simpa using h⟩⟩
theorem Hand.keeps{M:Nat->Prop}{w w':World}{base g:Nat}{l:List aO}(a:Hand w base g l)(h:aA M w w')(i:¬M g): Hand w' base g l:=by
 obtain⟨c,d,e⟩:=a.ex;exact⟨a.le,a.mx,c,d.keeps h i,e⟩
theorem zKj{w:World}{g n:Nat}{c:List Value}{l:List aO}(h:aD w g c 48)(j:l.length=n)(i:c.length=(n+2)*26):
  ∃a,aD (((w.setCells g 0 (BN l)).setCell ⟨g,n*26,none⟩ (ι 77)).setCell ⟨g,(n+1)*26,none⟩ (ι 77)) g a 48/\a.length=(n+2)*26/\a.take (n*26)=BN l/\a[n*26]?=some (ι 77)/\a[(n+1)*26]?=some (ι 77):=by
 have k:(BN l).length=n*26:=by rw[Gg,j]
 have d:=aD.setCells (BN l) 0 w c h (by omega);have e:(over c 0 (BN l)).length=(n+2)*26:=by rw[Di (by omega),i]
 refine⟨_,(d.setCell _ _).setCell _ _,by simp[e],?_,?_,?_⟩
 ·rw[List.take_set_of_le (by omega),List.take_set_of_le (by omega)];unfold over;rw[jP,jv,<-k,List.take_left]
 ·rw[lp (by omega),List.getElem?_set_self (by omega)]
 rw[List.getElem?_set_self (by rw[jw];omega)]
theorem Vs(base:Nat)(v:Value)(l:List aO)(w:World)(o:C0 w base v l)(hlen:l.length<=651562446080):
  Calls prog 7 #[v] w λO u=>∃g,O=.returned (σ g l.length (l.length+2))/\Hand u w.heap.size g l/\lX w u:=by
 obtain⟨N,G,I,J,L⟩:=jg No;obtain⟨R,S,rfl⟩:=BI o;have B:=Aa o;clear o;generalize s:l.length=a at *
 have c:=Aa s;clear s;go_enter func7,ntmps7
 go_wp2_with (first
    | (at_make;refine wpList_make_full _ rfl _ _ _ rfl w.heap.size 48 N _ 26 underlying22 G I J _ _ _ _ (a+2) rfl rfl (by omega) (by omega) (by rw[L];omega) (by unfold maxLen;omega) (by omega) ?_;intro e t r
       obtain⟨d,i,q⟩:∃d,aD e w.heap.size d 48/\d.length=(a+2)*26:=by
        rcases t.2 with ⟨h,_⟩ | ⟨g,T,d,C,_,D,_,_,E,_⟩
        ·cases h
        cases C;exact⟨d.toList,D,by simpa using E⟩
       have n:lX w e:=(aA.refl (λ_=>False) w).grown r (λ_ h=>by cases h);have F:=λP=>TD P w.heap.size (a+2) (a+2) base l _ (An B.o n (λ_ _ h=>h)) d i (by rw[c.o];omega) (by rw[c.o];omega);rw[c.o]at F;have x:=Aa (zKj i c.o q);have z:=Aa n;have j:=aD.setCells (BN l) 0 e d i (by rw[Gg,c.o];omega);have H:(over d 0 (BN l)).length=(a+2)*26:=by rw[Di (by rw[Gg,c.o];omega),q]
       obtain⟨aa,Y⟩:=kX.1 (j.some (show a*26<_ by omega));have U:=j.frozen (a*26);have m:=j.setCell (a*26) (ι 77);obtain⟨y,Z⟩:=kX.1 (m.some (show(a+1)*26<_ by rw[jw];omega));have V:=m.frozen ((a+1)*26);have A:=Aa (show aA (λk=>k=w.heap.size) e (e.setCells w.heap.size 0 (BN l)) from aA.setCells (M:=λk=>k=w.heap.size) (.inl rfl) _ _ _ (aA.refl _ _));clear m j H n i t r
       generalize e.setCells w.heap.size 0 (BN l)=Q at *))
 go_ret;refine⟨_,rfl,⟨ir _,by rw[c.o];unfold maxLen;omega,by rw[c.o];exact x.o⟩,z.o.trans ((A.o.setCell (.inl rfl) _).setCell (.inl rfl) _) (λk W X=>by omega)⟩
end
section
attribute [local go_sem ↓] AH Bs JR
attribute [local go_sem] AI Bt A3 A4
theorem zM6(c:Nat)(a b:Int)(w:World): (Op.equalIn (c+1+1) 43 (.agg #[ι a,ι b]) (.agg #[ι a,ι b])).run prog w=.ok true w:=by
 have u3:=underlying3;have d:=isAgg3;have e:=sizeOf3;rw[Op.equalIn];simp only[jq,jL underlying43,jy];simp only[km,Std.Legacy.Range.size,lV,kZ,lN,kU,List.range'_zero,List.forIn_cons,List.forIn_nil];go_simp
attribute [local go_sem] zM6
theorem zNa(d:Nat)(a b c e f g:Int)(w:World): (Op.equalIn (d+1+1+1) 44 (.agg #[ι a,ι b,ι c,ι e,ι f,ι g]) (.agg #[ι a,ι b,ι c,ι e,ι f,ι g])).run prog w=.ok true w:=by
 have h:=isAgg43;have i:=sizeOf43;rw[Op.equalIn];simp only[jq,jL underlying44,jy];simp only[km,Std.Legacy.Range.size,lV,kZ,lN,kU,List.range'_zero,List.forIn_cons,List.forIn_nil];go_simp
attribute [local go_sem] zNa
theorem IJ(o:aO)(w:World): (binOp .neq 48 (.agg o.cells.toArray) (.agg o.cells.toArray)).run prog w=.ok (.bool false) w:=by
 obtain⟨G,F,h,b,m,g,H⟩:=o;obtain⟨n,v,x,z,A,B,C,D,E,q,r,s,t,u,I,J,L,M,N,O⟩:=g;unfold aO.cells Cfg.eC;have u3:=underlying3;have u9:=underlying9;have i:=isAgg3;have l:=isAgg9;have k:=isAgg46;have j:=isAgg44;have Q:=sizeOf46;have P:=sizeOf44;rw[run_neq_struct,show(10000:Nat)=9995+1+1+1+1+1 from rfl,run_equalIn_agg w _ 48 _ _ (by kernel_rfl) (by kernel_rfl)];simp only[Program.fieldsOf,underlying48];have e:∀(a:Nat) (c d:Array Value) (w:World),(Op.equalIn (a+1) 46 (.agg c) (.agg d)).run prog w=_:=λa c d w=>run_equalIn_agg w a 46 c d (by kernel_rfl) (by kernel_rfl);simp only[Program.fieldsOf,underlying46]at e;go_simp
theorem XZ(base G g:Nat)(v:Value)(l:List aO)(w:World)(e:Hand w base g l)(z:C0 w G v l)(hlen:l.length<=651562446080):
  Calls prog 12 #[σ g l.length (l.length+2),v] w λV W=>V=.returned (.bool true)/\lX w W:=by
 obtain⟨X,Z,H,x⟩:=Gi (FK z);obtain⟨Y,c2,I,u⟩:=Gi (FK e.own);injection I with J L M;subst H J;have F:=Aa x;have B:=Aa u;obtain⟨aa,j,_,_,o,q⟩:=e.ex;have A:=Aa j;have C:=Aa o;have D:=Aa q;have ad:=j.lt;have ab:prog.eqGuardType prog.depth 48=false:=by kernel_rfl
 generalize r:l.length=c at *
 have E:=Aa r;clear r x u j o q e z L M c2;go_enter func12,ntmps12;go_wp2_with fail
 go_loopw [6] (λn wr=>∃a:Nat,a<=c/\n=ι a/\Hid (lX w wr)) (λn _=>c-(intOf n).toNat)
 case atStart=>exact⟨0,by omega,rfl,aA.refl _ _⟩
 case round =>
  obtain⟨a,af,rfl,d⟩:=hrel;by_cases R:a<c
  ·obtain⟨h,m⟩:∃h,l[a]?=some h:=⟨l[a]'(by rw[E.o];exact R),h9 _⟩;obtain⟨an,ap,N,S,s⟩:=F.o a h m;obtain⟨ao,aq,i,T,t⟩:=B.o a h m;obtain⟨ak,ae⟩:=GK s S d.o;obtain⟨U,Q⟩:=GK t T d.o;injection i with i;injection i with O P;subst N O P;rw[ja]at U Q;have aj:=IJ h;have ag:(0:Int)<=(a:Int):=by omega
   have ah:(a:Int)<(c:Int):=by omega
   have ai:(a:Int)<(c:Int)+2:=by omega
   clear s t m;go_wp2_with fail
   go_region
   go_wp2_with fail
   go_roundw;case rel=>exact⟨a+1,by omega,by go_num,d.o.drew⟩
   case measure=>simp[intOf];omega
  obtain rfl:a=c:=by omega
  have k:=A.o.keeps d.o id;have al:=k.cell C.o;have am:=k.cell D.o;clear k;go_wp2;go_ret;exact⟨rfl,d.o⟩
