import Derived.Test.YtnokbhcennjanaaGreatDoorXBU
open Go.RowKit Go.Proofs.Tryz
set_option maxRecDepth 100000
set_option maxHeartbeats 16000000
namespace Go.Proofs.YtnokbhcennjanaaGreatDoor
section
attribute [local go_sem ↓] AN B2 La Na
attribute [local go_sem] AO B4 A5 A6 AI AJ BC BD N1
theorem Yd(v b2:Nat)(q r:Value)(l:List Int)(w:World)(h:w.ownsRow v 3 1 q l.length (ints l))(d:w.ownsRow b2 3 1 r l.length (ints l))(H:l.length<=1000):
  Calls prog 33 #[q,r] w λx C=>x=.returned (.bool true)/\lO w C:=by
 rcases Ki h with ⟨rfl,D,c1,rfl⟩ | ⟨z,c1,rfl,k⟩
 ·rcases Ki d with ⟨_,u,c2,rfl⟩ | ⟨n,c2,rfl,m⟩;all_goals
   clear h d;go_enter func33,ntmps33;go_wp2;go_loopw [5] (λc wr=>c=.int .i64 0/\wr=w) (λ_ _=>0)
   case atStart=>exact⟨rfl,rfl⟩
   case round =>
    obtain⟨rfl,rfl⟩:=hrel;go_wp2;go_ret;exact⟨rfl,aA.refl _ _⟩
 rcases Ki d with ⟨A,u,c2,rfl⟩ | ⟨n,c2,rfl,m⟩
 ·subst A;clear h d k;go_enter func33,ntmps33;go_wp2;go_loopw [5] (λc wr=>c=.int .i64 0/\wr=w) (λ_ _=>0)
  case atStart=>exact⟨rfl,rfl⟩
  case round =>
   obtain⟨rfl,rfl⟩:=hrel;go_wp2;go_ret;exact⟨rfl,aA.refl _ _⟩
 have s:=Aa k;have t:=Aa m;clear h d k m;generalize B:l.length=i at *
 clear B;go_enter func33,ntmps33;go_wp2;go_loopw [5] (λc wr=>∃a:Nat,a<=i/\c=.int .i64 a/\Hid (lO w wr)) (λc _=>i-(intOf c).toNat)
 case atStart=>exact⟨0,by omega,rfl,aA.refl _ _⟩
 case round =>
  obtain⟨a,E,rfl,e⟩:=hrel;by_cases o:a<i
  ·have I:wr.cell? ⟨z,a,none⟩=some (.int .i64 (l.getD a 0)):=e.o.cell (s.o a o) id;have J:wr.cell? ⟨n,a,none⟩=some (.int .i64 (l.getD a 0)):=e.o.cell (t.o a o) id;generalize l.getD a 0=y at *
   have F:(0:Int)<=(a:Int):=by omega
   have G:(a:Int)<(i:Int):=by omega
   go_wp2;go_quiet (fail)
   go_wp2;go_roundw;case rel=>exact⟨a+1,by omega,by go_num,Aa (e.o.then (aA.drewN _ _ _))⟩
   case measure=>simp[intOf];omega
  go_wp2;go_ret;exact⟨rfl,e.o⟩
def Dd(l:List aO): List Int:=(Gs l).map (λ(n:Nat)=>(n:Int))
theorem Wz(l:List aO)(o:aO): Dd (l++[o])=Dd l++if (o.kind==6)=true then[(l.length:Int)] else[]:=by
 unfold Dd;rw[Ly,iy];split <;> rfl
theorem Qx(l:List aO): (Dd l).length<=l.length:=by
 unfold Dd Gs;have:=kX (λa=>match l[a]? with | some c=>c.kind==6 | none=>false) (List.range l.length);rw[List.length_range]at this;rw[im];exact this
theorem XV(v:Value)(c:List aO)(w:World)(x:bI w v c)(hlen:c.length<=651562446080):
  Calls prog 13 #[v] w λX C=>∃B,X=.returned B/\C.ownsRow w.heap.size 3 1 B (Dd c).length (ints (Dd c))/\lO w C:=by
 obtain⟨Y,Z,rfl,z⟩:=Hs x;obtain⟨V,M,S,T,U⟩:=jh Fc;have D:=Aa z;clear x z;generalize s:c.length=k at *
 have m:=Aa s;clear s;go_enter func13,ntmps13;go_wp2_with fail
 go_loopw [3,4] (λW j wr=>∃(a:Nat),a<=k/\j=.int .i64 a/\Hid (wr.ownsRow w.heap.size 3 1 W (Dd (c.take a)).length (ints (Dd (c.take a))))/\Hid (lO w wr)) (λ_ j _=>k-(intOf j).toNat)
 case atStart=>exact⟨0,by omega,rfl,ir _ _ _ _,aA.refl _ _⟩
 case round =>
  obtain⟨a,ae,rfl,i,h⟩:=hrel;generalize u3=ai at *
  by_cases O:a<k
  ·obtain⟨e,o⟩:∃e,c[a]?=some e:=⟨c[a]'(by rw[m.o];exact O),hX _⟩;obtain⟨aj,ak,I,Q,u⟩:=D.o a e o;have G:=h.o.cell (u 0 _ rfl) id;rw[kg]at G;subst I;have A:c.take (a+1)=c.take a++[e]:=by rw[jg,o];rfl
   have P:=Qx (c.take a);have n:(c.take a).length=a:=by rw[iD,m.o];omega
   rw[n]at P;have q:=Aa (show Dd (c.take (a+1))=Dd (c.take a)++if (e.kind==6)=true then[(a:Int)] else[] by rw[A,Wz,n]);have af:(0:Int)<=(a:Int):=by omega
   have ag:(a:Int)<(k:Int):=by omega
   clear u A o n;generalize Dd (c.take a)=d at *
   obtain⟨E,F,rfl⟩:=DC i.o;cases b6:e.kind==6
   ·have l:=Aa (show Dd (c.take (a+1))=d by rw[q.o,b6];simp);go_wp2_with fail
    go_roundw;case rel=>exact⟨a+1,by omega,by go_num,by rw[l.o];exact i,h⟩
    case measure=>simp[intOf];omega
   have l:=Aa (show Dd (c.take (a+1))=d++[(a:Int)] by rw[q.o,b6];simp);go_wp2_with (at_builtin;refine jf _ rfl _ _ _ rfl w.heap.size 3 V _ 1 8 underlying37 M S T U rfl (by omega) (.slice E d.length F) d.length (ints d) rfl (i.o.alloc _) ⟨wr.heap.size,0,none⟩ 1 1 [.int .i64 a] rfl rfl (iT (cs:=#[.int .i64 a]) (t:=3) (fr:=(0,0)) (iJ wr _)) (by simp[Value.oneCell']) (by omega) (by unfold maxLen;omega) (by omega) (by have:=h.o.size;simp;omega) (wr.heap.size+1) (by simp) ?_;intro ab aa al R J ad ah)
   go_roundw;case rel =>
    refine⟨a+1,by omega,by go_num,?_,?_⟩
    ·show World.ownsRow _ _ _ _ _ _ _;rw[l.o,hY,show ints (d++[(a:Int)])=ints d++[.int .i64 a] by simp[ints]];exact R
    exact(h.o.alloc _).trans (Lt J) (λj L Q=>by have:=(i.o.lt j L).1;omega)
   case measure=>simp[intOf];omega
  have N:a=k:=by omega
  subst N;go_wp2_with fail
  go_ret;have r:=i.o;rw[iq (by rw[m.o];omega)]at r;exact⟨_,rfl,r,h.o⟩
theorem X5(c:Int)(n:Nat)(w:World)(k:1<=n)(m:n<=4611686018427387904)(c0:-9223372036854775808<=c)(c1:c<=9223372036854775807):
  Calls prog 14 #[.int .i64 c,.int .i64 n] w λj l=>j=.returned (.int .i64 (Gv c n))/\Gv c n<n/\l=w:=by
 have i:((Gv c n:Nat):Int)=(if c<0 then -(c+1) else c)%(n:Int):=ky (j8 _ (by omega));have d:=Aa i;have e:=Aa (M3 c k);clear i;by_cases h:c<0
 ·have a:=Aa (show(if c<0 then -(c+1) else c)=-(c+1) from h9 h);go_enter func14,ntmps14;go_wp2;go_ret;refine⟨A9 ?_,e.o,rfl⟩;rw[d.o,a.o];exact(Int.neg_tmod (c+1) n).symm.trans (jS (by omega))
 have a:=Aa (show(if c<0 then -(c+1) else c)=c from hZ h);go_enter func14,ntmps14;go_wp2;go_ret;refine⟨A9 ?_,e.o,rfl⟩;rw[d.o,a.o]
theorem J5{a:List aO}{k:Nat}(m:TI a k){w:World}{base:Nat}{v:Value}(r:w.ownsRow base 3 1 v (Dd (tr a k).real).length (ints (Dd (tr a k).real))):
  ∃h d,v=.slice h (tr a k).sv.length d/\∀e c,(tr a k).sv[e]?=some c->∃g,h=some ⟨g,0,none⟩/\w.cell? ⟨g,e,none⟩=some (.int .i64 c.1):=by
 have j:Dd (tr a k).real=(tr a k).sv.map (λc=>(c.1:Int)):=by unfold Dd;rw[m.ix,j9];rfl
 have l:(Dd (tr a k).real).length=(tr a k).sv.length:=by rw[j,im]
 rcases Ki r with ⟨o,h,d,rfl⟩ | ⟨g,d,rfl,q⟩
 ·have n:(tr a k).sv.length=0:=by rw[<-l,o];rfl
  exact⟨h,d,by rw[n],λe c i=>by have:=(ik.1 i).1;omega⟩
 refine⟨some ⟨g,0,none⟩,d,by rw[l],λe c i=>⟨g,rfl,?_⟩⟩;have s:=(ik.1 i).1;rw[q e (by omega),j,List.getD_eq_getElem?_getD,iP,i];rfl
theorem Uk(v:Value)(j:List aO)(w:World)(bs:bI w v j)(hlen:j.length<=651562446080)(be:eE w)(bc:∀d,d∈j->-9223372036854775808<=d.a/\d.a<=9223372036854775807):
  Calls prog 6 #[v] w λF ar=>∃ap aq,F=.returned (.tuple #[ap,aq])/\Dj ar w.heap.size ap (tr j j.length).real/\Dj ar w.heap.size aq (tr j j.length).told/\(∀a,ap.ownBlock=some a->aq.ownBlock≠some a)/\lO w ar:=by
 obtain⟨dk,dr,rfl,bt⟩:=Hs bs;have cd:=Aa bt;have cf:=Aa be;have b3:=Aa bc;have bf:=TI.all j (by omega);clear bs bt be bc;generalize bo:j.length=q at *
 have ad:=Aa bo;have ce:=Aa bf;clear bo bf;go_enter func6,ntmps6;go_wp2_with fail
 go_loopg [4,5,6] (q) (λg k y a wr=>∃(h:Nat),g=q-h/\h<=q/\a=.int .i64 h/\Hid (Dj wr w.heap.size k (tr j h).real)/\Hid (Dj wr w.heap.size y (tr j h).told)/\Hid (∀a,k.ownBlock=some a->y.ownBlock≠some a)/\Hid (lO w wr))
 case atStart=>exact⟨0,rfl,by omega,rfl,ir _ _ _ _,ir _ _ _ _,(by intro a i;cases i),aA.refl _ _⟩
 case round =>
  obtain⟨h,bi,bl,rfl,L,M,H,I⟩:=hrel;generalize u4=eg at *
  generalize u5=eh at *
  by_cases cr:h<q
  ·obtain⟨d,al⟩:∃d,j[h]?=some d:=⟨j[h]'(by rw[ad.o];exact cr),hX _⟩;obtain⟨ed,ee,cn,D,br⟩:=cd.o h d al;obtain⟨cx,cp⟩:=Jl br D I.o;subst cn;have cv:∀l:List Value,l.length=26->(Eu 48 (.pointer (some ⟨wr.heap.size,0,none⟩)) (.agg d.cells.toArray)).run prog (wr.alloc (.cells l.toArray 48))=.ok .skip (wr.alloc (.cells d.cells.toArray 48)):=λl E=>JI wr l d.cells E rfl (Jb d);have cw:∀l:List Value,l.length=26->(Eu 48 (.pointer (some ⟨wr.heap.size+1,0,none⟩)) (.agg d.cells.toArray)).run prog ((wr.alloc (.cells d.cells.toArray 48)).alloc (.cells l.toArray 48))=.ok .skip ((wr.alloc (.cells d.cells.toArray 48)).alloc (.cells d.cells.toArray 48)):=λl E=>by
    have:=JI (wr.alloc (.cells d.cells.toArray 48)) l d.cells E rfl (Jb d);rw[jU]at this;exact this
   have bu:Ao (wr.alloc (.cells d.cells.toArray 48)) wr.heap.size 0 26=.agg d.cells.toArray:=Bf wr d.cells 48 26 rfl;have bk:Ay (wr.alloc (.cells d.cells.toArray 48)) wr.heap.size 0 26=true:=LJ wr d.cells 48 26 rfl;have cm:d.cells[0]?=some (.int .i64 d.kind):=rfl;have a5:=Aa al;have d3:(0:Int)<=(h:Int):=by omega
   have d4:(h:Int)<(q:Int):=by omega
   have r:=ce.o h bl;obtain⟨av,aw,t⟩:=DC L.o;obtain⟨ax,ay,u⟩:=DC M.o;rw[r.lr]at t;rw[r.lt]at u;subst t u;have W:=Aa r.lr;have b6:=Aa r.lt;have J:=Aa r;clear br al r;go_upto_if 24 with fail
   have R:lO wr ((wr.alloc (.cells d.cells.toArray 48)).alloc (.cells d.cells.toArray 48)):=((aA.refl (λ_=>False) wr).alloc _).alloc _;have a6:=Aa (show aD ((wr.alloc (.cells d.cells.toArray 48)).alloc (.cells d.cells.toArray 48)) wr.heap.size d.cells 48 from(aD.new wr d.cells 48).alloc _);have ae:=Aa (show aD ((wr.alloc (.cells d.cells.toArray 48)).alloc (.cells d.cells.toArray 48)) (wr.heap.size+1) d.cells 48 from aD.newAt (by simp) d.cells 48);have af:=Aa (A2 L.o R (λ_ _ e=>e));have cj:=Aa (A2 M.o R (λ_ _ e=>e));have a3:=Aa (I.o.then R);have B:=Aa (show ∀a,(Value.slice av h aw).ownBlock=some a->w.heap.size<=a/\a<wr.heap.size from λa i=>L.o.lt a i);have N:=Aa (show ∀a,(Value.slice ax h ay).ownBlock=some a->w.heap.size<=a/\a<wr.heap.size from λa i=>M.o.lt a i);have ea:=I.o.size;clear R cv cw cx cp bu bk cm;generalize(wr.alloc (.cells d.cells.toArray 48)).alloc (.cells d.cells.toArray 48)=V at *
   generalize ct:wr.heap.size=c at *
   have d5:c+1<V.heap.size:=ae.o.lt;clear ct;obtain⟨F,U,ag,ah,cy⟩:=(tr j h).fF d;rw[<-Ig a5.o]at ag ah;have b7:=Aa ag;have b8:=Aa ah;clear ag ah;go_cut [] (λau=>Hid (aD au c F.cells 48)/\Hid (aD au (c+1) U.cells 48)/\Hid (aA (λa=>a=c\/a=c+1) V au))
   case first =>
    rcases cy with ⟨O,rfl,rfl⟩ | ⟨O,E,rfl,rfl⟩ | ⟨k,O,bb,t,rfl,rfl⟩
    ·have cl:(d.kind==7)=false:=by simpa using O
     go_wp2_with fail
     go_meet
     exact⟨a6,ae,aA.refl _ _⟩
    all_goals
     have cl:(d.kind==7)=true:=by simpa using O
     go_wp2_with fail
     refine(XV _ (tr j h).real V (Hq af.o) (by rw[W.o];omega)).mono ?_;rintro ba x ⟨ec,rfl,am,P⟩;obtain⟨da,eb,rfl,ak⟩:=J5 J.o am;have A:=Aa (a6.o.keeps P id);have G:=Aa (ae.o.keeps P id);have a2:=Aa P;have ao:=A.o.c2;have bx:x.cell? ⟨c,25,none⟩=some (.string d.bytes):=A.o.cell rfl;have T:=G.o.c2;have bz:=A.o.frozen;have qf:=G.o.frozen;have b9:=Aa (show ∀g,da=some ⟨g,0,none⟩->V.heap.size<=g from λg bi=>(am.lt g (by rw[bi];simp[Value.ownBlock])).1);clear am P
    ·rw[E];clear ak;go_wp2_with fail
     go_meet
     refine⟨?_,?_,?_⟩
     ·exact(A.o.setCell 25 (.string Ai)).aW (p:=⟨c+1,2,none⟩) (by show c+1≠c;omega) _
     ·exact(G.o.aW (p:=⟨c,25,none⟩) (by show c≠c+1;omega) _).setCell 2 (.int .i64 (-1))
     exact((a2.o.mono (λ_ _ e=>e.elim)).setCell (p:=⟨c,25,none⟩) (Or.inl (.inl rfl)) _).setCell (p:=⟨c+1,2,none⟩) (Or.inl (.inr rfl)) _
    obtain⟨g,rfl,bj⟩:=ak _ k t;have d1:=b9.o g rfl;obtain⟨ef,df,dg,b2,dh,di⟩:=J.o.sv k (iu t);have cg:=Aa b2;have bd:=b3.o d (iu a5.o);have d8:(tr j h).sv.length<=h:=by
     have n:=Qx (tr j h).real;unfold Dd at n;rw[J.o.ix,im,im,W.o]at n;exact n
    have d6:=M3 d.a bb;generalize(tr j h).sv.length=an at *
    generalize bq:Gv d.a an=b0 at *
    have cb:=Aa bq;have dt:(0:Int)<=(b0:Int):=by omega
    have du:(b0:Int)<(an:Int):=by omega
    have dw:(0:Int)<=(k.1:Int):=by omega
    have dx:(k.1:Int)<(h:Int):=by omega
    clear bq t df dg b2 dh di ak;go_wp2_with fail
    have a0:=Aa (show aD ((x.setCell ⟨c,25,none⟩ (.string ⟨#[]⟩)).setCell ⟨c+1,2,none⟩ (.int .i64 (-1))) c (d.cells.set 25 (.string Ai)) 48 from(A.o.setCell 25 (.string Ai)).aW (p:=⟨c+1,2,none⟩) (by show c+1≠c;omega) _);have X:=Aa (show aD ((x.setCell ⟨c,25,none⟩ (.string ⟨#[]⟩)).setCell ⟨c+1,2,none⟩ (.int .i64 (-1))) (c+1) (d.cells.set 2 (.int .i64 (-1))) 48 from(G.o.aW (p:=⟨c,25,none⟩) (by show c≠c+1;omega) _).setCell 2 (.int .i64 (-1)));have s:aA (λa=>a=c\/a=c+1) x ((x.setCell ⟨c,25,none⟩ (.string ⟨#[]⟩)).setCell ⟨c+1,2,none⟩ (.int .i64 (-1))):=((aA.refl _ _).setCell (p:=⟨c,25,none⟩) (Or.inl (.inl rfl)) _).setCell (p:=⟨c+1,2,none⟩) (Or.inl (.inr rfl)) _;have co:=s.cell bj (by show ¬(g=c\/g=c+1);omega);have Z:=Aa ((a2.o.mono (M':=λa=>a=c\/a=c+1) (λ_ _ e=>e.elim)).then s);clear s bj ao bx T bz qf;generalize(x.setCell ⟨c,25,none⟩ (.string ⟨#[]⟩)).setCell ⟨c+1,2,none⟩ (.int .i64 (-1))=z at *
    have ao:=a0.o.c2;refine(X5 d.a an z (by omega) (by omega) bd.1 bd.2).mono ?_;rintro ba dc ⟨rfl,_,rfl⟩;rw[cb.o];have T:=X.o.c2;have qf:=X.o.frozen;go_wp2_with fail
    have b4:=Aa (a0.o.aW (p:=⟨c+1,2,none⟩) (by show c+1≠c;omega) (.int .i64 k.1));have b5:=Aa (X.o.setCell 2 (.int .i64 k.1));have aa:=Aa (Z.o.setCell (p:=⟨c+1,2,none⟩) (Or.inl (.inr rfl)) (.int .i64 k.1));clear ao T qf co;generalize dc.setCell ⟨c+1,2,none⟩ (.int .i64 k.1)=b1 at *
    refine(Qa j (by rw[ad.o];exact hlen) h (by rw[ad.o];exact bl) _ b1 (Hq (A2 af.o aa.o (λa i e=>by have:=B.o a i;omega))) (cf.o.keeps ((a3.o.trans aa.o (λa i D=>by omega))) id)).mono ?_;rintro ba de ⟨dq,S,rfl,ai,cs,aj,Q⟩;have bn:S.length=h:=by
     have:=congrArg List.length aj;rw[im,J.o.lb]at this;exact this
    obtain⟨y,u⟩:∃y,S[k.1]?=some y:=⟨S[k.1]'(by omega),hX _⟩;have bv:y.bs=Cs k.2.1:=by
     have n:(S.map (·.bs))[k.1]?=some y.bs:=by rw[iP,u];rfl
     rw[aj,cg.o]at n;injection n with n;exact n.symm
    obtain⟨dl,dm,rfl⟩:=DC ai.row;obtain⟨ds,rfl,_,_,dj⟩:=Mf ai k.1 y u;rw[bv]at dj;rw[bn];have Y:=Aa (b4.o.keeps Q id);have a1:=Aa (b5.o.keeps Q id);have ca:=Aa (aa.o.then (Q.mono (λ_ _ e=>e.elim)));have T:=a1.o.c2;have bx:de.cell? ⟨c,25,none⟩=some (.string Ai):=Y.o.cell rfl;have bz:=Y.o.frozen;clear ai cs aj Q bn u bv;generalize Cs k.2.1=db at *
    go_wp2_with fail
    go_meet
    refine⟨?_,?_,?_⟩
    ·exact Y.o.setCell 25 (.string db)
    ·exact a1.o.aW (p:=⟨c,25,none⟩) (by show c≠c+1;omega) _
    exact ca.o.setCell (p:=⟨c,25,none⟩) (Or.inl (.inl rfl)) _
   case rest =>
    obtain⟨cc,a8,ab⟩:=hcut;have ch:=Aa (A2 af.o ab.o (λa i e=>by have:=B.o a i;omega));have ck:=Aa (A2 cj.o ab.o (λa i e=>by have:=N.o a i;omega));have a4:=Aa (a3.o.trans ab.o (λa i D=>by omega));have dz:w.heap.size<=wc.heap.size:=a4.o.size;have d0:c+1<wc.heap.size:=a8.o.lt;obtain⟨bu,bk⟩:=CE cc.o 26 rfl;go_wp2_with (at_builtin;first | (refine II rfl _ _ rfl w.heap.size (.slice av h aw) (tr j h).real rfl (by exact A2 ch.o ((aA.refl (λ_=>False) wc).alloc _) (λ_ _ e=>e)) _ [F] rfl (by exact LO (aD.new wc F.cells 48)) (by have:=W.o;simp;omega) (by simp;omega) ?_;intro dn c2 z bp s bg;have C:=((aA.refl (λa=>(Value.slice av h aw).ownBlock=some a) wc).alloc _).then s;have a9:=Aa bp;have ci:=Aa (A2 ck.o C (λa i o=>H.o a o i));have a7:=Aa (a8.o.keeps C (λe=>by have:=B.o _ e;omega));have Z:=Aa (a4.o.trans C (λa i D=>by have:=(B.o a i).1;omega));have az:=Aa bg;have d7:wc.heap.size<=z.heap.size:=C.size;have d9:=(CE a7.o 26 rfl).1;have d2:=(CE a7.o 26 rfl).2;clear bp s C bg) | (refine II rfl _ _ rfl w.heap.size (.slice ax h ay) (tr j h).told rfl (by exact A2 ci.o ((aA.refl (λ_=>False) z).alloc _) (λ_ _ e=>e)) _ [U] rfl (by exact LO (aD.new z U.cells 48)) (by have:=b6.o;simp;omega) (by simp;omega) ?_;intro dp c3 b1 cu cq bh))
    go_roundg (q-(h+1))
    case rel =>
     have bm:=((aA.refl (λa=>(Value.slice ax h ay).ownBlock=some a) z).alloc (.cells U.cells.toArray 48)).then cq;refine⟨h+1,rfl,by omega,by go_num,?_,?_,?_,?_⟩
     ·show Dj _ _ _ _;rw[b7.o];refine A2 a9.o bm (λa i o=>?_);have m:=N.o a o;rcases az.o a i with e | e
      ·exact H.o a e o
      simp at e;omega
     ·show Dj _ _ _ _;rw[b8.o];exact cu
     ·intro a i o;rcases az.o a i with e | e
      ·have bb:=B.o a e;rcases bh a o with m | m
       ·exact H.o a e m
       simp at m;omega
      simp at e;rcases bh a o with m | m
      ·have:=N.o a m;omega
      have dy:=(a9.o.lt a i).2;simp at m;omega
     exact Z.o.trans bm (λa i D=>by have:=(N.o a i).1;omega)
    case measure=>omega
  obtain rfl:h=q:=by omega
  go_wp2;go_ret2;exact⟨_,_,rfl,L.o,M.o,H.o,I.o⟩
