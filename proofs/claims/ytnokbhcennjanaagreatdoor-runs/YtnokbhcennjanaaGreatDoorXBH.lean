import Derived.Test.YtnokbhcennjanaaGreatDoorXBG
open Go.RowKit Go.Proofs.Tryz
set_option maxRecDepth 100000
set_option maxHeartbeats 16000000
namespace Go.Proofs.YtnokbhcennjanaaGreatDoor
section
attribute [local go_sem ↓] AN JC
attribute [local go_sem] AO A5 A6 AI AJ BC BD
def MV(c:Cfg)(key:Int)(r:Nat)(z:bA): Bool:=AA c z.k r==AA c key r
def DN(c:Cfg)(l:List bA)(key:Int)(r:Nat): Nat:=(l.filter (MV c key r)).length
theorem WH(c:Cfg)(l:List bA)(key:Int)(a k:Nat)(d:k<l.length): DN c (l.take (k+1)) key a=DN c (l.take k) key a+if (AA c (Aj l k).k a==AA c key a)=true then 1 else 0:=by
 rw[je d,Cq _ _ d];unfold DN;rw[jj,hY,iR];congr 1;unfold MV;split <;> rfl
theorem MM(c:Cfg)(l:List bA)(key:Int)(a:Nat): DN c l key a<=l.length:=kX _ _
def Db(c:Cfg)(l:List bA)(key:Int): Nat->Int
 | 0=>(l.length:Int)
 | r+1=>if (DN c l key r:Int)<Db c l key r then(DN c l key r:Int) else Db c l key r
theorem OV(c:Cfg)(l:List bA)(key:Int): ∀a,0<=Db c l key a/\Db c l key a<=l.length
 | 0=>by unfold Db;omega
 | a+1=>by
  have d:=OV c l key a;have e:=MM c l key a;unfold Db;split <;> omega
theorem Vy{w:World}{d:Nat}{c:Cfg}(h:aD w d c.cells 46)(a:Nat)(i:a<3): w.cell? ⟨d,14+a*2,none⟩=some (.int .i64 (CW c a))/\w.cell? ⟨d,14+a*2+1,none⟩=some (.int .i64 (CX c a)):=by
 have:a=0\/a=1\/a=2:=by omega
 rcases this with e | e | e <;> subst e <;> exact⟨h.cell rfl,h.cell rfl⟩
def EV(c:Cfg)(m:Int): Int:=(m-c.aB+1)/Ag c*Ag c
theorem Zv(c:Cfg)(m:Int)(h:1<=Ag c): m-c.aB+1-Ag c<EV c m/\EV c m<=m-c.aB+1:=by
 have a:=j8 (m-c.aB+1) (show Ag c≠0 by omega);have d:=j1 (m-c.aB+1) (show 0<Ag c by omega);have e:=jX (m-c.aB+1) (Ag c);unfold EV;rw[Int.mul_comm];omega
theorem Vs(b:RB)(y:aG)(key m:Int)(w:World)(h:bN w b y)(ck:y.c.paned)(u:y.c.rowed)(ax:1<=Ag y.c)(cc:Ag y.c<=1000)(cj:y.items.length<=651562446090)(Y:∀q,q∈Bq y.items (EV y.c m-1) m->0<=q.k/\q.k<=2147483648)(cr:0<=key)(cs:key<=2147483648)(d2:-100<=m)(d3:m<=4611686018427387904):
  Calls prog 56 #[.pointer (some ⟨b.s,0,none⟩),.int .i64 key,.int .i64 m] w λa l=>∃g,a=.returned (.slice (some ⟨g,0,none⟩) 1 1)/\w.heap.size<=g/\aD l g [.int .i64 (Db y.c (Bq y.items (EV y.c m-1) m) key y.c.rows.toNat)] 3/\lO w l:=by
 obtain⟨j,a0⟩:∃j:Nat,y.c.rows=(j:Int):=⟨y.c.rows.toNat,by have:=u.r0;omega⟩;have a1:y.c.rows.toNat=j:=by omega
 have di:j<=3:=by have:=u.r1;omega
 have ao:=Aa h;have P:=Aa Y;obtain⟨F,d7,d4,d5⟩:=ck;have ce:Ao w b.s 1 20=.agg y.c.cells.toArray/\Ay w b.s 1 20=true:=by
  have cm:w.rangeAt b.s 1 y.c.cells:=λbi d6 bf=>h.aF.cell (by
     have cg:bi<20:=(ik.1 bf).1;have U:C4 b y=.int .i64 y.id::(y.c.cells++(b.iv::b.ev::y.ref.map (.int .i64 ·))):=rfl;rw[U,kT 1 bi,kR,iO cg]
     exact bf)
  have:=Dv cm;exact⟨by unfold Ao;have av:=this.1;rw[show y.c.cells.length=20 from rfl]at av;rw[av],this.2⟩
 obtain⟨b2,b3⟩:=ce;have cn:∀M:List Value,M.length=20->(Eu 46 (.pointer (some ⟨w.heap.size,0,none⟩)) (.agg y.c.cells.toArray)).run prog (w.alloc (.cells M.toArray 46))=.ok .skip (w.alloc (.cells y.c.cells.toArray 46)):=λM cq=>TB w M y.c.cells cq rfl (by simp[Cfg.cells,Value.oneCell']);have G:=Aa (aD.new w y.c.cells 46);have c5:(w.alloc (.cells y.c.cells.toArray 46)).cell? ⟨w.heap.size,5,none⟩=some (.int .i64 y.c.aB):=G.o.cell rfl;have c9:(w.alloc (.cells y.c.cells.toArray 46)).cell? ⟨w.heap.size,9,none⟩=some (.int .i64 y.c.aM):=G.o.cell rfl;have dr:y.c.aB/y.c.aM=Ag y.c:=rfl;have co:IntKind.i64.wrap (m-y.c.aB)=m-y.c.aB:=by rw[ic];omega
 have cp:IntKind.i64.wrap (m-y.c.aB+1)=m-y.c.aB+1:=by rw[ic];omega
 clear h Y;go_enter func56,ntmps56;go_wp2_with fail
 obtain⟨b9,ca⟩:=Zv y.c m ax;have N:=Aa (show(m-y.c.aB+1)/Ag y.c*Ag y.c=EV y.c m from rfl);refine(Vn (m-y.c.aB+1) (Ag y.c) _ (by omega) (by omega) ax cc).mono ?_;rintro a db ⟨rfl,bg⟩;rw[bg];clear bg db;obtain⟨V,I⟩:∃V,(m-y.c.aB+1)/Ag y.c=V:=⟨_,rfl⟩;rw[I]at N ⊢;obtain⟨k,X⟩:∃k,EV y.c m=k:=⟨_,rfl⟩;have br:=Aa X;rw[X]at N b9 ca P;have dj:IntKind.i64.wrap (V*Ag y.c)=k:=by rw[N.o,ic];omega
 have dk:IntKind.i64.wrap (k-1)=k-1:=by rw[ic];omega
 clear I X co cp c5 c9 cn b2 b3;have O:=Aa ((aA.refl (λ_=>False) w).alloc (.cells y.c.cells.toArray 46));have ap:=Aa (ao.o.still O.o);generalize w.alloc (.cells y.c.cells.toArray 46)=au at *
 go_wp2_with fail
 refine(L1 b y (k-1) m au ap.o cj).mono ?_;rintro a b0 ⟨bl,rfl,W,aa⟩;have bs:=Aa W;have dq:(Bq y.items (k-1) m).length<=651562446090:=by have:=JM y.items (k-1) m;omega
 have al:=Aa (O.o.then aa);have H:=Aa (G.o.keeps aa id);have bp:=Aa (show ∀q,q∈Bq y.items (k-1) m->0<=q.k/\q.k<=2147483648 from P.o);have bx:=Aa u;have bv:=Aa a1;have d8:=u.w0;have d9:=u.w1;generalize ay:Bq y.items (k-1) m=d at *
 have bt:=Aa ay;generalize a3:y.c=c at *
 have bq:=Aa a3;clear a3;obtain⟨ct,cu,b8⟩:=DC W;generalize bd:d.length=x at *
 have z:=Aa bd;subst b8;obtain⟨o,a2⟩:∃o,w.heap.size=o:=⟨_,rfl⟩;rw[a2]at H ⊢;clear W aa P ao ap bd ay O G a2 u a1;go_wp2_with fail
 go_loopw [11,12] (λbl ae wr=>∃a:Nat,a<=j/\ae=.int .i64 a/\bl=.int .i64 (Db c d key a)/\Hid (lO b0 wr)) (λ_ ae _=>j-(intOf ae).toNat)
 case atStart=>exact⟨0,by omega,rfl,by show _=Value.int .i64 (d.length:Int);rw[z.o],aA.refl _ _⟩
 case round =>
  obtain⟨a,ds,rfl,rfl,r⟩:=hrel;generalize wr=n at *
  have c7:n.cell? ⟨o,7,none⟩=some (.int .i64 j):=by rw[<-a0];exact r.o.cell (H.o.cell rfl) id
  have bb:=OV c d key a;rw[z.o]at bb;obtain⟨dz,d0⟩:=bb;by_cases dw:a<j
  ·obtain⟨af,ag⟩:=Vy (H.o.keeps r.o id) a (by omega);have c8:n.cell? ⟨o,8,none⟩=some (.int .i64 c.width):=r.o.cell (H.o.cell rfl) id;obtain⟨cw,cx,cy,da⟩:=bx.o.sd a (by rw[a0];omega);have ai:=Aa (show ∀(i:Int) (F:World),0<=i->i<=2147483648->Calls prog 82 #[.int .i64 (CW c a),.int .i64 (CX c a),.int .i64 i] F λU l=>U=.returned (.int .i64 (AG (CW c a) (CX c a) i))/\l=F from λi F dc de=>Pu _ _ _ F cw cx cy da dc de);have bu:=Aa (show ∀i,AG (CW c a) (CX c a) i%c.width=AA c i a from λi=>rfl);have aj:=Aa (λi=>GD (CW c a) (CX c a) i);have am:=Aa (show Db c d key (a+1)=if (DN c d key a:Int)<Db c d key a then(DN c d key a:Int) else Db c d key a from rfl);have a7:=aj.o key;obtain⟨C,a9⟩:∃C,AG (CW c a) (CX c a) key=C:=⟨_,rfl⟩;have ak:=Aa (ai.o key);rw[a9]at ak a7;obtain⟨dl,dm⟩:=a7;obtain⟨L,bh⟩:∃L,AA c key a=L:=⟨_,rfl⟩;have t:C%c.width=L:=by rw[<-bh,<-a9];rfl
   have dt:(0:Int)<=(a:Int):=by omega
   have dx:(a:Int)<(j:Int):=by omega
   have du:(a:Int)<3:=by omega
   have aq:=Aa af;have ar:=Aa ag;have ah:=Aa c8;generalize CW c a=bm at *
   generalize CX c a=bn at *
   generalize ab:Db c d key a=v at *
   go_wp2_with fail
   go_quiet (first | (go_at_call 82;refine jv (ak.o _ cr cs)))
   have R:=Aa (r.o.then (aA.drewN (λ_=>False) n nq));have bz:=Aa (show ∀l,lO (n.drewN nq) l->l.cell? ⟨o,14+a*2,none⟩=some (.int .i64 bm)/\l.cell? ⟨o,14+a*2+1,none⟩=some (.int .i64 bn)/\l.cell? ⟨o,8,none⟩=some (.int .i64 c.width) from λl Z=>⟨((aA.drewN (λ_=>False) n nq).then Z).cell aq.o id,((aA.drewN (λ_=>False) n nq).then Z).cell ar.o id,((aA.drewN (λ_=>False) n nq).then Z).cell ah.o id⟩);clear af ag c8 c7 aq ar ah;have an:=Aa t;clear t;generalize n.drewN nq=b1 at *
   go_wp2_with fail
   go_loopw [13,15] (λcv ad wr=>∃e:Nat,e<=x/\ad=.int .i64 e/\cv=.int .i64 (DN c (d.take e) key a)/\Hid (lO b1 wr)) (λ_ ad _=>x-(intOf ad).toNat)
   case atStart=>exact⟨0,by omega,rfl,rfl,aA.refl _ _⟩
   case round =>
    obtain⟨e,Y,rfl,rfl,s⟩:=hrel;have a4:=MM c (d.take e) key a;rw[iD]at a4;by_cases ci:e<x
    ·have D:e<d.length:=by rw[z.o];exact ci
     have az:FW wr au.heap.size (.slice ct x cu) d:=A2 bs.o (R.o.then s.o) (λ_ _ h=>h);obtain⟨dy,d1,b4,_,ba,a5⟩:=DU az;injection b4 with b5 b7 b6;clear b7;subst b5 b6;obtain⟨cb,a6⟩:=ba (by rw[z.o];omega);have df:=(a5 cb a6).1 (e*5+1) _ (by rw[C2 _ _ _ D (by omega)];rfl);subst a6;obtain⟨bj,bk⟩:=bp.o (Aj d e) (by rw[Cq _ _ D];exact jc D);have A:=Aa (WH c d key a e D);obtain⟨af,ag,c8⟩:=bz.o wr s.o;generalize(Aj d e).k=E at *
     generalize DN c (d.take e) key a=T at *
     have a8:=aj.o E;obtain⟨B,aw⟩:∃B,AG bm bn E=B:=⟨_,rfl⟩;have Q:=Aa (ai.o E);rw[aw]at Q a8;obtain⟨dg,dh⟩:=a8;obtain⟨J,be⟩:∃J,AA c E a=J:=⟨_,rfl⟩;have bc:B%c.width=J:=by rw[<-be,<-aw];exact bu.o E
     rw[be,bh]at A;have dn:(0:Int)<=(e:Int):=by omega
     have dp:(e:Int)<(x:Int):=by omega
     clear az a5 ba D;cases hb:(J==L)
     ·rw[hb]at A;have t:=an.o;have cd:(B%c.width==C%c.width)=false:=by rw[bc,t];exact hb
      go_wp2_with fail
      go_quiet (first | (go_at_call 82;refine jv (Q.o _ bj bk)))
      go_wp2;go_roundw;case rel=>exact⟨e+1,by omega,by go_num,by rw[A.o];simp,Aa (s.o.then (aA.drewN _ _ _))⟩
      case measure=>simp[intOf];omega
     rw[hb,h9 rfl]at A;have t:=an.o;have cd:(B%c.width==C%c.width)=true:=by rw[bc,t];exact hb
     go_wp2_with fail
     go_quiet (first | (go_at_call 82;refine jv (Q.o _ bj bk)))
     go_wp2;go_roundw;case rel=>exact⟨e+1,by omega,by go_num,by rw[A.o];go_num,Aa (s.o.then (aA.drewN _ _ _))⟩
     case measure=>simp[intOf];omega
    have ch:e=x:=by omega
    subst ch;have I:d.take e=d:=iq (by rw[z.o];exact il _);rw[I]at a4 ⊢;have cf:decide ((e:Int)<(e:Int))=false:=by simp
    generalize DN c d key a=T at *
    cases hd:decide ((T:Int)<v)
    ·have S:=Aa (show Db c d key (a+1)=v by rw[am.o,hZ (by simpa using hd)]);go_wp2_with fail
     go_roundw;case rel=>exact⟨a+1,by omega,by go_num,by rw[S.o],Aa (R.o.then s.o)⟩
     case measure=>simp[intOf];omega
    have S:=Aa (show Db c d key (a+1)=(T:Int) by rw[am.o,h9 (by simpa using hd)]);go_wp2_with fail
    go_roundw;case rel=>exact⟨a+1,by omega,by go_num,by rw[S.o],Aa (R.o.then s.o)⟩
    case measure=>simp[intOf];omega
  have cl:a=j:=by omega
  subst cl;have cf:decide ((a:Int)<(a:Int))=false:=by simp
  obtain⟨v,ab⟩:∃v,Db c d key a=v:=⟨_,rfl⟩;rw[ab];have bo:=Aa (aD.new n [.int .i64 v] 3);go_wp2;go_ret;refine⟨_,rfl,?_,?_,?_⟩
  ·have:=al.o.size;have:=r.o.size;omega
  ·rw[bq.o,br.o,bt.o,bv.o,ab];exact bo.o
  exact(al.o.then r.o).alloc _
end
section
theorem ZC(a c:Int): a/2147483648*c+a%2147483648*c/2147483648=a*c/2147483648:=by
 have e:=jX a 2147483648;have d:a*c=a%2147483648*c+2147483648*(a/2147483648*c):=by
  conv=>lhs;rw[<-e]
  rw[Int.add_mul,Int.mul_assoc]
 rw[d,Int.add_mul_ediv_left _ _ (by omega)];omega
theorem Zh(a c:Int): a%2147483648*c%2147483648=a*c%2147483648:=by
 have e:=jX a 2147483648;have d:a*c=a%2147483648*c+2147483648*(a/2147483648*c):=by
  conv=>lhs;rw[<-e]
  rw[Int.add_mul,Int.mul_assoc]
 rw[d,Int.add_mul_emod_self_left]
def E5(p:Int): List Value:=[.int .i64 (p/2147483648),.int .i64 (p%2147483648)]
theorem OD(a d:Int)(w:World)(D:0<=a)(E:a<=2305843009213693952)(h:0<=d)(l:d<=2147483648):
  Calls prog 130 #[.int .i64 a,.int .i64 d] w λs C=>s=.returned (.agg (E5 (a*d)).toArray)/\lO w C:=by
 have x:0<=a%2147483648*d:=kF (by omega) h;have z:a%2147483648*d<=2147483648*2147483648:=kM (by omega) l h (by omega);have t:0<=a/2147483648*d:=kF (by omega) h;have u:a/2147483648*d<=1073741824*2147483648:=kM (by omega) l h (by omega);have o:=ZC a d;have q:=Zh a d;have i:=Aa o;have k:=Aa q;clear o q;obtain⟨c,n⟩:∃c,a%2147483648*d=c:=⟨_,rfl⟩;obtain⟨e,m⟩:∃e,a/2147483648*d=e:=⟨_,rfl⟩;rw[n]at x z i k;rw[m]at t u i;have F:IntKind.i64.wrap (a%2147483648*d)=c:=by rw[n,ic];omega
 have G:IntKind.i64.wrap (a/2147483648*d)=e:=by rw[m,ic];omega
 have H:IntKind.i64.wrap (e+c/2147483648)=e+c/2147483648:=by rw[ic];omega
 have r:=Aa (show lO w (w.alloc (.cells #[.int .i64 (e+c/2147483648),.int .i64 (c%2147483648)] 181)) from(aA.refl _ _).alloc _);go_enter func130,ntmps130;go_wp2;have j:=Aa (aD.new w [.int .i64 (e+c/2147483648),.int .i64 (c%2147483648)] 181);have A:(w.alloc (.cells #[.int .i64 (e+c/2147483648),.int .i64 (c%2147483648)] 181)).cell? ⟨w.heap.size,0,none⟩=some (.int .i64 (e+c/2147483648)):=j.o.cell rfl;have B:(w.alloc (.cells #[.int .i64 (e+c/2147483648),.int .i64 (c%2147483648)] 181)).cell? ⟨w.heap.size,1,none⟩=some (.int .i64 (c%2147483648)):=j.o.cell rfl;refine iN (v:=.agg #[.int .i64 (e+c/2147483648),.int .i64 (c%2147483648)]) (by simp[results,results130,go_sem,A,B]) rfl ?_;refine⟨?_,r.o⟩;unfold E5;rw[<-i.o,<-k.o]
theorem VL(p a:Int)(w:World):
  Calls prog 131 #[.agg (E5 p).toArray,.agg (E5 a).toArray] w λj k=>j=.returned (.bool (decide (a<p)))/\lO w k:=by
 unfold E5
 have d:=Aa (show decide (a<p)=(decide (a/2147483648<p/2147483648)||((p/2147483648==a/2147483648)&&decide (a%2147483648<p%2147483648))) by
    rw[lA];simp only[Bool.or_eq_true,iK,iI,beq_iff_eq]
    omega)
 generalize p/2147483648=e at *
 generalize p%2147483648=b at *
 generalize a/2147483648=h at *
 generalize a%2147483648=i at *
 have c:=Aa (show lO w ((w.alloc (.cells #[.int .i64 e,.int .i64 b] 181)).alloc (.cells #[.int .i64 h,.int .i64 i] 181)) from((aA.refl _ _).alloc _).alloc _);cases h1:decide (h<e)
 ·cases h2:(e==h)
  ·go_enter func131,ntmps131;go_wp2;go_ret;exact⟨by rw[d.o,h1,h2];rfl,c.o⟩
  cases h3:decide (i<b);all_goals
   go_enter func131,ntmps131;go_wp2;go_ret;exact⟨by rw[d.o,h1,h2,h3];rfl,c.o⟩
 go_enter func131,ntmps131;go_wp2;go_ret;exact⟨by rw[d.o,h1];rfl,c.o⟩
end
section
attribute [local go_sem ↓] AN
attribute [local go_sem] AO A5 A6 AI AJ BC BD
def F6(c:Cfg)(x:bA): Int:=Ar (Am c x.t)
def FO(c:Cfg)(x z:bA): Bool:=decide (F6 c z*x.d<F6 c x*z.d)||(decide (F6 c x*z.d=F6 c z*x.d)&&decide (x.n<z.n))
theorem Uj(b:RB)(y:aG)(x d:bA)(w:World)(a:bN w b y)(a1:y.c.bH)(b7:0<=x.t)(bs:x.t<=4611686018427387904)(b8:0<=d.t)(bv:d.t<=4611686018427387904)(bt:0<=x.d)(bu:x.d<=2147483648)(bx:0<=d.d)(bz:d.d<=2147483648):
  Calls prog 86 #[.pointer (some ⟨b.s,0,none⟩),.agg x.cells.toArray,.agg d.cells.toArray] w λz c=>z=.returned (.bool (FO y.c x d))/\lO w c:=by
 have bq:=Gf y.c x.t;have br:=Gf y.c d.t;obtain⟨bm,bn⟩:=bq;obtain⟨bo,bp⟩:=br;have a8:=Aa (show ∀j,Calls prog 85 #[.agg y.c.cells.toArray,.int .i64 x.t] j λz c=>z=.returned (.int .i64 (Ar (Am y.c x.t)))/\lO j c from λj=>Ht y.c x.t j a1 (by omega) bs);have a9:=Aa (show ∀j,Calls prog 85 #[.agg y.c.cells.toArray,.int .i64 d.t] j λz c=>z=.returned (.int .i64 (Ar (Am y.c d.t)))/\lO j c from λj=>Ht y.c d.t j a1 (by omega) bv);have a7:=Aa (show FO y.c x d=(decide (Ar (Am y.c d.t)*x.d<Ar (Am y.c x.t)*d.d)||(decide (Ar (Am y.c x.t)*d.d=Ar (Am y.c d.t)*x.d)&&decide (x.n<d.n))) from rfl);have al:=Aa (show lO w ((w.alloc (.cells x.cells.toArray 150)).alloc (.cells d.cells.toArray 150)) from((aA.refl _ _).alloc _).alloc _);have aq:=Aa (show aD ((w.alloc (.cells x.cells.toArray 150)).alloc (.cells d.cells.toArray 150)) w.heap.size x.cells 150 from(aD.new w _ _).alloc _);have au:=Aa (show aD ((w.alloc (.cells x.cells.toArray 150)).alloc (.cells d.cells.toArray 150)) (w.heap.size+1) d.cells 150 from aD.newAt (by simp) _ _);have ab:=Aa (a.still al.o);generalize Ar (Am y.c x.t)=L at *
 generalize Ar (Am y.c d.t)=M at *
 clear a a1;obtain⟨O,ag,v,N,af⟩:=x;obtain⟨Q,ai,r,P,ah⟩:=d;go_enter func86,ntmps86;go_wp2_with fail
 have W:((w.alloc (.cells (bA.cells ⟨O,ag,v,N,af⟩).toArray 150)).alloc (.cells (bA.cells ⟨Q,ai,r,P,ah⟩).toArray 150)).cell? ⟨w.heap.size,0,none⟩=some (.int .i64 O):=aq.o.cell rfl;have X:((w.alloc (.cells (bA.cells ⟨O,ag,v,N,af⟩).toArray 150)).alloc (.cells (bA.cells ⟨Q,ai,r,P,ah⟩).toArray 150)).cell? ⟨w.heap.size+1,2,none⟩=some (.int .i64 r):=au.o.cell rfl;obtain⟨U,V⟩:=Hw ab.o.aF;have F:=ab.o.aF.lt;generalize(w.alloc (.cells (bA.cells ⟨O,ag,v,N,af⟩).toArray 150)).alloc (.cells (bA.cells ⟨Q,ai,r,P,ah⟩).toArray 150)=m at *
 go_cut [7] (λa4 Z=>∃p:Nat,a4=.pointer (some ⟨p,0,none⟩)/\Hid (aD Z p (E5 (L*r)) 181)/\Hid (lO m Z))
 case first =>
  have e:=Aa (show ∀c,lO m c->Ao c b.s 1 20=.agg y.c.cells.toArray/\Ay c b.s 1 20=true/\c.cell? ⟨w.heap.size,0,none⟩=some (.int .i64 O)/\c.cell? ⟨w.heap.size+1,2,none⟩=some (.int .i64 r) from λc A=>⟨(Cb A id F).1.trans U,(Cb A id F).2.trans V,A.cell W id,A.cell X id⟩);obtain⟨s,H⟩:∃s,L*r/2147483648=s:=⟨_,rfl⟩;obtain⟨t,I⟩:∃t,L*r%2147483648=t:=⟨_,rfl⟩
  have ap:=Aa (show ∀j,Calls prog 130 #[.int .i64 L,.int .i64 r] j λz c=>z=.returned (.agg #[.int .i64 s,.int .i64 t])/\lO j c from λj=>by
     have:=OD L r j bm bn bx bz;unfold E5 at this;rw[H,I]at this
     exact this)
  have E:=Aa (show E5 (L*r)=[.int .i64 s,.int .i64 t] by unfold E5;rw[H,I]);clear H I;go_region_held3 (λc=>Ao c b.s 1 20=.agg y.c.cells.toArray/\Ay c b.s 1 20=true/\c.cell? ⟨w.heap.size,0,none⟩=some (.int .i64 O)/\c.cell? ⟨w.heap.size+1,2,none⟩=some (.int .i64 r))
   (first
      | exact e.o _ l.o
      | exact e.o _ (l.o.alloc _)
      | exact e.o _ k.o
      | exact e.o _ (k.o.alloc _)
      | exact e.o _ ((aA.refl (λ_=>False) m).drew)
      | exact e.o _ (((aA.refl (λ_=>False) m).drew).alloc _)
      | exact e.o _ (aA.refl (λ_=>False) m)
      | exact e.o _ ((l.o.setCell (p:=⟨u.heap.size,0,none⟩) (Or.inr k.o.size) _).setCell (p:=⟨u.heap.size,1,none⟩) (Or.inr k.o.size) _)
      | exact e.o _ ((l.o.setCell (p:=⟨m.heap.size,0,none⟩) (Or.inr (il _)) _).setCell (p:=⟨m.heap.size,1,none⟩) (Or.inr (il _)) _)
      | (simp[*,A5,A6];done))
   (first
      | (go_at_call 85
         refine(a8.o _).mono ?_;rintro ae u ⟨rfl,G⟩;have k:=Aa (show lO m u by first | exact((aA.refl (λ_=>False) m).drew).then G | exact(((aA.refl (λ_=>False) m).drew).alloc _).then G);first
          | (have ay:=(aD.new m.drew [.int .i64 0,.int .i64 0] 181).keeps G id
             have aj:=Aa ay)
          | skip)
      | (go_at_call 130
         refine(ap.o _).mono ?_;rintro ae J ⟨rfl,B⟩;have l:=Aa (show lO m J by first | exact k.o.then B | exact(k.o.alloc _).then B);first
          | (have h:aD J m.heap.size [.int .i64 0,.int .i64 0] 181:=aj.o.keeps B id
             have D:=Aa h;have aw:=h.cell (i:=0) rfl;have T:=h.cell (i:=1) rfl
             have ax:=h.frozen)
          | (have h:=(aD.new u [.int .i64 0,.int .i64 0] 181).keeps B id
             have D:=Aa h;have aw:=h.cell (i:=0) rfl;have T:=h.cell (i:=1) rfl
             have ax:=h.frozen)
          | skip))
  all_goals
   go_wp2_with fail
   go_meet
   first
    | exact⟨_,rfl,Aa (by rw[E.o];exact aD.new J _ _),Aa (l.o.alloc _)⟩
    | exact⟨_,rfl,Aa (by rw[E.o];exact(D.o.setCell 0 (.int .i64 s)).setCell 1 (.int .i64 t)),Aa ((l.o.setCell (p:=⟨u.heap.size,0,none⟩) (Or.inr k.o.size) _).setCell (p:=⟨u.heap.size,1,none⟩) (Or.inr k.o.size) _)⟩
    | exact⟨_,rfl,Aa (by rw[E.o];exact(D.o.setCell 0 (.int .i64 s)).setCell 1 (.int .i64 t)),Aa ((l.o.setCell (p:=⟨m.heap.size,0,none⟩) (Or.inr (il _)) _).setCell (p:=⟨m.heap.size,1,none⟩) (Or.inr (il _)) _)⟩
 case rest =>
  obtain⟨p,rfl,a6,R⟩:=hcut;have ar:=Aa (aq.o.keeps R.o id);have av:=Aa (au.o.keeps R.o id);have ao:=Aa (ab.o.still R.o);have a5:=Aa (al.o.then R.o);clear W X U V F aq au ab R al a8;obtain⟨U,V⟩:=Hw ao.o.aF;have F:=ao.o.aF.lt;have W:=av.o.c0;have X:=ar.o.c2;generalize wc=n at *
  go_wp2_with fail
  go_cut [8] (λa4 Z=>∃p:Nat,a4=.pointer (some ⟨p,0,none⟩)/\Hid (aD Z p (E5 (M*v)) 181)/\Hid (lO n Z))
  case first =>
   have e:=Aa (show ∀c,lO n c->Ao c b.s 1 20=.agg y.c.cells.toArray/\Ay c b.s 1 20=true/\c.cell? ⟨w.heap.size+1,0,none⟩=some (.int .i64 Q)/\c.cell? ⟨w.heap.size,2,none⟩=some (.int .i64 v) from λc A=>⟨(Cb A id F).1.trans U,(Cb A id F).2.trans V,A.cell W id,A.cell X id⟩);obtain⟨s,H⟩:∃s,M*v/2147483648=s:=⟨_,rfl⟩;obtain⟨t,I⟩:∃t,M*v%2147483648=t:=⟨_,rfl⟩
   have ap:=Aa (show ∀j,Calls prog 130 #[.int .i64 M,.int .i64 v] j λz c=>z=.returned (.agg #[.int .i64 s,.int .i64 t])/\lO j c from λj=>by
      have:=OD M v j bo bp bt bu;unfold E5 at this;rw[H,I]at this
      exact this)
   have E:=Aa (show E5 (M*v)=[.int .i64 s,.int .i64 t] by unfold E5;rw[H,I]);clear H I;go_region_held3 (λc=>Ao c b.s 1 20=.agg y.c.cells.toArray/\Ay c b.s 1 20=true/\c.cell? ⟨w.heap.size+1,0,none⟩=some (.int .i64 Q)/\c.cell? ⟨w.heap.size,2,none⟩=some (.int .i64 v))
    (first
       | exact e.o _ l.o
       | exact e.o _ (l.o.alloc _)
       | exact e.o _ k.o
       | exact e.o _ (k.o.alloc _)
       | exact e.o _ ((aA.refl (λ_=>False) n).drew)
       | exact e.o _ (((aA.refl (λ_=>False) n).drew).alloc _)
       | exact e.o _ (aA.refl (λ_=>False) n)
       | exact e.o _ ((l.o.setCell (p:=⟨u.heap.size,0,none⟩) (Or.inr k.o.size) _).setCell (p:=⟨u.heap.size,1,none⟩) (Or.inr k.o.size) _)
       | exact e.o _ ((l.o.setCell (p:=⟨n.heap.size,0,none⟩) (Or.inr (il _)) _).setCell (p:=⟨n.heap.size,1,none⟩) (Or.inr (il _)) _)
       | (simp[*,A5,A6];done))
    (first
       | (go_at_call 85
          refine(a9.o _).mono ?_;rintro ae u ⟨rfl,G⟩;have k:=Aa (show lO n u by first | exact((aA.refl (λ_=>False) n).drew).then G | exact(((aA.refl (λ_=>False) n).drew).alloc _).then G);first
           | (have ay:=(aD.new n.drew [.int .i64 0,.int .i64 0] 181).keeps G id
              have aj:=Aa ay)
           | skip)
       | (go_at_call 130
          refine(ap.o _).mono ?_;rintro ae J ⟨rfl,B⟩;have l:=Aa (show lO n J by first | exact k.o.then B | exact(k.o.alloc _).then B);first
           | (have h:aD J n.heap.size [.int .i64 0,.int .i64 0] 181:=aj.o.keeps B id
              have D:=Aa h;have aw:=h.cell (i:=0) rfl;have T:=h.cell (i:=1) rfl
              have ax:=h.frozen)
           | (have h:=(aD.new u [.int .i64 0,.int .i64 0] 181).keeps B id
              have D:=Aa h;have aw:=h.cell (i:=0) rfl;have T:=h.cell (i:=1) rfl
              have ax:=h.frozen)
           | skip))
   all_goals
    go_wp2_with fail
    go_meet
    first
     | exact⟨_,rfl,Aa (by rw[E.o];exact aD.new J _ _),Aa (l.o.alloc _)⟩
     | exact⟨_,rfl,Aa (by rw[E.o];exact(D.o.setCell 0 (.int .i64 s)).setCell 1 (.int .i64 t)),Aa ((l.o.setCell (p:=⟨u.heap.size,0,none⟩) (Or.inr k.o.size) _).setCell (p:=⟨u.heap.size,1,none⟩) (Or.inr k.o.size) _)⟩
     | exact⟨_,rfl,Aa (by rw[E.o];exact(D.o.setCell 0 (.int .i64 s)).setCell 1 (.int .i64 t)),Aa ((l.o.setCell (p:=⟨n.heap.size,0,none⟩) (Or.inr (il _)) _).setCell (p:=⟨n.heap.size,1,none⟩) (Or.inr (il _)) _)⟩
  case rest =>
   obtain⟨b2,rfl,an,S⟩:=hcut;have am:=Aa (a6.o.keeps S.o id);have bg:=Aa (ar.o.keeps S.o id);have bh:=Aa (av.o.keeps S.o id);have bf:=Aa (a5.o.then S.o);clear W X U V F ar av ao S a5 a9 a6;generalize wc=bi at *
   obtain⟨o,az⟩:∃o,L*r=o:=⟨_,rfl⟩;obtain⟨q,a0⟩:∃q,M*v=q:=⟨_,rfl⟩
   have ad:=Aa (show FO y.c ⟨O,ag,v,N,af⟩ ⟨Q,ai,r,P,ah⟩=(decide (q<o)||(decide (o=q)&&decide (N<P))) by
      rw[<-az,<-a0];exact a7.o)
   rw[az]at am;rw[a0]at an;clear az a0 a7;have ba:=am.o.c0;have bb:=am.o.c1;have bc:=an.o.c0;have bd:=an.o.c1;go_wp2_with fail
   refine(VL o q bi).mono ?_;rintro ae be ⟨rfl,C⟩;have aa:=Aa (bf.o.then C);have b3:=C.cell ba id;have b4:=C.cell bb id;have b5:=C.cell bc id;have b6:=C.cell bd id;have b0:be.cell? ⟨w.heap.size,3,none⟩=some (.int .i64 N):=C.cell (bg.o.cell rfl) id;have b1:be.cell? ⟨w.heap.size+1,3,none⟩=some (.int .i64 P):=C.cell (bh.o.cell rfl) id;clear C ba bb bc bd;have ak:=Aa (show o=q↔(o/2147483648=q/2147483648/\o%2147483648=q%2147483648) by omega);generalize o/2147483648=T at *
   generalize o%2147483648=bj at *
   generalize q/2147483648=bk at *
   generalize q%2147483648=bl at *
   cases hd:decide (q<o)
   ·cases hn:decide (N<P);all_goals
     by_cases a2:T=bk
     ·by_cases a3:bj=bl
      ·have Y:decide (o=q)=true:=decide_eq_true (ak.o.2 ⟨a2,a3⟩);subst a2 a3;go_wp2;go_ret;exact⟨by rw[ad.o,hd,Y,hn];rfl,aa.o⟩
      have Y:decide (o=q)=false:=lf (λa=>a3 (ak.o.1 a).2);go_wp2;go_ret;exact⟨by rw[ad.o,hd,Y];rfl,aa.o⟩
     have Y:decide (o=q)=false:=lf (λa=>a2 (ak.o.1 a).1);go_wp2;go_ret;exact⟨by rw[ad.o,hd,Y];rfl,aa.o⟩
   go_wp2;go_ret;exact⟨by rw[ad.o,hd];rfl,aa.o⟩
end
section
def BO(c:Cfg)(l:List bA)(z:bA): Nat:=(l.filter (λx=>FO c x z)).length
theorem TC(c:Cfg)(l:List bA)(a:bA)(k:Nat)(d:k<l.length): BO c (l.take (k+1)) a=BO c (l.take k) a+if FO c (Aj l k) a=true then 1 else 0:=by
 rw[je d,Cq _ _ d];unfold BO;rw[jj,hY,iR];congr 1;split <;> rfl
theorem Xi(c:Cfg)(l:List bA)(a:bA): BO c l a<=l.length:=kX _ _
def CS(c:Cfg)(l:List bA)(p:Nat)(st:List Int×Int×Int)(z:bA): List Int×Int×Int :=
 if BO c l z=p then(if (p:Int)<c.size then(st.1++[z.t,z.k,z.d],st.2) else if (p:Int)=c.size then(st.1,F6 c z,z.d) else st) else st
def Cw(c:Cfg)(l:List bA): Nat->List Int×Int×Int
 | 0=>([],0,0)
 | p+1=>l.foldl (CS c l p) (Cw c l p)
def Bv(c:Cfg)(l:List bA)(p i:Nat): List Int×Int×Int:=(l.take i).foldl (CS c l p) (Cw c l p)
theorem Xs(c:Cfg)(l:List bA)(p i:Nat)(hi:i<l.length): Bv c l p (i+1)=CS c l p (Bv c l p i) (Aj l i):=by
 unfold Bv;rw[je hi,Cq _ _ hi,jP];rfl
theorem Qj(c:Cfg)(l:List bA)(p i:Nat)(hi:l.length<=i): Bv c l p i=Cw c l (p+1):=by
 unfold Bv;rw[iq hi];rfl
def GR(c:Cfg)(l:List bA): List Int:=(Cw c l (c.size.toNat+1)).1++[(Cw c l (c.size.toNat+1)).2.1,(Cw c l (c.size.toNat+1)).2.2]
def J9(t:TypeId)(x y:Value): Sem Next:=do pure (.value (<-Builtin.append_ #[37,37] t #[x,y]))
theorem Uy(ρ:Operand->Value)(dst:Option Tmp)(x y:Operand)(a:TypeId)(pos:String)(after:Array Edge)(guard:Option (Nat×Bool)):
  execOp ρ { dst,op:=.call { callee:=.builtin .append,args:=#[x,y],argTypes:=#[37,37] },type:=a,pos,after,guard }=J9 a (ρ x) (ρ y):=by
 rw[BigFrame.execOp_builtin,BigFrame.builtin_append];simp[J9]
theorem YG(w:World)(base:Nat)(v:Value)(n:Nat)(c:List Int)(d:Nat)(x y j:Int)(u:c.length=n)(z:w.ownsRow base 3 1 v n (Af c))(B:w.heap[d]?=some (.cells #[.int .i64 x,.int .i64 y,.int .i64 j] 3))(G:n+3<=1099511627776)(s:base<=w.heap.size):
  ∃a h e,(∀i,(J9 i v (.slice (some ⟨d,0,none⟩) 3 3)).run prog w=.ok (.value (.slice (some ⟨a,0,none⟩) (n+3) h)) e) /\
   e.ownsRow base 3 1 (.slice (some ⟨a,0,none⟩) (n+3) h) (n+3) (Af (c++[x,y,j]))/\w.grownBy e v.ownBlock/\(v.ownBlock=some a\/w.heap.size<=a):=by
 obtain⟨F,t,C,D,E⟩:=jh KM;subst u
 obtain⟨a,h,e,m,o,q,r,_⟩:=run_append_lies (P:=prog) w 37 37 base 3 F _ 1 8 underlying37 t C D E rfl (by omega) v c.length (Af c) z ⟨d,0,none⟩ 3 3 (Af [x,y,j]) rfl (iT (by exact B)) (λI l=>by
    simp only[Af,iE]at l;obtain⟨H,_,rfl⟩:=l
    rfl) (by omega) (by unfold maxLen;omega) (by omega) s w.heap.size rfl
 refine⟨a,h,e,λi=>?_,?_,q,?_⟩
 ·unfold J9;rw[jm];have A:Builtin.append_ #[37,37] i #[v,.slice (some ⟨d,0,none⟩) 3 3]=Builtin.append_ #[37,37] 37 #[v,.slice (some ⟨d,0,none⟩) 3 3]:=rfl;rw[A,m];rfl
 ·rw[NA];exact o
 rcases r with k | k
 ·exact .inl k
 exact .inr (by omega)
