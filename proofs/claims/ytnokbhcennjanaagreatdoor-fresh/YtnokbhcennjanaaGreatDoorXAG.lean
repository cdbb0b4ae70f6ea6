import Derived.Test.YtnokbhcennjanaaGreatDoorXAF
import Derived.Laws.MakeOwn
import Derived.Test.YtnokbhcennjanaaGreatDoorXAE
import Derived.Laws.Cover2
import Derived.Laws.StructEq
import Derived.Laws.Tables
open Go.RowKit Go.Proofs.Tryz
set_option maxRecDepth 100000
set_option maxHeartbeats 16000000
namespace Go.Proofs.YtnokbhcennjanaaGreatDoor
section
theorem Mk.fF: Mk.DropSays:=λi h e j a c d=>Mk.rowDrop_any i h e j a c d
theorem Mk.fT(c:Nat)(d:Option Nat)(l:List Bk)(x:Bk)(w:World)(j:Mk.aH w c d l)(k:l.length<=4398046511103):
  Calls prog 184 #[π c,x.val] w λi h=>i=.returned (.tuple #[])/\∃e,Mk.aH h c e (CZ l x)/\aA (λa=>a=c\/d=some a) w h/\(e=d\/∃a,e=some a/\w.heap.size<=a) :=
 Mk.keep_of Mk.fF c d l x w j k
attribute [local go_sem ↓] Mk.execOp_fieldMk
attribute [local go_sem] Mk.run_fieldMk0 Mk.run_fieldMk1
def DD(l:List Bk)(t:Int): Int:=if Mk.pastN l t=l.length then 0 else(Ad l (Mk.pastN l t)).t
theorem TV(c:Nat)(i:Option Nat)(l:List Bk)(t:Int)(w:World)(o:Mk.aH w c i l)(A:l.length<=4398046511104):
  Calls prog 186 #[π c,ι t] w λe s=>e=.returned (ι (DD l t))/\lX w s:=by
 have C:=Aa o;have x:=Aa (Mk.past_any c i l t w o A);have F:=Mk.pastN_le l t;have u:=Aa (show DD l t=if Mk.pastN l t=l.length then 0 else(Ad l (Mk.pastN l t)).t from rfl);clear o;generalize G:Mk.pastN l t=p at *
 clear G;go_enter func186,ntmps186;go_wp2_with fail
 refine x.o.mono ?_;rintro e I ⟨rfl,q⟩;have n:=Aa (C.o.still q);have v:=Aa q;clear q x;obtain⟨a,j⟩:∃a,l.length=a:=⟨_,rfl⟩;have d:=Aa j;rw[j]at F A;by_cases h:p=a
 ·have E:((p:Int)==(a:Int))=true:=by simp[h]
  have m:=Aa (show DD l t=0 by rw[u.o,ij (by rw[d.o];exact h)]);clear j h;go_wp2_with (go_at_call 187;refine(Mk.rowLen_int c i l a _ n.o (by rw[d.o])).mono ?_;rintro e s ⟨rfl,rfl⟩)
  go_ret;exact⟨A9 m.o.symm,v.o⟩
 have E:((p:Int)==(a:Int))=false:=by simp;omega
 obtain⟨k,r⟩:∃k,Ad l p=k:=⟨_,rfl⟩;have m:=Aa (show DD l t=k.t by rw[u.o,ig (by rw[d.o];exact h),r]);have D:=Aa r;have H:p<a:=by omega
 clear j h r;go_wp2_with (first | (go_at_call 187;refine(Mk.rowLen_int c i l a _ n.o (by rw[d.o])).mono ?_;rintro e s ⟨rfl,rfl⟩) | (go_at_call 188;refine(Mk.rowAt_is c i l p k _ n.o (by rw[d.o];exact H) D.o).mono ?_;rintro e J ⟨rfl,z⟩;have B:=Aa (v.o.then z);clear z))
 go_ret;exact⟨A9 m.o.symm,B.o⟩
def Ar(qs:List (Nat×Option Nat))(i:Nat): Nat×Option Nat:=qs.getD i (0,none)
def qf(p:Nat×Option Nat)(a:Nat): Prop:=a=p.1\/p.2=some a
def MA(c:Cfg)(rg n:Nat): List Value:=c.cells++[σ rg n n]
def CX(qs:List (Nat×Option Nat)): List Value:=qs.map λp=>π p.1
structure dA (w:World) (d rg:Nat) (qs:List (Nat×Option Nat)) (c:Cfg) (ls:Nat->List Bk):Prop where
 aF:aD w d (MA c rg qs.length) 221
 fK:aD w rg (CX qs) 215
 row:∀i,i<qs.length->Mk.aH w (Ar qs i).1 (Ar qs i).2 (ls i)
 dj:∀i j a,i<qs.length->j<qs.length->qf (Ar qs i) a->qf (Ar qs j) a->i=j
 nd:∀i,i<qs.length->¬qf (Ar qs i) d/\¬qf (Ar qs i) rg
 dr:d≠rg
theorem Io{a:List (Nat×Option Nat)}{i:Nat}(c:i<a.length): (CX a)[i]?=some (π (Ar a i).1):=by
 simp[CX,Ar,List.getD_eq_getElem?_getD,h9 c]
theorem dA.keeps{M:Nat->Prop}{w w':World}{h k:Nat}{e:List (Nat×Option Nat)}{c:Cfg}{n:Nat->List Bk}(a:dA w h k e c n)(j:aA M w w')(o:¬M h)(r:¬M k)(m:∀d l,d<e.length->qf (Ar e d) l->¬M l): dA w' h k e c n :=
 ⟨a.aF.keeps j o,a.fK.keeps j r,λd i=>(a.row d i).keeps j (m d _ i (.inl rfl)) (λg q=>m d g i (.inr q)),a.dj,a.nd,a.dr⟩
theorem dA.still{w w':World}{d i:Nat}{h:List (Nat×Option Nat)}{c:Cfg}{e:Nat->List Bk}(a:dA w d i h c e)(j:lX w w'): dA w' d i h c e:=a.keeps j id id (λ_ _ _ _ a=>a)
end
section
def Cd(c:Cfg)(n:Nat)(key:Int): Nat:=(AG c.bV c.bW key%n).toNat
def BU(c:Cfg)(n:Nat)(ls:Nat->List Bk)(y:It)(m:Int): Nat->List Bk:=λj =>
 if j=Cd c n y.k then CZ ((ls j).drop (Mk.pastN (ls j) (m-c.aB))) ⟨y.t,Cr (AG c.bV c.bW y.k/n)⟩ else ls j
structure Cfg.pair0 (c:Cfg):Prop where
 a0:0<=c.bV
 a1:c.bV<2305843009213693951
 b0:0<=c.bW
 b1:c.bW<2305843009213693951
theorem S7(n s:Nat)(k:List (Nat×Option Nat))(c:Cfg)(r:Nat->List Bk)(y:It)(m:Int)(w:World)(a:dA w n s k c r)(bb:eG w)(bc:∀d,d<k.length->¬qf (Ar k d) 2)(cn:1<=k.length)(co:k.length<=16)(bd:c.pair0)(dl:0<=c.aB)(dm:c.aB<=1000)(dj:-100<=m)(dk:m<=4611686018427387904)(cs:0<=y.k)(ct:y.k<=2147483648)(be:∀d,(r d).length<=4398046511103):
  Calls prog 142 #[π n,y.val,ι m] w λH x=>H=.returned (.tuple #[])/\∃ah,dA x n s ah c (BU c k.length r y m)/\ah.length=k.length /\
   (∀d e,d<ah.length->qf (Ar ah d) e->(∃h,h<k.length/\qf (Ar k h) e)\/w.heap.size<=e)/\aA (λe=>∃h,h<k.length/\qf (Ar k h) e) w x:=by
 obtain⟨z,Y⟩:∃z,z=w.alloc (.cells y.cells 80):=⟨_,rfl⟩;have V:=Aa (show lX w z by rw[Y];exact(aA.refl _ _).alloc _);have av:aD z w.heap.size [ι y.t,ι y.k,ι y.d,ι y.n] 80:=by rw[Y];exact aD.new w _ _
 have b8:=Aa Y;have ai:=Aa (a.still V.o);have a4:=Aa (bb.keeps V.o id);clear Y;have Z:=ai.o.aF;have cc:κ z n 14 (ι c.bV):=Z.cell rfl;have cd:κ z n 15 (ι c.bW):=Z.cell rfl;have W:κ z n 20 (σ s k.length k.length):=Z.cell rfl;have cu:=av.c1;have a6:=Aa av;have T:=Aa bd;have bn:=Aa be;have ax:=Aa a;have b2:=Aa bc;clear bc;clear Z a bb av bd be;obtain⟨j,aq⟩:∃j,j=k.length:=⟨_,rfl⟩;rw[<-aq]at cn co W;have ak:=Aa aq;clear aq;unfold It.val;go_enter func142,ntmps142;go_wp2_with fail
 rw[show w.alloc (.cells #[ι y.t,ι y.k,ι y.d,ι y.n] 80)=z from b8.o.symm];generalize bj:w.heap.size=D at *
 have ca:=Aa bj;clear bj;go_region_held3 (λx=>x.cell? ⟨n,14,none⟩=some (ι c.bV)/\x.cell? ⟨n,15,none⟩=some (ι c.bW)/\x.cell? ⟨n,20,none⟩=some (σ s j j)/\x.cell? ⟨D,1,none⟩=some (ι y.k))
  (first | (go_split_ands;exact⟨by assumption,by assumption,by assumption,by assumption⟩) | (go_split_ands;exact⟨I.cell (by assumption) id,I.cell (by assumption) id,I.cell (by assumption) id,I.cell (by assumption) id⟩))
  (first | (go_at_call 121;refine(K8 c.bV c.bW y.k _ T.o.a0 T.o.a1 T.o.b0 T.o.b1 cs ct).mono ?_;rintro H E ⟨rfl,I⟩))
 have M:=Aa (((aA.refl (λ_=>False) z).drew).then I);have L:=Aa (ai.o.still M.o);have b3:=Aa (a4.o.keeps M.o id);have b9:=Aa (a6.o.keeps M.o id);have az:=Aa (V.o.then M.o);clear I cc cd W cu ai a4 a6 M V;obtain⟨aa,cx⟩:=GO c.bV c.bW y.k;have b0:=Aa (show ∀h,BU c j r y m h=if h=(AG c.bV c.bW y.k%j).toNat then CZ ((r h).drop (Mk.pastN (r h) (m-c.aB))) ⟨y.t,Cr (AG c.bV c.bW y.k/j)⟩ else r h from λ_=>rfl);generalize AG c.bV c.bW y.k=o at *
 have cl:(0:Int)<(j:Int):=by omega
 obtain⟨d,ao⟩:∃d:Nat,o%(j:Int)=(d:Int):=⟨(o%(j:Int)).toNat,by have:=ki o (show(j:Int)≠0 by omega);omega⟩;have db:d<j:=by have:=j6 o cl;omega
 have da:(d:Int)<(j:Int):=by omega
 have cy:(0:Int)<=(d:Int):=by omega
 have dc:o.tmod (j:Int)=(d:Int):=by rw[jY aa];exact ao
 have cp:0<=o/(j:Int):=jO aa (by omega);have df:o/(j:Int)<=o:=jS _ aa;have cq:o.tdiv (j:Int)=o/(j:Int):=jd aa;have de:¬j=0:=by omega
 have di:IntKind.i64.wrap (o.tdiv (j:Int))=o/(j:Int):=by rw[cq];rw[il];omega
 have dh:IntKind.i64.wrap (o/(j:Int))=o/(j:Int):=by rw[il];omega
 have dg:IntKind.i64.wrap (m-c.aB)=m-c.aB:=by rw[il];omega
 have bo:=Aa ao;obtain⟨i,af⟩:∃i,(Ar k d)=i:=⟨_,rfl⟩;have al:=Aa af;have ad:d<k.length:=by have:=ak.o;omega
 have aj:=Aa ad;have W:κ E n 20 (σ s j j):=by rw[ak.o];exact L.o.aF.cell rfl
 have ce:κ E s d (π i.1):=by rw[<-af];exact L.o.fK.cell (Io ad)
 have c5:=L.o.aF.c5;have bk:=b9.o.c0;have bu:=Aa (show Mk.aH E i.1 i.2 (r d) by rw[<-af];exact L.o.row d ad);clear af ao ad;go_wp2_with fail
 go_quiet (fail)
 have am:=Aa (aA.drewN (λ_=>False) E nq);have cf:κ (E.drewN nq) n 5 (ι c.aB):=c5;have bl:κ (E.drewN nq) D 0 (ι y.t):=bk;generalize E.drewN nq=cb at *
 have a2:=Aa (bu.o.still am.o);have b4:=Aa (b3.o.keeps am.o id);clear W ce c5 bk;obtain⟨p,ar⟩:∃p,Mk.pastN (r d) (m-c.aB)=p:=⟨_,rfl⟩;have a1:=Aa ar;have bf:p<=(r d).length:=by rw[<-ar];exact Mk.pastN_le _ _
 have bs:=Aa bf;have b7:=Aa (show ¬(2=i.1\/i.2=some 2) by rw[<-al.o];exact λa=>b2.o d aj.o a);have a0:=Aa (bn.o d)
 have a5:=Aa (show ¬(D=i.1\/i.2=some D) from λa=>by
    have F:=ca.o;have au:=ax.o.row d aj.o;rw[al.o]at au;rcases a with a | a
    ·have:=au.lt.1;omega
    have:=(au.lt.2 D a).1;omega)
 clear ar bf;go_wp2_with fail
 refine(Mk.past_any i.1 i.2 (r d) (m-c.aB) cb a2.o (by have:=a0.o;omega)).mono ?_;rintro H a7 ⟨rfl,P⟩;rw[a1.o];have bv:=Aa (a2.o.still P);have bp:=Aa (am.o.then P);have b5:=Aa (b4.o.keeps P id);have bm:κ a7 D 0 (ι y.t):=P.cell bl id;clear P cf bl;go_wp2_with fail
 refine(Mk.lose_any i.1 i.2 (r d) p a7 bv.o bs.o).mono ?_;rintro H a8 ⟨rfl,bg,ae⟩;have bx:=Aa bg;have ay:=Aa ((bp.o.mono (M':=λe=>e=i.1\/i.2=some e) (λ_ _ a=>a.elim)).then ae);have bt:=Aa (show ¬(2=i.1\/i.2=some 2) from b7.o);have b6:=Aa (b5.o.keeps ae bt.o);have u0:κ a8 D 0 (ι y.t):=ae.cell bm a5.o;clear bg ae bm;obtain⟨aw,bi⟩:∃aw,Cr (o/(j:Int))=aw:=⟨_,rfl⟩;have a3:=Aa bi;clear bi;have br:=Aa (Mk.fT i.1 i.2 ((r d).drop p) ⟨y.t,aw⟩);go_wp2_with fail
 go_region_held3 (λx=>x.cell? ⟨D,0,none⟩=some (ι y.t)) (first | (exact by assumption) | (exact ap.cell (by assumption) a5.o))
  (first | (go_at_call 185;refine(ZF (o/(j:Int)) _ cp (by omega) (by exact b6.o.keeps ((aA.refl (λ_=>False) _).drew) id)).mono ?_;rintro H x ⟨rfl,rfl⟩;rw[a3.o]) | (go_at_call 184;refine(br.o _ (by exact bx.o.still (aA.refl _ _).drew) (by have:=a0.o;simp;omega)).mono ?_;rintro H cv ⟨rfl,J,bh,ap,cm⟩))
 have U:=Aa (ay.o.drew.then ap);have bz:=Aa bh;have bq:=Aa (az.o.size);have b1:=Aa ay.o.size;clear bh ap;go_wp2;go_end0;have ba:=al.o;have ch:=ak.o;have t:=aj.o;have Q:∀h,h<k.length->Ar (k.set d (i.1,J)) h=if h=d then(i.1,J) else Ar k h:=λh l=>by
  unfold Ar;simp only[γ,jI];by_cases a:d=h
  ·subst a;simp[l]
  simp[a,lE a]
 have q:=L.o;have N:∀e,qf (i.1,J) e->qf i e\/w.heap.size<=e:=λe G=>by
  rcases G with G | G
  ·exact .inl (.inl G)
  rcases cm with a | ⟨cr,a,ck⟩
  ·exact .inl (.inr (by rw[<-a];exact G))
  have an:J=some e:=G;rw[a]at an;injection an with an;have F:=bq.o;have A:=b1.o
  have cw:a8.heap.size<=cr:=ck;exact .inr (by omega)
 have ab:∀e,w.heap.size<=e->e≠n/\e≠s/\∀h,h<k.length->¬qf (Ar k h) e:=λe G=>by
  have ag:=ax.o;refine⟨λa=>?_,λa=>?_,λh l a=>?_⟩
  ·have:=ag.aF.lt;omega
  ·have:=ag.fK.lt;omega
  rcases a with a | a
  ·have:=(ag.row h l).lt.1;omega
  have:=((ag.row h l).lt.2 e a).1;omega
 have v:∀e,qf i e->qf (Ar k d) e:=λe a=>by rw[ba];exact a
 have a9:∀e,¬qf i e->¬(e=i.1\/i.2=some e):=λe a cg=>a cg;refine⟨rfl,k.set d (i.1,J),⟨?_,?_,?_,?_,?_,q.dr⟩,by simp,?_,?_⟩
 ·rw[jw];exact q.aF.keeps U.o (a9 n (λa=>(q.nd d t).1 (v n a)))
 ·have:CX (k.set d (i.1,J))=CX k:=by
   unfold CX;rw[kO];apply ke;intro h;rw[jI];split
   ·rename_i a;subst a;split
    ·rename_i A;have:=Io t;unfold CX at this;rw[this,ba]
    rename_i A;simp at A;omega
   rfl
  rw[this];exact q.fK.keeps U.o (a9 s (λa=>(q.nd d t).2 (v s a)))
 ·intro h l;rw[jw]at l;rw[Q h l,<-ch,b0.o h];have cj:(o%(j:Int)).toNat=d:=by rw[bo.o];simp
  rw[cj];by_cases O:h=d
  ·subst O;rw[ij rfl,ij rfl,a1.o,a3.o];exact bz.o
  rw[ig O,ig O];exact(q.row h l).keeps U.o (λa=>O (q.dj h d _ l t (.inl rfl) (v _ a))) (λg ci a=>O (q.dj h d g l t (.inr ci) (v _ a)))
 ·intro R S e F A B C;rw[jw]at F A;rw[Q R F]at B;rw[Q S A]at C;by_cases u:R=d <;> by_cases X:S=d
  ·omega
  ·rw[ij u]at B;rw[ig X]at C;rcases N e B with a | a
   ·exact u.trans (q.dj d S e t A (v e a) C)
   exact((ab e a).2.2 S A C).elim
  ·rw[ig u]at B;rw[ij X]at C;rcases N e C with a | a
   ·exact(q.dj R d e F t B (v e a)).trans X.symm
   exact((ab e a).2.2 R F B).elim
  rw[ig u]at B;rw[ig X]at C;exact q.dj R S e F A B C
 ·intro h l;rw[jw]at l;rw[Q h l];by_cases u:h=d
  ·rw[ij u];refine⟨λf=>?_,λf=>?_⟩
   ·rcases N n f with a | a
    ·exact(q.nd d t).1 (v n a)
    exact(ab n a).1 rfl
   rcases N s f with a | a
   ·exact(q.nd d t).2 (v s a)
   exact(ab s a).2.1 rfl
  rw[ig u];exact q.nd h l
 ·intro h e l f;rw[jw]at l;rw[Q h l]at f;by_cases u:h=d
  ·rw[ij u]at f;rcases N e f with a | a
   ·exact .inl ⟨d,t,v e a⟩
   exact .inr a
  rw[ig u]at f;exact .inl ⟨h,l,f⟩
 exact(az.o.mono (λ_ _ a=>a.elim)).then (U.o.mono (λe _ a=>⟨d,t,v e a⟩))
def Af(l:List Int): List Value:=l.map (ι ·)
theorem Ty(l:List Int): (Af l).length=l.length:=by simp[Af]
theorem Oa(a b:List Int): Af (a++b)=Af a++Af b:=by simp[Af]
theorem Lf: (prog.info? 3).map (λa=>(a.zero,a.size,a.bytes))=some (some (ι 0),1,8):=by kernel_rfl
theorem Fl{w:World}{t:Array Oper}{rest:List Oper}{o:Oper}{a:Act}{q:Exit->Act->World->Prop}(A:o.guard=none)(s x:Operand)(E:o.op=.call { callee:=.builtin .append,args:=#[s,x],argTypes:=#[37,37] })(base:Nat)(h:Value)(d:Nat)(m:List Int)(H:a.eval s=h)(F:w.ownsRow base 3 1 h d (Af m))(b c:Nat)(k:List Int)(V:k.length=c)(I:a.eval x=σ b c c)(v:aD w b (Af k) 3)(J:0<c)(T:d+c<=1099511627776)(z:base<=w.heap.size)(l:∀g i n,n.ownsRow base 3 1 (σ g (d+c) i) (d+c) (Af (m++k))->aA (λO=>h.ownBlock=some O) w n->(h.ownBlock=some g\/w.heap.size<=g)->wpList prog t q rest (a.put o.dst (σ g (d+c) i)) n): wpList prog t q (o::rest) a w:=by
 obtain⟨P,B,L,M,N⟩:=jg Lf;refine jf w A s x 37 E base 3 P (ι 0) 1 8 underlying37 B L M N (by rfl) (by omega) h d (Af m) H F ⟨b,0,none⟩ c c (Af k) I (by rw[Ty];omega) ?_ ?_ J (by unfold maxLen;omega) (by omega) z w.heap.size rfl ?_
 ·intro W R j;rw[kl,ja];exact v.cell j
 ·intro R j;simp only[Af,iI]at j;obtain⟨y,_,rfl⟩:=j;rfl
 intro g i S G e u U;refine l g i S (by rw[Oa];exact G) ⟨e.os,e.tape,e.output,e.size,λQ C D=>e.block Q C (λl=>D l.symm)⟩ ?_;rcases u with r | r
 ·exact .inl r
 exact .inr (by omega)
theorem DY{M:Nat->Prop}{w w':World}{base:Nat}{v:Value}{n:Nat}{i:List Value}(c:w.ownsRow base 3 1 v n i)(m:aA M w w')(q:∀h,v.ownBlock=some h->¬M h): w'.ownsRow base 3 1 v n i:=by
 rcases c.2 with ⟨a,d⟩ | ⟨g,j,k,a,d,e,l⟩
 ·exact⟨c.1,.inl ⟨a,d⟩⟩
 refine⟨c.1,.inr ⟨g,j,k,a,d,?_,l⟩⟩;have o:g<w.heap.size:=(js.1 e).1;rw[m.block g o (q g (by rw[a];simp[Value.ownBlock]))];exact e
theorem Kj{w:World}{base:Nat}{v:Value}{n:Nat}{d:List Value}(c:w.ownsRow base 3 1 v n d)(i:Nat)(hi:v.ownBlock=some i): base<=i:=by
 rcases c.2 with ⟨a,_⟩ | ⟨g,e,h,a,j,_⟩
 ·rw[a]at hi;simp[Value.ownBlock]at hi
 rw[a]at hi;have:g=i:=by simpa[Value.ownBlock] using hi
 omega
def Cw(ls:Nat->List Bk)(n:Nat)(t:Int): List Int:=(List.range n).map λi=>DD (ls i) t
def CO: List Int->Int
 | []=>0
 | g::l=>2 ^ (40-g).toNat+CO l
theorem Ov(a b:List Int): CO (a++b)=CO a+CO b:=by
 induction a with
 | nil=>simp[CO]
 | cons e d c=>simp[CO,c];omega
def Gb(c:Cfg)(n:Nat)(ls:Nat->List Bk)(a m:Int): Int×List Int :=
 if Ab a 1 c.aB=true then(0,Cw ls n (m-a)++[7*n*n*1099511627776/(10*CO (Cw ls n (m-a)))]) else(13,[])
theorem Ua(a:Nat->List Bk)(n:Nat)(t:Int): Cw a (n+1) t=Cw a n t++[DD (a n) t]:=by
 simp[Cw,kg]
theorem Je(a:Nat->List Bk)(n:Nat)(t:Int): (Cw a n t).length=n:=by simp[Cw]
theorem PL{l:List Bk}(c:∀b∈l,1<=b.t/\b.t<=40)(t:Int): 0<=DD l t/\DD l t<=40:=by
 unfold DD;split
 ·omega
 rename_i h;have e:=Mk.pastN_le l t;have d:Ad l (Mk.pastN l t)∈l:=by
  have a:Mk.pastN l t<l.length:=by omega
  have:Ad l (Mk.pastN l t)=l[Mk.pastN l t]:=by simp[Ad,List.getD_eq_getElem?_getD,h9 a]
  rw[this];exact jk a
 have:=c _ d;omega
theorem Rb{l:List Int}(c:∀g∈l,0<=g/\g<=40): (l.length:Int)<=CO l/\CO l<=1099511627776*l.length:=by
 induction l with
 | nil=>simp[CO]
 | cons a l h =>
  have i:=c a (by simp);have j:=h (λg e=>c g (by simp[e]));have d:(2:Int) ^ (40-a).toNat=((2 ^ (40-a).toNat:Nat):Int):=by simp
  have k:1<=2 ^ (40-a).toNat:=lR;have m:2 ^ (40-a).toNat<=2 ^ 40:=jr (by omega) (by omega);simp only[CO,iD];rw[d];omega
theorem UY(d l:Nat)(k:List (Nat×Option Nat))(c:Cfg)(j:Nat->List Bk)(a m:Int)(w:World)(h:dA w d l k c j)(n:Ab a 1 c.aB=false):
  Calls prog 143 #[π d,ι a,ι m] w λe i=>e=.returned (.tuple #[.slice none 0 0,ι 13])/\lX w i:=by
 have o:=h.aF.c5;clear h;go_enter func143,ntmps143;go_wp2_with (go_at_call 34;refine(AN _ _ _ _).mono ?_;rintro e i ⟨rfl,rfl⟩)
 go_ret2;exact⟨rfl,aA.refl _ _⟩
theorem T0(A F:Nat)(k:List (Nat×Option Nat))(c:Cfg)(j:Nat->List Bk)(a m:Int)(w:World)(q:dA w A F k c j)(bh:Ab a 1 c.aB=true)(bp:1<=k.length)(bq:k.length<=16)(cl:c.aB<=1000)(ch:-100<=m)(ci:m<=4611686018427387904)(am:∀h,(j h).length<=4398046511103)(aq:∀h,∀b∈j h,1<=b.t/\b.t<=40):
  Calls prog 143 #[π A,ι a,ι m] w λu G=>∃g s,u=.returned (.tuple #[σ g (k.length+1) s,ι 0]) /\
   G.ownsRow w.heap.size 3 1 (σ g (k.length+1) s) (k.length+1) (Af (Cw j k.length (m-a)++[7*k.length*k.length*1099511627776/(10*CO (Cw j k.length (m-a)))]))/\lX w G:=by
 have bk:=q.aF.c5;have bi:1<=a/\a<=c.aB:=by simpa[Ab] using bh
 obtain⟨b2,b3⟩:=bi;have av:IntKind.i64.wrap (m-a)=m-a:=by rw[il];omega
 obtain⟨i,D⟩:∃i,i=k.length:=⟨_,rfl⟩;have az:=Aa q;have a3:=Aa D;have a2:=Aa am;have Z:=Aa aq;rw[<-D]at bp bq ⊢;have aa:κ w A 20 (σ F i i):=by rw[D];exact q.aF.cell rfl
 obtain⟨bx,bo,bt,bu,bv⟩:=jg Lf;clear q am aq D;have b8:(0:Int)<=(i:Int):=by omega
 obtain⟨ay,ao,ap,ai⟩:=lT (P:=prog) w w.heap.size 37 3 bx (ι 0) 1 underlying37 bo bt bu .i64 .i64 (i+1) (by rw[bv];omega) (by unfold maxLen;omega) (ir _);rw[Int.natCast_add,Int.natCast_one]at ao;have Y:=Aa (show lX w ay from(aA.refl (λ_=>False) w).grown ai (λd aj=>by cases aj));have a7:=Aa ap;have bd:κ ay A 20 (σ F i i):=Y.o.cell aa id;clear ap ai;go_enter func143,ntmps143;go_wp2_with (first | (go_at_call 34;refine(AN _ _ _ _).mono ?_;rintro u G ⟨rfl,au⟩;rw[au];clear au G) | fail)
 obtain⟨n,ar⟩:∃n,m-a=n:=⟨_,rfl⟩;rw[ar]at av;have ba:=Aa ar;have cb:IntKind.i64.wrap (m-a)=n:=by rw[il];omega
 clear av bd aa bk ao;go_loopw [9,10,35] (λb0 b1 h wr=>∃(d:Nat) (e:Int) (g s:Nat),h=ι d/\d<=i/\b0=ι e/\0<=e/\e<=1099511627776*(d:Int)/\b1=σ g d s/\Hid (e=CO (Cw j d n))/\Hid (wr.ownsRow w.heap.size 3 1 (σ g d s) d (Af (Cw j d n)))/\Hid (lX w wr)) (λ_ _ h _=>i-(intOf h).toNat)
 case atStart=>exact⟨0,0,w.heap.size,i+1,rfl,iT _,rfl,by omega,by omega,rfl,rfl,a7,Y⟩
 case round =>
  obtain⟨d,e,g,s,rfl,aj,rfl,b6,bg,rfl,L,J,x⟩:=hrel;have U:=Aa (az.o.still x.o);have b7:(0:Int)<=(d:Int):=by omega
  have ah:∀h,(Value.slice (some ⟨g,0,none⟩) d s).ownBlock=some h->w.heap.size<=h:=Kj J.o;have V:=Aa ah;clear ah;by_cases an:d<i
  ·have al:(d:Int)<(i:Int):=by omega
   have S:d<k.length:=by have:=a3.o;omega
   obtain⟨v,T⟩:∃v,Ar k d=v:=⟨_,rfl⟩;have bc:κ wr F d (π v.1):=by rw[<-T];exact U.o.fK.cell (Io S)
   have a0:=Aa (TV v.1 v.2 (j d) n wr (by rw[<-T];exact U.o.row d S) (by have:=a2.o d;omega));obtain⟨be,bf⟩:=PL (Z.o d) n;have W:=Aa (Ua j d n);obtain⟨r,O⟩:∃r,DD (j d) n=r:=⟨_,rfl⟩;rw[O]at be bf;have I:=Aa O;clear O T S;have ax:=G0 (40-r).toNat (by omega);have bz:(2:Int) ^ (40-r).toNat<=1099511627776:=by
    have b4:2 ^ (40-r).toNat<=2 ^ 40:=jr (by omega) (by omega);have u:(2:Int) ^ (40-r).toNat=((2 ^ (40-r).toNat:Nat):Int):=by simp
    rw[u];omega
   obtain⟨z,ad⟩:∃z,(2:Int) ^ (40-r).toNat=z:=⟨_,rfl⟩;have a8:=Aa ad;rw[ad]at ax bz;obtain⟨cj,ck⟩:=ax;go_wp2_with fail
   refine a0.o.mono ?_;rintro u M ⟨rfl,B⟩;rw[I.o];have X:=Aa (x.o.then B);have a5:=Aa (DY J.o B (λ_ _ q=>q));have cc:=X.o.size;have H:=Aa (aD.new M [ι r] 3);clear B bc;go_wp2_with (at_builtin;refine Fl rfl _ _ rfl w.heap.size _ d (Cw j d n) rfl (by exact DY a5.o ((aA.refl (λ_=>False) M).alloc _) (λ_ _ q=>q)) M.heap.size 1 [r] rfl rfl H.o (by omega) (by omega) (by simp;omega) ?_;intro N c2 bb E C ag)
   have a1:=Aa (((X.o.alloc (.cells #[ι r] 3))).trans C (λh R an=>by have:=V.o h R;omega));have a6:=Aa E;clear E C ag;refine⟨⟨d+1,e+z,N,c2,by go_num,by omega,rfl,by omega,by omega,rfl,?_,?_,a1⟩,by simp[intOf];omega⟩
   ·show _=_;rw[W.o,Ov,<-L.o,I.o];simp only[CO];rw[a8.o];omega
   show World.ownsRow _ _ _ _ _ _ _;rw[W.o,I.o];exact a6.o
  have al:d=i:=by omega
  subst al;have B:1<=(d:Int):=by omega
  have ak:(d:Int)<=16:=by omega
  have b9:0<=(d:Int)*(d:Int):=kL (by omega) (by omega);have ca:(d:Int)*(d:Int)<=16*16:=kT ak ak (by omega) (by omega);have bj:7*(d:Int)*(d:Int)=7*((d:Int)*(d:Int)):=Int.mul_assoc _ _ _;have ce:IntKind.i64.wrap (7*(d:Int))=7*(d:Int):=by rw[il];omega
  have cf:IntKind.i64.wrap (7*(d:Int)*(d:Int))=7*(d:Int)*(d:Int):=by rw[il];omega
  have br:IntKind.i64.wrap (7*(d:Int)*(d:Int)*1099511627776)=7*(d:Int)*(d:Int)*1099511627776:=by rw[il];omega
  have cg:IntKind.i64.wrap (10*e)=10*e:=by rw[il];omega
  have af:=(Rb (l:=Cw j d n) (λcm aw=>by
       simp only[Cw,iI]at aw;obtain⟨h,_,rfl⟩:=aw
       exact PL (Z.o h) n)).1
  rw[Je,<-L.o]at af;have bg:1<=e:=by omega
  clear af;obtain⟨o,ab⟩:∃o,7*(d:Int)*(d:Int)*1099511627776=o:=⟨_,rfl⟩;have Q:0<=o:=by omega
  have b5:o<=1970324836974592:=by omega
  have bl:o.tdiv (10*e)=o/(10*e):=jd Q;have bm:0<=o/(10*e):=jO Q (by omega);have bn:o/(10*e)<=o:=jS _ Q;have bs:IntKind.i64.wrap (o/(10*e))=o/(10*e):=by rw[il];omega
  rw[ab]at br;have a4:=Aa ab;obtain⟨t,ae⟩:∃t,o/(10*e)=t:=⟨_,rfl⟩;have a9:=Aa ae;clear bj;rw[ae]at bl bm bn bs;have H:=Aa (aD.new wr [ι t] 3);have cd:=x.o.size;go_wp2_with (at_builtin;refine Fl rfl _ _ rfl w.heap.size _ d (Cw j d n) rfl (by exact DY J.o ((aA.refl (λ_=>False) wr).alloc _) (λ_ _ q=>q)) wr.heap.size 1 [t] rfl rfl H.o (by omega) (by omega) (by simp;omega) ?_;intro N c2 bb E C ag)
  go_ret2;refine⟨N,c2,rfl,?_,?_⟩
  ·have:=E;rw[ba.o,<-L.o,a4.o,a9.o];exact this
  exact(x.o.alloc (.cells #[ι t] 3)).trans C (λh R an=>by have:=V.o h R;omega)
def addN(a b:List Int)(t:Nat): List Int:=(List.zipWith (·+·) a b).take t++a.drop t
theorem zLy{a b:List Int}(c:a.length=b.length)(t:Nat)(e:t<a.length): (addN a b t)[t]?=some a[t]:=by
 unfold addN;have d:((List.zipWith (·+·) a b).take t).length=t:=by simp[<-c];omega
 rw[iO (by omega),d,j9,j5,j0,h9 e]
theorem YE{a b:List Int}(c:a.length=b.length)(t:Nat)(d:t<a.length): (addN a b t).set t (a[t]+b[t]'(by omega))=addN a b (t+1):=by
 have e:((List.zipWith (·+·) a b).take t).length=t:=by simp[<-c];omega
 have h:t<(List.zipWith (·+·) a b).length:=by simp[<-c];exact d
 unfold addN;rw[jU _ _ (by omega),e,j9,δ d,List.set_cons_zero,jm h];simp
theorem Xr(a b:List Int): addN a b 0=a:=by simp[addN]
theorem Zq{a b:List Int}(c:a.length=b.length): addN a b a.length=List.zipWith (·+·) a b:=by
 unfold addN;rw[kK,iC,iw (by simp[<-c])]
theorem zN4(h:Nat)(a b:List Int)(w:World)(A:a.length=48)(C:b.length=48)(u:aD w h (Af a) 228)(n:∀e∈a,0<=e)(D:∀e∈b,0<=e)(H:∀e∈List.zipWith (·+·) a b,e<=4611686018427387904):
  Calls prog 225 #[π h,.agg (Af b).toArray] w λX M=>X=.returned (.tuple #[])/\aD M h (Af (List.zipWith (·+·) a b)) 228/\aA (λj=>j=h) w M:=by
 obtain⟨k,m⟩:∃k,k=w.alloc (.cells (Af b).toArray 228):=⟨_,rfl⟩;have R:=Aa (show aA (λj=>j=h) w k by rw[m];exact(aA.refl _ _).alloc _);have U:=Aa (show aD k w.heap.size (Af b) 228 by rw[m];exact aD.new w _ _);have Q:=Aa (show aD k h (Af a) 228 by rw[m];exact u.alloc _);have ad:=u.lt;have W:=Aa m;have O:=Aa n;have P:=Aa D;have V:=Aa H;have o:=Aa A;have r:=Aa C;clear m u n D H A C;go_enter func225,ntmps225;go_wp2_with fail
 rw[show w.alloc (.cells (Af b).toArray 228)=k from W.o.symm];generalize am:w.heap.size=L at *
 have T:=Aa (show ∀c,c<48->∃e y,a[c]?=some e/\b[c]?=some y/\0<=e/\0<=y/\e+y<=4611686018427387904/\(addN a b c)[c]?=some e/\(addN a b c).set c (e+y)=addN a b (c+1) from λc I=>by
    have l:c<a.length:=by rw[o.o];exact I
    have t:c<b.length:=by rw[r.o];exact I
    have n:a.length=b.length:=by rw[o.o,r.o]
    have Y:=O.o a[c] (jk l);have Z:=P.o b[c] (jk t);have aa:=V.o (a[c]+b[c]) (iz (i:=c) (by rw[List.getElem?_zipWith,h9 l,h9 t]))
    exact⟨a[c],b[c],h9 l,h9 t,Y,Z,aa,zLy n c l,YE n c l⟩)
 go_loopw [6] (λj wr=>∃d:Nat,j=ι d/\d<=3/\Hid (aD wr h (Af (addN a b (d*16))) 228)/\Hid (aA (λj=>j=h) k wr)) (λj _=>3-(intOf j).toNat)
 case atStart=>exact⟨0,rfl,by omega,by show aD _ _ _ _;rw[k4,Xr];exact Q.o,aA.refl _ _⟩
 case round =>
  obtain⟨d,rfl,ak,x,z⟩:=hrel;obtain⟨N,ae⟩:∃N,N=wr:=⟨_,rfl⟩;subst ae;have al:(0:Int)<=(d:Int):=by omega
  by_cases ad:d<3
  ·have E:(d:Int)<3:=by omega
   go_wp2_with fail
   go_loopw [9] (λv wr=>∃p:Nat,v=ι p/\p<=16/\Hid (aD wr h (Af (addN a b (d*16+p))) 228)/\Hid (aA (λj=>j=h) k wr)) (λv _=>16-(intOf v).toNat)
   case atStart=>exact⟨0,rfl,by omega,x,z⟩
   case round =>
    obtain⟨p,rfl,an,q,s⟩:=hrel;have ao:(0:Int)<=(p:Int):=by omega
    by_cases ap:p<16
    ·have G:(p:Int)<16:=by omega
     obtain⟨e,y,af,J,ar,av,au,B,F⟩:=T.o (d*16+p) (by omega);have ah:κ wr h (d*16+p) (ι e):=q.o.cell (by unfold Af;rw[iS,B];rfl);have ai:κ wr L (d*16+p) (ι y):=s.o.cell (U.o.cell (by unfold Af;rw[iS,J];rfl)) (λab=>by have aj:L=h:=ab;omega);have ag:=q.o.frozen;have S:=Aa F;have aq:IntKind.i64.wrap (e+y)=e+y:=by rw[il];omega
     clear af J B F;go_wp2_with fail
     go_region
     go_wp2;go_roundw;case rel =>
      refine⟨p+1,by go_num,by omega,?_,?_⟩
      ·show aD _ _ _ _;rw[show d*16+(p+1)=d*16+p+1 by omega,<-S.o];have:=(q.o.setCell (d*16+p) (ι (e+y))).drew;unfold Af at this ⊢;rw[kO];exact this
      exact(s.o.setCell (p:=⟨h,d*16+p,none⟩) (Or.inl rfl) _).drew
     case measure=>simp[intOf];omega
    have G:p=16:=by omega
    subst G;go_wp2;go_roundw;case rel=>exact⟨d+1,by go_num,by omega,by show aD _ _ _ _;rw[show(d+1)*16=d*16+16 by omega];exact q.o,s⟩
    case measure=>simp[intOf];omega
  have E:d=3:=by omega
  subst E;go_wp2;go_end0;refine⟨rfl,?_,R.o.then z.o⟩;have:=x.o;rw[show 3*16=a.length by rw[o.o],Zq (by rw[o.o,r.o])]at this;exact this
theorem MI{P:Program}(w:World)(c:Nat->Option Bool×Unit->Sem (ForInStep (Option Bool×Unit)))(g:Nat->Bool): ∀(n s:Nat),(∀a,s<=a->a<s+n->(c a (none,())).run P w=.ok (if g a=true then .yield (none,()) else .done (some false,())) w) ->
  (forIn (List.range' s n) (none,()) c).run P w=.ok (if (List.range' s n).all g=true then(none,()) else(some false,())) w
 | 0,s,_=>rfl
 | n+1,s,h=>by
  rw[kU,List.forIn_cons,jq,h s (ir _) (by omega)];by_cases d:g s=true
  ·simp only[d,lQ,jy,List.all_cons,Bool.true_and];exact MI w c g n (s+1) (λa e i=>h a (by omega) (by omega))
  simp[d]
theorem I8(l:Nat)(c d:List Int)(A:c.length=16)(B:d.length=16)(w:World): (Op.equalIn (l+1+1) 226 (.agg (Af c).toArray) (.agg (Af d).toArray)).run prog w=.ok (decide (c=d)) w:=by
 have u3:=underlying3;have k:=isAgg3;have x:=sizeOf3;rw[Op.equalIn];simp only[jq,jL underlying226,jy,x];simp only[km,Std.Legacy.Range.size,lV,kZ,lN];refine(congrArg (λv=>Result.andThen v _) (MI w _ (λa=>decide (c.getD a 0=d.getD a 0)) 16 0 ?_)).trans ?_
 ·intro a _ z;have h:a<c.length:=by omega
  have i:a<d.length:=by omega
  have m:(Af c).toArray[a*1]?=some (ι c[a]):=by simp[Af,h]
  have n:(Af d).toArray[a*1]?=some (ι d[a]):=by simp[Af,i]
  have t:(part 3 (Af c).toArray (a*1)).run prog w=.ok (ι c[a]) w:=by simp only[part,jq,k,jy,m];rfl
  have u:(part 3 (Af d).toArray (a*1)).run prog w=.ok (ι d[a]) w:=by simp only[part,jq,k,jy,n];rfl
  have s:(Op.equalIn (l+1) 3 (ι c[a]) (ι d[a])).run prog w=.ok (c[a]==d[a]) w:=by simp[Op.equalIn,jL u3]
  simp only[jq,t,u,jy,s];have o:c.getD a 0=c[a]:=by simp[List.getD_eq_getElem?_getD,h]
  have q:d.getD a 0=d[a]:=by simp[List.getD_eq_getElem?_getD,i]
  rw[o,q];by_cases e:c[a]=d[a]
  ·simp[e]
  simp[e]
 simp only[jy];have r:(List.range' 0 16).all (λa=>decide (c.getD a 0=d.getD a 0))=decide (c=d):=by
  rw[lH];simp only[kt,iP,List.mem_range'_1];constructor
  ·intro j;apply List.ext_getElem (by omega);intro a h i;have:=j a ⟨by omega,by omega⟩;simpa[List.getD_eq_getElem?_getD,h,i] using this
  intro j a _;rw[j]
 rw[r];by_cases e:c=d
 ·simp[e]
 simp[e]
theorem zP3(w:World): (isAgg 226).run prog w=.ok true w:=by kernel_rfl
theorem zN8(w:World): (sizeOf 226).run prog w=.ok 16 w:=by kernel_rfl
theorem Wr(e:Nat)(u:∀c d:List Int,c.length=16->d.length=16->∀w,(Op.equalIn e 226 (.agg (Af c).toArray) (.agg (Af d).toArray)).run prog w=.ok (decide (c=d)) w)(c d:List Int)(v:c.length=48)(x:d.length=48)(w:World): (Op.equalIn (e+1) 228 (.agg (Af c).toArray) (.agg (Af d).toArray)).run prog w=.ok (decide (c=d)) w:=by
 have k:=zP3 w;have j:=zN8 w;rw[Op.equalIn];simp only[jq,jL underlying228,jy,j];simp only[km,Std.Legacy.Range.size,lV,kZ,lN];refine(congrArg (λz=>Result.andThen z _) (MI w _ (λa=>decide ((c.drop (a*16)).take 16=(d.drop (a*16)).take 16)) 3 0 ?_)).trans ?_
 ·intro a _ A;have l:∀h:List Int,(Af h).toArray.extract (a*16) (a*16+16)=(Af ((h.drop (a*16)).take 16)).toArray:=λh=>by
   simp[Af]
  have s:(part 226 (Af c).toArray (a*16)).run prog w=.ok (.agg (Af ((c.drop (a*16)).take 16)).toArray) w:=by simp only[part,jq,k,jy,j,lQ,l];rfl
  have t:(part 226 (Af d).toArray (a*16)).run prog w=.ok (.agg (Af ((d.drop (a*16)).take 16)).toArray) w:=by simp only[part,jq,k,jy,j,lQ,l];rfl
  have r:(Op.equalIn e 226 (.agg (Af ((c.drop (a*16)).take 16)).toArray) (.agg (Af ((d.drop (a*16)).take 16)).toArray)).run prog w=.ok (decide ((c.drop (a*16)).take 16=(d.drop (a*16)).take 16)) w :=
   u ((c.drop (a*16)).take 16) ((d.drop (a*16)).take 16) (by simp;omega) (by simp;omega) w
  simp only[jq,s,t,jy,r];generalize decide ((c.drop (a*16)).take 16=(d.drop (a*16)).take 16)=b;cases b <;> rfl
 simp only[jy];have m:∀h:List Int,h.length=48->h=(h.drop (0*16)).take 16++((h.drop (1*16)).take 16++(h.drop (2*16)).take 16):=λh B=>by
  have o:(h.drop (2*16)).take 16=h.drop 32:=iw (by simp;omega);rw[o];have n:h.drop 16=(h.drop 16).take 16++h.drop 32:=by conv=>lhs;rw[<-τ 16 (h.drop 16)];simp[List.drop_drop]
  conv=>lhs;rw[<-τ 16 h,n]
  simp
 have q:(List.range' 0 3).all (λa=>decide ((c.drop (a*16)).take 16=(d.drop (a*16)).take 16))=decide (c=d):=by
  rw[lH];simp only[kt,iP,List.mem_range'_1];constructor
  ·intro i;rw[m c v,m d x,i 0 (by omega),i 1 (by omega),i 2 (by omega)]
  intro i a _;rw[i]
 rw[q];generalize decide (c=d)=b;cases b <;> rfl
theorem zMh(a c:List Int)(d:a.length=48)(e:c.length=48)(w:World): (Op.equalIn 10000 228 (.agg (Af a).toArray) (.agg (Af c).toArray)).run prog w=.ok (decide (a=c)) w :=
 Wr 9999 (λa c d e w=>I8 9997 a c d e w) a c d e w
end
end Go.Proofs.YtnokbhcennjanaaGreatDoor
namespace Go.Proofs.YtnokbhcennjanaaGreatDoor.Dr
structure It where
 t:Int
 k:Int
 d:Int
 n:Int
 v:Int
def It.cells(x:It): Array Value:=#[ι x.t,ι x.k,ι x.d,ι x.n,ι x.v]
def It.val(x:It): Value:=.agg #[ι x.t,ι x.k,ι x.d,ι x.n,ι x.v]
def aheadT(a b:It): Bool :=
 if a.v%18446744073709551616*(b.d%18446744073709551616)=b.v%18446744073709551616*(a.d%18446744073709551616) then decide (a.n<b.n)
 else decide (b.v%18446744073709551616*(a.d%18446744073709551616)<a.v%18446744073709551616*(b.d%18446744073709551616))
def BY(a b:It): Bool:=aheadT b a
theorem V4(a b:It)(w:World):
  Calls prog 228 #[a.val,b.val] w λe i=>e=.returned (.bool (aheadT a b))/\i=(w.alloc (.cells a.cells 247)).alloc (.cells b.cells 247):=by
 unfold It.val It.cells;have wr:∀k:Int,IntKind.u64.wrap k=k%18446744073709551616:=λk=>jF k
 have n:=Aa (show ∀(l y:Int) (w:World),Calls prog 165 #[.int .u64 (l%18446744073709551616),.int .u64 (y%18446744073709551616)] w λe i=>e=.returned (.tuple #[.int .u64 (l%18446744073709551616*(y%18446744073709551616)/18446744073709551616),.int .u64 (l%18446744073709551616*(y%18446744073709551616)%18446744073709551616)])/\i=w from
    λl y w=>Mw _ _ (by omega) (by omega) (by omega) (by omega) w)
 have m:=Aa (show aheadT a b=if a.v%18446744073709551616*(b.d%18446744073709551616)=b.v%18446744073709551616*(a.d%18446744073709551616) then decide (a.n<b.n) else decide (b.v%18446744073709551616*(a.d%18446744073709551616)<a.v%18446744073709551616*(b.d%18446744073709551616)) from rfl);go_enter func228,ntmps228;go_wp2_with fail
 refine(n.o a.v b.d _).mono ?_;rintro e i ⟨rfl,rfl⟩;go_wp2_with fail
 refine(n.o b.v a.d _).mono ?_;rintro e i ⟨rfl,rfl⟩;generalize a.v%18446744073709551616*(b.d%18446744073709551616)=p at *
 generalize b.v%18446744073709551616*(a.d%18446744073709551616)=c at *
 by_cases h:p/18446744073709551616=c/18446744073709551616
 ·have o:(p/18446744073709551616 !=c/18446744073709551616)=false:=by simp[h]
  by_cases j:p%18446744073709551616=c%18446744073709551616
  ·have q:(p%18446744073709551616 !=c%18446744073709551616)=false:=by simp[j]
   have d:=Aa (show decide (a.n<b.n)=aheadT a b by rw[m.o,ij (by omega)]);clear h j;go_wp2;go_ret;exact⟨B4 d.o,rfl⟩
  have q:(p%18446744073709551616 !=c%18446744073709551616)=true:=by simp[j]
  have d:=Aa (show decide (c%18446744073709551616<p%18446744073709551616)=aheadT a b by rw[m.o,ig (by omega)];simp only[decide_eq_decide];omega);clear h j;go_wp2;go_ret;exact⟨B4 d.o,rfl⟩
 have o:(p/18446744073709551616 !=c/18446744073709551616)=true:=by simp[h]
 have d:=Aa (show decide (c/18446744073709551616<p/18446744073709551616)=aheadT a b by rw[m.o,ig (by omega)];simp only[decide_eq_decide];omega);clear h;go_wp2;go_ret;exact⟨B4 d.o,rfl⟩
theorem Il(a b:It)(w:World):
  Calls prog 204 #[a.val,b.val] w λc d=>c=.returned (.bool (BY a b))/\d=(((w.alloc (.cells a.cells 247)).alloc (.cells b.cells 247)).alloc (.cells b.cells 247)).alloc (.cells a.cells 247):=by
 have e:=Aa (V4 b a ((w.alloc (.cells a.cells 247)).alloc (.cells b.cells 247)));unfold It.val It.cells at *
 go_enter func204,ntmps204;go_wp2_with fail
 refine e.o.mono ?_;rintro c d ⟨rfl,rfl⟩;go_wp2;go_ret;exact⟨rfl,rfl⟩
theorem Kg(a b:It)(w:World):
  Calls prog 204 #[a.val,b.val] w λc e=>c=.returned (.bool (BY a b))/\lX w e :=
 (Il a b w).mono λ_ _ ⟨d,hw⟩=>⟨d,by rw[hw];exact((((aA.refl _ _).alloc _).alloc _).alloc _).alloc _⟩
def itAt(l:List It)(i:Nat): It:=l.getD i ⟨0,0,0,0,0⟩
def flat: List It->List Value
 | []=>[]
 | x::l=>ι x.t::ι x.k::ι x.d::ι x.n::ι x.v::flat l
theorem GJ(l:List It): (flat l).length=l.length*5:=by
 induction l with
 | nil=>rfl
 | cons c l a=>simp[flat,a];omega
theorem Jg(a b:List It): flat (a++b)=flat a++flat b:=by
 induction a with
 | nil=>rfl
 | cons e d c=>simp[flat,c]
theorem flat_get(l:List It)(i:Nat)(a:i<l.length): (flat l)[i*5]?=some (ι (itAt l i).t)/\(flat l)[i*5+1]?=some (ι (itAt l i).k)/\(flat l)[i*5+2]?=some (ι (itAt l i).d)/\(flat l)[i*5+3]?=some (ι (itAt l i).n)/\(flat l)[i*5+4]?=some (ι (itAt l i).v):=by
 induction l generalizing i with
 | nil=>simp at a
 | cons d l c =>
  cases i with
  | zero=>simp[flat,itAt]
  | succ i =>
   have:=c i (by simpa using a);rw[show(i+1)*5=i*5+5 by omega];simpa[flat,itAt] using this
theorem ME(l:List It)(i:Nat)(x:It): flat (l.set i x)=(((((flat l).set (i*5) (ι x.t)).set (i*5+1) (ι x.k)).set (i*5+2) (ι x.d)).set (i*5+3) (ι x.n)).set (i*5+4) (ι x.v):=by
 induction l generalizing i with
 | nil=>simp[flat]
 | cons y l a =>
  cases i with
  | zero=>simp[flat]
  | succ i=>rw[show(i+1)*5=i*5+5 by omega];simp[flat,a]
structure aP (w:World) (g cap:Nat) (l:List It):Prop where
 ex:∃cur:List Value,aD w g cur 247/\cur.length=cap*5/\cur.take (l.length*5)=flat l
 le:l.length<=cap
 max:cap<=maxLen
theorem aP.lt{w:World}{g cap:Nat}{l:List It}(a:aP w g cap l): g<w.heap.size:=by obtain⟨d,c,_⟩:=a.ex;exact c.lt
theorem aP.frozen{w:World}{g cap:Nat}{l:List It}(a:aP w g cap l)(o:Nat): w.frozen? ⟨g,o,none⟩=false:=by obtain⟨d,c,_⟩:=a.ex;exact c.frozen o
theorem aP.cells{w:World}{g cap:Nat}{l:List It}(n:aP w g cap l)(i:Nat)(hi:i<l.length):
  w.cell? ⟨g,i*5,none⟩=some (ι (itAt l i).t)/\w.cell? ⟨g,i*5+1,none⟩=some (ι (itAt l i).k)/\w.cell? ⟨g,i*5+2,none⟩=some (ι (itAt l i).d)/\w.cell? ⟨g,i*5+3,none⟩=some (ι (itAt l i).n)/\w.cell? ⟨g,i*5+4,none⟩=some (ι (itAt l i).v):=by
 obtain⟨j,a,r,q⟩:=n.ex;have c:∀d,d<l.length*5->j[d]?=(flat l)[d]?:=λd o=>by rw[<-q,iW,ij o]
 obtain⟨e,b,h,k,m⟩:=flat_get l i hi;exact⟨a.cell (by rw[c _ (by omega)];exact e),a.cell (by rw[c _ (by omega)];exact b),a.cell (by rw[c _ (by omega)];exact h),a.cell (by rw[c _ (by omega)];exact k),a.cell (by rw[c _ (by omega)];exact m)⟩
theorem aP.keeps{M:Nat->Prop}{w w':World}{g cap:Nat}{l:List It}(a:aP w g cap l)(k:aA M w w')(e:¬M g): aP w' g cap l:=by
 obtain⟨c,d,h⟩:=a.ex;exact⟨⟨c,d.keeps k e,h⟩,a.le,a.max⟩
theorem aP.drew{w:World}{g cap:Nat}{l:List It}(a:aP w g cap l): aP w.drew g cap l:=by
 obtain⟨c,d,e⟩:=a.ex;exact⟨⟨c,d.drew,e⟩,a.le,a.max⟩
def bP(w:World)(g i:Nat)(x:It): World :=
 ((((w.setCell ⟨g,i*5,none⟩ (ι x.t)).setCell ⟨g,i*5+1,none⟩ (ι x.k)).setCell ⟨g,i*5+2,none⟩ (ι x.d)).setCell ⟨g,i*5+3,none⟩ (ι x.n)).setCell ⟨g,i*5+4,none⟩ (ι x.v)
theorem aP.put{w:World}{g cap:Nat}{l:List It}(a:aP w g cap l)(i:Nat)(x:It): aP (bP w g i x) g cap (l.set i x):=by
 obtain⟨h,c,d,e⟩:=a.ex;refine⟨⟨_,((((c.setCell _ _).setCell _ _).setCell _ _).setCell _ _).setCell _ _,by simp[d],?_⟩,by simpa using a.le,a.max⟩;rw[ME,<-e,jw];simp only[List.take_set]
theorem _root_.Go.Proofs.YtnokbhcennjanaaGreatDoor.aA.putTk{M:Nat->Prop}{a w:World}(d:aA M a w){g:Nat}(c:M g\/a.heap.size<=g)(i:Nat)(x:It): aA M a (bP w g i x) :=
 ((((d.setCell c _).setCell c _).setCell c _).setCell c _).setCell c _
end Go.Proofs.YtnokbhcennjanaaGreatDoor.Dr
namespace Go.Proofs.YtnokbhcennjanaaGreatDoor.Dr
def Cn: Value:=.func (.func 204) #[] #[]
structure QB (w:World) (q:Nat) (v:Value):Prop where
 b:aD w q [Cn,v] 278
def swapL(l:List It)(i j:Nat): List It:=(l.set i (itAt l j)).set j (itAt l i)
theorem J4(c g i j cap n:Nat)(w:World)(l:List It)(q:l.length=n)(d:QB w c (σ g n cap))(a:aP w g cap l)(hi:i<n)(x:j<n)(u:i≠j)(D:c≠g):
  Calls prog 235 #[π c,ι i,ι j] w λo e=>o=.returned (.tuple #[])/\aA (·=g) w e/\aP e g cap (swapL l i j):=by
 have C:κ w c 1 (σ g n cap):=d.b.cell rfl;have t:(0:Int)<=(i:Int):=by omega
 have v:(i:Int)<(n:Int):=by omega
 have z:(0:Int)<=(j:Int):=by omega
 have A:(j:Int)<(n:Int):=by omega
 obtain⟨E,F,G,H,I⟩:=a.cells i (by omega);obtain⟨J,L,M,N,O⟩:=a.cells j (by omega);have s:=a.frozen;have B:i*5≠j*5:=by omega
 have k:Hid (aP w g cap l):=a;clear a d q;have m:Hid (swapL l i j=(l.set i (itAt l j)).set j (itAt l i)):=rfl;generalize itAt l i=h at *
 generalize itAt l j=y at *
 go_enter func235,ntmps235;go_region
 go_end0;refine⟨rfl,?_,?_⟩
 ·exact(((aA.refl (λr=>r=g) w).putTk (Or.inl rfl) i y).putTk (Or.inl rfl) j h).drew
 rw[m.out];exact((k.out.put i y).put j h).drew
def riseL: Nat->List It->Nat->List It
 | 0,l,_=>l
 | f+1,l,i=>if i=0 then l else if BY (itAt l i) (itAt l ((i-1)/2)) then riseL f (swapL l i ((i-1)/2)) ((i-1)/2) else l
theorem Ce(l:List It)(i j:Nat): (swapL l i j).length=l.length:=by simp[swapL]
theorem MD(j g i cap n:Nat)(w:World)(l:List It)(I:l.length=n)(aa:n<=1000)(L:QB w j (σ g n cap))(M:aP w g cap l)(hi:i<n)(u:j≠g):
  Calls prog 229 #[π j,ι i] w λA d=>A=.returned (.tuple #[])/\aA (·=g) w d/\aP d g cap (riseL (i+1) l i):=by
 have z:Hid (QB w j (σ g n cap)):=L;have T:Hid (aP w g cap l):=M;have S:Hid (l.length=n):=I;clear L M I;go_enter func229,ntmps229;go_wp2;go_loopw [1] (λC wr=>∃(c f:Nat) (h:List It),C=ι c/\c<n/\c<=f/\Hid (h.length=n)/\Hid (aA (·=g) w wr)/\Hid (aP wr g cap h)/\Hid (riseL (i+1) l i=riseL (f+1) h c)) (λC _=>(intOf C).toNat)
 case atStart=>exact⟨i,i,l,rfl,hi,ir _,S,aA.refl _ _,T,rfl⟩
 case round =>
  obtain⟨c,f,h,rfl,F,X,s,m,o,v⟩:=hrel;by_cases W:0<c
  ·have ag:κ wr j 1 (σ g n cap):=m.out.cell (z.out.b.cell rfl) u;have V:κ wr j 0 Cn:=m.out.cell (z.out.b.cell rfl) u;unfold Cn at V;obtain⟨p,J⟩:∃p,p=(c-1)/2:=⟨_,rfl⟩;have ae:p<c:=by omega
   have ad:((c:Int)-1)/2=(p:Int):=by omega
   have x:Hid (p=(c-1)/2):=J;clear J;obtain⟨ah,ai,aj,ak,al⟩:=o.out.cells c (by rw[s.out];exact F);obtain⟨am,an,ao,ap,aq⟩:=o.out.cells p (by rw[s.out];omega);have Y:(0:Int)<=(c:Int):=by omega
   have Z:(c:Int)<(n:Int):=by omega
   have ab:(0:Int)<=(p:Int):=by omega
   have af:(p:Int)<(n:Int):=by omega
   generalize O:itAt h c=k at *
   generalize P:itAt h p=y at *
   have D:Hid (itAt h c=k):=O;have E:Hid (itAt h p=y):=P;clear O P;cases hab:BY k y;all_goals
    go_wp2
    go_region_held3 (λd=>d.cell? ⟨j,0,none⟩=some (.func (.func 204) #[] #[])/\d.cell? ⟨j,1,none⟩=some (σ g n cap) /\
       d.cell? ⟨g,c*5,none⟩=some (ι k.t)/\d.cell? ⟨g,c*5+1,none⟩=some (ι k.k)/\d.cell? ⟨g,c*5+2,none⟩=some (ι k.d)/\d.cell? ⟨g,c*5+3,none⟩=some (ι k.n)/\d.cell? ⟨g,c*5+4,none⟩=some (ι k.v) /\
       d.cell? ⟨g,p*5,none⟩=some (ι y.t)/\d.cell? ⟨g,p*5+1,none⟩=some (ι y.k)/\d.cell? ⟨g,p*5+2,none⟩=some (ι y.d)/\d.cell? ⟨g,p*5+3,none⟩=some (ι y.n)/\d.cell? ⟨g,p*5+4,none⟩=some (ι y.v)) (first | (go_split_ands;exact⟨by assumption,by assumption,by assumption,by assumption,by assumption,by assumption,by assumption,by assumption,by assumption,by assumption,by assumption,by assumption⟩) | (go_split_ands;exact⟨e.cell (by assumption) id,e.cell (by assumption) id,e.cell (by assumption) id,e.cell (by assumption) id,e.cell (by assumption) id,e.cell (by assumption) id,e.cell (by assumption) id,e.cell (by assumption) id,e.cell (by assumption) id,e.cell (by assumption) id,e.cell (by assumption) id,e.cell (by assumption) id⟩))
     (first | (go_at_call 204;refine(Kg k y _).mono ?_;rintro A t ⟨rfl,e⟩))
    have G:lX wr t:=((aA.refl _ _).drew).then e;clear e;have q:Hid (lX wr t):=G;clear G
   ·go_wp2;refine iV (kB rfl _ _ _) rfl ?_;refine⟨rfl,m.out.trans q.out (λ_ a=>a.elim),?_⟩;have r:=hab;rw[<-D.out,<-E.out,x.out]at r;rw[v.out];simp only[riseL,ig (show ¬c=0 by omega),r];exact o.out.keeps q.out id
   go_wp2_with fail
   refine(J4 j g c p cap n t h s.out ⟨(z.out.b.keeps m.out u).keeps q.out id⟩ (o.out.keeps q.out id) F (by omega) (by omega) u).mono ?_;rintro A Q ⟨rfl,H,N⟩;have R:Hid (aA (·=g) t Q):=H;have U:Hid (aP Q g cap (swapL h c p)):=N;clear H N;go_wp2;go_roundw;case rel =>
    obtain⟨B,rfl⟩:∃B,f=B+1:=⟨f-1,by omega⟩;refine⟨p,B,swapL h c p,rfl,by omega,by omega,(Ce _ _ _).trans s.out,(m.out.trans q.out (λ_ a=>a.elim)).then R.out,U,?_⟩;show _=_;have r:=hab;rw[<-D.out,<-E.out,x.out]at r;rw[v.out,x.out]
    conv=>lhs;unfold riseL
    rw[ig (by omega),ij r]
   case measure=>simp[intOf];omega
  go_wp2;go_end0;refine⟨rfl,m.out,?_⟩;rw[v.out,show c=0 by omega];simpa[riseL] using o.out
end Go.Proofs.YtnokbhcennjanaaGreatDoor.Dr
namespace Go.Proofs.YtnokbhcennjanaaGreatDoor.Dr
def Bn(l:List It)(i:Nat): Int :=
 if 2*i+1<l.length then
  if 2*i+2<l.length then(if BY (itAt l (2*i+2)) (itAt l (2*i+1)) then(2*i+2:Nat) else(2*i+1:Nat)) else(2*i+1:Nat)
 else -1
theorem M6(k g i cap n:Nat)(w:World)(l:List It)(t:l.length=n)(L:n<=1000)(J:i<=1000)(o:QB w k (σ g n cap))(q:aP w g cap l):
  Calls prog 236 #[π k,ι i] w λv e=>v=.returned (ι (Bn l i))/\lX w e:=by
 have N:κ w k 1 (σ g n cap):=o.b.cell rfl;have M:κ w k 0 (.func (.func 204) #[] #[]):=o.b.cell rfl;obtain⟨c,r⟩:∃c,c=2*i+1:=⟨_,rfl⟩;obtain⟨b,s⟩:∃b,b=2*i+2:=⟨_,rfl⟩;have C:2*(i:Int)+1=(c:Int):=by omega
 have D:(c:Int)+1=(b:Int):=by omega
 have j:Bn l i=if c<n then(if b<n then(if BY (itAt l b) (itAt l c) then(b:Int) else(c:Int)) else(c:Int)) else -1:=by
  subst r s t;rfl
 have G:c<=2001:=by omega
 have I:b<=2002:=by omega
 have F:(0:Int)<=(c:Int):=by omega
 have H:(0:Int)<=(b:Int):=by omega
 by_cases u:c<n
 ·have A:(c:Int)<(n:Int):=by omega
  by_cases x:b<n
  ·have B:(b:Int)<(n:Int):=by omega
   obtain⟨O,P,Q,R,S⟩:=q.cells b (by omega);obtain⟨T,U,V,W,X⟩:=q.cells c (by omega);generalize itAt l b=h at *
   generalize itAt l c=y at *
   cases hab:BY h y
   ·have m:Hid (Bn l i=(c:Int)):=by show _=_;rw[j,ij u,ij x,hab];rfl
    clear q o t r s j;go_enter func236,ntmps236;go_wp2
    go_region_held3 (λe=>e.cell? ⟨k,0,none⟩=some (.func (.func 204) #[] #[])/\e.cell? ⟨k,1,none⟩=some (σ g n cap) /\
       e.cell? ⟨g,b*5,none⟩=some (ι h.t)/\e.cell? ⟨g,b*5+1,none⟩=some (ι h.k)/\e.cell? ⟨g,b*5+2,none⟩=some (ι h.d)/\e.cell? ⟨g,b*5+3,none⟩=some (ι h.n)/\e.cell? ⟨g,b*5+4,none⟩=some (ι h.v) /\
       e.cell? ⟨g,c*5,none⟩=some (ι y.t)/\e.cell? ⟨g,c*5+1,none⟩=some (ι y.k)/\e.cell? ⟨g,c*5+2,none⟩=some (ι y.d)/\e.cell? ⟨g,c*5+3,none⟩=some (ι y.n)/\e.cell? ⟨g,c*5+4,none⟩=some (ι y.v)) (first | (go_split_ands;exact⟨by assumption,by assumption,by assumption,by assumption,by assumption,by assumption,by assumption,by assumption,by assumption,by assumption,by assumption,by assumption⟩) | (go_split_ands;exact⟨d.cell (by assumption) id,d.cell (by assumption) id,d.cell (by assumption) id,d.cell (by assumption) id,d.cell (by assumption) id,d.cell (by assumption) id,d.cell (by assumption) id,d.cell (by assumption) id,d.cell (by assumption) id,d.cell (by assumption) id,d.cell (by assumption) id,d.cell (by assumption) id⟩))
     (first | (go_at_call 204;refine(Kg h y _).mono ?_;rintro v z ⟨rfl,d⟩))
    go_wp2;go_ret;exact⟨A9 m.out.symm,((aA.refl _ _).drew).then d⟩
   have m:Hid (Bn l i=(b:Int)):=by show _=_;rw[j,ij u,ij x,hab];rfl
   clear q o t r s j;go_enter func236,ntmps236;go_wp2
   go_region_held3 (λe=>e.cell? ⟨k,0,none⟩=some (.func (.func 204) #[] #[])/\e.cell? ⟨k,1,none⟩=some (σ g n cap) /\
      e.cell? ⟨g,b*5,none⟩=some (ι h.t)/\e.cell? ⟨g,b*5+1,none⟩=some (ι h.k)/\e.cell? ⟨g,b*5+2,none⟩=some (ι h.d)/\e.cell? ⟨g,b*5+3,none⟩=some (ι h.n)/\e.cell? ⟨g,b*5+4,none⟩=some (ι h.v) /\
      e.cell? ⟨g,c*5,none⟩=some (ι y.t)/\e.cell? ⟨g,c*5+1,none⟩=some (ι y.k)/\e.cell? ⟨g,c*5+2,none⟩=some (ι y.d)/\e.cell? ⟨g,c*5+3,none⟩=some (ι y.n)/\e.cell? ⟨g,c*5+4,none⟩=some (ι y.v)) (first | (go_split_ands;exact⟨by assumption,by assumption,by assumption,by assumption,by assumption,by assumption,by assumption,by assumption,by assumption,by assumption,by assumption,by assumption⟩) | (go_split_ands;exact⟨d.cell (by assumption) id,d.cell (by assumption) id,d.cell (by assumption) id,d.cell (by assumption) id,d.cell (by assumption) id,d.cell (by assumption) id,d.cell (by assumption) id,d.cell (by assumption) id,d.cell (by assumption) id,d.cell (by assumption) id,d.cell (by assumption) id,d.cell (by assumption) id⟩))
    (first | (go_at_call 204;refine(Kg h y _).mono ?_;rintro v z ⟨rfl,d⟩))
   go_wp2;go_ret;exact⟨A9 m.out.symm,((aA.refl _ _).drew).then d⟩
  have B:decide ((b:Int)<(n:Int))=false:=by simp;omega
  have m:Hid (Bn l i=(c:Int)):=by show _=_;rw[j,ij u,ig x]
  clear q o t r s j;go_enter func236,ntmps236;go_wp2;go_quiet (fail)
  go_wp2;go_ret;exact⟨A9 m.out.symm,⟨rfl,rfl,rfl,ir _,λ_ _ _=>rfl⟩⟩
 have A:decide ((c:Int)<(n:Int))=false:=by simp;omega
 have m:Hid (Bn l i=-1):=by show _=_;rw[j,ig u]
 have E:(n:Int)<=(c:Int):=by omega
 clear q o t r s j;go_enter func236,ntmps236;go_wp2;go_ret;exact⟨A9 m.out.symm,aA.refl _ _⟩
def sinkL: Nat->List It->Nat->List It
 | 0,l,_=>l
 | f+1,l,i=>if Bn l i<0 then l else if BY (itAt l (Bn l i).toNat) (itAt l i) then sinkL f (swapL l i (Bn l i).toNat) (Bn l i).toNat else l
theorem GI(l:List It)(i:Nat): Bn l i=-1\/∃a:Nat,Bn l i=a/\i<a/\a<l.length:=by
 unfold Bn;split
 ·split
  ·split
   ·exact .inr ⟨_,rfl,by omega,by omega⟩
   exact .inr ⟨_,rfl,by omega,by omega⟩
  exact .inr ⟨_,rfl,by omega,by omega⟩
 exact .inl rfl
theorem K9(k g i cap n:Nat)(w:World)(l:List It)(R:l.length=n)(ag:n<=1000)(ae:i<=1000)(S:QB w k (σ g n cap))(T:aP w g cap l)(hi:i<n\/n=0)(G:k≠g):
  Calls prog 231 #[π k,ι i] w λz h=>z=.returned (.tuple #[])/\aA (·=g) w h/\aP h g cap (sinkL (n+1) l i):=by
 have J:Hid (QB w k (σ g n cap)):=S;have ab:Hid (aP w g cap l):=T;have aa:Hid (l.length=n):=R;have Y:Hid (i<n\/n=0):=hi;clear S T R hi;go_enter func231,ntmps231;go_wp2;go_loopw [1] (λH wr=>∃(c f:Nat) (e:List It),H=ι c/\Hid (c<n\/n=0)/\c<=1000/\n<=c+f/\Hid (e.length=n)/\Hid (aA (·=g) w wr)/\Hid (aP wr g cap e)/\Hid (sinkL (n+1) l i=sinkL (f+1) e c)) (λH _=>2000-(intOf H).toNat)
 case atStart=>exact⟨i,n,l,rfl,Y,ae,by omega,aa,aA.refl _ _,ab,rfl⟩
 case round =>
  obtain⟨c,f,e,rfl,ah,af,al,r,t,I,B⟩:=hrel;go_wp2_with fail
  refine(M6 k g c cap n wr e r.out ag af ⟨J.out.b.keeps t.out G⟩ I.out).mono ?_;rintro z m ⟨rfl,A⟩;have C:Hid (lX wr m):=A;have s:Hid (aP m g cap e):=I.out.keeps A id;have D:Hid (QB m k (σ g n cap)):=⟨(J.out.b.keeps t.out G).keeps A id⟩;clear A;have aq:κ m k 1 (σ g n cap):=D.out.b.cell rfl;have ap:κ m k 0 (.func (.func 204) #[] #[]):=D.out.b.cell rfl;rcases GI e c with q | ⟨d,q,an,F⟩
  ·have v:Hid (Bn e c=-1):=q;rw[q];clear q;go_wp2;go_quiet (fail)
   go_wp2;refine iV (kB rfl _ _ _) rfl ?_;refine⟨rfl,(t.out.trans C.out (λ_ a=>a.elim)).trans (aA.drewN (λ_=>False) m _) (λ_ a=>a.elim),?_⟩;rw[B.out];simp only[sinkL,v.out];exact s.out.keeps (aA.drewN (λ_=>False) m _) id
  have v:Hid (Bn e c=(d:Int)):=q;rw[q];clear q;have N:d<n:=by rw[r.out]at F;exact F
  clear F;have Q:c<n:=by omega
  obtain⟨ar,au,av,aw,ax⟩:=s.out.cells d (by rw[r.out];exact N);obtain⟨ay,az,a0,a1,a2⟩:=s.out.cells c (by rw[r.out];exact Q);have am:(0:Int)<=(c:Int):=by omega
  have ao:(c:Int)<(n:Int):=by omega
  have ai:(0:Int)<=(d:Int):=by omega
  have aj:(d:Int)<(n:Int):=by omega
  have ak:decide ((d:Int)<0)=false:=by simp
  generalize V:itAt e d=o at *
  generalize W:itAt e c=y at *
  have L:Hid (itAt e d=o):=V;have M:Hid (itAt e c=y):=W;clear V W;cases hab:BY o y;all_goals
   go_wp2
   go_region_held3 (λh=>h.cell? ⟨k,0,none⟩=some (.func (.func 204) #[] #[])/\h.cell? ⟨k,1,none⟩=some (σ g n cap) /\
      h.cell? ⟨g,d*5,none⟩=some (ι o.t)/\h.cell? ⟨g,d*5+1,none⟩=some (ι o.k)/\h.cell? ⟨g,d*5+2,none⟩=some (ι o.d)/\h.cell? ⟨g,d*5+3,none⟩=some (ι o.n)/\h.cell? ⟨g,d*5+4,none⟩=some (ι o.v) /\
      h.cell? ⟨g,c*5,none⟩=some (ι y.t)/\h.cell? ⟨g,c*5+1,none⟩=some (ι y.k)/\h.cell? ⟨g,c*5+2,none⟩=some (ι y.d)/\h.cell? ⟨g,c*5+3,none⟩=some (ι y.n)/\h.cell? ⟨g,c*5+4,none⟩=some (ι y.v)) (first | (go_split_ands;exact⟨by assumption,by assumption,by assumption,by assumption,by assumption,by assumption,by assumption,by assumption,by assumption,by assumption,by assumption,by assumption⟩) | (go_split_ands;exact⟨j.cell (by assumption) id,j.cell (by assumption) id,j.cell (by assumption) id,j.cell (by assumption) id,j.cell (by assumption) id,j.cell (by assumption) id,j.cell (by assumption) id,j.cell (by assumption) id,j.cell (by assumption) id,j.cell (by assumption) id,j.cell (by assumption) id,j.cell (by assumption) id⟩))
    (first | (go_at_call 204;refine(Kg o y _).mono ?_;rintro z x ⟨rfl,j⟩))
   have O:lX m x:=((aA.refl _ _).drew).then j;clear j;have u:Hid (lX m x):=O;clear O
  ·go_wp2;refine iV (kB rfl _ _ _) rfl ?_;refine⟨rfl,(t.out.trans C.out (λ_ a=>a.elim)).trans u.out (λ_ a=>a.elim),?_⟩;rw[B.out];simp only[sinkL,v.out,iM,L.out,M.out,hab,ig (show ¬((d:Int)<0) by omega)];exact s.out.keeps u.out id
  go_wp2_with fail
  refine(J4 k g c d cap n x e r.out ⟨D.out.b.keeps u.out id⟩ (s.out.keeps u.out id) Q (by omega) (by omega) G).mono ?_;rintro z X ⟨rfl,P,U⟩;have Z:Hid (aA (·=g) x X):=P;have ad:Hid (aP X g cap (swapL e c d)):=U;clear P U;go_wp2;go_roundw;case rel =>
   obtain⟨E,rfl⟩:∃E,f=E+1:=⟨f-1,by omega⟩;refine⟨d,E,swapL e c d,rfl,.inl N,by omega,by omega,(Ce _ _ _).trans r.out,((t.out.trans C.out (λ_ a=>a.elim)).trans u.out (λ_ a=>a.elim)).then Z.out,ad,?_⟩;show _=_;rw[B.out]
   conv=>lhs;unfold sinkL
   simp only[v.out,iM,L.out,M.out,hab,ig (show ¬((d:Int)<0) by omega),lQ]
  case measure=>simp[intOf];omega
end Go.Proofs.YtnokbhcennjanaaGreatDoor.Dr
namespace Go.Proofs.YtnokbhcennjanaaGreatDoor.Dr
def bB(w:World)(q:Nat)(og:Option Nat)(l:List It): Prop :=
 match og with
 | none=>l=[]/\aD w q [Cn,.slice none 0 0] 278
 | some g=>q≠g/\∃cap,aD w q [Cn,σ g l.length cap] 278/\aP w g cap l
theorem bB.lt{w:World}{d:Nat}{c:Option Nat}{l:List It}(a:bB w d c l): d<w.heap.size/\∀g,c=some g->g<w.heap.size/\d≠g:=by
 cases c with
 | none=>exact⟨a.2.lt,λ_ a=>by cases a⟩
 | some g=>obtain⟨h,j,e,i⟩:=a;exact⟨e.lt,λk a=>by cases a;exact⟨i.lt,h⟩⟩
theorem bB.keeps{M:Nat->Prop}{w w':World}{d:Nat}{a:Option Nat}{l:List It}(c:bB w d a l)(k:aA M w w')(e:¬M d)(j:∀g,a=some g->¬M g): bB w' d a l:=by
 cases a with
 | none=>exact⟨c.1,c.2.keeps k e⟩
 | some g=>obtain⟨m,h,i,n⟩:=c;exact⟨m,h,i.keeps k e,n.keeps k (j g rfl)⟩
theorem len_any(e:Nat)(d:Option Nat)(l:List It)(w:World)(c:bB w e d l):
  Calls prog 206 #[π e] w λh m=>h=.returned (ι l.length)/\m=w:=by
 cases d with
 | none =>
  obtain⟨i,a⟩:=c;have j:=a.c1;subst i;clear a;go_enter func206,ntmps206;go_wp2;go_ret;exact⟨rfl,rfl⟩
 | some g =>
  obtain⟨o,n,a,k⟩:=c;have j:=a.c1;clear a k;go_enter func206,ntmps206;go_wp2;go_ret;exact⟨rfl,rfl⟩
theorem J1(m:Nat)(k:Option Nat)(l:List It)(w:World)(h:bB w m k l):
  Calls prog 230 #[π m] w λt A=>t=.returned (.tuple #[(itAt l 0).val,.bool (!l.isEmpty)])/\lX w A:=by
 have i:=h.lt;cases k with
 | none =>
  obtain⟨u,c⟩:=h;have z:=c.c1;subst u;have x:=c.lt;clear c i;go_enter func230,ntmps230;go_wp2;exact iV (v:=.tuple #[.agg #[ι 0,ι 0,ι 0,ι 0,ι 0],.bool false]) (by simp[results,results230,go_sem]) rfl ⟨rfl,by repeat (first | exact aA.refl _ _ | apply aA.drew | apply aA.alloc)⟩
 | some g =>
  obtain⟨F,B,c,d⟩:=h;have z:=c.c1;have x:=c.lt;have C:=d.lt;cases l with
  | nil =>
   clear c d i;go_enter func230,ntmps230;go_wp2;exact iV (v:=.tuple #[.agg #[ι 0,ι 0,ι 0,ι 0,ι 0],.bool false]) (by simp[results,results230,go_sem]) rfl ⟨rfl,by repeat (first | exact aA.refl _ _ | apply aA.drew | apply aA.alloc)⟩
  | cons a e =>
   obtain⟨n,o,q,r,s⟩:=d.cells 0 (by simp);have j:itAt (a::e) 0=a:=rfl;rw[j]at n o q r s ⊢;simp only[k4,ja]at n o q r s;have D:(((a::e).length:Int)==0)=false:=by simp;omega
   have E:(0:Int)<((a::e).length:Int):=by simp
   generalize(a::e).length=G at *
   clear c d i j;go_enter func230,ntmps230;go_wp2;exact iV (v:=.tuple #[.agg #[ι a.t,ι a.k,ι a.d,ι a.n,ι a.v],.bool true]) (by simp[results,results230,go_sem]) rfl ⟨rfl,by repeat (first | exact aA.refl _ _ | apply aA.drew | apply aA.alloc)⟩
