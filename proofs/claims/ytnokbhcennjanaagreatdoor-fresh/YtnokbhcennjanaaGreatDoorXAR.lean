import Derived.Test.YtnokbhcennjanaaGreatDoorXAQ
open Go.RowKit Go.Proofs.Tryz
set_option maxRecDepth 100000
set_option maxHeartbeats 16000000
namespace Go.Proofs.YtnokbhcennjanaaGreatDoor
section
theorem SG(c:Cfg)(a:List dU)(e:dU): A5 c (a++[e])=FU c (A5 c a) e:=by
 unfold A5;rw[jV];rfl
theorem SE(c:Cfg)(a:List dU)(i:Nat)(e:dU)(d:a[i]?=some e): A5 c (a.take (i+1))=FU c (A5 c (a.take i)) e:=by
 obtain⟨j,h⟩:=iq.1 d;rw[jm j,SG,h]
structure fC (c:Cfg):Prop where
 k1:1<=c.k
 hU:c.k<=10
 w1:1<=c.aB
 w2:c.aB<=1000
structure cK (n:Int) (l:List Bk):Prop where
 pb:PB l
 one:∀b∈l,1<=b.sz
 sum:Ao l<=n
theorem Ye{c:Cfg}(h:fC c){n:Int}{l:List Bk}(d:cK n l)(t m:Int): cK (n+1) (C7 c l t m):=by
 have j:=h.k1;have i:∀b∈C5 c l t m,1<=b.sz:=λb a=>by
  unfold C5 at a;rcases ik.1 a with a | a
  ·exact d.one b (iE a)
  rw[im]at a;rw[a];exact iL _
 have e:=P3 (K:=c.k) (by omega) ((C5 c l t m).length+1) (C5 c l t m) 1 _ i (ir _) (by omega);refine⟨zMo (by omega) d.pb t m,e.1,?_⟩;unfold C7;rw[e.2];have k:=Ih l (pastN l (m-c.aB));have o:=Ej (l:=l.take (pastN l (m-c.aB))) (λb a=>d.one b (iZ a));have q:=d.sum;unfold C5;rw[F3];unfold EG;simp only[Ao];omega
theorem My{n:Int}{l:List Bk}(a:cK n l)(j:Nat): cK n (l.drop j):=by
 refine⟨a.pb.drop j,λb c=>a.one b (iE c),?_⟩;have d:=Ih l j;have e:=Ej (l:=l.take j) (λb c=>a.one b (iZ c));have h:=a.sum;omega
theorem cK.mono{n m:Int}{l:List Bk}(a:cK n l)(c:n<=m): cK m l:=⟨a.pb,a.one,by have:=a.sum;omega⟩
theorem VY{c:Cfg}(d:fC c){n:Int}{l:List Bk}(a:cK n l)(e:dU): cK (n+1) (FU c l e):=by
 unfold FU;split
 ·exact(My a _).mono (by omega)
 exact Ye d a _ _
theorem zKk: cK 0 []:=⟨⟨λd e _ c=>by simp at c,λd a=>by simp at a⟩,by simp,by simp[Ao]⟩
theorem JX{c:Cfg}(j:fC c)(a:List dU): cK a.length (A5 c a):=by
 suffices d:∀(h:Int) (e:List Bk),cK h e->cK (h+a.length) (a.foldl (FU c) e) by
  have:=d 0 [] zKk;unfold A5;simpa using this
 induction a with
 | nil=>intro h e d;simpa using d
 | cons i a k =>
  intro h e d;have:=k (h+1) (FU c e i) (VY j d i);rw[jZ];refine this.mono ?_;simp only[iD];omega
theorem WC(l:List dU)(i j:Nat)(x:dU)(c:l[i]?=some x)(h:j<4): (Da l)[i*4+j]?=x.cells[j]?:=by
 induction l generalizing i with
 | nil=>simp at c
 | cons a l e =>
  have d:Da (a::l)=a.cells++Da l:=by simp[Da]
  have k:a.cells.length=4:=rfl;rw[d];cases i with
  | zero =>
   have:a=x:=by simpa using c
   subst this;rw[iN (by omega)];simp
  | succ i =>
   rw[iO (by omega)];have:=e i (by simpa using c);rw[<-this];congr 1;omega
theorem zKr{w:World}{v:Value}{l:List dU}(o:w.ownsRow 0 155 4 v l.length (Da l))(i:Nat)(a:dU)(m:l[i]?=some a):
  ∃g h,v=σ g l.length h/\w.cell? ⟨g,i*4,none⟩=some (ι a.t)/\w.cell? ⟨g,i*4+1,none⟩=some (ι a.m)/\w.cell? ⟨g,i*4+2,none⟩=some (.bool a.fE)/\w.cell? ⟨g,i*4+3,none⟩=some (ι a.throw):=by
 have B:i<l.length:=(iq.1 m).1;rcases o.2 with ⟨j,q⟩ | ⟨g,h,n,j,q,r,x,z,A,s⟩
 ·omega
 have d:∀c e,c<4->a.cells[c]?=some e->w.cell? ⟨g,i*4+c,none⟩=some e:=by
  intro c e t u;have k:=WC l i c a m t;rw[u,<-s,iW,ij (by omega)]at k;have:n[i*4+c]?=some e:=by simpa using k
  simp[World.cell?,r,this]
 exact⟨g,h,j,d 0 _ (by omega) rfl,d 1 _ (by omega) rfl,d 2 _ (by omega) rfl,d 3 _ (by omega) rfl⟩
theorem zKt(a:List Bk)(k:Nat): a.reverse.take (a.length-k)=(a.drop k).reverse:=by
 rw[List.take_reverse];by_cases c:k<=a.length
 ·rw[show a.length-(a.length-k)=k by omega]
 rw[iX (by omega:a.length<=a.length-(a.length-k)),iX (by omega)]
theorem R5{w:World}{a:Option Addr}{n cap k:Nat}{c:List Bk}(e:BW w (.slice a n cap) c.reverse)(h:c.length=n): BW w (.slice a (n-k) cap) (c.drop k).reverse:=by
 rw[<-zKt c k,h];rcases lS n with d | d
 ·have:c=[]:=iR.1 (by omega);subst this;rw[d];exact .inl ⟨⟨a,cap,by simp⟩,by simp⟩
 obtain⟨g,i,rfl,_,_⟩:=JD e d;exact QU (by rw[jJ];exact h) e (by omega)
theorem NV(b:RB)(y:aG)(w:World)(k:bN w b y)(Z:fC y.c)(aj:fV y.c y.events)(b3:y.events.length<=4398046511103):
  Calls prog 80 #[π b.s] w λa8 ap=>∃ao,a8=.returned ao/\BW ap ao (A5 y.c y.events).reverse/\lX w ap:=by
 have a0:=Aa k;have l:=Aa Z;have S:=Aa aj;obtain⟨a9,ba,aa⟩:=BI k.eR;have P:=Aa aa;generalize ai:y.events.length=j at *
 have r:=Aa ai;clear k Z aj aa ai;go_enter func80,ntmps80;go_wp2_with fail
 go_loopg [3,4,5] (j) (λg a2 bi _ wr=>∃(a:Nat) (x:Option Addr) (h i:Nat),a2=.slice x h i/\bi=ι a/\a<=j/\j-a=g/\h<=4398046511104/\Hid ((A5 y.c (y.events.take a)).length=h)/\Hid (BW wr (.slice x h i) (A5 y.c (y.events.take a)).reverse)/\Hid (lX w wr))
 case atStart=>exact⟨0,none,0,0,rfl,rfl,by omega,rfl,by omega,by show _=_;simp[A5],.inl ⟨⟨_,_,rfl⟩,by simp[A5]⟩,aA.refl _ _⟩
 case round =>
  obtain⟨a,x,h,i,rfl,rfl,b0,ab,bg,m,q,A⟩:=hrel;have Q:=Aa ab;clear ab;have D:=Aa (a0.o.still A.o);have bn:κ wr b.s 22 (.slice a9 j ba):=by rw[<-P.o];exact D.o.aF.cell rfl
  by_cases bd:a<j
  ·obtain⟨c,v⟩:∃c,y.events[a]?=some c:=⟨y.events[a]'(by rw[r.o];exact bd),h9 _⟩;obtain⟨bz,bt,t,c0,c1,c2,c3⟩:=zKr D.o.eR a c v;rw[P.o,r.o]at t;injection t with t _ _;subst t;have O:=Aa (SE y.c y.events a c v);have V:=Aa (S.o.hQ a c v);have ay:=Aa (S.o.mark c (iz v));have ar:=Aa (JX l.o (y.events.take a));have b1:(0:Int)<=(a:Int):=by omega
   have b2:(a:Int)<(j:Int):=by omega
   clear v;cases haw:c.fE with
   | true =>
    obtain⟨o,F⟩:∃o:Nat,c.throw=(o:Int):=⟨c.throw.toNat,by have:=V.o haw;omega⟩;have b5:o<=h:=by have:=(V.o haw).2;rw[m.o,F]at this;omega
    rw[haw]at c2;rw[F]at c3;have a1:=Aa F;have G:=Aa haw;clear F haw;obtain⟨d,u⟩:∃d,d=h-o:=⟨_,rfl⟩;have bm:(h:Int)-(o:Int)=(d:Int):=by omega
    have C:=Aa u;have bf:d<=i:=by
     rcases q.o with ⟨⟨a3,a6,e⟩,n⟩ | ⟨bb,bl,a7,e,n,_⟩
     ·injection e with _ J _;omega
     injection e with _ J bc;omega
    clear u
    have E:=Aa (show A5 y.c (y.events.take (a+1))=(A5 y.c (y.events.take a)).drop o by
       rw[O.o];unfold FU;rw[ij G.o,a1.o,iM])
    go_wp2;go_roundg (j-(a+1))
    case measure=>have:=Q.o;omega
    case rel =>
     refine⟨a+1,x,d,i,rfl,by go_num,by omega,rfl,by omega,?_,?_,A.o.alloc _⟩
     ·show _=_;rw[E.o,iU,m.o,C.o]
     show BW _ _ _;rw[E.o,C.o];exact R5 (q.o.keeps ((aA.refl (λ_=>False) wr).alloc _)) m.o
   | false =>
    rw[haw]at c2;have G:=Aa haw;clear haw;have an:=D.o.aF.c6;have am:=D.o.aF.c5;obtain⟨ca,cb⟩:=ay.o;have ce:=l.o.w1;have cf:=l.o.w2;have bj:=l.o.k1;have bk:=l.o.hU;have b9:IntKind.i64.wrap (c.m-y.c.aB)=c.m-y.c.aB:=by rw[il];omega
    have b6:IntKind.i64.wrap (y.c.k+1)=y.c.k+1:=by rw[il];omega
    have E:=Aa (show A5 y.c (y.events.take (a+1))=C7 y.c (A5 y.c (y.events.take a)) c.t c.m by
       rw[O.o];unfold FU;rw[ig (by rw[G.o];simp)])
    have ak:=pastN_le (A5 y.c (y.events.take a)) (c.m-y.c.aB);rw[m.o]at ak;obtain⟨p,M⟩:∃p,p=pastN (A5 y.c (y.events.take a)) (c.m-y.c.aB):=⟨_,rfl⟩;rw[<-M]at ak;obtain⟨d,u⟩:∃d,d=h-p:=⟨_,rfl⟩;have bm:(h:Int)-(p:Int)=(d:Int):=by omega
    have bf:d<=i:=by
     rcases q.o with ⟨⟨a3,a6,e⟩,n⟩ | ⟨bb,bl,a7,e,n,_⟩
     ·injection e with _ J _;omega
     injection e with _ J bc;omega
    have b7:IntKind.i64.wrap (d:Int)=(d:Int):=by rw[il];omega
    have b8:IntKind.i64.wrap ((h:Int)-(p:Int))=(d:Int):=by rw[il];omega
    have b4:(d:Int)<=(i:Int):=by omega
    have T:=Aa M;have C:=Aa u;have I:=Aa (aD.new wr [ι c.t,ι c.m,.bool false,ι c.throw] 155);have af:lX wr (wr.alloc (.cells #[ι c.t,ι c.m,.bool false,ι c.throw] 155)):=(aA.refl (λ_=>False) wr).alloc _;have B:=Aa af;clear M u af;go_wp2_with fail
    have X:(wr.alloc (.cells [Value.int .i64 c.t,ι c.m,.bool false,ι c.throw].toArray 155))=(wr.alloc (.cells #[ι c.t,ι c.m,.bool false,ι c.throw] 155)):=rfl;rw[X]at I;clear X;have N:=Aa (q.o.keeps B.o);have aw:=Aa (A.o.then B.o);have cc:=B.o.cell an id;have bo:=B.o.cell am id;generalize wr.alloc (.cells #[ι c.t,ι c.m,.bool false,ι c.throw] 155)=s at *
    generalize wr.heap.size=a5 at *
    have bp:=I.o.c0;have cg:=I.o.c1;clear an am c0 c1 c2 c3 bn;have ax:=Aa (show(A5 y.c (y.events.take a)).length<=4398046511104 by rw[m.o];exact bg);go_region_with (go_at_call 90;refine(Qh _ (A5 y.c (y.events.take a)) (c.m-y.c.aB) _ (by exact N.o.keeps (aA.refl _ _).drew) ax.o).mono ?_;rintro t bs ⟨rfl,rfl⟩;rw[<-T.o])
    all_goals
     have aq:=Aa (show BW s.drew (.slice x d i) ((A5 y.c (y.events.take a)).drop p).reverse by rw[C.o];exact R5 (N.o.keeps (aA.refl (λ_=>False) s).drew) m.o);have av:=Aa (aw.o.drew);have bu:κ s.drew a5 0 (ι c.t):=bp;have bv:κ s.drew b.s 5 (ι y.c.k):=bo;have z:=Aa (My ar.o p)
     have H:=Aa (show Ao ((A5 y.c (y.events.take a)).drop p)+1<=4398046511104 by
        have e:=z.o.sum;rw[iG,r.o]at e
        omega)
     generalize s.drew=bq at *
     go_wp2_with fail
     go_region_with (go_at_call 129;refine(zKv _ ((A5 y.c (y.events.take a)).drop p) c.t y.c.k _ (by exact aq.o.keeps (aA.refl _ _).drew) z.o.pb ⟨z.o.one,by have:=H.o;omega,by have e:=Ja z.o.one;have n:=H.o;omega⟩ H.o bj bk).mono ?_;rintro bx br ⟨cd,rfl,L,ae⟩)
     all_goals
      obtain⟨a4,c2,bh⟩:=BI L;have az:=Aa L;have au:=Aa ((av.o.drew).then ae);clear L ae;generalize ag:((joinL y.c.k (((A5 y.c (y.events.take a)).drop p++[(⟨1,c.t⟩:Bk)]).length+1) ((A5 y.c (y.events.take a)).drop p++[(⟨1,c.t⟩:Bk)]) 1 ((A5 y.c (y.events.take a)).drop p++[(⟨1,c.t⟩:Bk)]).length).reverse)=W at *
      have U:=Aa (show W=(A5 y.c (y.events.take (a+1))).reverse by
         rw[<-ag,E.o];unfold C7 C5 EG
         rw[<-T.o])
      clear ag;generalize ah:W.length=al at *
      have R:=Aa ah;clear ah;subst bh;go_wp2;go_roundg (j-(a+1))
      case measure=>have:=Q.o;omega
      case rel =>
       have ad:=JX l.o (y.events.take (a+1));have be:(A5 y.c (y.events.take (a+1))).length=al:=by rw[<-R.o,U.o,jJ]
       refine⟨a+1,a4,al,c2,rfl,by go_num,by omega,rfl,?_,be,?_,au⟩
       ·have e:=Ja ad.one;have n:=ad.sum;rw[iG,r.o]at n;omega
       show BW _ _ _;rw[<-U.o];have Y:=az.o;rw[<-R.o]at Y ⊢;exact OB.bw Y
  go_wp2;go_ret;refine⟨_,rfl,?_,A.o⟩;have:=q.o;rw[iw (by rw[r.o];omega)]at this;exact this
def E8(l:List Bk)(t:Int): Nat->Int
 | 0=>0
 | i+1=>E8 l t i+(if t<(Ad l i).t then(Ad l i).sz else 0)
def Ep(l:List Bk)(t:Int): Nat->Int
 | 0=>0
 | i+1=>if t<(Ad l i).t then(Ad l i).sz/2 else Ep l t i
theorem Y2(c:List Bk)(t:Int)(i:Nat)(a:i<pastN c t): (Ad c i).t<=t:=by
 induction c generalizing i with
 | nil=>simp[pastN]at a
 | cons b c e =>
  unfold pastN at a;rw[jE]at a;split at a
  ·rename_i d;cases i with
   | zero=>simpa[Ad] using d
   | succ i=>exact e i (by unfold pastN;simpa using a)
  simp at a
theorem ZJ(a:List Bk)(t:Int)(d:pastN a t<a.length): t<(Ad a (pastN a t)).t:=by
 induction a with
 | nil=>simp at d
 | cons b a h =>
  by_cases e:b.t<=t
  ·have c:pastN (b::a) t=pastN a t+1:=by unfold pastN;rw[jE,ij (by simpa using e)];rfl
   rw[c]at d ⊢;exact h (by simpa using d)
  have c:pastN (b::a) t=0:=by unfold pastN;rw[jE,ig (by simpa using e)];rfl
  rw[c];show t<b.t;omega
theorem zNf(a:List Bk)(t:Int)(i:TS a): E8 a.reverse t a.length-Ep a.reverse t a.length=Fj a t:=by
 have D:=pastN_le a t;have r:=Y2 a t;have o:=ZJ a t;have z:∀c,c<=a.length->E8 a.reverse t c=Ao (a.drop (a.length-min c (a.length-pastN a t)))/\Ep a.reverse t c=(if min c (a.length-pastN a t)=0 then 0 else(Ad a (a.length-min c (a.length-pastN a t))).sz/2):=by
  intro c;induction c with
  | zero=>intro _;simp[E8,Ep,Ao]
  | succ c v =>
   intro C;obtain⟨s,u⟩:=v (by omega);have m:=GH a c (by omega);have k:(t<(Ad a.reverse c).t)↔c<a.length-pastN a t:=by
    rw[m];constructor
    ·intro E;rcases kC c (a.length-pastN a t) with j | j
     ·exact j
     have:=r (a.length-1-c) (by omega);omega
    intro j;have A:=o (by omega);have B:=i (pastN a t) (a.length-1-c) (by omega) (by omega);omega
   unfold E8 Ep;rw[s,u];by_cases d:t<(Ad a.reverse c).t
   ·have q:=k.1 d;rw[ij d,ij d];have e:min (c+1) (a.length-pastN a t)=c+1:=by omega
    have h:min c (a.length-pastN a t)=c:=by omega
    rw[e,h,ig (by omega),m];have n:a.length-1-c=a.length-(c+1):=by omega
    rw[n];refine⟨?_,rfl⟩;rw[Gj a (a.length-(c+1)) (by omega),show a.length-(c+1)+1=a.length-c by omega];simp only[Ao];omega
   have q:¬c<a.length-pastN a t:=λi=>d (k.2 i);rw[ig d,ig d];have e:min (c+1) (a.length-pastN a t)=min c (a.length-pastN a t):=by omega
   rw[e];exact⟨by omega,rfl⟩
 obtain⟨w,x⟩:=z a.length (ir _);rw[w,x];unfold Fj;have e:min a.length (a.length-pastN a t)=a.length-pastN a t:=by omega
 have h:a.length-(a.length-pastN a t)=pastN a t:=by omega
 rw[e,h];by_cases l:pastN a t=a.length
 ·rw[ij l,ij (by omega)]
 rw[ig l,ig (by omega)]
theorem zNy(c:List Bk)(t:Int)(e:∀b∈c,1<=b.sz): ∀a,a<=c.length->0<=E8 c.reverse t a/\E8 c.reverse t a<=Ao (c.drop (c.length-a)):=by
 intro a;induction a with
 | zero=>intro _;simp[E8,Ao]
 | succ a j =>
  intro m;obtain⟨n,o⟩:=j (by omega);have h:=GH c a (by omega);have k:=e _ (EU (l:=c) (i:=c.length-1-a) (by omega));have d:=Gj c (c.length-(a+1)) (by omega);rw[show c.length-(a+1)+1=c.length-a by omega]at d;unfold E8;rw[h,d,show c.length-(a+1)=c.length-1-a by omega];simp only[Ao];split <;> omega
theorem Y3(c:List Bk)(t:Int)(d:∀b∈c,1<=b.sz): ∀a,a<=c.length->0<=Ep c.reverse t a/\Ep c.reverse t a<=Ao c:=by
 intro a;induction a with
 | zero=>intro _;exact⟨by simp[Ep],by simp only[Ep];exact Ej d⟩
 | succ a j =>
  intro n;obtain⟨o,q⟩:=j (by omega);have h:=GH c a (by omega);have e:=EU (l:=c) (i:=c.length-1-a) (by omega);have k:=d _ e;have m:=Ks d e;unfold Ep;rw[h];split <;> omega
theorem SU(b:RB)(y:aG)(a m:Int)(w:World)(I:bN w b y)(x:fC y.c)(P:fV y.c y.events)(Q:TS (A5 y.c y.events))(af:y.events.length<=4398046511103)(ak:1<=a)(al:a<=1000)(a1:-100<=m)(a2:m<=4611686018427387904):
  Calls prog 54 #[π b.s,ι a,ι m] w λH S=>∃g,H=.returned (σ g 1 1)/\w.heap.size<=g/\aD S g [ι (Fj (A5 y.c y.events) (m-a))] 3/\lX w S:=by
 have h:=JX x y.events;have C:=Aa (NV b y w I x P af);have V:=Aa (zNf _ (m-a) Q);have hlen:=Ja h.one;have av:=h.sum;have u:=Aa (zNy _ (m-a) h.one);have W:=Aa (Y3 _ (m-a) h.one);have D:=Aa (λe=>(My h e).sum)
 have X:=Aa (show ∀e,e<(A5 y.c y.events).length->1<=(Ad (A5 y.c y.events).reverse e).sz/\(Ad (A5 y.c y.events).reverse e).sz<=4398046511104 from λe ad=>by
    rw[GH _ _ ad];have N:=EU (l:=A5 y.c y.events) (i:=(A5 y.c y.events).length-1-e) (by omega);have J:=h.one _ N;have am:=Ks h.one N
    omega)
 generalize A5 y.c y.events=d at *
 generalize O:d.length=j at *
 have G:=Aa O;have aq:j<=4398046511104:=by omega
 clear I x P Q h O;go_enter func54,ntmps54;go_wp2_with fail
 refine C.o.mono ?_;rintro H T ⟨a4,rfl,v,M⟩;obtain⟨az,a0,R⟩:=Re v;rw[jJ,G.o]at R;subst R;have B:=Aa v;have F:=Aa M;have ax:IntKind.i64.wrap (m-a)=m-a:=by rw[il];omega
 clear v M C;go_wp2_with fail
 go_loop [8,9,10] (λaj aa e=>∃c:Nat,e=ι c/\c<=j/\aj=ι (E8 d.reverse (m-a) c)/\aa=ι (Ep d.reverse (m-a) c)) (λ_ _ e=>j-(intOf e).toNat)
 case atStart=>exact⟨0,rfl,iT _,rfl,rfl⟩
 case round =>
  obtain⟨c,rfl,an,rfl,rfl⟩:=hrel;by_cases L:c<j
  ·obtain⟨g,a3,rfl,_,Y,ag,_⟩:=JD B.o (by omega);have Z:=K7 (by rw[jJ];exact G.o) B.o c L;obtain⟨a5,a6⟩:=Z;have q:=u.o (c+1) (by omega);have r:=u.o c (by omega);have s:=D.o (j-(c+1));have t:=Aa (show E8 d.reverse (m-a) (c+1)=E8 d.reverse (m-a) c+(if m-a<(Ad d.reverse c).t then(Ad d.reverse c).sz else 0) from rfl);have E:=Aa (show Ep d.reverse (m-a) (c+1)=if m-a<(Ad d.reverse c).t then(Ad d.reverse c).sz/2 else Ep d.reverse (m-a) c from rfl);obtain⟨a7,a8⟩:=X.o c L;have ao:(0:Int)<=(c:Int):=by omega
   have ap:(c:Int)<(j:Int):=by omega
   generalize ai:E8 d.reverse (m-a) c=k at *
   generalize ab:Ep d.reverse (m-a) c=z at *
   generalize Ad d.reverse c=o at *
   clear ai ab Y ag;by_cases A:m-a<o.t
   ·have ah:k+o.sz<=4398046511104/\0<=k+o.sz:=by
     have J:=t.o;rw[ij A]at J;omega
    obtain⟨ar,au⟩:=ah;have ay:IntKind.i64.wrap (k+o.sz)=k+o.sz:=by rw[il];omega
    have n:=Aa A;clear q r s;go_wp2;go_round;case rel=>exact⟨c+1,by go_num,by omega,by rw[t.o,ij n.o],by rw[E.o,ij n.o]⟩
    case measure=>simp[intOf];omega
   have n:=Aa A;clear q r s;go_wp2;go_round;case rel=>exact⟨c+1,by go_num,by omega,by rw[t.o,ig (by have:=n.o;omega),kW],by rw[E.o,ig (by have:=n.o;omega)]⟩
   case measure=>simp[intOf];omega
  have ae:c=j:=by omega
  subst ae;have q:=u.o c (ir _);have r:=W.o c (ir _);have s:=D.o (c-c);have U:=Aa V.o;generalize E8 d.reverse (m-a) c=k at *
  generalize Ep d.reverse (m-a) c=z at *
  have aw:IntKind.i64.wrap (k-z)=k-z:=by rw[il];omega
  clear q r s;go_wp2;go_ret;refine⟨T.heap.size,rfl,F.o.size,?_,F.o.alloc _⟩;rw[<-U.o];exact aD.new T [_] 3
theorem WI{a b:List Int}(e:a.Perm b)(j:a.Pairwise (·<=·))(k:b.Pairwise (·<=·)): a=b:=by
 induction a generalizing b with
 | nil=>exact(List.nil_perm.1 e).symm
 | cons c a l =>
  cases b with
  | nil=>exact absurd e.length_eq (by simp)
  | cons y b =>
   have h:=jn.1 j;have i:=jn.1 k;have m:c<=y:=by
    have:y∈c::a:=e.mem_iff.2 (by simp);rcases iA.1 this with d | d
    ·omega
    exact h.1 y d
   have n:y<=c:=by
    have:c∈y::b:=e.mem_iff.1 (by simp);rcases iA.1 this with d | d
    ·omega
    exact i.1 c d
   obtain rfl:c=y:=by omega
   rw[l ((List.perm_cons c).1 e) h.2 i.2]
def FP: Nat->aJ->Int->List Int
 | 0,_,_=>[]
 | f+1,x,m=>if x.l.isEmpty then[] else if m<(itAt x.l 0).t then[] else(itAt x.l 0).t::FP f (BS x m) m
theorem N7(m:Int)(f:Nat): ∀a:aJ,a.l.length<f->bE a.l ->
  (a.l.map (·.t)).Perm (FP f a m++(relS f a m).l.map (·.t))/\(∀c,c∈FP f a m->c<=m)/\(∀c,c∈(relS f a m).l.map (·.t)->m<c)/\(FP f a m).Pairwise (·<=·) /\
   (a.k=1->(relS f a m).nt.bs=(FP f a m).foldl (λA c=>C7 a.c A c m) a.nt.bs):=by
 induction f with
 | zero=>intro a j;omega
 | succ f z =>
  intro a D h;unfold relS FP;split
  ·rename_i e;have x:a.l=[]:=kV.1 e;exact⟨jj _,by simp,by simp[x],ν,λ_=>rfl⟩
  rename_i e;have n:a.l≠[]:=λj=>e (by rw[j];rfl);split
  ·rename_i w;refine⟨jj _,by simp,?_,ν,λ_=>rfl⟩;intro c d;obtain⟨y,i,rfl⟩:=iI.1 d;have:=h.cE i;omega
  rename_i w;obtain⟨B,C⟩:=take_heap a.l h n;have hlen:(BS a m).l.length=a.l.length-1:=takeL_length _;have E:0<a.l.length:=jK.2 n;obtain⟨k,q,r,s,t⟩:=z (BS a m) (by omega) B;have o:(a.l.map (·.t)).Perm ((itAt a.l 0).t::(BS a m).l.map (·.t)):=by
   have:=(C.map (·.t)).symm;rw[iF]at this;exact this
  refine⟨?_,?_,r,?_,?_⟩
  ·refine o.trans ?_;rw[θ];exact List.Perm.cons _ k
  ·intro c d;rcases iA.1 d with d | d
   ·omega
   exact q c d
  ·refine jn.2 ⟨λc d=>?_,s⟩;have u:c∈(BS a m).l.map (·.t):=k.mem_iff.2 (ik.2 (.inl d));have v:c∈a.l.map (·.t):=o.mem_iff.2 (iA.2 (.inr u));obtain⟨y,i,rfl⟩:=iI.1 v;exact h.cE i
  intro l;rw[t l,jZ];congr 1;show(BE a.k a.c a.nt (itAt a.l 0) m).bs=_;unfold BE;rw[ig (by omega),ij l]
theorem Xm(all:List bA)(mark:Int)(l:List bA): ∀(i:Nat) (k:Int),l=all.drop i->(k=-1\/JQ all mark k) ->
  (∀a,a<i->a<all.length->(Aj all a).tick=0->(Aj all a).t<=mark->0<=k/\(Aj all k.toNat).t<=(Aj all a).t) ->
  ∀a,a<all.length->(Aj all a).tick=0->(Aj all a).t<=mark->0<=E4 all mark l i k/\(Aj all (E4 all mark l i k).toNat).t<=(Aj all a).t:=by
 induction l with
 | nil =>
  intro i k d _ n a q;have hlen:all.length<=i:=by
   have:=congrArg List.length d;simp at this;omega
  unfold E4;exact n a (by omega) q
 | cons m A v =>
  intro i k d x n;have o:i<all.length:=by
   have:=congrArg List.length d;simp at this;omega
  rw[δ o]at d;injection d with z u;have j:Aj all i=m:=by rw[Cv _ _ o,z]
  unfold E4;by_cases c:m.tick=0/\m.t<=mark/\(k<0\/m.t<(Aj all k.toNat).t)
  ·rw[ij c];refine v (i+1) i u (.inr ⟨by omega,by simpa using o,by rw[iM,j];exact c.1,by rw[iM,j];exact c.2.1⟩) ?_;intro a q s h e;rw[iM,j];refine⟨by omega,?_⟩;by_cases r:a=i
   ·rw[r,j];exact iL _
   have:=n a (by omega) s h e;rcases c.2.2 with t | t
   ·omega
   omega
  rw[ig c];refine v (i+1) k u x ?_;intro a q s h e;by_cases r:a=i
  ·rw[r,j]at h e ⊢;have t:¬(k<0\/m.t<(Aj all k.toNat).t):=λw=>c ⟨h,e,w⟩;omega
  exact n a (by omega) s h e
theorem X4(all:List bA)(mark:Int)(j:Nat)(a:j<all.length)(d:(Aj all j).tick=0)(c:(Aj all j).t<=mark): (Aj all (C3 all mark).toNat).t<=(Aj all j).t :=
 (Xm all mark all 0 (-1) rfl (.inl rfl) (λ_ e=>by omega) j a d c).2
def ES: Nat->aG->Int->Int->List Int
 | 0,_,_,_=>[]
 | f+1,y,mark,aC=>if C3 y.items mark<0 then[]
  else(Aj y.items (C3 y.items mark).toNat).t::ES f { y with items:=Bf y.items (C3 y.items mark).toNat aC,events:=y.events++[⟨(Aj y.items (C3 y.items mark).toNat).t,mark,false,0⟩] } mark aC
theorem Pj{l:List bA}{t:Int}(d:t∈Aq l): ∃a,a<l.length/\(Aj l a).tick=0/\(Aj l a).t=t:=by
 unfold Aq at d;obtain⟨j,e,rfl⟩:=iI.1 d;obtain⟨h,i⟩:=kh.1 e;obtain⟨a,c,rfl⟩:=jX.1 h;exact⟨a,c,by rw[Cv _ _ c];simpa using i,by rw[Cv _ _ c]⟩
theorem XM{l:List bA}{j:Nat}{aC:Int}(n:aC≠0)(i:j<l.length)(h:(Aj l j).tick=0): (Aq l).Perm ((Aj l j).t::Aq (Bf l j aC)):=by
 induction l generalizing j with
 | nil=>simp at i
 | cons a l o =>
  cases j with
  | zero =>
   have d:a.tick=0:=h;have c:Aq (a::l)=a.t::Aq l:=by unfold Aq;rw[iY];simp[d]
   have e:Aq (Bf (a::l) 0 aC)=Aq l:=by
    show Aq ({ a with tick:=aC }::l)=_;unfold Aq;rw[iY];simp[n]
   rw[c,e];exact jj _
  | succ j =>
   have m:Aj (a::l) (j+1)=Aj l j:=rfl;have k:=o (j:=j) (by simpa using i) h;have e:Bf (a::l) (j+1) aC=a::Bf l j aC:=rfl;rw[e,m];by_cases d:a.tick=0
   ·have c:∀l,Aq (a::l)=a.t::Aq l:=λl=>by unfold Aq;rw[iY];simp[d]
    rw[c,c];exact(List.Perm.cons _ k).trans (List.Perm.swap _ _ _)
   have c:∀l,Aq (a::l)=Aq l:=λl=>by unfold Aq;rw[iY];simp[d]
   rw[c,c];exact k
theorem Lx(mark aC:Int)(m:aC≠0)(f:Nat): ∀y:aG,(Aq y.items).length<f ->
  (Aq y.items).Perm (ES f y mark aC++Aq (BX f y mark aC).items)/\(∀a,a∈ES f y mark aC->a<=mark)/\(∀a,a∈Aq (BX f y mark aC).items->mark<a)/\(ES f y mark aC).Pairwise (·<=·) /\
   (BX f y mark aC).events=y.events++(ES f y mark aC).map (λa=>⟨a,mark,false,0⟩):=by
 induction f with
 | zero=>intro y r;omega
 | succ f B =>
  intro y D;unfold BX ES;rcases Ic y.items mark with ⟨r,v⟩ | ⟨C,j,k,s⟩
  ·rw[ij (by omega),ij (by omega)];refine⟨jj _,by simp,?_,ν,by simp⟩;intro a c;obtain⟨q,e,h,rfl⟩:=Pj c;exact v _ (by rw[Cv _ _ e];exact jk _) h
  rw[ig (by omega),ig (by omega)];have E:=Is aC m y.items _ j k;have w:=X4 y.items mark;have l:=XM m j k;generalize(C3 y.items mark).toNat=i at *
  obtain⟨n,o,x,z,A⟩:=B { y with items:=Bf y.items i aC,events:=y.events++[⟨(Aj y.items i).t,mark,false,0⟩] } (by show(Aq (Bf _ _ _)).length<f;omega);refine⟨?_,?_,x,?_,?_⟩
  ·refine l.trans ?_;rw[θ];exact List.Perm.cons _ n
  ·intro a c;rcases iA.1 c with d | d
   ·rw[d];exact s
   exact o a d
  ·refine jn.2 ⟨λa c=>?_,z⟩;have t:a∈Aq (Bf y.items i aC):=n.mem_iff.2 (ik.2 (.inl c));have u:a∈Aq y.items:=l.mem_iff.2 (iA.2 (.inr t));obtain⟨q,e,h,rfl⟩:=Pj u;exact w q e h (o _ c)
  rw[A];simp
theorem VD(m aC:Int)(c:aC≠0)(x:aJ)(y:aG)(q:bE x.l)(s:(x.l.map (·.t)).Perm (Aq y.items)):
  FP (x.l.length+1) x m=ES (y.items.length+1) y m aC:=by
 obtain⟨e,h,i,j,_⟩:=N7 m (x.l.length+1) x (by omega) q;obtain⟨k,l,n,o,_⟩:=Lx m aC c (y.items.length+1) y (by have:=EC y.items;omega);refine WI ?_ j o;have r:=e.symm.trans (s.trans k);have d:=r.filter (λa=>decide (a<=m));rw[jo,jo]at d;have c1:(FP (x.l.length+1) x m).filter (λa=>decide (a<=m))=FP (x.l.length+1) x m:=kf.2 (λa c=>by simpa using h a c);have c2:((relS (x.l.length+1) x m).l.map (·.t)).filter (λa=>decide (a<=m))=[]:=jQ.2 (λa c=>by have:=i a c;simp;omega);have c3:(ES (y.items.length+1) y m aC).filter (λa=>decide (a<=m))=ES (y.items.length+1) y m aC:=kf.2 (λa c=>by simpa using l a c);have c4:(Aq (BX (y.items.length+1) y m aC).items).filter (λa=>decide (a<=m))=[]:=jQ.2 (λa c=>by have:=n a c;simp;omega);rw[c1,c2,c3,c4,iC,iC]at d;exact d
theorem T3(clock aC:Int)(a:aC≠0)(x:aJ)(y:aG)(j:x.k=1)(c:x.c=y.c)(d:bE x.l)(k:(x.l.map (·.t)).Perm (Aq y.items))(i:x.nt.bs=A5 y.c y.events):
  (AS clock x).nt.bs=A5 (Bl clock aC y).c (Bl clock aC y).events:=by
 unfold AS Bl;rw[<-c];obtain⟨_,_,_,_,e⟩:=N7 (clock-x.c.aL) (x.l.length+1) x (by omega) d;obtain⟨_,_,_,_,h⟩:=Lx (clock-x.c.aL) aC a (y.items.length+1) y (by have:=EC y.items;omega);obtain⟨_,_,l,_⟩:=L0 (clock-x.c.aL) aC a (y.items.length+1) y (by have:=EC y.items;omega);rw[e j,h,l,VD (clock-x.c.aL) aC a x y d k,i,<-c];unfold A5;rw[jV,List.foldl_map];rfl
theorem TS.drop{a:List Bk}(c:TS a)(n:Nat): TS (a.drop n):=by
 intro h i e d;rw[If,If];exact c _ _ (by omega) (by rw[iU]at d;omega)
theorem TS.snoc{a:List Bk}(j:TS a)(x:Bk)(n:∀b,b∈a->b.t<=x.t): TS (a++[x]):=by
 intro c d l i;by_cases e:d<a.length
 ·rw[GD _ _ _ e,GD _ _ _ (by omega)];exact j c d l e
 have m:d-a.length=0:=by simp at i;omega
 rw[Hz _ _ d (by omega),m];show _<=x.t;by_cases h:c<a.length
 ·rw[GD _ _ _ h];exact n _ (EU h)
 have k:c-a.length=0:=by simp at i;omega
 rw[Hz _ _ c (by omega),k];exact iL _
theorem TS.join{c:List Bk}(e:TS c)(s:Nat)(m:s+2<=c.length)(j:Int): TS (BJ c s ⟨j,(Ad c (s+1)).t⟩):=by
 have k:=Po c s ⟨j,(Ad c (s+1)).t⟩ m;have hlen:=Fo (⟨j,(Ad c (s+1)).t⟩:Bk) (l:=c) (i:=s) m;intro a d r t;rw[k,k];by_cases o:d<s
 ·rw[ij o,ij (by omega)];exact e a d r (by omega)
 rw[ig o];by_cases q:d=s
 ·rw[ij q];by_cases h:a<s
  ·rw[ij h];exact e a (s+1) (by omega) (by omega)
  rw[ig h,ij (by omega)];exact iL _
 rw[ig q];by_cases h:a<s
 ·rw[ij h];exact e a (d+1) (by omega) (by omega)
 rw[ig h];by_cases n:a=s
 ·rw[ij n];exact e (s+1) (d+1) (by omega) (by omega)
 rw[ig n];exact e (a+1) (d+1) (by omega) (by omega)
theorem ZL{K:Int}(m:0<=K)(T:Int)(f:Nat)(a:List Bk)(c:Int)(e:Nat)(n:e<=a.length)(h:TS a)(d:∀b,b∈a->b.t<=T): TS (joinL K f a c e)/\∀b,b∈joinL K f a c e->b.t<=T:=by
 induction f generalizing a c e with
 | zero=>exact⟨h,d⟩
 | succ f k =>
  unfold joinL;split
  ·exact⟨h,d⟩
  rename_i o;have j:AC a c e+2<=a.length:=by omega
  have hlen:=Fo (⟨2*c,(Ad a (AC a c e+1)).t⟩:Bk) (l:=a) (i:=AC a c e) j;refine k _ _ _ (by omega) (h.join _ j _) ?_;exact Kp (P:=λb=>b.t<=T) a _ _ d (by show(Ad a (AC a c e+1)).t<=T;exact d _ (EU (l:=a) (i:=AC a c e+1) (by omega)))
theorem zNt{c:Cfg}(i:0<=c.k){d:List Bk}(h:TS d)(t m:Int)(e:∀b,b∈d->b.t<=t): TS (C7 c d t m)/\∀b,b∈C7 c d t m->b.t<=t:=by
 unfold C7 C5 EG;refine ZL i t _ _ _ _ (ir _) ((h.drop _).snoc _ (λb a=>e b (iE a))) ?_;intro b a;rcases ik.1 a with a | a
 ·exact e b (iE a)
 rw[im]at a;rw[a];exact iL _
theorem zLu{c:Cfg}(s:0<=c.k)(m:Int): ∀(R:List Int) (d:List Bk),TS d->(∀b,b∈d->∀a,a∈R->b.t<=a)->(∀b,b∈d->b.t<=m)->R.Pairwise (·<=·)->(∀a,a∈R->a<=m) ->
  TS (R.foldl (λj a=>C7 c j a m) d)/\∀b,b∈R.foldl (λj a=>C7 c j a m) d->b.t<=m:=by
 intro R;induction R with
 | nil=>intro d h _ n _ _;exact⟨h,n⟩
 | cons k R v =>
  intro d h u n t l;obtain⟨w,x⟩:=jn.1 t;obtain⟨z,o⟩:=zNt s h k m (λb e=>u b e k (by simp));rw[jZ];refine v _ z (λb e a i=>?_) (λb e=>?_) x (λa i=>l a (by simp[i]))
  ·have q:=o b e;have r:=w a i;omega
  have q:=o b e;have r:=l k (by simp);omega
theorem TP(c:Cfg)(d:List dU)(R:List Int)(m:Int): A5 c (d++R.map (λa=>⟨a,m,false,0⟩))=R.foldl (λe a=>C7 c e a m) (A5 c d):=by
 unfold A5;rw[jV,List.foldl_map];rfl
theorem fV.append{c:Cfg}{d:List dU}(j:fV c d){e:dU}(l:e.fE=true->0<=e.throw/\e.throw<=(A5 c d).length)(o:-100<=e.m/\e.m<=4611686018427387904): fV c (d++[e]):=by
 refine⟨λh i a k=>?_,λi a=>?_⟩
 ·by_cases m:h<d.length
  ·rw[iN m]at a;rw[je (by omega)];exact j.hQ h i a k
  rw[iO (by omega)]at a;have n:h=d.length:=by
   have:=(iq.1 a).1;simp at this;omega
  subst n;rw[j9]at a;injection a with a;subst a;rw[je (by omega),iw (by omega)];exact l k
 rcases ik.1 a with a | a
 ·exact j.mark i a
 rw[im]at a;rw[a];exact o
theorem fV.many{c:Cfg}(m:Int)(e:-100<=m/\m<=4611686018427387904): ∀(R:List Int) (a:List dU),fV c a->fV c (a++R.map (λj=>⟨j,m,false,0⟩)):=by
 intro R;induction R with
 | nil=>intro a d;simpa using d
 | cons i R h =>
  intro a d;have:=h (a++[⟨i,m,false,0⟩]) (d.append (λd=>by cases d) e);simpa using this
theorem OM(clock aC:Int)(y:aG)(a:aC≠0): (Bl clock aC y).c=y.c:=by
 unfold Bl;exact(L0 _ aC a (y.items.length+1) y (by have:=EC y.items;omega)).2.2.1
theorem PH{clock a aC:Int}(l:aC≠0){y:aG}(d:eD clock y)(z:clock<=a)(s:0<=y.c.k)(u:-100<=a-y.c.aL/\a-y.c.aL<=4611686018427387904): eD a (Bl a aC y):=by
 have e:=OM a aC y l;have v:=Lx (a-y.c.aL) aC l (y.items.length+1) y (by have:=EC y.items;omega);obtain⟨m,n,o,q,r⟩:=v;have i:(Bl a aC y).events=y.events++(ES (y.items.length+1) y (a-y.c.aL) aC).map (λc=>⟨c,a-y.c.aL,false,0⟩):=r;have t:∀c,c∈ES (y.items.length+1) y (a-y.c.aL) aC->clock-y.c.aL<c:=λc k=>d.wt c (m.mem_iff.2 (ik.2 (.inl k)));have j:=zLu s (a-y.c.aL) (ES (y.items.length+1) y (a-y.c.aL) aC) (A5 y.c y.events) d.ts (λb h c k=>by have w:=d.le b h;have x:=t c k;omega) (λb h=>by have:=d.le b h;omega) q n;rw[<-TP]at j;refine⟨?_,?_,?_,?_⟩
 ·rw[e,i];exact fV.many _ u _ _ d.ok
 ·rw[e,i];exact j.1
 ·rw[e,i];exact j.2
 rw[e];exact o
theorem YL{clock b:Int}{y:aG}(a:eD clock y)(i:0<=b): eD clock (F9 clock b y):=by
 have j:=pastN_le (A5 y.c y.events) (clock-y.c.aL-y.c.aB);have c:A5 y.c (y.events++[⟨0,0,true,min (Cb clock y) b⟩])=(A5 y.c y.events).drop (min (Cb clock y) b).toNat:=by
  unfold A5;rw[jV];rfl
 refine⟨?_,?_,?_,a.wt⟩
 ·exact a.ok.append (λ_=>by show 0<=min (Cb clock y) b/\min (Cb clock y) b<=_;unfold Cb;omega) (by show(-100:Int)<=0/\(0:Int)<=_;omega)
 ·show TS (A5 y.c (y.events++_));rw[c];exact a.ts.drop _
 intro e h;have d:e∈A5 y.c (y.events++[⟨0,0,true,min (Cb clock y) b⟩]):=h;rw[c]at d;exact a.le e (iE d)
theorem Wo{clock:Int}{y:aG}(c:eD clock y)(o:aO)(d:clock-y.c.aL<o.a): eD clock (Fh y o):=by
 refine⟨c.ok,c.ts,c.le,λe a=>?_⟩;have:Aq (Fh y o).items=Aq y.items++[o.a]:=by
  show Aq (y.items++[_])=_;unfold Aq;rw[jo,iB];rfl
 rw[this]at a;rcases ik.1 a with a | a
 ·exact c.wt e a
 rw[im]at a;rw[a];exact d
theorem Zj(clock id:Int)(c:Cfg): eD clock (CP id c) :=
 ⟨⟨λj d a=>by simp[CP]at a,λd a=>by simp[CP]at a⟩,λj k _ h=>by simp[CP,A5]at h,λb e=>by simp[CP,A5]at e,λl i=>by simp[CP,Aq]at i⟩
theorem hash_step(a K c d P:Int)(h:K=2*(K/2)+d): ((a+a)%P*(K/2)+(c+d*a)%P)%P=(a*K+c)%P:=by
 obtain⟨e,l⟩:∃e,K/2=e:=⟨_,rfl⟩;rw[l]at h ⊢;subst h;have m:=j3 (a+a) P;have n:=j3 (c+d*a) P;have k:(a+a)%P*e+(c+d*a)%P=a*(2*e+d)+c+P*(-((a+a)/P*e)-(c+d*a)/P):=by
  have i:(a+a)%P=(a+a)-P*((a+a)/P):=by omega
  have j:(c+d*a)%P=(c+d*a)-P*((c+d*a)/P):=by omega
  rw[i,j]
  grind
 rw[k,Int.add_mul_emod_self_left]
theorem PQ(a b key:Int)(w:World)(o:0<=a)(q:a<2305843009213693951)(r:0<=b)(s:b<2305843009213693951)(A:0<=key)(B:key<=2147483648):
  Calls prog 82 #[ι a,ι b,ι key] w λt D=>t=.returned (ι (AG a b key))/\D=w:=by
 go_enter func82,ntmps82;go_wp2_with fail
 go_loopw [0,2,7] (λE k C wr=>∃c K d:Int,E=ι c/\k=ι K/\C=ι d/\0<=c/\c<2305843009213693951/\0<=K/\K<=2147483648/\0<=d/\d<2305843009213693951/\Hid ((c*K+d)%2305843009213693951=(a*key+b)%2305843009213693951)/\wr=w) (λ_ k _ _=>(intOf k).toNat)
 case atStart=>exact⟨a,key,b,rfl,rfl,rfl,o,q,A,B,r,s,rfl,rfl⟩
 case round =>
  obtain⟨c,K,d,rfl,rfl,rfl,F,G,n,H,l,m,i,rfl⟩:=hrel;by_cases u:0<K
  ·have I:decide (0<K)=true:=by simpa using u
   have e:K%2=0\/K%2=1:=by omega
   have h:0<=(c+c)%2305843009213693951/\(c+c)%2305843009213693951<2305843009213693951:=by omega
   rcases e with e | e
   ·have j:=Aa (show((c+c)%2305843009213693951*(K/2)+d)%2305843009213693951=(a*key+b)%2305843009213693951 by
       have:=hash_step c K d 0 2305843009213693951 (by omega)
       rw[<-i.o,<-this,Int.zero_mul,kW,lC l m])
    have z:(K%2==1)=false:=by rw[e];rfl
    have J:K.tmod 2=K%2:=jY n;go_wp2;go_roundw;case rel=>exact⟨(c+c)%2305843009213693951,K/2,d,by go_num,by go_num,rfl,h.1,h.2,by omega,by omega,l,m,j,trivial⟩
    case measure=>simp[intOf];omega
   have j:=Aa (show((c+c)%2305843009213693951*(K/2)+(d+c)%2305843009213693951)%2305843009213693951=(a*key+b)%2305843009213693951 by
      have:=hash_step c K d 1 2305843009213693951 (by omega)
      rw[<-i.o,<-this,Int.one_mul])
   have z:(K%2==1)=true:=by rw[e];rfl
   go_wp2;go_roundw;case rel=>exact⟨(c+c)%2305843009213693951,K/2,(d+c)%2305843009213693951,by go_num,by go_num,by go_num,h.1,h.2,by omega,by omega,by omega,by omega,j,trivial⟩
   case measure=>simp[intOf];omega
  have v:K=0:=by omega
  subst v;have x:d%2305843009213693951=AG a b key:=by
   have:=i.o;rw[Int.mul_zero,Int.zero_add]at this;exact this
  go_wp2;go_ret;first | exact⟨A9 x,rfl⟩ | exact⟨A9 rfl,rfl⟩ | exact⟨rfl,rfl⟩
theorem zOx(x n:Nat)(o:x<2 ^ 64)(r:n<40)(i:x=2 ^ n*(x/2 ^ n))(m:x/2 ^ n%2=1): Lib.ctz 64 x=n:=by
 have q:x≠0:=λd=>by subst d;simp at m
 unfold Lib.ctz;rw[ig q];obtain⟨j,e,_⟩:=Lib.ctzFrom_spec 64 x (by omega) o;generalize Lib.ctzFrom 64 x=c at *
 obtain⟨h,l⟩:∃h,x/2 ^ n=2*h+1:=⟨x/2 ^ n/2,by omega⟩;rw[l]at i;rw[i]at e;rcases Nat.lt_trichotomy c n with d | d | d
 ·obtain⟨a,rfl⟩:∃a,n=c+(a+1):=⟨n-c-1,by omega⟩;rw[Nat.pow_add,ll]at e;have:=Nat.eq_of_mul_eq_mul_left (lG c) e;rw[kM]at this;have k:2 ^ a*2*(2*h+1)=2*(2 ^ a*(2*h+1)):=by rw[lF (2 ^ a) 2,ll]
  omega
 ·exact d
 obtain⟨a,rfl⟩:∃a,c=n+(a+1):=⟨c-n-1,by omega⟩;rw[Nat.pow_add,ll]at e;have:=Nat.eq_of_mul_eq_mul_left (lG n) e;rw[kM]at this;have k:2 ^ a*2*(2*j+1)=2*(2 ^ a*(2*j+1)):=by rw[lF (2 ^ a) 2,ll]
 omega
theorem zPk(x:Nat)(j:x<2 ^ 64)(d:x=2 ^ 39*(x/2 ^ 39)): 39<=Lib.ctz 64 x:=by
 unfold Lib.ctz;split
 ·omega
 rename_i l;obtain⟨m,h,_⟩:=Lib.ctzFrom_spec 64 x (by omega) j;generalize Lib.ctzFrom 64 x=c at *
 rcases kC c 39 with e | e
 ·exfalso;obtain⟨a,i⟩:∃a,39=c+(a+1):=⟨39-c-1,by omega⟩;rw[i,Nat.pow_add,ll]at d;generalize x/(2 ^ c*2 ^ (a+1))=y at d;rw[d]at h;have:=Nat.eq_of_mul_eq_mul_left (lG c) h;rw[kM]at this;have k:2 ^ a*2*y=2*(2 ^ a*y):=by rw[lF (2 ^ a) 2,ll]
  omega
 exact e
theorem Xj(e:Int)(w:World)(u:0<=e)(B:e<9223372036854775808):
  Calls prog 83 #[ι e] w λn x=>n=.returned (ι (Cr e))/\x=w:=by
 obtain⟨c,rfl⟩:=jl u;have l:c<2 ^ 64:=by omega
 have j:=Aa l;clear l;go_enter func83,ntmps83;go_wp2_with fail
 go_loopw [0,3] (λv i wr=>∃(a y:Nat),a<=39/\v=ι y/\i=ι ((a:Int)+1)/\y<=c/\Hid (c=2 ^ a*y)/\wr=w) (λ_ i _=>40-(intOf i).toNat)
 case atStart=>exact⟨0,c,by omega,rfl,rfl,ir _,by show c=2 ^ 0*c;simp,rfl⟩
 case round =>
  obtain⟨a,y,z,rfl,rfl,A,d,rfl⟩:=hrel;have hdiv:c/2 ^ a=y:=by rw[d.o,Nat.mul_div_cancel_left _ (lG a)]
  by_cases s:a=39
  ·subst s
   have h:=Aa (show Cr (c:Int)=40 by
      unfold Cr;have:=zPk c j.o (by rw[hdiv];exact d.o)
      rw[iM];omega)
   have r:decide (((39:Nat):Int)+1<40)=false:=by decide
   clear hdiv;go_wp2;go_ret;exact⟨A9 h.o.symm,rfl⟩
  have r:decide ((a:Int)+1<40)=true:=by simp;omega
  rcases Nat.mod_two_eq_zero_or_one y with k | k
  ·have t:((y:Int)%2==0)=true:=by simp;omega
   have m:=Aa (show c=2 ^ (a+1)*(y/2) by
      have o:y=2*(y/2):=by omega
      have q:=d.o
      rw[kM,ll,<-o];exact q)
   clear hdiv;go_wp2;go_roundw;case rel=>exact⟨a+1,y/2,by omega,by go_num,by go_num,by omega,m,trivial⟩
   case measure=>simp[intOf];omega
  have t:((y:Int)%2==0)=false:=by simp;omega
  have h:=Aa (show Cr (c:Int)=(a:Int)+1 by
     unfold Cr;rw[iM,zOx c a j.o (by omega) (by rw[hdiv];exact d.o) (by rw[hdiv];exact k)]
     omega)
  clear hdiv;go_wp2;go_ret;exact⟨A9 h.o.symm,rfl⟩
theorem Vo(a b:Int)(w:World)(q:-4611686018427389000<=a)(r:a<=4611686018427389000)(s:1<=b)(t:b<=1000):
  Calls prog 84 #[ι a,ι b] w λl o=>l=.returned (ι (a/b))/\o=w:=by
 cases d:decide (a<0)
 ·have e:0<=a:=by simpa using d
  have k:a.tdiv b=a/b:=jd e;have m:0<=a/b:=jO e (by omega);have n:a/b<=a:=jS _ e;go_enter func84,ntmps84;go_wp2;go_ret;exact⟨by first | rfl | exact A9 rfl | exact A9 k,rfl⟩
 have e:a<0:=by simpa using d
 have h:0<=-a+b-1:=by omega
 have k:(-a+b-1).tdiv b=(-a+b-1)/b:=jd h;have m:0<=(-a+b-1)/b:=jO h (by omega);have n:(-a+b-1)/b<=-a+b-1:=jS _ h;have j:-((-a+b-1)/b)=a/b:=by
  have u:=j3 a b;have v:=j3 (-a+b-1) b;have B:=ki a (show b≠0 by omega);have C:=j6 a (show 0<b by omega);have D:=ki (-a+b-1) (show b≠0 by omega);have E:=j6 (-a+b-1) (show 0<b by omega);generalize a/b=c at *
  generalize(-a+b-1)/b=y at *
  have x:b*(c+y)=b*c+b*y:=lP _ _ _;have z:-b<b*(c+y)/\b*(c+y)<b:=by omega
  have A:c+y=0:=by
   rcases Int.lt_trichotomy (c+y) 0 with d | d | d
   ·have:b*(c+y)<=b*(-1):=jt (by omega) (by omega);omega
   ·exact d
   have:b*1<=b*(c+y):=jt (by omega) (by omega);omega
  omega
 have i:=Aa j;clear j;go_enter func84,ntmps84;go_wp2;go_ret;exact⟨by first | (rw[<-i.o];rfl) | exact A9 i.o,rfl⟩
def Bv(l:List bA)(fr tq:Int): List bA:=l.filter (λz=>decide (0<z.tick)&&(decide (fr<z.t)&&decide (z.t<=tq)))
abbrev FZ(w:World)(base:Nat)(v:Value)(l:List bA): Prop:=w.ownsRow base 150 5 v l.length (C4 l)
theorem TC(l:List bA)(fr a:Int)(k:Nat)(c:k<l.length): Bv (l.take (k+1)) fr a=Bv (l.take k) fr a++if (decide (0<(Aj l k).tick)&&(decide (fr<(Aj l k).t)&&decide ((Aj l k).t<=a)))=true then[Aj l k] else[]:=by
 rw[jm c,Cv _ _ c];unfold Bv;rw[jo,iY];congr 1
theorem Kf(l:List bA)(fr a:Int): (Bv l fr a).length<=l.length:=k9 _ _
theorem zNk: (prog.info? 150).map (λa=>(a.zero,a.size,a.bytes))=some (some (.agg #[ι 0,ι 0,ι 0,ι 0,ι 0]),5,40):=by kernel_rfl
theorem TB(a b:List bA): C4 (a++b)=C4 a++C4 b:=by simp[C4]
theorem Tx(l:List bA): (C4 l).length=l.length*5:=UI bA.cells 5 (λ_=>rfl) l
theorem Yh(l:List bA): ∀d∈C4 l,d.oneCell'=true:=by
 intro d e;obtain⟨h,_,c⟩:=lj.1 e;simp only[bA.cells,iA,ks,or_false]at c;rcases c with a | a | a | a | a <;> subst a <;> rfl
theorem RX{w:World}{v:Array Oper}{rest:List Oper}{o:Oper}{a:Act}{t:Exit->Act->World->Prop}(D:o.guard=none)(s x:Operand)(G:o.op=.call { callee:=.builtin .append,args:=#[s,x],argTypes:=#[109,109] })(base:Nat)(l:Value)(d:List bA)(e:Nat)(n:d.length=e)(J:a.eval s=l)(H:FZ w base l d)(q u:Nat)(c:bA)(M:a.eval x=σ q 1 u)(A:∀j k,c.cells[j]?=some k->w.cell? ⟨q,j,none⟩=some k)(hlen:e+1<=3518437208000)(B:base<=w.heap.size)(m:∀g i r,FZ r base (σ g (e+1) i) (d++[c])->aA (λQ=>l.ownBlock=some Q) w r->wpList prog v t rest (a.put o.dst (σ g (e+1) i)) r): wpList prog v t (o::rest) a w:=by
 obtain⟨R,E,N,O,P⟩:=jg zNk;subst n;have C:C4 [c]=c.cells:=by simp[C4]
 refine jf w D s x 109 G base 150 R _ 5 40 underlying109 E N O P (by rfl) (by omega) l d.length (C4 d) J H ⟨q,0,none⟩ 1 u (C4 [c]) M (Tx [c]) ?_ (Yh [c]) (by omega) (by unfold maxLen;omega) (by omega) B w.heap.size rfl ?_
 ·intro j k L;rw[kl,ja];exact A j k (by rw[<-C];exact L)
 intro g i z I h S T;refine m g i z ?_ ⟨h.os,h.tape,h.output,h.size,λe n F=>h.block e n (λm=>F m.symm)⟩;show z.ownsRow base 150 5 _ (d++[c]).length (C4 (d++[c]));rw[TB,ic];exact I
theorem LE(b:RB)(y:aG)(fr d:Int)(w:World)(c:bN w b y)(ah:y.items.length<=651562446090):
  Calls prog 81 #[π b.s,ι fr,ι d] w λY N=>∃M,Y=.returned M/\FZ N w.heap.size M (Bv y.items fr d)/\lX w N:=by
 have v:κ w b.s 21 b.iv:=c.aF.cell rfl;obtain⟨ab,ad,J,-,D,E⟩:=DZ c.bC;rw[J]at v;have P:=Aa E;have O:=Aa D;have Q:=Aa v;clear c E D v J;generalize H:y.items.length=s at *
 have C:=Aa H;clear H;generalize b.s=al at *
 generalize y.items=all at *
 go_enter func81,ntmps81;go_wp2_with fail
 go_loopw [7,8] (λL r wr=>∃(a h n:Nat) (m:Option Addr),a<=s/\r=ι a/\L=.slice m h n/\Hid (FZ wr w.heap.size L (Bv (all.take a) fr d))/\Hid (lX w wr)) (λ_ r _=>s-(intOf r).toNat)
 case atStart=>exact⟨0,0,0,none,by omega,rfl,rfl,iy _ _ _ _,aA.refl _ _⟩
 case round =>
  obtain⟨a,h,n,m,ae,rfl,rfl,i,e⟩:=hrel;have v:=e.o.cell Q.o id;by_cases W:a<s
  ·have l:a<all.length:=by rw[C.o];exact W
   obtain⟨g,F⟩:=O.o (by omega);have o:=(P.o g F).1;subst F;have aa:=e.o.cell (o (a*5+0) _ (by rw[C8 _ _ _ l (by omega)];rfl)) id;have ao:=e.o.cell (o (a*5+1) _ (by rw[C8 _ _ _ l (by omega)];rfl)) id;have ap:=e.o.cell (o (a*5+2) _ (by rw[C8 _ _ _ l (by omega)];rfl)) id;have aq:=e.o.cell (o (a*5+3) _ (by rw[C8 _ _ _ l (by omega)];rfl)) id;have ar:=e.o.cell (o (a*5+4) _ (by rw[C8 _ _ _ l (by omega)];rfl)) id;rw[j0]at aa;have u:=Aa (TC all fr d a l);have G:h=(Bv (all.take a) fr d).length:=by
    obtain⟨_,_,R⟩:=BI i.o;injection R
   have aj:(Bv (all.take a) fr d).length<=a:=by
    have k:=Kf (all.take a) fr d;rw[iG]at k;omega
   generalize Aj all a=Z at *
   generalize Bv (all.take a) fr d=q at *
   obtain⟨t,A,z,B,x⟩:=Z;have af:(0:Int)<=(a:Int):=by omega
   have ag:(a:Int)<(s:Int):=by omega
   clear o l;cases k:decide (0<x)
   ·have j:=Aa (show Bv (all.take (a+1)) fr d=q by rw[u.o];simp[k]);go_wp2_with fail
    go_roundw;case rel=>exact⟨a+1,h,n,m,by omega,by go_num,rfl,by rw[j.o];exact i,e⟩
    case measure=>simp[intOf];omega
   cases h2:decide (fr<t)
   ·have j:=Aa (show Bv (all.take (a+1)) fr d=q by rw[u.o];simp[h2]);go_wp2_with fail
    go_roundw;case rel=>exact⟨a+1,h,n,m,by omega,by go_num,rfl,by rw[j.o];exact i,e⟩
    case measure=>simp[intOf];omega
   cases h3:decide (t<=d)
   ·have j:=Aa (show Bv (all.take (a+1)) fr d=q by rw[u.o];simp[h3]);go_wp2_with fail
    go_roundw;case rel=>exact⟨a+1,h,n,m,by omega,by go_num,rfl,by rw[j.o];exact i,e⟩
    case measure=>simp[intOf];omega
   have j:=Aa (show Bv (all.take (a+1)) fr d=q++[⟨t,A,z,B,x⟩] by rw[u.o];simp[k,h2,h3]);go_wp2_with (at_builtin;refine RX rfl _ _ rfl w.heap.size (.slice m h n) q h G.symm rfl (by exact i.o.alloc _) wr.heap.size 1 ⟨t,A,z,B,x⟩ rfl (by intro ak am X;exact(aD.new wr (bA.cells ⟨t,A,z,B,x⟩) 150).cell X) (by omega) (by have:=e.o.size;simp;omega) ?_;intro S c2 an I U)
   go_roundw;case rel =>
    rw[G]at I;refine⟨a+1,_,c2,some ⟨S,0,none⟩,by omega,by go_num,rfl,?_,?_⟩
    ·show FZ _ _ _ _;rw[j.o];exact I
    refine((e.o.alloc _).trans U (λr T ai=>?_));have:=(i.o.lt r T).1;omega
   case measure=>simp[intOf];omega
  have V:a=s:=by omega
  subst V;go_wp2_with fail
  go_ret;have k:=i.o;rw[iw (by rw[C.o];omega)]at k;exact⟨_,rfl,k,e.o⟩
def Fg(c:Cfg)(n:Nat)(G:List Int)(k:Int): List Int :=
 if G.getD (Cd c n k) 0<Cr (AG c.bV c.bW k/n) then G.set (Cd c n k) (Cr (AG c.bV c.bW k/n)) else G
def CY(c:Cfg)(n:Nat)(l:List bA): List Int:=l.foldl (λG z=>Fg c n G z.k) (List.replicate n 0)
theorem O1(c:Cfg)(n:Nat)(a:List Int)(k:Int): (Fg c n a k).length=a.length:=by
 unfold Fg;split <;> simp
theorem JZ(c:Cfg)(n:Nat)(l:List bA): (CY c n l).length=n:=by
 unfold CY;have:∀(l:List bA) (a:List Int),(l.foldl (λa d=>Fg c n a d.k) a).length=a.length:=by
  intro l;induction l with
  | nil=>intro a;rfl
  | cons d l e=>intro a;rw[jZ,e,O1]
 rw[this];simp
theorem Wi(c:Cfg)(n:Nat)(l:List bA)(k:Nat)(a:k<l.length): CY c n (l.take (k+1))=Fg c n (CY c n (l.take k)) (Aj l k).k:=by
 rw[jm a,Cv _ _ a];unfold CY;rw[jV];rfl
theorem ZG(c:Cfg)(n:Nat)(l:List bA): ∀g∈CY c n l,0<=g/\g<=40:=by
 unfold CY;have:∀(l:List bA) (a:List Int),(∀g∈a,0<=g/\g<=40)->∀g∈l.foldl (λa i=>Fg c n a i.k) a,0<=g/\g<=40:=by
  intro l;induction l with
  | nil=>intro a e;exact e
  | cons i l j =>
   intro a e;rw[jZ];refine j _ (λg d=>?_);unfold Fg at d;split at d
   ·rcases jx d with h | h
    ·exact e g h
    rw[h];have:=K6 (AG c.bV c.bW i.k/n);omega
   exact e g d
 refine this l _ (λg d=>?_);rw[(kj.1 d).2];omega
theorem Xk(a:List Int)(k:Nat)(c:k<a.length): CO (a.take (k+1))=CO (a.take k)+2 ^ (40-a.getD k 0).toNat:=by
 rw[ji,h9 c];show CO (a.take k++[a[k]])=_;rw[Ov,γ,h9 c];simp[CO]
theorem Xv(a:List Int)(i:Nat)(v:Int): Af (a.set i v)=(Af a).set i (ι v):=by
 unfold Af;rw[kO]
theorem QG(a:List Int)(i:Nat)(hi:i<a.length): (Af a)[i]?=some (ι (a.getD i 0)):=by
 simp[Af,List.getD_eq_getElem?_getD,h9 hi]
theorem Ss(b:RB)(y:aG)(a m:Int)(n:Nat)(w:World)(t:bN w b y)(cg:y.c.pair0)(dq:1<=y.c.bits)(dr:y.c.bits<=4)(O:2 ^ y.c.bits.toNat=n)(cp:y.items.length<=651562446090)(aj:∀A,A∈Bv y.items (m-a) m->0<=A.k/\A.k<=2147483648)(dn:1<=a)(dp:a<=1000)(et:-100<=m)(eu:m<=4611686018427387904):
  Calls prog 55 #[π b.s,ι a,ι m] w λam S=>∃bk,am=.returned bk/\S.ownsRow w.heap.size 3 1 bk (n+1) (Af (CY y.c n (Bv y.items (m-a) m)++[7*n*n*1099511627776/(10*CO (CY y.c n (Bv y.items (m-a) m)))]))/\lX w S:=by
 have cs:(2:Int) ^ y.c.bits.toNat=(n:Int):=by rw[<-O];simp
 have ee:n<=16:=by
  rw[<-O];have:=jr (n:=2) (by omega) (show y.c.bits.toNat<=4 by omega);simpa using this
 have ed:1<=n:=by rw[<-O];exact lR
 have cx:wrap64 (n:Int)=(n:Int):=by unfold wrap64;omega
 have cr:=λb1=>run_make_row' (P:=prog) 37 3 (ι 0) 8 underlying37 Lf rfl .i64 .i64 n (by omega) (by omega) b1;have cf:=t.aF.c7;have cy:IntKind.i64.wrap (m-a)=m-a:=by rw[il];omega
 have X:=Aa t;have aq:=Aa aj;obtain⟨dg,R,al,dh⟩:=cg;clear t aj O;go_enter func55,ntmps55;go_wp2_with fail
 have W:=Aa (show(w.alloc (.cells (madeCells #[ι 0] n) 3)).ownsRow w.heap.size 3 1 (σ w.heap.size n n) n (Af (List.replicate n 0)) by
    have:=World.ownsRow_lit (base:=w.heap.size) (e:=3) (size:=1) w (madeCells #[ι 0] n) n (ir _) (by unfold maxLen;omega) (by rw[<-Array.length_toList,M8];simp);rw[M8]at this;rw[show Af (List.replicate n 0)=List.replicate n (Value.int .i64 0) by simp[Af]]
    exact this)
 have U:=Aa ((aA.refl (λ_=>False) w).alloc (.cells (madeCells #[ι 0] n) 3));have Y:=Aa (X.o.still U.o);have da:(w.alloc (.cells (madeCells #[ι 0] n) 3)).heap.size=w.heap.size+1:=by simp
 generalize w.alloc (.cells (madeCells #[ι 0] n) 3)=ay at *
 obtain⟨r,ag⟩:∃r,w.heap.size=r:=⟨_,rfl⟩;rw[ag]at da W ⊢;clear cr cf cs;refine(LE b y (m-a) m ay Y.o cp).mono ?_;rintro am ab ⟨es,rfl,ae,B⟩;have av:=Aa ae;have ec:(Bv y.items (m-a) m).length<=651562446090:=by have:=Kf y.items (m-a) m;omega
 have bt:=Aa (DY W.o B (λ_ _ t=>t));have bq:=Aa (U.o.then B);have bm:=Aa (show ∀A,A∈Bv y.items (m-a) m->0<=A.k/\A.k<=2147483648 from aq.o);have Z:=Aa (Y.o.still B);have bf:κ ab b.s 15 (ι y.c.bV):=Z.o.aF.cell rfl;have bg:κ ab b.s 16 (ι y.c.bW):=Z.o.aF.cell rfl;have bi:b.s≠r:=by have:=X.o.aF.lt;omega
 have bx:=Aa bf;have bz:=Aa bg;generalize a0:Bv y.items (m-a) m=j at *
 have br:=Aa a0;generalize a6:y.c=k at *
 have bn:=Aa a6;clear a6;generalize b.s=ex at *
 obtain⟨de,df,cb⟩:=BI ae;generalize be:j.length=C at *
 have V:=Aa be;subst cb;have ap:=Aa ag;clear ae B aq X Y Z bf bg be a0 W U ag;go_wp2_with fail
 go_loopw [10] (λo wr=>∃d:Nat,d<=C/\o=ι d/\Hid (wr.ownsRow r 3 1 (σ r n n) n (Af (CY k n (j.take d))))/\Hid (aA (λc=>c=r) ab wr)) (λo _=>C-(intOf o).toNat)
 case atStart=>exact⟨0,by omega,rfl,bt,aA.refl _ _⟩
 case round =>
  obtain⟨d,aj,rfl,H,D⟩:=hrel;by_cases co:d<C
  ·have G:d<j.length:=by rw[V.o];exact co
   have a1:FZ wr ay.heap.size (.slice de C df) j:=by
    have:=An av.o D.o (λo N t=>by have:=(av.o.lt o N).1;omega);exact this
   obtain⟨ep,er,b7,_,bd,a7⟩:=DZ a1;injection b7 with b8 ca b9;clear ca;subst b8 b9;obtain⟨cc,ba⟩:=bd (by rw[V.o];omega);have b6:=(a7 cc ba).1 (d*5+1) _ (by rw[C8 _ _ _ G (by omega)];rfl);subst ba;have b4:=D.o.cell bx.o bi;have b5:=D.o.cell bz.o bi;obtain⟨db,dc⟩:=bm.o (Aj j d) (by rw[Cv _ _ G];exact jk G);have aw:=Aa (Wi k n j d G);have z:=JZ k n (j.take d);generalize(Aj j d).k=Q at *
   generalize CY k n (j.take d)=h at *
   have a5:=GO k.bV k.bW Q;obtain⟨v,F⟩:∃v,AG k.bV k.bW Q=v:=⟨_,rfl⟩;rw[F]at a5;obtain⟨bb,d3⟩:=a5;obtain⟨l,ah⟩:∃l:Nat,Cd k n Q=l:=⟨_,rfl⟩;have d6:v%(n:Int)=(l:Int):=by
    rw[<-ah];unfold Cd;rw[F];have:=ki v (b:=(n:Int)) (by omega);omega
   have cl:l<n:=by
    have:=j6 v (b:=(n:Int)) (by omega);omega
   obtain⟨x,ak⟩:∃x,v/(n:Int)=x:=⟨_,rfl⟩;have cu:0<=x:=by rw[<-ak];exact jO bb (by omega)
   have ef:x<=v:=by rw[<-ak];exact jS _ bb
   have ax:=Aa (show CY k n (j.take (d+1))=if h.getD l 0<Cr x then h.set l (Cr x) else h by rw[aw.o];unfold Fg;rw[ah,F,ak]);have bp:=Aa (show ∀T:World,Calls prog 82 #[ι k.bV,ι k.bW,ι Q] T λL S=>L=.returned (ι v)/\S=T from λT=>by rw[<-F];exact PQ _ _ _ T dg R al dh db dc);have ea:(0:Int)<=(d:Int):=by omega
   have eb:(d:Int)<(C:Int):=by omega
   clear a1 a7 bd G aw ah F;go_wp2_with fail
   go_quiet (first | (go_at_call 82;refine jA (bp.o _)))
   have au:=Aa (D.o.then (aA.drewN (λc=>c=r) wr nq));have I:=Aa (DY H.o (aA.drewN (λ_=>False) wr nq) (λ_ _ t=>t));have ad:=I.o.cellAt l (by omega);rw[QG h l (by rw[z];exact cl)]at ad;have ds:=I.o.frozenAt l;clear b4 b5 b6;generalize wr.drewN nq=b2 at *
   go_wp2_with fail
   refine(Xj x b2 cu (by omega)).mono ?_;rintro am dl ⟨rfl,bj⟩;rw[bj];clear bj dl;generalize Cr x=an at *
   have d4:(0:Int)<=(l:Int):=by omega
   have d5:(l:Int)<(n:Int):=by omega
   cases M:decide (h.getD l 0<an)
   ·have aa:=Aa (show CY k n (j.take (d+1))=h by rw[ax.o,ig (by simpa using M)]);generalize h.getD l 0=u at *
    go_wp2_with fail
    go_roundw;case rel=>exact⟨d+1,by omega,by go_num,by rw[aa.o];exact I,au⟩
    case measure=>simp[intOf];omega
   have aa:=Aa (show CY k n (j.take (d+1))=h.set l an by rw[ax.o,ij (by simpa using M)]);generalize h.getD l 0=u at *
   go_wp2_with fail
   go_roundw;case rel=>exact⟨d+1,by omega,by go_num,by rw[aa.o,Xv];exact Aa (Gy I.o l (ι an)),Aa (au.o.setCell (p:=⟨r,l,none⟩) (Or.inl rfl) _)⟩
   case measure=>simp[intOf];omega
  have cn:d=C:=by omega
  subst cn;have a8:j.take d=j:=iw (by rw[V.o];omega);rw[a8]at H;have z:=JZ k n j;have ao:=Aa (ZG k n j);have ar:=Aa (show lX w wr from bq.o.trans D.o (λo N cq=>by have:=ap.o;omega));generalize az:CY k n j=h at *
  have bo:=Aa az;clear az;go_wp2_with fail
  generalize wr=b3 at *
  go_loopw [13,14] (λdk o wr=>∃(c:Nat) (i:Int),c<=n/\o=ι c/\dk=ι i/\0<=i/\i<=1099511627776*(c:Int)/\Hid (i=CO (h.take c))/\wr=b3) (λ_ o _=>n-(intOf o).toNat)
  case atStart=>exact⟨0,0,by omega,rfl,rfl,by omega,by omega,rfl,rfl⟩
  case round =>
   obtain⟨c,i,d7,rfl,rfl,dz,d0,J,rfl⟩:=hrel;by_cases ai:c<n
   ·have ad:=H.o.cellAt c (by omega);rw[QG h c (by rw[z];exact ai)]at ad;have cj:=ao.o (h.getD c 0) (by rw[γ,h9 (by rw[z];exact ai)];exact jk _);have b0:=Aa (Xk h c (by rw[z];exact ai));generalize h.getD c 0=u at *
    obtain⟨dt,du⟩:=cj;have R:=G0 (40-u).toNat (by omega);have al:(2:Int) ^ (40-u).toNat<=1099511627776:=by
     have dy:2 ^ (40-u).toNat<=2 ^ 40:=jr (by omega) (by omega);have L:(2:Int) ^ (40-u).toNat=((2 ^ (40-u).toNat:Nat):Int):=by simp
     rw[L];omega
    obtain⟨s,a3⟩:∃s,(2:Int) ^ (40-u).toNat=s:=⟨_,rfl⟩;have bu:=Aa a3;rw[a3]at R al;obtain⟨ev,ew⟩:=R;have d8:(0:Int)<=(c:Int):=by omega
    have d9:(c:Int)<(n:Int):=by omega
    have em:wrap64 s=s:=by unfold wrap64;omega
    have en:IntKind.i64.wrap s=s:=by rw[il];omega
    have eo:IntKind.i64.wrap (i+s)=i+s:=by rw[il];omega
    go_wp2_with fail
    go_roundw;case rel=>exact⟨c+1,i+s,by omega,by go_num,by go_num,by omega,by rw[Int.natCast_add,Int.natCast_one,lP];omega,Aa (by rw[b0.o,<-J.o,bu.o]),trivial⟩
    case measure=>simp[intOf];omega
   have cm:c=n:=by omega
   subst cm;have a9:h.take c=h:=iw (by rw[z];exact ir _);rw[a9]at J;have bh:=Rb ao.o;rw[z,<-J.o]at bh;obtain⟨di,dj⟩:=bh;clear cx cy a9 a8;have bc:(c:Int)<=16:=by omega
   have eg:0<=(c:Int)*(c:Int):=kL (by omega) (by omega);have eh:(c:Int)*(c:Int)<=16*16:=kT bc bc (by omega) (by omega);have ce:7*(c:Int)*(c:Int)=7*((c:Int)*(c:Int)):=Int.mul_assoc _ _ _;have ej:IntKind.i64.wrap (7*(c:Int))=7*(c:Int):=by rw[il];omega
   have ek:IntKind.i64.wrap (7*(c:Int)*(c:Int))=7*(c:Int)*(c:Int):=by rw[il];omega
   have cv:IntKind.i64.wrap (7*(c:Int)*(c:Int)*1099511627776)=7*(c:Int)*(c:Int)*1099511627776:=by rw[il];omega
   have el:IntKind.i64.wrap (10*i)=10*i:=by rw[il];omega
   have d1:1<=i:=by omega
   clear di dj;obtain⟨q,a2⟩:∃q,7*(c:Int)*(c:Int)*1099511627776=q:=⟨_,rfl⟩;have af:0<=q:=by omega
   have M:q.tdiv (10*i)=q/(10*i):=jd af;have ch:0<=q/(10*i):=jO af (by omega);have ci:q/(10*i)<=q:=jS _ af;have cw:IntKind.i64.wrap (q/(10*i))=q/(10*i):=by rw[il];omega
   rw[a2]at cv;have bs:=Aa a2;obtain⟨E,a4⟩:∃E,q/(10*i)=E:=⟨_,rfl⟩;have bv:=Aa a4;clear ce;rw[a4]at M ch ci cw;have bl:=Aa (aD.new wr [ι E] 3);have ck:=ap.o;have ei:=ar.o.size;go_wp2_with (at_builtin;refine Fl rfl _ _ rfl r _ c h rfl (by exact DY H.o ((aA.refl (λ_=>False) wr).alloc _) (λ_ _ t=>t)) wr.heap.size 1 [E] rfl rfl bl.o (by omega) (by omega) (by simp;omega) ?_;intro dw c2 dm ct B d2)
   go_ret;refine⟨_,rfl,?_,?_⟩
   ·have:=ct;rw[ck,bn.o,br.o,bo.o,<-J.o,bs.o,bv.o];exact this
   exact(ar.o.alloc (.cells #[ι E] 3)).trans B (λo N cq=>by
      have cd:some r=some o:=N;have dx:r=o:=by injection cd
      omega)
end
section
attribute [local go_sem ↓] AH JS
attribute [local go_sem] AI A3 A4 AJ AL B8 B9
def Nr(c:Cfg)(key:Int)(r:Nat)(z:bA): Bool:=AA c z.k r==AA c key r
def DV(c:Cfg)(l:List bA)(key:Int)(r:Nat): Nat:=(l.filter (Nr c key r)).length
theorem Xn(c:Cfg)(l:List bA)(key:Int)(a k:Nat)(d:k<l.length): DV c (l.take (k+1)) key a=DV c (l.take k) key a+if (AA c (Aj l k).k a==AA c key a)=true then 1 else 0:=by
 rw[jm d,Cv _ _ d];unfold DV;rw[jo,ic,iY];congr 1;unfold Nr;split <;> rfl
theorem Nf(c:Cfg)(l:List bA)(key:Int)(a:Nat): DV c l key a<=l.length:=k9 _ _
def Dl(c:Cfg)(l:List bA)(key:Int): Nat->Int
 | 0=>(l.length:Int)
 | r+1=>if (DV c l key r:Int)<Dl c l key r then(DV c l key r:Int) else Dl c l key r
theorem P0(c:Cfg)(l:List bA)(key:Int): ∀a,0<=Dl c l key a/\Dl c l key a<=l.length
 | 0=>by unfold Dl;omega
 | a+1=>by
  have d:=P0 c l key a;have e:=Nf c l key a;unfold Dl;split <;> omega
theorem VV{w:World}{d:Nat}{c:Cfg}(h:aD w d c.cells 46)(a:Nat)(i:a<3): w.cell? ⟨d,14+a*2,none⟩=some (ι (De c a))/\w.cell? ⟨d,14+a*2+1,none⟩=some (ι (Df c a)):=by
 have:a=0\/a=1\/a=2:=by omega
 rcases this with e | e | e <;> subst e <;> exact⟨h.cell rfl,h.cell rfl⟩
def Ff(c:Cfg)(m:Int): Int:=(m-c.aB+1)/Ag c*Ag c
theorem Zv(c:Cfg)(m:Int)(h:1<=Ag c): m-c.aB+1-Ag c<Ff c m/\Ff c m<=m-c.aB+1:=by
 have a:=ki (m-c.aB+1) (show Ag c≠0 by omega);have d:=j6 (m-c.aB+1) (show 0<Ag c by omega);have e:=j3 (m-c.aB+1) (Ag c);unfold Ff;rw[Int.mul_comm];omega
theorem Vt(b:RB)(y:aG)(key m:Int)(w:World)(h:bN w b y)(ck:y.c.paned)(u:y.c.rowed)(ax:1<=Ag y.c)(cc:Ag y.c<=1000)(cj:y.items.length<=651562446090)(Y:∀q,q∈Bv y.items (Ff y.c m-1) m->0<=q.k/\q.k<=2147483648)(cr:0<=key)(cs:key<=2147483648)(d2:-100<=m)(d3:m<=4611686018427387904):
  Calls prog 56 #[π b.s,ι key,ι m] w λa l=>∃g,a=.returned (σ g 1 1)/\w.heap.size<=g/\aD l g [ι (Dl y.c (Bv y.items (Ff y.c m-1) m) key y.c.rows.toNat)] 3/\lX w l:=by
 obtain⟨j,a0⟩:∃j:Nat,y.c.rows=(j:Int):=⟨y.c.rows.toNat,by have:=u.r0;omega⟩;have a1:y.c.rows.toNat=j:=by omega
 have di:j<=3:=by have:=u.r1;omega
 have ao:=Aa h;have P:=Aa Y;obtain⟨F,d7,d4,d5⟩:=ck;have ce:Ap w b.s 1 20=.agg y.c.cells.toArray/\Az w b.s 1 20=true:=by
  have cm:w.rangeAt b.s 1 y.c.cells:=λbi d6 bf=>h.aF.cell (by
     have cg:bi<20:=(iq.1 bf).1;have U:CB b y=ι y.id::(y.c.cells++(b.iv::b.ev::y.ref.map (ι ·))):=rfl;rw[U,k6 1 bi,k3,iN cg]
     exact bf)
  have:=D4 cm;exact⟨by unfold Ap;have av:=this.1;rw[show y.c.cells.length=20 from rfl]at av;rw[av],this.2⟩
 obtain⟨b2,b3⟩:=ce;have cn:∀M:List Value,M.length=20->(E0 46 (π w.heap.size) (.agg y.c.cells.toArray)).run prog (w.alloc (.cells M.toArray 46))=.ok .skip (w.alloc (.cells y.c.cells.toArray 46)):=λM cq=>UC w M y.c.cells cq rfl (by simp[Cfg.cells,Value.oneCell']);have G:=Aa (aD.new w y.c.cells 46);have c5:κ (w.alloc (.cells y.c.cells.toArray 46)) w.heap.size 5 (ι y.c.aB):=G.o.cell rfl;have c9:κ (w.alloc (.cells y.c.cells.toArray 46)) w.heap.size 9 (ι y.c.aM):=G.o.cell rfl;have dr:y.c.aB/y.c.aM=Ag y.c:=rfl;have co:IntKind.i64.wrap (m-y.c.aB)=m-y.c.aB:=by rw[il];omega
 have cp:IntKind.i64.wrap (m-y.c.aB+1)=m-y.c.aB+1:=by rw[il];omega
 clear h Y;go_enter func56,ntmps56;go_wp2_with fail
 obtain⟨b9,ca⟩:=Zv y.c m ax;have N:=Aa (show(m-y.c.aB+1)/Ag y.c*Ag y.c=Ff y.c m from rfl);refine(Vo (m-y.c.aB+1) (Ag y.c) _ (by omega) (by omega) ax cc).mono ?_;rintro a db ⟨rfl,bg⟩;rw[bg];clear bg db;obtain⟨V,I⟩:∃V,(m-y.c.aB+1)/Ag y.c=V:=⟨_,rfl⟩;rw[I]at N ⊢;obtain⟨k,X⟩:∃k,Ff y.c m=k:=⟨_,rfl⟩;have br:=Aa X;rw[X]at N b9 ca P;have dj:IntKind.i64.wrap (V*Ag y.c)=k:=by rw[N.o,il];omega
 have dk:IntKind.i64.wrap (k-1)=k-1:=by rw[il];omega
 clear I X co cp c5 c9 cn b2 b3;have O:=Aa ((aA.refl (λ_=>False) w).alloc (.cells y.c.cells.toArray 46));have ap:=Aa (ao.o.still O.o);generalize w.alloc (.cells y.c.cells.toArray 46)=au at *
 go_wp2_with fail
 refine(LE b y (k-1) m au ap.o cj).mono ?_;rintro a b0 ⟨bl,rfl,W,aa⟩;have bs:=Aa W;have dq:(Bv y.items (k-1) m).length<=651562446090:=by have:=Kf y.items (k-1) m;omega
 have al:=Aa (O.o.then aa);have H:=Aa (G.o.keeps aa id);have bp:=Aa (show ∀q,q∈Bv y.items (k-1) m->0<=q.k/\q.k<=2147483648 from P.o);have bx:=Aa u;have bv:=Aa a1;have d8:=u.w0;have d9:=u.w1;generalize ay:Bv y.items (k-1) m=d at *
 have bt:=Aa ay;generalize a3:y.c=c at *
 have bq:=Aa a3;clear a3;obtain⟨ct,cu,b8⟩:=BI W;generalize bd:d.length=x at *
 have z:=Aa bd;subst b8;obtain⟨o,a2⟩:∃o,w.heap.size=o:=⟨_,rfl⟩;rw[a2]at H ⊢;clear W aa P ao ap bd ay O G a2 u a1;go_wp2_with fail
 go_loopw [11,12] (λbl ae wr=>∃a:Nat,a<=j/\ae=ι a/\bl=ι (Dl c d key a)/\Hid (lX b0 wr)) (λ_ ae _=>j-(intOf ae).toNat)
 case atStart=>exact⟨0,by omega,rfl,by show _=Value.int .i64 (d.length:Int);rw[z.o],aA.refl _ _⟩
 case round =>
  obtain⟨a,ds,rfl,rfl,r⟩:=hrel;generalize wr=n at *
  have c7:κ n o 7 (ι j):=by rw[<-a0];exact r.o.cell (H.o.cell rfl) id
  have bb:=P0 c d key a;rw[z.o]at bb;obtain⟨dz,d0⟩:=bb;by_cases dw:a<j
  ·obtain⟨af,ag⟩:=VV (H.o.keeps r.o id) a (by omega);have c8:κ n o 8 (ι c.width):=r.o.cell (H.o.cell rfl) id;obtain⟨cw,cx,cy,da⟩:=bx.o.sd a (by rw[a0];omega);have ai:=Aa (show ∀(i:Int) (F:World),0<=i->i<=2147483648->Calls prog 82 #[ι (De c a),ι (Df c a),ι i] F λU l=>U=.returned (ι (AG (De c a) (Df c a) i))/\l=F from λi F dc de=>PQ _ _ _ F cw cx cy da dc de);have bu:=Aa (show ∀i,AG (De c a) (Df c a) i%c.width=AA c i a from λi=>rfl);have aj:=Aa (λi=>GO (De c a) (Df c a) i);have am:=Aa (show Dl c d key (a+1)=if (DV c d key a:Int)<Dl c d key a then(DV c d key a:Int) else Dl c d key a from rfl);have a7:=aj.o key;obtain⟨C,a9⟩:∃C,AG (De c a) (Df c a) key=C:=⟨_,rfl⟩;have ak:=Aa (ai.o key);rw[a9]at ak a7;obtain⟨dl,dm⟩:=a7;obtain⟨L,bh⟩:∃L,AA c key a=L:=⟨_,rfl⟩;have t:C%c.width=L:=by rw[<-bh,<-a9];rfl
   have dt:(0:Int)<=(a:Int):=by omega
   have dx:(a:Int)<(j:Int):=by omega
   have du:(a:Int)<3:=by omega
   have aq:=Aa af;have ar:=Aa ag;have ah:=Aa c8;generalize De c a=bm at *
   generalize Df c a=bn at *
   generalize ab:Dl c d key a=v at *
   go_wp2_with fail
   go_quiet (first | (go_at_call 82;refine jA (ak.o _ cr cs)))
   have R:=Aa (r.o.then (aA.drewN (λ_=>False) n nq));have bz:=Aa (show ∀l,lX (n.drewN nq) l->κ l o (14+a*2) (ι bm)/\κ l o (14+a*2+1) (ι bn)/\κ l o 8 (ι c.width) from λl Z=>⟨((aA.drewN (λ_=>False) n nq).then Z).cell aq.o id,((aA.drewN (λ_=>False) n nq).then Z).cell ar.o id,((aA.drewN (λ_=>False) n nq).then Z).cell ah.o id⟩);clear af ag c8 c7 aq ar ah;have an:=Aa t;clear t;generalize n.drewN nq=b1 at *
   go_wp2_with fail
   go_loopw [13,15] (λcv ad wr=>∃e:Nat,e<=x/\ad=ι e/\cv=ι (DV c (d.take e) key a)/\Hid (lX b1 wr)) (λ_ ad _=>x-(intOf ad).toNat)
   case atStart=>exact⟨0,by omega,rfl,rfl,aA.refl _ _⟩
   case round =>
    obtain⟨e,Y,rfl,rfl,s⟩:=hrel;have a4:=Nf c (d.take e) key a;rw[iG]at a4;by_cases ci:e<x
    ·have D:e<d.length:=by rw[z.o];exact ci
     have az:FZ wr au.heap.size (.slice ct x cu) d:=An bs.o (R.o.then s.o) (λ_ _ h=>h);obtain⟨dy,d1,b4,_,ba,a5⟩:=DZ az;injection b4 with b5 b7 b6;clear b7;subst b5 b6;obtain⟨cb,a6⟩:=ba (by rw[z.o];omega);have df:=(a5 cb a6).1 (e*5+1) _ (by rw[C8 _ _ _ D (by omega)];rfl);subst a6;obtain⟨bj,bk⟩:=bp.o (Aj d e) (by rw[Cv _ _ D];exact jk D);have A:=Aa (Xn c d key a e D);obtain⟨af,ag,c8⟩:=bz.o wr s.o;generalize(Aj d e).k=E at *
     generalize DV c (d.take e) key a=T at *
     have a8:=aj.o E;obtain⟨B,aw⟩:∃B,AG bm bn E=B:=⟨_,rfl⟩;have Q:=Aa (ai.o E);rw[aw]at Q a8;obtain⟨dg,dh⟩:=a8;obtain⟨J,be⟩:∃J,AA c E a=J:=⟨_,rfl⟩;have bc:B%c.width=J:=by rw[<-be,<-aw];exact bu.o E
     rw[be,bh]at A;have dn:(0:Int)<=(e:Int):=by omega
     have dp:(e:Int)<(x:Int):=by omega
     clear az a5 ba D;cases hb:(J==L)
     ·rw[hb]at A;have t:=an.o;have cd:(B%c.width==C%c.width)=false:=by rw[bc,t];exact hb
      go_wp2_with fail
      go_quiet (first | (go_at_call 82;refine jA (Q.o _ bj bk)))
      go_wp2;go_roundw;case rel=>exact⟨e+1,by omega,by go_num,by rw[A.o];simp,Aa (s.o.then (aA.drewN _ _ _))⟩
      case measure=>simp[intOf];omega
     rw[hb,ij rfl]at A;have t:=an.o;have cd:(B%c.width==C%c.width)=true:=by rw[bc,t];exact hb
     go_wp2_with fail
     go_quiet (first | (go_at_call 82;refine jA (Q.o _ bj bk)))
     go_wp2;go_roundw;case rel=>exact⟨e+1,by omega,by go_num,by rw[A.o];go_num,Aa (s.o.then (aA.drewN _ _ _))⟩
     case measure=>simp[intOf];omega
    have ch:e=x:=by omega
    subst ch;have I:d.take e=d:=iw (by rw[z.o];exact ir _);rw[I]at a4 ⊢;have cf:decide ((e:Int)<(e:Int))=false:=by simp
    generalize DV c d key a=T at *
    cases hd:decide ((T:Int)<v)
    ·have S:=Aa (show Dl c d key (a+1)=v by rw[am.o,ig (by simpa using hd)]);go_wp2_with fail
     go_roundw;case rel=>exact⟨a+1,by omega,by go_num,by rw[S.o],Aa (R.o.then s.o)⟩
     case measure=>simp[intOf];omega
    have S:=Aa (show Dl c d key (a+1)=(T:Int) by rw[am.o,ij (by simpa using hd)]);go_wp2_with fail
    go_roundw;case rel=>exact⟨a+1,by omega,by go_num,by rw[S.o],Aa (R.o.then s.o)⟩
    case measure=>simp[intOf];omega
  have cl:a=j:=by omega
  subst cl;have cf:decide ((a:Int)<(a:Int))=false:=by simp
  obtain⟨v,ab⟩:∃v,Dl c d key a=v:=⟨_,rfl⟩;rw[ab];have bo:=Aa (aD.new n [ι v] 3);go_wp2;go_ret;refine⟨_,rfl,?_,?_,?_⟩
  ·have:=al.o.size;have:=r.o.size;omega
  ·rw[bq.o,br.o,bt.o,bv.o,ab];exact bo.o
  exact(al.o.then r.o).alloc _
end
section
theorem zKi(a c:Int): a/2147483648*c+a%2147483648*c/2147483648=a*c/2147483648:=by
 have e:=j3 a 2147483648;have d:a*c=a%2147483648*c+2147483648*(a/2147483648*c):=by
  conv=>lhs;rw[<-e]
  rw[Int.add_mul,Int.mul_assoc]
 rw[d,Int.add_mul_ediv_left _ _ (by omega)];omega
theorem ZC(a c:Int): a%2147483648*c%2147483648=a*c%2147483648:=by
 have e:=j3 a 2147483648;have d:a*c=a%2147483648*c+2147483648*(a/2147483648*c):=by
  conv=>lhs;rw[<-e]
  rw[Int.add_mul,Int.mul_assoc]
 rw[d,Int.add_mul_emod_self_left]
def EB(p:Int): List Value:=[ι (p/2147483648),ι (p%2147483648)]
theorem Ph(a d:Int)(w:World)(D:0<=a)(E:a<=2305843009213693952)(h:0<=d)(l:d<=2147483648):
  Calls prog 130 #[ι a,ι d] w λs C=>s=.returned (.agg (EB (a*d)).toArray)/\lX w C:=by
 have x:0<=a%2147483648*d:=kL (by omega) h;have z:a%2147483648*d<=2147483648*2147483648:=kT (by omega) l h (by omega);have t:0<=a/2147483648*d:=kL (by omega) h;have u:a/2147483648*d<=1073741824*2147483648:=kT (by omega) l h (by omega);have o:=zKi a d;have q:=ZC a d;have i:=Aa o;have k:=Aa q;clear o q;obtain⟨c,n⟩:∃c,a%2147483648*d=c:=⟨_,rfl⟩;obtain⟨e,m⟩:∃e,a/2147483648*d=e:=⟨_,rfl⟩;rw[n]at x z i k;rw[m]at t u i;have F:IntKind.i64.wrap (a%2147483648*d)=c:=by rw[n,il];omega
 have G:IntKind.i64.wrap (a/2147483648*d)=e:=by rw[m,il];omega
 have H:IntKind.i64.wrap (e+c/2147483648)=e+c/2147483648:=by rw[il];omega
 have r:=Aa (show lX w (w.alloc (.cells #[ι (e+c/2147483648),ι (c%2147483648)] 181)) from(aA.refl _ _).alloc _);go_enter func130,ntmps130;go_wp2;have j:=Aa (aD.new w [ι (e+c/2147483648),ι (c%2147483648)] 181);have A:κ (w.alloc (.cells #[ι (e+c/2147483648),ι (c%2147483648)] 181)) w.heap.size 0 (ι (e+c/2147483648)):=j.o.cell rfl;have B:κ (w.alloc (.cells #[ι (e+c/2147483648),ι (c%2147483648)] 181)) w.heap.size 1 (ι (c%2147483648)):=j.o.cell rfl;refine iV (v:=.agg #[ι (e+c/2147483648),ι (c%2147483648)]) (by simp[results,results130,go_sem,A,B]) rfl ?_;refine⟨?_,r.o⟩;unfold EB;rw[<-i.o,<-k.o]
theorem VK(p a:Int)(w:World):
  Calls prog 131 #[.agg (EB p).toArray,.agg (EB a).toArray] w λj k=>j=.returned (.bool (decide (a<p)))/\lX w k:=by
 unfold EB
 have d:=Aa (show decide (a<p)=(decide (a/2147483648<p/2147483648)||((p/2147483648==a/2147483648)&&decide (a%2147483648<p%2147483648))) by
    rw[lH];simp only[Bool.or_eq_true,iQ,iP,beq_iff_eq]
    omega)
 generalize p/2147483648=e at *
 generalize p%2147483648=b at *
 generalize a/2147483648=h at *
 generalize a%2147483648=i at *
 have c:=Aa (show lX w ((w.alloc (.cells #[ι e,ι b] 181)).alloc (.cells #[ι h,ι i] 181)) from((aA.refl _ _).alloc _).alloc _);cases h1:decide (h<e)
 ·cases h2:(e==h)
  ·go_enter func131,ntmps131;go_wp2;go_ret;exact⟨by rw[d.o,h1,h2];rfl,c.o⟩
  cases h3:decide (i<b);all_goals
   go_enter func131,ntmps131;go_wp2;go_ret;exact⟨by rw[d.o,h1,h2,h3];rfl,c.o⟩
 go_enter func131,ntmps131;go_wp2;go_ret;exact⟨by rw[d.o,h1];rfl,c.o⟩
