import Derived.Test.YtnokbhcennjanaaGreatDoorXBF
import Derived.Laws.OwnMore
open Go.RowKit Go.Proofs.Tryz
set_option maxRecDepth 100000
set_option maxHeartbeats 16000000
namespace Go.Proofs.YtnokbhcennjanaaGreatDoor
section
def E1(l:List Bk)(t:Int): Nat->Int
 | 0=>0
 | i+1=>E1 l t i+(if t<(Ad l i).t then(Ad l i).sz else 0)
def El(l:List Bk)(t:Int): Nat->Int
 | 0=>0
 | i+1=>if t<(Ad l i).t then(Ad l i).sz/2 else El l t i
theorem Yx(c:List Bk)(t:Int)(i:Nat)(a:i<pastN c t): (Ad c i).t<=t:=by
 induction c generalizing i with
 | nil=>simp[pastN]at a
 | cons b c e =>
  unfold pastN at a;rw[jB]at a;split at a
  ·rename_i d;cases i with
   | zero=>simpa[Ad] using d
   | succ i=>exact e i (by unfold pastN;simpa using a)
  simp at a
theorem YH(a:List Bk)(t:Int)(d:pastN a t<a.length): t<(Ad a (pastN a t)).t:=by
 induction a with
 | nil=>simp at d
 | cons b a h =>
  by_cases e:b.t<=t
  ·have c:pastN (b::a) t=pastN a t+1:=by unfold pastN;rw[jB,h9 (by simpa using e)];rfl
   rw[c]at d ⊢;exact h (by simpa using d)
  have c:pastN (b::a) t=0:=by unfold pastN;rw[jB,hZ (by simpa using e)];rfl
  rw[c];show t<b.t;omega
theorem zMo(a:List Bk)(t:Int)(i:TS a): E1 a.reverse t a.length-El a.reverse t a.length=Fb a t:=by
 have D:=pastN_le a t;have r:=Yx a t;have o:=YH a t;have z:∀c,c<=a.length->E1 a.reverse t c=An (a.drop (a.length-min c (a.length-pastN a t)))/\El a.reverse t c=(if min c (a.length-pastN a t)=0 then 0 else(Ad a (a.length-min c (a.length-pastN a t))).sz/2):=by
  intro c;induction c with
  | zero=>intro _;simp[E1,El,An]
  | succ c v =>
   intro C;obtain⟨s,u⟩:=v (by omega);have m:=G7 a c (by omega);have k:(t<(Ad a.reverse c).t)↔c<a.length-pastN a t:=by
    rw[m];constructor
    ·intro E;rcases ku c (a.length-pastN a t) with j | j
     ·exact j
     have:=r (a.length-1-c) (by omega);omega
    intro j;have A:=o (by omega);have B:=i (pastN a t) (a.length-1-c) (by omega) (by omega);omega
   unfold E1 El;rw[s,u];by_cases d:t<(Ad a.reverse c).t
   ·have q:=k.1 d;rw[h9 d,h9 d];have e:min (c+1) (a.length-pastN a t)=c+1:=by omega
    have h:min c (a.length-pastN a t)=c:=by omega
    rw[e,h,hZ (by omega),m];have n:a.length-1-c=a.length-(c+1):=by omega
    rw[n];refine⟨?_,rfl⟩;rw[Gb a (a.length-(c+1)) (by omega),show a.length-(c+1)+1=a.length-c by omega];simp only[An];omega
   have q:¬c<a.length-pastN a t:=λi=>d (k.2 i);rw[hZ d,hZ d];have e:min (c+1) (a.length-pastN a t)=min c (a.length-pastN a t):=by omega
   rw[e];exact⟨by omega,rfl⟩
 obtain⟨w,x⟩:=z a.length (il _);rw[w,x];unfold Fb;have e:min a.length (a.length-pastN a t)=a.length-pastN a t:=by omega
 have h:a.length-(a.length-pastN a t)=pastN a t:=by omega
 rw[e,h];by_cases l:pastN a t=a.length
 ·rw[h9 l,h9 (by omega)]
 rw[hZ l,hZ (by omega)]
theorem zM7(c:List Bk)(t:Int)(e:∀b∈c,1<=b.sz): ∀a,a<=c.length->0<=E1 c.reverse t a/\E1 c.reverse t a<=An (c.drop (c.length-a)):=by
 intro a;induction a with
 | zero=>intro _;simp[E1,An]
 | succ a j =>
  intro m;obtain⟨n,o⟩:=j (by omega);have h:=G7 c a (by omega);have k:=e _ (EN (l:=c) (i:=c.length-1-a) (by omega));have d:=Gb c (c.length-(a+1)) (by omega);rw[show c.length-(a+1)+1=c.length-a by omega]at d;unfold E1;rw[h,d,show c.length-(a+1)=c.length-1-a by omega];simp only[An];split <;> omega
theorem Yy(c:List Bk)(t:Int)(d:∀b∈c,1<=b.sz): ∀a,a<=c.length->0<=El c.reverse t a/\El c.reverse t a<=An c:=by
 intro a;induction a with
 | zero=>intro _;exact⟨by simp[El],by simp only[El];exact Ee d⟩
 | succ a j =>
  intro n;obtain⟨o,q⟩:=j (by omega);have h:=G7 c a (by omega);have e:=EN (l:=c) (i:=c.length-1-a) (by omega);have k:=d _ e;have m:=JX d e;unfold El;rw[h];split <;> omega
theorem SA(b:RB)(y:aG)(a m:Int)(w:World)(I:bN w b y)(x:fA y.c)(P:fT y.c y.events)(Q:TS (A3 y.c y.events))(af:y.events.length<=4398046511103)(ak:1<=a)(al:a<=1000)(a1:-100<=m)(a2:m<=4611686018427387904):
  Calls prog 54 #[.pointer (some ⟨b.s,0,none⟩),.int .i64 a,.int .i64 m] w λH S=>∃g,H=.returned (.slice (some ⟨g,0,none⟩) 1 1)/\w.heap.size<=g/\aD S g [.int .i64 (Fb (A3 y.c y.events) (m-a))] 3/\lO w S:=by
 have h:=JF x y.events;have C:=Aa (N7 b y w I x P af);have V:=Aa (zMo _ (m-a) Q);have hlen:=IK h.one;have av:=h.sum;have u:=Aa (zM7 _ (m-a) h.one);have W:=Aa (Yy _ (m-a) h.one);have D:=Aa (λe=>(LV h e).sum)
 have X:=Aa (show ∀e,e<(A3 y.c y.events).length->1<=(Ad (A3 y.c y.events).reverse e).sz/\(Ad (A3 y.c y.events).reverse e).sz<=4398046511104 from λe ad=>by
    rw[G7 _ _ ad];have N:=EN (l:=A3 y.c y.events) (i:=(A3 y.c y.events).length-1-e) (by omega);have J:=h.one _ N;have am:=JX h.one N
    omega)
 generalize A3 y.c y.events=d at *
 generalize O:d.length=j at *
 have G:=Aa O;have aq:j<=4398046511104:=by omega
 clear I x P Q h O;go_enter func54,ntmps54;go_wp2_with fail
 refine C.o.mono ?_;rintro H T ⟨a4,rfl,v,M⟩;obtain⟨az,a0,R⟩:=QD v;rw[jF,G.o]at R;subst R;have B:=Aa v;have F:=Aa M;have ax:IntKind.i64.wrap (m-a)=m-a:=by rw[ic];omega
 clear v M C;go_wp2_with fail
 go_loop [8,9,10] (λaj aa e=>∃c:Nat,e=.int .i64 c/\c<=j/\aj=.int .i64 (E1 d.reverse (m-a) c)/\aa=.int .i64 (El d.reverse (m-a) c)) (λ_ _ e=>j-(intOf e).toNat)
 case atStart=>exact⟨0,rfl,iM _,rfl,rfl⟩
 case round =>
  obtain⟨c,rfl,an,rfl,rfl⟩:=hrel;by_cases L:c<j
  ·obtain⟨g,a3,rfl,_,Y,ag,_⟩:=Jz B.o (by omega);have Z:=Km (by rw[jF];exact G.o) B.o c L;obtain⟨a5,a6⟩:=Z;have q:=u.o (c+1) (by omega);have r:=u.o c (by omega);have s:=D.o (j-(c+1));have t:=Aa (show E1 d.reverse (m-a) (c+1)=E1 d.reverse (m-a) c+(if m-a<(Ad d.reverse c).t then(Ad d.reverse c).sz else 0) from rfl);have E:=Aa (show El d.reverse (m-a) (c+1)=if m-a<(Ad d.reverse c).t then(Ad d.reverse c).sz/2 else El d.reverse (m-a) c from rfl);obtain⟨a7,a8⟩:=X.o c L;have ao:(0:Int)<=(c:Int):=by omega
   have ap:(c:Int)<(j:Int):=by omega
   generalize ai:E1 d.reverse (m-a) c=k at *
   generalize ab:El d.reverse (m-a) c=z at *
   generalize Ad d.reverse c=o at *
   clear ai ab Y ag;by_cases A:m-a<o.t
   ·have ah:k+o.sz<=4398046511104/\0<=k+o.sz:=by
     have J:=t.o;rw[h9 A]at J;omega
    obtain⟨ar,au⟩:=ah;have ay:IntKind.i64.wrap (k+o.sz)=k+o.sz:=by rw[ic];omega
    have n:=Aa A;clear q r s;go_wp2;go_round;case rel=>exact⟨c+1,by go_num,by omega,by rw[t.o,h9 n.o],by rw[E.o,h9 n.o]⟩
    case measure=>simp[intOf];omega
   have n:=Aa A;clear q r s;go_wp2;go_round;case rel=>exact⟨c+1,by go_num,by omega,by rw[t.o,hZ (by have:=n.o;omega),kO],by rw[E.o,hZ (by have:=n.o;omega)]⟩
   case measure=>simp[intOf];omega
  have ae:c=j:=by omega
  subst ae;have q:=u.o c (il _);have r:=W.o c (il _);have s:=D.o (c-c);have U:=Aa V.o;generalize E1 d.reverse (m-a) c=k at *
  generalize El d.reverse (m-a) c=z at *
  have aw:IntKind.i64.wrap (k-z)=k-z:=by rw[ic];omega
  clear q r s;go_wp2;go_ret;refine⟨T.heap.size,rfl,F.o.size,?_,F.o.alloc _⟩;rw[<-U.o];exact aD.new T [_] 3
theorem WG{a b:List Int}(e:a.Perm b)(j:a.Pairwise (·<=·))(k:b.Pairwise (·<=·)): a=b:=by
 induction a generalizing b with
 | nil=>exact(List.nil_perm.1 e).symm
 | cons c a l =>
  cases b with
  | nil=>exact absurd e.length_eq (by simp)
  | cons y b =>
   have h:=ji.1 j;have i:=ji.1 k;have m:c<=y:=by
    have:y∈c::a:=e.mem_iff.2 (by simp);rcases iw.1 this with d | d
    ·omega
    exact h.1 y d
   have n:y<=c:=by
    have:c∈y::b:=e.mem_iff.1 (by simp);rcases iw.1 this with d | d
    ·omega
    exact i.1 c d
   obtain rfl:c=y:=by omega
   rw[l ((List.perm_cons c).1 e) h.2 i.2]
def FJ: Nat->aI->Int->List Int
 | 0,_,_=>[]
 | f+1,x,m=>if x.l.isEmpty then[] else if m<(itAt x.l 0).t then[] else(itAt x.l 0).t::FJ f (BP x m) m
theorem Nu(m:Int)(f:Nat): ∀a:aI,a.l.length<f->bE a.l ->
  (a.l.map (·.t)).Perm (FJ f a m++(relS f a m).l.map (·.t))/\(∀c,c∈FJ f a m->c<=m)/\(∀c,c∈(relS f a m).l.map (·.t)->m<c)/\(FJ f a m).Pairwise (·<=·) /\
   (a.k=1->(relS f a m).nt.bs=(FJ f a m).foldl (λA c=>C1 a.c A c m) a.nt.bs):=by
 induction f with
 | zero=>intro a j;omega
 | succ f z =>
  intro a D h;unfold relS FJ;split
  ·rename_i e;have x:a.l=[]:=kN.1 e;exact⟨jb _,by simp,by simp[x],List.Pairwise.nil,λ_=>rfl⟩
  rename_i e;have n:a.l≠[]:=λj=>e (by rw[j];rfl);split
  ·rename_i w;refine⟨jb _,by simp,?_,List.Pairwise.nil,λ_=>rfl⟩;intro c d;obtain⟨y,i,rfl⟩:=iE.1 d;have:=h.cD i;omega
  rename_i w;obtain⟨B,C⟩:=take_heap a.l h n;have hlen:(BP a m).l.length=a.l.length-1:=takeL_length _;have E:0<a.l.length:=jG.2 n;obtain⟨k,q,r,s,t⟩:=z (BP a m) (by omega) B;have o:(a.l.map (·.t)).Perm ((itAt a.l 0).t::(BP a m).l.map (·.t)):=by
   have:=(C.map (·.t)).symm;rw[iC]at this;exact this
  refine⟨?_,?_,r,?_,?_⟩
  ·refine o.trans ?_;rw[List.cons_append];exact List.Perm.cons _ k
  ·intro c d;rcases iw.1 d with d | d
   ·omega
   exact q c d
  ·refine ji.2 ⟨λc d=>?_,s⟩;have u:c∈(BP a m).l.map (·.t):=k.mem_iff.2 (ig.2 (.inl d));have v:c∈a.l.map (·.t):=o.mem_iff.2 (iw.2 (.inr u));obtain⟨y,i,rfl⟩:=iE.1 v;exact h.cD i
  intro l;rw[t l,jT];congr 1;show(B9 a.k a.c a.nt (itAt a.l 0) m).bs=_;unfold B9;rw[hZ (by omega),h9 l]
theorem Xj(all:List bA)(mark:Int)(l:List bA): ∀(i:Nat) (k:Int),l=all.drop i->(k=-1\/JA all mark k) ->
  (∀a,a<i->a<all.length->(Aj all a).tick=0->(Aj all a).t<=mark->0<=k/\(Aj all k.toNat).t<=(Aj all a).t) ->
  ∀a,a<all.length->(Aj all a).tick=0->(Aj all a).t<=mark->0<=Ey all mark l i k/\(Aj all (Ey all mark l i k).toNat).t<=(Aj all a).t:=by
 induction l with
 | nil =>
  intro i k d _ n a q;have hlen:all.length<=i:=by
   have:=congrArg List.length d;simp at this;omega
  unfold Ey;exact n a (by omega) q
 | cons m A v =>
  intro i k d x n;have o:i<all.length:=by
   have:=congrArg List.length d;simp at this;omega
  rw[List.drop_eq_getElem_cons o]at d;injection d with z u;have j:Aj all i=m:=by rw[Cq _ _ o,z]
  unfold Ey;by_cases c:m.tick=0/\m.t<=mark/\(k<0\/m.t<(Aj all k.toNat).t)
  ·rw[h9 c];refine v (i+1) i u (.inr ⟨by omega,by simpa using o,by rw[iH,j];exact c.1,by rw[iH,j];exact c.2.1⟩) ?_;intro a q s h e;rw[iH,j];refine⟨by omega,?_⟩;by_cases r:a=i
   ·rw[r,j];exact iG _
   have:=n a (by omega) s h e;rcases c.2.2 with t | t
   ·omega
   omega
  rw[hZ c];refine v (i+1) k u x ?_;intro a q s h e;by_cases r:a=i
  ·rw[r,j]at h e ⊢;have t:¬(k<0\/m.t<(Aj all k.toNat).t):=λw=>c ⟨h,e,w⟩;omega
  exact n a (by omega) s h e
theorem X7(all:List bA)(mark:Int)(j:Nat)(a:j<all.length)(d:(Aj all j).tick=0)(c:(Aj all j).t<=mark): (Aj all (Cx all mark).toNat).t<=(Aj all j).t :=
 (Xj all mark all 0 (-1) rfl (.inl rfl) (λ_ e=>by omega) j a d c).2
def EL: Nat->aG->Int->Int->List Int
 | 0,_,_,_=>[]
 | f+1,y,mark,aC=>if Cx y.items mark<0 then[]
  else(Aj y.items (Cx y.items mark).toNat).t::EL f { y with items:=AZ y.items (Cx y.items mark).toNat aC,events:=y.events++[⟨(Aj y.items (Cx y.items mark).toNat).t,mark,false,0⟩] } mark aC
theorem OS{l:List bA}{t:Int}(d:t∈Ap l): ∃a,a<l.length/\(Aj l a).tick=0/\(Aj l a).t=t:=by
 unfold Ap at d;obtain⟨j,e,rfl⟩:=iE.1 d;obtain⟨h,i⟩:=j7.1 e;obtain⟨a,c,rfl⟩:=jR.1 h;exact⟨a,c,by rw[Cq _ _ c];simpa using i,by rw[Cq _ _ c]⟩
theorem WR{l:List bA}{j:Nat}{aC:Int}(n:aC≠0)(i:j<l.length)(h:(Aj l j).tick=0): (Ap l).Perm ((Aj l j).t::Ap (AZ l j aC)):=by
 induction l generalizing j with
 | nil=>simp at i
 | cons a l o =>
  cases j with
  | zero =>
   have d:a.tick=0:=h;have c:Ap (a::l)=a.t::Ap l:=by unfold Ap;rw[iR];simp[d]
   have e:Ap (AZ (a::l) 0 aC)=Ap l:=by
    show Ap ({ a with tick:=aC }::l)=_;unfold Ap;rw[iR];simp[n]
   rw[c,e];exact jb _
  | succ j =>
   have m:Aj (a::l) (j+1)=Aj l j:=rfl;have k:=o (j:=j) (by simpa using i) h;have e:AZ (a::l) (j+1) aC=a::AZ l j aC:=rfl;rw[e,m];by_cases d:a.tick=0
   ·have c:∀l,Ap (a::l)=a.t::Ap l:=λl=>by unfold Ap;rw[iR];simp[d]
    rw[c,c];exact(List.Perm.cons _ k).trans (List.Perm.swap _ _ _)
   have c:∀l,Ap (a::l)=Ap l:=λl=>by unfold Ap;rw[iR];simp[d]
   rw[c,c];exact k
theorem Le(mark aC:Int)(m:aC≠0)(f:Nat): ∀y:aG,(Ap y.items).length<f ->
  (Ap y.items).Perm (EL f y mark aC++Ap (BS f y mark aC).items)/\(∀a,a∈EL f y mark aC->a<=mark)/\(∀a,a∈Ap (BS f y mark aC).items->mark<a)/\(EL f y mark aC).Pairwise (·<=·) /\
   (BS f y mark aC).events=y.events++(EL f y mark aC).map (λa=>⟨a,mark,false,0⟩):=by
 induction f with
 | zero=>intro y r;omega
 | succ f B =>
  intro y D;unfold BS EL;rcases Hv y.items mark with ⟨r,v⟩ | ⟨C,j,k,s⟩
  ·rw[h9 (by omega),h9 (by omega)];refine⟨jb _,by simp,?_,List.Pairwise.nil,by simp⟩;intro a c;obtain⟨q,e,h,rfl⟩:=OS c;exact v _ (by rw[Cq _ _ e];exact jc _) h
  rw[hZ (by omega),hZ (by omega)];have E:=If aC m y.items _ j k;have w:=X7 y.items mark;have l:=WR m j k;generalize(Cx y.items mark).toNat=i at *
  obtain⟨n,o,x,z,A⟩:=B { y with items:=AZ y.items i aC,events:=y.events++[⟨(Aj y.items i).t,mark,false,0⟩] } (by show(Ap (AZ _ _ _)).length<f;omega);refine⟨?_,?_,x,?_,?_⟩
  ·refine l.trans ?_;rw[List.cons_append];exact List.Perm.cons _ n
  ·intro a c;rcases iw.1 c with d | d
   ·rw[d];exact s
   exact o a d
  ·refine ji.2 ⟨λa c=>?_,z⟩;have t:a∈Ap (AZ y.items i aC):=n.mem_iff.2 (ig.2 (.inl c));have u:a∈Ap y.items:=l.mem_iff.2 (iw.2 (.inr t));obtain⟨q,e,h,rfl⟩:=OS u;exact w q e h (o _ c)
  rw[A];simp
theorem UP(m aC:Int)(c:aC≠0)(x:aI)(y:aG)(q:bE x.l)(s:(x.l.map (·.t)).Perm (Ap y.items)):
  FJ (x.l.length+1) x m=EL (y.items.length+1) y m aC:=by
 obtain⟨e,h,i,j,_⟩:=Nu m (x.l.length+1) x (by omega) q;obtain⟨k,l,n,o,_⟩:=Le m aC c (y.items.length+1) y (by have:=E6 y.items;omega);refine WG ?_ j o;have r:=e.symm.trans (s.trans k);have d:=r.filter (λa=>decide (a<=m));rw[jj,jj]at d;have c1:(FJ (x.l.length+1) x m).filter (λa=>decide (a<=m))=FJ (x.l.length+1) x m:=j5.2 (λa c=>by simpa using h a c);have c2:((relS (x.l.length+1) x m).l.map (·.t)).filter (λa=>decide (a<=m))=[]:=jL.2 (λa c=>by have:=i a c;simp;omega);have c3:(EL (y.items.length+1) y m aC).filter (λa=>decide (a<=m))=EL (y.items.length+1) y m aC:=j5.2 (λa c=>by simpa using l a c);have c4:(Ap (BS (y.items.length+1) y m aC).items).filter (λa=>decide (a<=m))=[]:=jL.2 (λa c=>by have:=n a c;simp;omega);rw[c1,c2,c3,c4,iz,iz]at d;exact d
theorem Tc(clock aC:Int)(a:aC≠0)(x:aI)(y:aG)(j:x.k=1)(c:x.c=y.c)(d:bE x.l)(k:(x.l.map (·.t)).Perm (Ap y.items))(i:x.nt.bs=A3 y.c y.events):
  (AP clock x).nt.bs=A3 (Bd clock aC y).c (Bd clock aC y).events:=by
 unfold AP Bd;rw[<-c];obtain⟨_,_,_,_,e⟩:=Nu (clock-x.c.aK) (x.l.length+1) x (by omega) d;obtain⟨_,_,_,_,h⟩:=Le (clock-x.c.aK) aC a (y.items.length+1) y (by have:=E6 y.items;omega);obtain⟨_,_,l,_⟩:=Ll (clock-x.c.aK) aC a (y.items.length+1) y (by have:=E6 y.items;omega);rw[e j,h,l,UP (clock-x.c.aK) aC a x y d k,i,<-c];unfold A3;rw[jP,List.foldl_map];rfl
theorem TS.drop{a:List Bk}(c:TS a)(n:Nat): TS (a.drop n):=by
 intro h i e d;rw[Hy,Hy];exact c _ _ (by omega) (by rw[iQ]at d;omega)
theorem TS.snoc{a:List Bk}(j:TS a)(x:Bk)(n:∀b,b∈a->b.t<=x.t): TS (a++[x]):=by
 intro c d l i;by_cases e:d<a.length
 ·rw[G3 _ _ _ e,G3 _ _ _ (by omega)];exact j c d l e
 have m:d-a.length=0:=by simp at i;omega
 rw[Hl _ _ d (by omega),m];show _<=x.t;by_cases h:c<a.length
 ·rw[G3 _ _ _ h];exact n _ (EN h)
 have k:c-a.length=0:=by simp at i;omega
 rw[Hl _ _ c (by omega),k];exact iG _
theorem TS.join{c:List Bk}(e:TS c)(s:Nat)(m:s+2<=c.length)(j:Int): TS (BG c s ⟨j,(Ad c (s+1)).t⟩):=by
 have k:=OE c s ⟨j,(Ad c (s+1)).t⟩ m;have hlen:=Ff (⟨j,(Ad c (s+1)).t⟩:Bk) (l:=c) (i:=s) m;intro a d r t;rw[k,k];by_cases o:d<s
 ·rw[h9 o,h9 (by omega)];exact e a d r (by omega)
 rw[hZ o];by_cases q:d=s
 ·rw[h9 q];by_cases h:a<s
  ·rw[h9 h];exact e a (s+1) (by omega) (by omega)
  rw[hZ h,h9 (by omega)];exact iG _
 rw[hZ q];by_cases h:a<s
 ·rw[h9 h];exact e a (d+1) (by omega) (by omega)
 rw[hZ h];by_cases n:a=s
 ·rw[h9 n];exact e (s+1) (d+1) (by omega) (by omega)
 rw[hZ n];exact e (a+1) (d+1) (by omega) (by omega)
theorem YK{K:Int}(m:0<=K)(T:Int)(f:Nat)(a:List Bk)(c:Int)(e:Nat)(n:e<=a.length)(h:TS a)(d:∀b,b∈a->b.t<=T): TS (joinL K f a c e)/\∀b,b∈joinL K f a c e->b.t<=T:=by
 induction f generalizing a c e with
 | zero=>exact⟨h,d⟩
 | succ f k =>
  unfold joinL;split
  ·exact⟨h,d⟩
  rename_i o;have j:AC a c e+2<=a.length:=by omega
  have hlen:=Ff (⟨2*c,(Ad a (AC a c e+1)).t⟩:Bk) (l:=a) (i:=AC a c e) j;refine k _ _ _ (by omega) (h.join _ j _) ?_;exact JU (P:=λb=>b.t<=T) a _ _ d (by show(Ad a (AC a c e+1)).t<=T;exact d _ (EN (l:=a) (i:=AC a c e+1) (by omega)))
theorem zM2{c:Cfg}(i:0<=c.k){d:List Bk}(h:TS d)(t m:Int)(e:∀b,b∈d->b.t<=t): TS (C1 c d t m)/\∀b,b∈C1 c d t m->b.t<=t:=by
 unfold C1 Cz EE;refine YK i t _ _ _ _ (il _) ((h.drop _).snoc _ (λb a=>e b (iB a))) ?_;intro b a;rcases ig.1 a with a | a
 ·exact e b (iB a)
 rw[ij]at a;rw[a];exact iG _
theorem ZK{c:Cfg}(s:0<=c.k)(m:Int): ∀(R:List Int) (d:List Bk),TS d->(∀b,b∈d->∀a,a∈R->b.t<=a)->(∀b,b∈d->b.t<=m)->R.Pairwise (·<=·)->(∀a,a∈R->a<=m) ->
  TS (R.foldl (λj a=>C1 c j a m) d)/\∀b,b∈R.foldl (λj a=>C1 c j a m) d->b.t<=m:=by
 intro R;induction R with
 | nil=>intro d h _ n _ _;exact⟨h,n⟩
 | cons k R v =>
  intro d h u n t l;obtain⟨w,x⟩:=ji.1 t;obtain⟨z,o⟩:=zM2 s h k m (λb e=>u b e k (by simp));rw[jT];refine v _ z (λb e a i=>?_) (λb e=>?_) x (λa i=>l a (by simp[i]))
  ·have q:=o b e;have r:=w a i;omega
  have q:=o b e;have r:=l k (by simp);omega
theorem Tf(c:Cfg)(d:List dR)(R:List Int)(m:Int): A3 c (d++R.map (λa=>⟨a,m,false,0⟩))=R.foldl (λe a=>C1 c e a m) (A3 c d):=by
 unfold A3;rw[jP,List.foldl_map];rfl
theorem fT.append{c:Cfg}{d:List dR}(j:fT c d){e:dR}(l:e.fC=true->0<=e.throw/\e.throw<=(A3 c d).length)(o:-100<=e.m/\e.m<=4611686018427387904): fT c (d++[e]):=by
 refine⟨λh i a k=>?_,λi a=>?_⟩
 ·by_cases m:h<d.length
  ·rw[iO m]at a;rw[iX (by omega)];exact j.hM h i a k
  rw[iS (by omega)]at a;have n:h=d.length:=by
   have:=(ik.1 a).1;simp at this;omega
  subst n;rw[kf]at a;injection a with a;subst a;rw[iX (by omega),iq (by omega)];exact l k
 rcases ig.1 a with a | a
 ·exact j.mark i a
 rw[ij]at a;rw[a];exact o
theorem fT.many{c:Cfg}(m:Int)(e:-100<=m/\m<=4611686018427387904): ∀(R:List Int) (a:List dR),fT c a->fT c (a++R.map (λj=>⟨j,m,false,0⟩)):=by
 intro R;induction R with
 | nil=>intro a d;simpa using d
 | cons i R h =>
  intro a d;have:=h (a++[⟨i,m,false,0⟩]) (d.append (λd=>by cases d) e);simpa using this
theorem Om(clock aC:Int)(y:aG)(a:aC≠0): (Bd clock aC y).c=y.c:=by
 unfold Bd;exact(Ll _ aC a (y.items.length+1) y (by have:=E6 y.items;omega)).2.2.1
theorem Pm{clock a aC:Int}(l:aC≠0){y:aG}(d:eA clock y)(z:clock<=a)(s:0<=y.c.k)(u:-100<=a-y.c.aK/\a-y.c.aK<=4611686018427387904): eA a (Bd a aC y):=by
 have e:=Om a aC y l;have v:=Le (a-y.c.aK) aC l (y.items.length+1) y (by have:=E6 y.items;omega);obtain⟨m,n,o,q,r⟩:=v;have i:(Bd a aC y).events=y.events++(EL (y.items.length+1) y (a-y.c.aK) aC).map (λc=>⟨c,a-y.c.aK,false,0⟩):=r;have t:∀c,c∈EL (y.items.length+1) y (a-y.c.aK) aC->clock-y.c.aK<c:=λc k=>d.wt c (m.mem_iff.2 (ig.2 (.inl k)));have j:=ZK s (a-y.c.aK) (EL (y.items.length+1) y (a-y.c.aK) aC) (A3 y.c y.events) d.ts (λb h c k=>by have w:=d.le b h;have x:=t c k;omega) (λb h=>by have:=d.le b h;omega) q n;rw[<-Tf]at j;refine⟨?_,?_,?_,?_⟩
 ·rw[e,i];exact fT.many _ u _ _ d.ok
 ·rw[e,i];exact j.1
 ·rw[e,i];exact j.2
 rw[e];exact o
theorem XQ{clock b:Int}{y:aG}(a:eA clock y)(i:0<=b): eA clock (F5 clock b y):=by
 have j:=pastN_le (A3 y.c y.events) (clock-y.c.aK-y.c.aB);have c:A3 y.c (y.events++[⟨0,0,true,min (BY clock y) b⟩])=(A3 y.c y.events).drop (min (BY clock y) b).toNat:=by
  unfold A3;rw[jP];rfl
 refine⟨?_,?_,?_,a.wt⟩
 ·exact a.ok.append (λ_=>by show 0<=min (BY clock y) b/\min (BY clock y) b<=_;unfold BY;omega) (by show(-100:Int)<=0/\(0:Int)<=_;omega)
 ·show TS (A3 y.c (y.events++_));rw[c];exact a.ts.drop _
 intro e h;have d:e∈A3 y.c (y.events++[⟨0,0,true,min (BY clock y) b⟩]):=h;rw[c]at d;exact a.le e (iB d)
theorem UZ{clock:Int}{y:aG}(c:eA clock y)(o:aO)(d:clock-y.c.aK<o.a): eA clock (EY y o):=by
 refine⟨c.ok,c.ts,c.le,λe a=>?_⟩;have:Ap (EY y o).items=Ap y.items++[o.a]:=by
  show Ap (y.items++[_])=_;unfold Ap;rw[jj,iy];rfl
 rw[this]at a;rcases ig.1 a with a | a
 ·exact c.wt e a
 rw[ij]at a;rw[a];exact d
theorem YD(clock id:Int)(c:Cfg): eA clock (CH id c) :=
 ⟨⟨λj d a=>by simp[CH]at a,λd a=>by simp[CH]at a⟩,λj k _ h=>by simp[CH,A3]at h,λb e=>by simp[CH,A3]at e,λl i=>by simp[CH,Ap]at i⟩
theorem hash_step(a K c d P:Int)(h:K=2*(K/2)+d): ((a+a)%P*(K/2)+(c+d*a)%P)%P=(a*K+c)%P:=by
 obtain⟨e,l⟩:∃e,K/2=e:=⟨_,rfl⟩;rw[l]at h ⊢;subst h;have m:=jX (a+a) P;have n:=jX (c+d*a) P;have k:(a+a)%P*e+(c+d*a)%P=a*(2*e+d)+c+P*(-((a+a)/P*e)-(c+d*a)/P):=by
  have i:(a+a)%P=(a+a)-P*((a+a)/P):=by omega
  have j:(c+d*a)%P=(c+d*a)-P*((c+d*a)/P):=by omega
  rw[i,j]
  grind
 rw[k,Int.add_mul_emod_self_left]
theorem Pu(a b key:Int)(w:World)(o:0<=a)(q:a<2305843009213693951)(r:0<=b)(s:b<2305843009213693951)(A:0<=key)(B:key<=2147483648):
  Calls prog 82 #[.int .i64 a,.int .i64 b,.int .i64 key] w λt D=>t=.returned (.int .i64 (AG a b key))/\D=w:=by
 go_enter func82,ntmps82;go_wp2_with fail
 go_loopw [0,2,7] (λE k C wr=>∃c K d:Int,E=.int .i64 c/\k=.int .i64 K/\C=.int .i64 d/\0<=c/\c<2305843009213693951/\0<=K/\K<=2147483648/\0<=d/\d<2305843009213693951/\Hid ((c*K+d)%2305843009213693951=(a*key+b)%2305843009213693951)/\wr=w) (λ_ k _ _=>(intOf k).toNat)
 case atStart=>exact⟨a,key,b,rfl,rfl,rfl,o,q,A,B,r,s,rfl,rfl⟩
 case round =>
  obtain⟨c,K,d,rfl,rfl,rfl,F,G,n,H,l,m,i,rfl⟩:=hrel;by_cases u:0<K
  ·have I:decide (0<K)=true:=by simpa using u
   have e:K%2=0\/K%2=1:=by omega
   have h:0<=(c+c)%2305843009213693951/\(c+c)%2305843009213693951<2305843009213693951:=by omega
   rcases e with e | e
   ·have j:=Aa (show((c+c)%2305843009213693951*(K/2)+d)%2305843009213693951=(a*key+b)%2305843009213693951 by
       have:=hash_step c K d 0 2305843009213693951 (by omega)
       rw[<-i.o,<-this,Int.zero_mul,kO,ll l m])
    have z:(K%2==1)=false:=by rw[e];rfl
    have J:K.tmod 2=K%2:=jS n;go_wp2;go_roundw;case rel=>exact⟨(c+c)%2305843009213693951,K/2,d,by go_num,by go_num,rfl,h.1,h.2,by omega,by omega,l,m,j,trivial⟩
    case measure=>simp[intOf];omega
   have j:=Aa (show((c+c)%2305843009213693951*(K/2)+(d+c)%2305843009213693951)%2305843009213693951=(a*key+b)%2305843009213693951 by
      have:=hash_step c K d 1 2305843009213693951 (by omega)
      rw[<-i.o,<-this,Int.one_mul])
   have z:(K%2==1)=true:=by rw[e];rfl
   go_wp2;go_roundw;case rel=>exact⟨(c+c)%2305843009213693951,K/2,(d+c)%2305843009213693951,by go_num,by go_num,by go_num,h.1,h.2,by omega,by omega,by omega,by omega,j,trivial⟩
   case measure=>simp[intOf];omega
  have v:K=0:=by omega
  subst v;have x:d%2305843009213693951=AG a b key:=by
   have:=i.o;rw[Int.mul_zero,Int.zero_add]at this;exact this
  go_wp2;go_ret;first | exact⟨A9 x,rfl⟩ | exact⟨A9 rfl,rfl⟩ | exact⟨rfl,rfl⟩
theorem zN5(x n:Nat)(o:x<2 ^ 64)(r:n<40)(i:x=2 ^ n*(x/2 ^ n))(m:x/2 ^ n%2=1): Lib.ctz 64 x=n:=by
 have q:x≠0:=λd=>by subst d;simp at m
 unfold Lib.ctz;rw[hZ q];obtain⟨j,e,_⟩:=Lib.ctzFrom_spec 64 x (by omega) o;generalize Lib.ctzFrom 64 x=c at *
 obtain⟨h,l⟩:∃h,x/2 ^ n=2*h+1:=⟨x/2 ^ n/2,by omega⟩;rw[l]at i;rw[i]at e;rcases Nat.lt_trichotomy c n with d | d | d
 ·obtain⟨a,rfl⟩:∃a,n=c+(a+1):=⟨n-c-1,by omega⟩;rw[Nat.pow_add,k6]at e;have:=Nat.eq_of_mul_eq_mul_left (lz c) e;rw[kt]at this;have k:2 ^ a*2*(2*h+1)=2*(2 ^ a*(2*h+1)):=by rw[ly (2 ^ a) 2,k6]
  omega
 ·exact d
 obtain⟨a,rfl⟩:∃a,c=n+(a+1):=⟨c-n-1,by omega⟩;rw[Nat.pow_add,k6]at e;have:=Nat.eq_of_mul_eq_mul_left (lz n) e;rw[kt]at this;have k:2 ^ a*2*(2*j+1)=2*(2 ^ a*(2*j+1)):=by rw[ly (2 ^ a) 2,k6]
 omega
theorem zOq(x:Nat)(j:x<2 ^ 64)(d:x=2 ^ 39*(x/2 ^ 39)): 39<=Lib.ctz 64 x:=by
 unfold Lib.ctz;split
 ·omega
 rename_i l;obtain⟨m,h,_⟩:=Lib.ctzFrom_spec 64 x (by omega) j;generalize Lib.ctzFrom 64 x=c at *
 rcases ku c 39 with e | e
 ·exfalso;obtain⟨a,i⟩:∃a,39=c+(a+1):=⟨39-c-1,by omega⟩;rw[i,Nat.pow_add,k6]at d;generalize x/(2 ^ c*2 ^ (a+1))=y at d;rw[d]at h;have:=Nat.eq_of_mul_eq_mul_left (lz c) h;rw[kt]at this;have k:2 ^ a*2*y=2*(2 ^ a*y):=by rw[ly (2 ^ a) 2,k6]
  omega
 exact e
theorem Xg(e:Int)(w:World)(u:0<=e)(B:e<9223372036854775808):
  Calls prog 83 #[.int .i64 e] w λn x=>n=.returned (.int .i64 (Cm e))/\x=w:=by
 obtain⟨c,rfl⟩:=jd u;have l:c<2 ^ 64:=by omega
 have j:=Aa l;clear l;go_enter func83,ntmps83;go_wp2_with fail
 go_loopw [0,3] (λv i wr=>∃(a y:Nat),a<=39/\v=.int .i64 y/\i=.int .i64 ((a:Int)+1)/\y<=c/\Hid (c=2 ^ a*y)/\wr=w) (λ_ i _=>40-(intOf i).toNat)
 case atStart=>exact⟨0,c,by omega,rfl,rfl,il _,by show c=2 ^ 0*c;simp,rfl⟩
 case round =>
  obtain⟨a,y,z,rfl,rfl,A,d,rfl⟩:=hrel;have hdiv:c/2 ^ a=y:=by rw[d.o,Nat.mul_div_cancel_left _ (lz a)]
  by_cases s:a=39
  ·subst s
   have h:=Aa (show Cm (c:Int)=40 by
      unfold Cm;have:=zOq c j.o (by rw[hdiv];exact d.o)
      rw[iH];omega)
   have r:decide (((39:Nat):Int)+1<40)=false:=by decide
   clear hdiv;go_wp2;go_ret;exact⟨A9 h.o.symm,rfl⟩
  have r:decide ((a:Int)+1<40)=true:=by simp;omega
  rcases Nat.mod_two_eq_zero_or_one y with k | k
  ·have t:((y:Int)%2==0)=true:=by simp;omega
   have m:=Aa (show c=2 ^ (a+1)*(y/2) by
      have o:y=2*(y/2):=by omega
      have q:=d.o
      rw[kt,k6,<-o];exact q)
   clear hdiv;go_wp2;go_roundw;case rel=>exact⟨a+1,y/2,by omega,by go_num,by go_num,by omega,m,trivial⟩
   case measure=>simp[intOf];omega
  have t:((y:Int)%2==0)=false:=by simp;omega
  have h:=Aa (show Cm (c:Int)=(a:Int)+1 by
     unfold Cm;rw[iH,zN5 c a j.o (by omega) (by rw[hdiv];exact d.o) (by rw[hdiv];exact k)]
     omega)
  clear hdiv;go_wp2;go_ret;exact⟨A9 h.o.symm,rfl⟩
theorem Vn(a b:Int)(w:World)(q:-4611686018427389000<=a)(r:a<=4611686018427389000)(s:1<=b)(t:b<=1000):
  Calls prog 84 #[.int .i64 a,.int .i64 b] w λl o=>l=.returned (.int .i64 (a/b))/\o=w:=by
 cases d:decide (a<0)
 ·have e:0<=a:=by simpa using d
  have k:a.tdiv b=a/b:=jl e;have m:0<=a/b:=jK e (by omega);have n:a/b<=a:=jN _ e;go_enter func84,ntmps84;go_wp2;go_ret;exact⟨by first | rfl | exact A9 rfl | exact A9 k,rfl⟩
 have e:a<0:=by simpa using d
 have h:0<=-a+b-1:=by omega
 have k:(-a+b-1).tdiv b=(-a+b-1)/b:=jl h;have m:0<=(-a+b-1)/b:=jK h (by omega);have n:(-a+b-1)/b<=-a+b-1:=jN _ h;have j:-((-a+b-1)/b)=a/b:=by
  have u:=jX a b;have v:=jX (-a+b-1) b;have B:=j8 a (show b≠0 by omega);have C:=j1 a (show 0<b by omega);have D:=j8 (-a+b-1) (show b≠0 by omega);have E:=j1 (-a+b-1) (show 0<b by omega);generalize a/b=c at *
  generalize(-a+b-1)/b=y at *
  have x:b*(c+y)=b*c+b*y:=lG _ _ _;have z:-b<b*(c+y)/\b*(c+y)<b:=by omega
  have A:c+y=0:=by
   rcases Int.lt_trichotomy (c+y) 0 with d | d | d
   ·have:b*(c+y)<=b*(-1):=jo (by omega) (by omega);omega
   ·exact d
   have:b*1<=b*(c+y):=jo (by omega) (by omega);omega
  omega
 have i:=Aa j;clear j;go_enter func84,ntmps84;go_wp2;go_ret;exact⟨by first | (rw[<-i.o];rfl) | exact A9 i.o,rfl⟩
def Bq(l:List bA)(fr tq:Int): List bA:=l.filter (λz=>decide (0<z.tick)&&(decide (fr<z.t)&&decide (z.t<=tq)))
abbrev FW(w:World)(base:Nat)(v:Value)(l:List bA): Prop:=w.ownsRow base 150 5 v l.length (Cy l)
theorem T2(l:List bA)(fr a:Int)(k:Nat)(c:k<l.length): Bq (l.take (k+1)) fr a=Bq (l.take k) fr a++if (decide (0<(Aj l k).tick)&&(decide (fr<(Aj l k).t)&&decide ((Aj l k).t<=a)))=true then[Aj l k] else[]:=by
 rw[je c,Cq _ _ c];unfold Bq;rw[jj,iR];congr 1
theorem JM(l:List bA)(fr a:Int): (Bq l fr a).length<=l.length:=kX _ _
theorem zMt: (prog.info? 150).map (λa=>(a.zero,a.size,a.bytes))=some (some (.agg #[.int .i64 0,.int .i64 0,.int .i64 0,.int .i64 0,.int .i64 0]),5,40):=by kernel_rfl
theorem Tl(a b:List bA): Cy (a++b)=Cy a++Cy b:=by simp[Cy]
theorem Tn(l:List bA): (Cy l).length=l.length*5:=UA bA.cells 5 (λ_=>rfl) l
theorem XH(l:List bA): ∀d∈Cy l,d.oneCell'=true:=by
 intro d e;obtain⟨h,_,c⟩:=k3.1 e;simp only[bA.cells,iw,lu,or_false]at c;rcases c with a | a | a | a | a <;> subst a <;> rfl
theorem Rz{w:World}{v:Array Oper}{rest:List Oper}{o:Oper}{a:Act}{t:Exit->Act->World->Prop}(D:o.guard=none)(s x:Operand)(G:o.op=.call { callee:=.builtin .append,args:=#[s,x],argTypes:=#[109,109] })(base:Nat)(l:Value)(d:List bA)(e:Nat)(n:d.length=e)(J:a.eval s=l)(H:FW w base l d)(q u:Nat)(c:bA)(M:a.eval x=.slice (some ⟨q,0,none⟩) 1 u)(A:∀j k,c.cells[j]?=some k->w.cell? ⟨q,j,none⟩=some k)(hlen:e+1<=3518437208000)(B:base<=w.heap.size)(m:∀g i r,FW r base (.slice (some ⟨g,0,none⟩) (e+1) i) (d++[c])->aA (λQ=>l.ownBlock=some Q) w r->wpList prog v t rest (a.put o.dst (.slice (some ⟨g,0,none⟩) (e+1) i)) r): wpList prog v t (o::rest) a w:=by
 obtain⟨R,E,N,O,P⟩:=jh zMt;subst n;have C:Cy [c]=c.cells:=by simp[Cy]
 refine jf w D s x 109 G base 150 R _ 5 40 underlying109 E N O P (by rfl) (by omega) l d.length (Cy d) J H ⟨q,0,none⟩ 1 u (Cy [c]) M (Tn [c]) ?_ (XH [c]) (by omega) (by unfold maxLen;omega) (by omega) B w.heap.size rfl ?_
 ·intro j k L;rw[kv,ja];exact A j k (by rw[<-C];exact L)
 intro g i z I h S T;refine m g i z ?_ ⟨h.os,h.tape,h.output,h.size,λe n F=>h.block e n (λm=>F m.symm)⟩;show z.ownsRow base 150 5 _ (d++[c]).length (Cy (d++[c]));rw[Tl,hY];exact I
theorem L1(b:RB)(y:aG)(fr d:Int)(w:World)(c:bN w b y)(ah:y.items.length<=651562446090):
  Calls prog 81 #[.pointer (some ⟨b.s,0,none⟩),.int .i64 fr,.int .i64 d] w λY N=>∃M,Y=.returned M/\FW N w.heap.size M (Bq y.items fr d)/\lO w N:=by
 have v:w.cell? ⟨b.s,21,none⟩=some b.iv:=c.aF.cell rfl;obtain⟨ab,ad,J,-,D,E⟩:=DU c.bC;rw[J]at v;have P:=Aa E;have O:=Aa D;have Q:=Aa v;clear c E D v J;generalize H:y.items.length=s at *
 have C:=Aa H;clear H;generalize b.s=al at *
 generalize y.items=all at *
 go_enter func81,ntmps81;go_wp2_with fail
 go_loopw [7,8] (λL r wr=>∃(a h n:Nat) (m:Option Addr),a<=s/\r=.int .i64 a/\L=.slice m h n/\Hid (FW wr w.heap.size L (Bq (all.take a) fr d))/\Hid (lO w wr)) (λ_ r _=>s-(intOf r).toNat)
 case atStart=>exact⟨0,0,0,none,by omega,rfl,rfl,ir _ _ _ _,aA.refl _ _⟩
 case round =>
  obtain⟨a,h,n,m,ae,rfl,rfl,i,e⟩:=hrel;have v:=e.o.cell Q.o id;by_cases W:a<s
  ·have l:a<all.length:=by rw[C.o];exact W
   obtain⟨g,F⟩:=O.o (by omega);have o:=(P.o g F).1;subst F;have aa:=e.o.cell (o (a*5+0) _ (by rw[C2 _ _ _ l (by omega)];rfl)) id;have ao:=e.o.cell (o (a*5+1) _ (by rw[C2 _ _ _ l (by omega)];rfl)) id;have ap:=e.o.cell (o (a*5+2) _ (by rw[C2 _ _ _ l (by omega)];rfl)) id;have aq:=e.o.cell (o (a*5+3) _ (by rw[C2 _ _ _ l (by omega)];rfl)) id;have ar:=e.o.cell (o (a*5+4) _ (by rw[C2 _ _ _ l (by omega)];rfl)) id;rw[kg]at aa;have u:=Aa (T2 all fr d a l);have G:h=(Bq (all.take a) fr d).length:=by
    obtain⟨_,_,R⟩:=DC i.o;injection R
   have aj:(Bq (all.take a) fr d).length<=a:=by
    have k:=JM (all.take a) fr d;rw[iD]at k;omega
   generalize Aj all a=Z at *
   generalize Bq (all.take a) fr d=q at *
   obtain⟨t,A,z,B,x⟩:=Z;have af:(0:Int)<=(a:Int):=by omega
   have ag:(a:Int)<(s:Int):=by omega
   clear o l;cases k:decide (0<x)
   ·have j:=Aa (show Bq (all.take (a+1)) fr d=q by rw[u.o];simp[k]);go_wp2_with fail
    go_roundw;case rel=>exact⟨a+1,h,n,m,by omega,by go_num,rfl,by rw[j.o];exact i,e⟩
    case measure=>simp[intOf];omega
   cases h2:decide (fr<t)
   ·have j:=Aa (show Bq (all.take (a+1)) fr d=q by rw[u.o];simp[h2]);go_wp2_with fail
    go_roundw;case rel=>exact⟨a+1,h,n,m,by omega,by go_num,rfl,by rw[j.o];exact i,e⟩
    case measure=>simp[intOf];omega
   cases h3:decide (t<=d)
   ·have j:=Aa (show Bq (all.take (a+1)) fr d=q by rw[u.o];simp[h3]);go_wp2_with fail
    go_roundw;case rel=>exact⟨a+1,h,n,m,by omega,by go_num,rfl,by rw[j.o];exact i,e⟩
    case measure=>simp[intOf];omega
   have j:=Aa (show Bq (all.take (a+1)) fr d=q++[⟨t,A,z,B,x⟩] by rw[u.o];simp[k,h2,h3]);go_wp2_with (at_builtin;refine Rz rfl _ _ rfl w.heap.size (.slice m h n) q h G.symm rfl (by exact i.o.alloc _) wr.heap.size 1 ⟨t,A,z,B,x⟩ rfl (by intro ak am X;exact(aD.new wr (bA.cells ⟨t,A,z,B,x⟩) 150).cell X) (by omega) (by have:=e.o.size;simp;omega) ?_;intro S c2 an I U)
   go_roundw;case rel =>
    rw[G]at I;refine⟨a+1,_,c2,some ⟨S,0,none⟩,by omega,by go_num,rfl,?_,?_⟩
    ·show FW _ _ _ _;rw[j.o];exact I
    refine((e.o.alloc _).trans U (λr T ai=>?_));have:=(i.o.lt r T).1;omega
   case measure=>simp[intOf];omega
  have V:a=s:=by omega
  subst V;go_wp2_with fail
  go_ret;have k:=i.o;rw[iq (by rw[C.o];omega)]at k;exact⟨_,rfl,k,e.o⟩
def EW(c:Cfg)(n:Nat)(G:List Int)(k:Int): List Int :=
 if G.getD (BZ c n k) 0<Cm (AG c.bV c.bW k/n) then G.set (BZ c n k) (Cm (AG c.bV c.bW k/n)) else G
def CP(c:Cfg)(n:Nat)(l:List bA): List Int:=l.foldl (λG z=>EW c n G z.k) (List.replicate n 0)
theorem Od(c:Cfg)(n:Nat)(a:List Int)(k:Int): (EW c n a k).length=a.length:=by
 unfold EW;split <;> simp
theorem JG(c:Cfg)(n:Nat)(l:List bA): (CP c n l).length=n:=by
 unfold CP;have:∀(l:List bA) (a:List Int),(l.foldl (λa d=>EW c n a d.k) a).length=a.length:=by
  intro l;induction l with
  | nil=>intro a;rfl
  | cons d l e=>intro a;rw[jT,e,Od]
 rw[this];simp
theorem V8(c:Cfg)(n:Nat)(l:List bA)(k:Nat)(a:k<l.length): CP c n (l.take (k+1))=EW c n (CP c n (l.take k)) (Aj l k).k:=by
 rw[je a,Cq _ _ a];unfold CP;rw[jP];rfl
theorem YE(c:Cfg)(n:Nat)(l:List bA): ∀g∈CP c n l,0<=g/\g<=40:=by
 unfold CP;have:∀(l:List bA) (a:List Int),(∀g∈a,0<=g/\g<=40)->∀g∈l.foldl (λa i=>EW c n a i.k) a,0<=g/\g<=40:=by
  intro l;induction l with
  | nil=>intro a e;exact e
  | cons i l j =>
   intro a e;rw[jT];refine j _ (λg d=>?_);unfold EW at d;split at d
   ·rcases js d with h | h
    ·exact e g h
    rw[h];have:=Ks (AG c.bV c.bW i.k/n);omega
   exact e g d
 refine this l _ (λg d=>?_);rw[(kk.1 d).2];omega
theorem Xh(a:List Int)(k:Nat)(c:k<a.length): CG (a.take (k+1))=CG (a.take k)+2 ^ (40-a.getD k 0).toNat:=by
 rw[jg,hX c];show CG (a.take k++[a[k]])=_;rw[NH,List.getD_eq_getElem?_getD,hX c];simp[CG]
theorem Wk(a:List Int)(i:Nat)(v:Int): Af (a.set i v)=(Af a).set i (.int .i64 v):=by
 unfold Af;rw[kH]
theorem Qg(a:List Int)(i:Nat)(hi:i<a.length): (Af a)[i]?=some (.int .i64 (a.getD i 0)):=by
 simp[Af,List.getD_eq_getElem?_getD,hX hi]
theorem RF(b:RB)(y:aG)(a m:Int)(n:Nat)(w:World)(t:bN w b y)(cg:y.c.pair0)(dq:1<=y.c.bits)(dr:y.c.bits<=4)(O:2 ^ y.c.bits.toNat=n)(cp:y.items.length<=651562446090)(aj:∀A,A∈Bq y.items (m-a) m->0<=A.k/\A.k<=2147483648)(dn:1<=a)(dp:a<=1000)(et:-100<=m)(eu:m<=4611686018427387904):
  Calls prog 55 #[.pointer (some ⟨b.s,0,none⟩),.int .i64 a,.int .i64 m] w λam S=>∃bk,am=.returned bk/\S.ownsRow w.heap.size 3 1 bk (n+1) (Af (CP y.c n (Bq y.items (m-a) m)++[7*n*n*1099511627776/(10*CG (CP y.c n (Bq y.items (m-a) m)))]))/\lO w S:=by
 have cs:(2:Int) ^ y.c.bits.toNat=(n:Int):=by rw[<-O];simp
 have ee:n<=16:=by
  rw[<-O];have:=jk (n:=2) (by omega) (show y.c.bits.toNat<=4 by omega);simpa using this
 have ed:1<=n:=by rw[<-O];exact lI
 have cx:wrap64 (n:Int)=(n:Int):=by unfold wrap64;omega
 have cr:=λb1=>run_make_row' (P:=prog) 37 3 (.int .i64 0) 8 underlying37 KM rfl .i64 .i64 n (by omega) (by omega) b1;have cf:=t.aF.c7;have cy:IntKind.i64.wrap (m-a)=m-a:=by rw[ic];omega
 have X:=Aa t;have aq:=Aa aj;obtain⟨dg,R,al,dh⟩:=cg;clear t aj O;go_enter func55,ntmps55;go_wp2_with fail
 have W:=Aa (show(w.alloc (.cells (madeCells #[.int .i64 0] n) 3)).ownsRow w.heap.size 3 1 (.slice (some ⟨w.heap.size,0,none⟩) n n) n (Af (List.replicate n 0)) by
    have:=World.ownsRow_lit (base:=w.heap.size) (e:=3) (size:=1) w (madeCells #[.int .i64 0] n) n (il _) (by unfold maxLen;omega) (by rw[<-Array.length_toList,Mh];simp);rw[Mh]at this;rw[show Af (List.replicate n 0)=List.replicate n (Value.int .i64 0) by simp[Af]]
    exact this)
 have U:=Aa ((aA.refl (λ_=>False) w).alloc (.cells (madeCells #[.int .i64 0] n) 3));have Y:=Aa (X.o.still U.o);have da:(w.alloc (.cells (madeCells #[.int .i64 0] n) 3)).heap.size=w.heap.size+1:=by simp
 generalize w.alloc (.cells (madeCells #[.int .i64 0] n) 3)=ay at *
 obtain⟨r,ag⟩:∃r,w.heap.size=r:=⟨_,rfl⟩;rw[ag]at da W ⊢;clear cr cf cs;refine(L1 b y (m-a) m ay Y.o cp).mono ?_;rintro am ab ⟨es,rfl,ae,B⟩;have av:=Aa ae;have ec:(Bq y.items (m-a) m).length<=651562446090:=by have:=JM y.items (m-a) m;omega
 have bt:=Aa (DT W.o B (λ_ _ t=>t));have bq:=Aa (U.o.then B);have bm:=Aa (show ∀A,A∈Bq y.items (m-a) m->0<=A.k/\A.k<=2147483648 from aq.o);have Z:=Aa (Y.o.still B);have bf:ab.cell? ⟨b.s,15,none⟩=some (.int .i64 y.c.bV):=Z.o.aF.cell rfl;have bg:ab.cell? ⟨b.s,16,none⟩=some (.int .i64 y.c.bW):=Z.o.aF.cell rfl;have bi:b.s≠r:=by have:=X.o.aF.lt;omega
 have bx:=Aa bf;have bz:=Aa bg;generalize a0:Bq y.items (m-a) m=j at *
 have br:=Aa a0;generalize a6:y.c=k at *
 have bn:=Aa a6;clear a6;generalize b.s=ex at *
 obtain⟨de,df,cb⟩:=DC ae;generalize be:j.length=C at *
 have V:=Aa be;subst cb;have ap:=Aa ag;clear ae B aq X Y Z bf bg be a0 W U ag;go_wp2_with fail
 go_loopw [10] (λo wr=>∃d:Nat,d<=C/\o=.int .i64 d/\Hid (wr.ownsRow r 3 1 (.slice (some ⟨r,0,none⟩) n n) n (Af (CP k n (j.take d))))/\Hid (aA (λc=>c=r) ab wr)) (λo _=>C-(intOf o).toNat)
 case atStart=>exact⟨0,by omega,rfl,bt,aA.refl _ _⟩
 case round =>
  obtain⟨d,aj,rfl,H,D⟩:=hrel;by_cases co:d<C
  ·have G:d<j.length:=by rw[V.o];exact co
   have a1:FW wr ay.heap.size (.slice de C df) j:=by
    have:=A2 av.o D.o (λo N t=>by have:=(av.o.lt o N).1;omega);exact this
   obtain⟨ep,er,b7,_,bd,a7⟩:=DU a1;injection b7 with b8 ca b9;clear ca;subst b8 b9;obtain⟨cc,ba⟩:=bd (by rw[V.o];omega);have b6:=(a7 cc ba).1 (d*5+1) _ (by rw[C2 _ _ _ G (by omega)];rfl);subst ba;have b4:=D.o.cell bx.o bi;have b5:=D.o.cell bz.o bi;obtain⟨db,dc⟩:=bm.o (Aj j d) (by rw[Cq _ _ G];exact jc G);have aw:=Aa (V8 k n j d G);have z:=JG k n (j.take d);generalize(Aj j d).k=Q at *
   generalize CP k n (j.take d)=h at *
   have a5:=GD k.bV k.bW Q;obtain⟨v,F⟩:∃v,AG k.bV k.bW Q=v:=⟨_,rfl⟩;rw[F]at a5;obtain⟨bb,d3⟩:=a5;obtain⟨l,ah⟩:∃l:Nat,BZ k n Q=l:=⟨_,rfl⟩;have d6:v%(n:Int)=(l:Int):=by
    rw[<-ah];unfold BZ;rw[F];have:=j8 v (b:=(n:Int)) (by omega);omega
   have cl:l<n:=by
    have:=j1 v (b:=(n:Int)) (by omega);omega
   obtain⟨x,ak⟩:∃x,v/(n:Int)=x:=⟨_,rfl⟩;have cu:0<=x:=by rw[<-ak];exact jK bb (by omega)
   have ef:x<=v:=by rw[<-ak];exact jN _ bb
   have ax:=Aa (show CP k n (j.take (d+1))=if h.getD l 0<Cm x then h.set l (Cm x) else h by rw[aw.o];unfold EW;rw[ah,F,ak]);have bp:=Aa (show ∀T:World,Calls prog 82 #[.int .i64 k.bV,.int .i64 k.bW,.int .i64 Q] T λL S=>L=.returned (.int .i64 v)/\S=T from λT=>by rw[<-F];exact Pu _ _ _ T dg R al dh db dc);have ea:(0:Int)<=(d:Int):=by omega
   have eb:(d:Int)<(C:Int):=by omega
   clear a1 a7 bd G aw ah F;go_wp2_with fail
   go_quiet (first | (go_at_call 82;refine jv (bp.o _)))
   have au:=Aa (D.o.then (aA.drewN (λc=>c=r) wr nq));have I:=Aa (DT H.o (aA.drewN (λ_=>False) wr nq) (λ_ _ t=>t));have ad:=I.o.cellAt l (by omega);rw[Qg h l (by rw[z];exact cl)]at ad;have ds:=I.o.frozenAt l;clear b4 b5 b6;generalize wr.drewN nq=b2 at *
   go_wp2_with fail
   refine(Xg x b2 cu (by omega)).mono ?_;rintro am dl ⟨rfl,bj⟩;rw[bj];clear bj dl;generalize Cm x=an at *
   have d4:(0:Int)<=(l:Int):=by omega
   have d5:(l:Int)<(n:Int):=by omega
   cases M:decide (h.getD l 0<an)
   ·have aa:=Aa (show CP k n (j.take (d+1))=h by rw[ax.o,hZ (by simpa using M)]);generalize h.getD l 0=u at *
    go_wp2_with fail
    go_roundw;case rel=>exact⟨d+1,by omega,by go_num,by rw[aa.o];exact I,au⟩
    case measure=>simp[intOf];omega
   have aa:=Aa (show CP k n (j.take (d+1))=h.set l an by rw[ax.o,h9 (by simpa using M)]);generalize h.getD l 0=u at *
   go_wp2_with fail
   go_roundw;case rel=>exact⟨d+1,by omega,by go_num,by rw[aa.o,Wk];exact Aa (Q7 I.o l (.int .i64 an)),Aa (au.o.setCell (p:=⟨r,l,none⟩) (Or.inl rfl) _)⟩
   case measure=>simp[intOf];omega
  have cn:d=C:=by omega
  subst cn;have a8:j.take d=j:=iq (by rw[V.o];omega);rw[a8]at H;have z:=JG k n j;have ao:=Aa (YE k n j);have ar:=Aa (show lO w wr from bq.o.trans D.o (λo N cq=>by have:=ap.o;omega));generalize az:CP k n j=h at *
  have bo:=Aa az;clear az;go_wp2_with fail
  generalize wr=b3 at *
  go_loopw [13,14] (λdk o wr=>∃(c:Nat) (i:Int),c<=n/\o=.int .i64 c/\dk=.int .i64 i/\0<=i/\i<=1099511627776*(c:Int)/\Hid (i=CG (h.take c))/\wr=b3) (λ_ o _=>n-(intOf o).toNat)
  case atStart=>exact⟨0,0,by omega,rfl,rfl,by omega,by omega,rfl,rfl⟩
  case round =>
   obtain⟨c,i,d7,rfl,rfl,dz,d0,J,rfl⟩:=hrel;by_cases ai:c<n
   ·have ad:=H.o.cellAt c (by omega);rw[Qg h c (by rw[z];exact ai)]at ad;have cj:=ao.o (h.getD c 0) (by rw[List.getD_eq_getElem?_getD,hX (by rw[z];exact ai)];exact jc _);have b0:=Aa (Xh h c (by rw[z];exact ai));generalize h.getD c 0=u at *
    obtain⟨dt,du⟩:=cj;have R:=Gp (40-u).toNat (by omega);have al:(2:Int) ^ (40-u).toNat<=1099511627776:=by
     have dy:2 ^ (40-u).toNat<=2 ^ 40:=jk (by omega) (by omega);have L:(2:Int) ^ (40-u).toNat=((2 ^ (40-u).toNat:Nat):Int):=by simp
     rw[L];omega
    obtain⟨s,a3⟩:∃s,(2:Int) ^ (40-u).toNat=s:=⟨_,rfl⟩;have bu:=Aa a3;rw[a3]at R al;obtain⟨ev,ew⟩:=R;have d8:(0:Int)<=(c:Int):=by omega
    have d9:(c:Int)<(n:Int):=by omega
    have em:wrap64 s=s:=by unfold wrap64;omega
    have en:IntKind.i64.wrap s=s:=by rw[ic];omega
    have eo:IntKind.i64.wrap (i+s)=i+s:=by rw[ic];omega
    go_wp2_with fail
    go_roundw;case rel=>exact⟨c+1,i+s,by omega,by go_num,by go_num,by omega,by rw[Int.natCast_add,Int.natCast_one,lG];omega,Aa (by rw[b0.o,<-J.o,bu.o]),trivial⟩
    case measure=>simp[intOf];omega
   have cm:c=n:=by omega
   subst cm;have a9:h.take c=h:=iq (by rw[z];exact il _);rw[a9]at J;have bh:=QH ao.o;rw[z,<-J.o]at bh;obtain⟨di,dj⟩:=bh;clear cx cy a9 a8;have bc:(c:Int)<=16:=by omega
   have eg:0<=(c:Int)*(c:Int):=kF (by omega) (by omega);have eh:(c:Int)*(c:Int)<=16*16:=kM bc bc (by omega) (by omega);have ce:7*(c:Int)*(c:Int)=7*((c:Int)*(c:Int)):=Int.mul_assoc _ _ _;have ej:IntKind.i64.wrap (7*(c:Int))=7*(c:Int):=by rw[ic];omega
   have ek:IntKind.i64.wrap (7*(c:Int)*(c:Int))=7*(c:Int)*(c:Int):=by rw[ic];omega
   have cv:IntKind.i64.wrap (7*(c:Int)*(c:Int)*1099511627776)=7*(c:Int)*(c:Int)*1099511627776:=by rw[ic];omega
   have el:IntKind.i64.wrap (10*i)=10*i:=by rw[ic];omega
   have d1:1<=i:=by omega
   clear di dj;obtain⟨q,a2⟩:∃q,7*(c:Int)*(c:Int)*1099511627776=q:=⟨_,rfl⟩;have af:0<=q:=by omega
   have M:q.tdiv (10*i)=q/(10*i):=jl af;have ch:0<=q/(10*i):=jK af (by omega);have ci:q/(10*i)<=q:=jN _ af;have cw:IntKind.i64.wrap (q/(10*i))=q/(10*i):=by rw[ic];omega
   rw[a2]at cv;have bs:=Aa a2;obtain⟨E,a4⟩:∃E,q/(10*i)=E:=⟨_,rfl⟩;have bv:=Aa a4;clear ce;rw[a4]at M ch ci cw;have bl:=Aa (aD.new wr [.int .i64 E] 3);have ck:=ap.o;have ei:=ar.o.size;go_wp2_with (at_builtin;refine Fe rfl _ _ rfl r _ c h rfl (by exact DT H.o ((aA.refl (λ_=>False) wr).alloc _) (λ_ _ t=>t)) wr.heap.size 1 [E] rfl rfl bl.o (by omega) (by omega) (by simp;omega) ?_;intro dw c2 dm ct B d2)
   go_ret;refine⟨_,rfl,?_,?_⟩
   ·have:=ct;rw[ck,bn.o,br.o,bo.o,<-J.o,bs.o,bv.o];exact this
   exact(ar.o.alloc (.cells #[.int .i64 E] 3)).trans B (λo N cq=>by
      have cd:some r=some o:=N;have dx:r=o:=by injection cd
      omega)
