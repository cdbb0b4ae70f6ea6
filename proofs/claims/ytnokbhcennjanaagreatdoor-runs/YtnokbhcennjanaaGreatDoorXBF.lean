import Derived.Test.YtnokbhcennjanaaGreatDoorXBE
open Go.RowKit Go.Proofs.Tryz
set_option maxRecDepth 100000
set_option maxHeartbeats 16000000
namespace Go.Proofs.YtnokbhcennjanaaGreatDoor
section
theorem Sg(c:Cfg)(a:List dR)(e:dR): A3 c (a++[e])=FR c (A3 c a) e:=by
 unfold A3;rw[jP];rfl
theorem Sv(c:Cfg)(a:List dR)(i:Nat)(e:dR)(d:a[i]?=some e): A3 c (a.take (i+1))=FR c (A3 c (a.take i)) e:=by
 obtain⟨j,h⟩:=ik.1 d;rw[je j,Sg,h]
structure fA (c:Cfg):Prop where
 k1:1<=c.k
 hQ:c.k<=10
 w1:1<=c.aB
 w2:c.aB<=1000
structure cI (n:Int) (l:List Bk):Prop where
 pb:PB l
 one:∀b∈l,1<=b.sz
 sum:An l<=n
theorem Yb{c:Cfg}(h:fA c){n:Int}{l:List Bk}(d:cI n l)(t m:Int): cI (n+1) (C1 c l t m):=by
 have j:=h.k1;have i:∀b∈Cz c l t m,1<=b.sz:=λb a=>by
  unfold Cz at a;rcases ig.1 a with a | a
  ·exact d.one b (iB a)
  rw[ij]at a;rw[a];exact iG _
 have e:=OF (K:=c.k) (by omega) ((Cz c l t m).length+1) (Cz c l t m) 1 _ i (il _) (by omega);refine⟨zLz (by omega) d.pb t m,e.1,?_⟩;unfold C1;rw[e.2];have k:=H0 l (pastN l (m-c.aB));have o:=Ee (l:=l.take (pastN l (m-c.aB))) (λb a=>d.one b (jn a));have q:=d.sum;unfold Cz;rw[Fx];unfold EE;simp only[An];omega
theorem LV{n:Int}{l:List Bk}(a:cI n l)(j:Nat): cI n (l.drop j):=by
 refine⟨a.pb.drop j,λb c=>a.one b (iB c),?_⟩;have d:=H0 l j;have e:=Ee (l:=l.take j) (λb c=>a.one b (jn c));have h:=a.sum;omega
theorem cI.mono{n m:Int}{l:List Bk}(a:cI n l)(c:n<=m): cI m l:=⟨a.pb,a.one,by have:=a.sum;omega⟩
theorem V0{c:Cfg}(d:fA c){n:Int}{l:List Bk}(a:cI n l)(e:dR): cI (n+1) (FR c l e):=by
 unfold FR;split
 ·exact(LV a _).mono (by omega)
 exact Yb d a _ _
theorem ZE: cI 0 []:=⟨⟨λd e _ c=>by simp at c,λd a=>by simp at a⟩,by simp,by simp[An]⟩
theorem JF{c:Cfg}(j:fA c)(a:List dR): cI a.length (A3 c a):=by
 suffices d:∀(h:Int) (e:List Bk),cI h e->cI (h+a.length) (a.foldl (FR c) e) by
  have:=d 0 [] ZE;unfold A3;simpa using this
 induction a with
 | nil=>intro h e d;simpa using d
 | cons i a k =>
  intro h e d;have:=k (h+1) (FR c e i) (V0 j d i);rw[jT];refine this.mono ?_;simp only[iA];omega
theorem W8(l:List dR)(i j:Nat)(x:dR)(c:l[i]?=some x)(h:j<4): (CR l)[i*4+j]?=x.cells[j]?:=by
 induction l generalizing i with
 | nil=>simp at c
 | cons a l e =>
  have d:CR (a::l)=a.cells++CR l:=by simp[CR]
  have k:a.cells.length=4:=rfl;rw[d];cases i with
  | zero =>
   have:a=x:=by simpa using c
   subst this;rw[iO (by omega)];simp
  | succ i =>
   rw[iS (by omega)];have:=e i (by simpa using c);rw[<-this];congr 1;omega
theorem Zm{w:World}{v:Value}{l:List dR}(o:w.ownsRow 0 155 4 v l.length (CR l))(i:Nat)(a:dR)(m:l[i]?=some a):
  ∃g h,v=.slice (some ⟨g,0,none⟩) l.length h/\w.cell? ⟨g,i*4,none⟩=some (.int .i64 a.t)/\w.cell? ⟨g,i*4+1,none⟩=some (.int .i64 a.m)/\w.cell? ⟨g,i*4+2,none⟩=some (.bool a.fC)/\w.cell? ⟨g,i*4+3,none⟩=some (.int .i64 a.throw):=by
 have B:i<l.length:=(ik.1 m).1;rcases o.2 with ⟨j,q⟩ | ⟨g,h,n,j,q,r,x,z,A,s⟩
 ·omega
 have d:∀c e,c<4->a.cells[c]?=some e->w.cell? ⟨g,i*4+c,none⟩=some e:=by
  intro c e t u;have k:=W8 l i c a m t;rw[u,<-s,iV,h9 (by omega)]at k;have:n[i*4+c]?=some e:=by simpa using k
  simp[World.cell?,r,this]
 exact⟨g,h,j,d 0 _ (by omega) rfl,d 1 _ (by omega) rfl,d 2 _ (by omega) rfl,d 3 _ (by omega) rfl⟩
theorem Zo(a:List Bk)(k:Nat): a.reverse.take (a.length-k)=(a.drop k).reverse:=by
 rw[List.take_reverse];by_cases c:k<=a.length
 ·rw[show a.length-(a.length-k)=k by omega]
 rw[iU (by omega:a.length<=a.length-(a.length-k)),iU (by omega)]
theorem QL{w:World}{a:Option Addr}{n d k:Nat}{c:List Bk}(h:BW w (.slice a n d) c.reverse)(i:c.length=n): BW w (.slice a (n-k) d) (c.drop k).reverse:=by
 rw[<-Zo c k,i];rcases lJ n with e | e
 ·have:c=[]:=iL.1 (by omega);subst this;rw[e];exact .inl ⟨⟨a,d,by simp⟩,by simp⟩
 obtain⟨g,j,rfl,_,_⟩:=Jz h e;exact Qw (by rw[jF];exact i) h (by omega)
theorem N7(b:RB)(y:aG)(w:World)(k:bN w b y)(Z:fA y.c)(aj:fT y.c y.events)(b3:y.events.length<=4398046511103):
  Calls prog 80 #[.pointer (some ⟨b.s,0,none⟩)] w λa8 ap=>∃ao,a8=.returned ao/\BW ap ao (A3 y.c y.events).reverse/\lO w ap:=by
 have a0:=Aa k;have l:=Aa Z;have S:=Aa aj;obtain⟨a9,ba,aa⟩:=DC k.eP;have P:=Aa aa;generalize ai:y.events.length=j at *
 have r:=Aa ai;clear k Z aj aa ai;go_enter func80,ntmps80;go_wp2_with fail
 go_loopg [3,4,5] (j) (λg a2 bi _ wr=>∃(a:Nat) (x:Option Addr) (h i:Nat),a2=.slice x h i/\bi=.int .i64 a/\a<=j/\j-a=g/\h<=4398046511104/\Hid ((A3 y.c (y.events.take a)).length=h)/\Hid (BW wr (.slice x h i) (A3 y.c (y.events.take a)).reverse)/\Hid (lO w wr))
 case atStart=>exact⟨0,none,0,0,rfl,rfl,by omega,rfl,by omega,by show _=_;simp[A3],.inl ⟨⟨_,_,rfl⟩,by simp[A3]⟩,aA.refl _ _⟩
 case round =>
  obtain⟨a,x,h,i,rfl,rfl,b0,ab,bg,m,q,A⟩:=hrel;have Q:=Aa ab;clear ab;have D:=Aa (a0.o.still A.o);have bn:wr.cell? ⟨b.s,22,none⟩=some (.slice a9 j ba):=by rw[<-P.o];exact D.o.aF.cell rfl
  by_cases bd:a<j
  ·obtain⟨c,v⟩:∃c,y.events[a]?=some c:=⟨y.events[a]'(by rw[r.o];exact bd),hX _⟩;obtain⟨bz,bt,t,c0,c1,c2,c3⟩:=Zm D.o.eP a c v;rw[P.o,r.o]at t;injection t with t _ _;subst t;have O:=Aa (Sv y.c y.events a c v);have V:=Aa (S.o.hM a c v);have ay:=Aa (S.o.mark c (iu v));have ar:=Aa (JF l.o (y.events.take a));have b1:(0:Int)<=(a:Int):=by omega
   have b2:(a:Int)<(j:Int):=by omega
   clear v;cases haw:c.fC with
   | true =>
    obtain⟨o,F⟩:∃o:Nat,c.throw=(o:Int):=⟨c.throw.toNat,by have:=V.o haw;omega⟩;have b5:o<=h:=by have:=(V.o haw).2;rw[m.o,F]at this;omega
    rw[haw]at c2;rw[F]at c3;have a1:=Aa F;have G:=Aa haw;clear F haw;obtain⟨d,u⟩:∃d,d=h-o:=⟨_,rfl⟩;have bm:(h:Int)-(o:Int)=(d:Int):=by omega
    have C:=Aa u;have bf:d<=i:=by
     rcases q.o with ⟨⟨a3,a6,e⟩,n⟩ | ⟨bb,bl,a7,e,n,_⟩
     ·injection e with _ J _;omega
     injection e with _ J bc;omega
    clear u
    have E:=Aa (show A3 y.c (y.events.take (a+1))=(A3 y.c (y.events.take a)).drop o by
       rw[O.o];unfold FR;rw[h9 G.o,a1.o,iH])
    go_wp2;go_roundg (j-(a+1))
    case measure=>have:=Q.o;omega
    case rel =>
     refine⟨a+1,x,d,i,rfl,by go_num,by omega,rfl,by omega,?_,?_,A.o.alloc _⟩
     ·show _=_;rw[E.o,iQ,m.o,C.o]
     show BW _ _ _;rw[E.o,C.o];exact QL (q.o.keeps ((aA.refl (λ_=>False) wr).alloc _)) m.o
   | false =>
    rw[haw]at c2;have G:=Aa haw;clear haw;have an:=D.o.aF.c6;have am:=D.o.aF.c5;obtain⟨ca,cb⟩:=ay.o;have ce:=l.o.w1;have cf:=l.o.w2;have bj:=l.o.k1;have bk:=l.o.hQ;have b9:IntKind.i64.wrap (c.m-y.c.aB)=c.m-y.c.aB:=by rw[ic];omega
    have b6:IntKind.i64.wrap (y.c.k+1)=y.c.k+1:=by rw[ic];omega
    have E:=Aa (show A3 y.c (y.events.take (a+1))=C1 y.c (A3 y.c (y.events.take a)) c.t c.m by
       rw[O.o];unfold FR;rw[hZ (by rw[G.o];simp)])
    have ak:=pastN_le (A3 y.c (y.events.take a)) (c.m-y.c.aB);rw[m.o]at ak;obtain⟨p,M⟩:∃p,p=pastN (A3 y.c (y.events.take a)) (c.m-y.c.aB):=⟨_,rfl⟩;rw[<-M]at ak;obtain⟨d,u⟩:∃d,d=h-p:=⟨_,rfl⟩;have bm:(h:Int)-(p:Int)=(d:Int):=by omega
    have bf:d<=i:=by
     rcases q.o with ⟨⟨a3,a6,e⟩,n⟩ | ⟨bb,bl,a7,e,n,_⟩
     ·injection e with _ J _;omega
     injection e with _ J bc;omega
    have b7:IntKind.i64.wrap (d:Int)=(d:Int):=by rw[ic];omega
    have b8:IntKind.i64.wrap ((h:Int)-(p:Int))=(d:Int):=by rw[ic];omega
    have b4:(d:Int)<=(i:Int):=by omega
    have T:=Aa M;have C:=Aa u;have I:=Aa (aD.new wr [.int .i64 c.t,.int .i64 c.m,.bool false,.int .i64 c.throw] 155);have af:lO wr (wr.alloc (.cells #[.int .i64 c.t,.int .i64 c.m,.bool false,.int .i64 c.throw] 155)):=(aA.refl (λ_=>False) wr).alloc _;have B:=Aa af;clear M u af;go_wp2_with fail
    have X:(wr.alloc (.cells [Value.int .i64 c.t,.int .i64 c.m,.bool false,.int .i64 c.throw].toArray 155))=(wr.alloc (.cells #[.int .i64 c.t,.int .i64 c.m,.bool false,.int .i64 c.throw] 155)):=rfl;rw[X]at I;clear X;have N:=Aa (q.o.keeps B.o);have aw:=Aa (A.o.then B.o);have cc:=B.o.cell an id;have bo:=B.o.cell am id;generalize wr.alloc (.cells #[.int .i64 c.t,.int .i64 c.m,.bool false,.int .i64 c.throw] 155)=s at *
    generalize wr.heap.size=a5 at *
    have bp:=I.o.c0;have cg:=I.o.c1;clear an am c0 c1 c2 c3 bn;have ax:=Aa (show(A3 y.c (y.events.take a)).length<=4398046511104 by rw[m.o];exact bg);go_region_with (go_at_call 90;refine(PF _ (A3 y.c (y.events.take a)) (c.m-y.c.aB) _ (by exact N.o.keeps (aA.refl _ _).drew) ax.o).mono ?_;rintro t bs ⟨rfl,rfl⟩;rw[<-T.o])
    all_goals
     have aq:=Aa (show BW s.drew (.slice x d i) ((A3 y.c (y.events.take a)).drop p).reverse by rw[C.o];exact QL (N.o.keeps (aA.refl (λ_=>False) s).drew) m.o);have av:=Aa (aw.o.drew);have bu:s.drew.cell? ⟨a5,0,none⟩=some (.int .i64 c.t):=bp;have bv:s.drew.cell? ⟨b.s,5,none⟩=some (.int .i64 y.c.k):=bo;have z:=Aa (LV ar.o p)
     have H:=Aa (show An ((A3 y.c (y.events.take a)).drop p)+1<=4398046511104 by
        have e:=z.o.sum;rw[iD,r.o]at e
        omega)
     generalize s.drew=bq at *
     go_wp2_with fail
     go_region_with (go_at_call 129;refine(Zp _ ((A3 y.c (y.events.take a)).drop p) c.t y.c.k _ (by exact aq.o.keeps (aA.refl _ _).drew) z.o.pb ⟨z.o.one,by have:=H.o;omega,by have e:=IK z.o.one;have n:=H.o;omega⟩ H.o bj bk).mono ?_;rintro bx br ⟨cd,rfl,L,ae⟩)
     all_goals
      obtain⟨a4,c2,bh⟩:=DC L;have az:=Aa L;have au:=Aa ((av.o.drew).then ae);clear L ae;generalize ag:((joinL y.c.k (((A3 y.c (y.events.take a)).drop p++[(⟨1,c.t⟩:Bk)]).length+1) ((A3 y.c (y.events.take a)).drop p++[(⟨1,c.t⟩:Bk)]) 1 ((A3 y.c (y.events.take a)).drop p++[(⟨1,c.t⟩:Bk)]).length).reverse)=W at *
      have U:=Aa (show W=(A3 y.c (y.events.take (a+1))).reverse by
         rw[<-ag,E.o];unfold C1 Cz EE
         rw[<-T.o])
      clear ag;generalize ah:W.length=al at *
      have R:=Aa ah;clear ah;subst bh;go_wp2;go_roundg (j-(a+1))
      case measure=>have:=Q.o;omega
      case rel =>
       have ad:=JF l.o (y.events.take (a+1));have be:(A3 y.c (y.events.take (a+1))).length=al:=by rw[<-R.o,U.o,jF]
       refine⟨a+1,a4,al,c2,rfl,by go_num,by omega,rfl,?_,be,?_,au⟩
       ·have e:=IK ad.one;have n:=ad.sum;rw[iD,r.o]at n;omega
       show BW _ _ _;rw[<-U.o];have Y:=az.o;rw[<-R.o]at Y ⊢;exact OB.bw Y
  go_wp2;go_ret;refine⟨_,rfl,?_,A.o⟩;have:=q.o;rw[iq (by rw[r.o];omega)]at this;exact this
