import Derived.Test.YtnokbhcennjanaaGreatDoorXAG
import Derived.Laws.AppendOwnNone
import Derived.Laws.Bits128
open Go.RowKit Go.Proofs.Tryz
set_option maxRecDepth 100000
set_option maxHeartbeats 16000000
namespace Go.Proofs.YtnokbhcennjanaaGreatDoor.Dr
theorem Fw: (prog.info? 247).map (λa=>(a.zero,a.size,a.bytes))=some (some (.agg #[ι 0,ι 0,ι 0,ι 0,ι 0]),5,40):=by kernel_rfl
theorem riseL_length(f:Nat)(l:List It)(i:Nat): (riseL f l i).length=l.length:=by
 induction f generalizing l i with
 | zero=>rfl
 | succ f a =>
  unfold riseL;split
  ·rfl
  split
  ·rw[a,Ce]
  rfl
theorem GE(f:Nat)(l:List It)(i:Nat): (sinkL f l i).length=l.length:=by
 induction f generalizing l i with
 | zero=>rfl
 | succ f a =>
  unfold sinkL;split
  ·rfl
  split
  ·rw[a,Ce]
  rfl
theorem bB.owns{w:World}{i:Nat}{c:Option Nat}{l:List It}(h:bB w i c l):
  ∃a,aD w i [Cn,AM c l.length a] 278/\w.ownsRow 0 247 5 (AM c l.length a) l.length (flat l):=by
 cases c with
 | none=>obtain⟨rfl,d⟩:=h;exact⟨0,d,iy _ _ _ _⟩
 | some g =>
  obtain⟨o,a,d,e⟩:=h;obtain⟨j,k,m,n⟩:=e.ex;exact⟨a,d,GJ l,.inr ⟨g,a,j.toArray,rfl,iT _,k,e.le,e.max,by simp[m],by simpa using n⟩⟩
theorem L8{w:World}{g n cap:Nat}{l:List It}(m:l.length=n)(d:w.ownsRow 0 247 5 (σ g n cap) n (flat l)): aP w g cap l:=by
 rcases d.2 with ⟨a,_⟩ | ⟨q,o,c,a,_,e,h,i,j,k⟩
 ·cases a
 cases a;subst m;exact⟨⟨c.toList,by unfold aD;simpa using e,by simpa using j,k⟩,h,i⟩
theorem MY{w h:World}{k B:Obj}{a gg n cap i:Nat}{e:Option Nat}{l:List It}{x:It}{v:Value}(E:l.length=n)(F:AM e n cap=v)(H:a<w.heap.size)(G:∀g,e=some g->g<w.heap.size/\a≠g)(z:aD w a [Cn,v] 278)(t:some a≠v.ownBlock)(r:h.ownsRow 0 247 5 (σ gg (n+1) i) (n+1) (flat l++[ι x.t,ι x.k,ι x.d,ι x.n,ι x.v]))(o:((w.alloc k).alloc B).drew.grownBy h v.ownBlock)(m:v.ownBlock=some gg\/gg=w.heap.size+2):
  QB (h.setCell ⟨a,1,none⟩ (σ gg (n+1) i)) a (σ gg (n+1) i) /\
  aP (h.setCell ⟨a,1,none⟩ (σ gg (n+1) i)) gg i (l++[x]) /\
  aA (λc=>c=a\/e=some c) w (h.setCell ⟨a,1,none⟩ (σ gg (n+1) i))/\a≠gg/\(e=some gg\/w.heap.size<=gg):=by
 have q:∀c,v.ownBlock=some c->e=some c:=by
  intro c j;rw[<-F]at j;cases e with
  | none=>simp[AM,Value.ownBlock]at j
  | some g=>simpa[AM,Value.ownBlock] using j
 have s:a≠gg:=by
  rcases m with d | d
  ·intro u;apply t;rw[d,u]
  omega
 have D:aA (λc=>c=a\/e=some c) w h:=(((aA.refl _ w).alloc k).alloc B).drew.grown o (λc j=>Or.inl (Or.inr (q c j)));have A:aD h a [Cn,v] 278:=by
  unfold aD;rw[o.block a (by simp;omega) t];exact(z.alloc k).alloc B
 refine⟨⟨A.setCell 1 _⟩,?_,D.setCell (Or.inl (Or.inl rfl)) _,s,?_⟩
 ·have C:flat l++[ι x.t,ι x.k,ι x.d,ι x.n,ι x.v]=flat (l++[x]):=by rw[Jg];rfl
  rw[C]at r;exact(L8 (by simp[E]) r).keeps (M:=λc=>c=a) ((aA.refl (λc=>c=a) _).setCell (Or.inl rfl) _) (λd=>s d.symm)
 rcases m with d | d
 ·exact .inl (q gg d)
 exact .inr (by omega)
theorem put_any(c:Nat)(j:Option Nat)(l:List It)(x:It)(w:World)(e:bB w c j l)(aq:l.length<=900):
  Calls prog 205 #[π c,x.val] w λF T=>F=.returned (.tuple #[])/\∃C,bB T c C (riseL (l.length+1) (l++[x]) l.length)/\aA (λo=>o=c\/j=some o) w T/\(C=j\/∃o,C=some o/\w.heap.size<=o):=by
 obtain⟨N,z⟩:=e.lt;obtain⟨E,r,aj⟩:=e.owns;have ak:=r.c1;have ae:=r.frozen 1;obtain⟨ap,ah,am,an,ao⟩:=jg Fw;generalize P:l.length=d at *
 generalize B:AM j d E=m at *
 unfold It.val;have V:Hid (aD w c [Cn,m] 278):=r;have aa:Hid (AM j d E=m):=B;have u:Hid (l.length=d):=P;have S:some c≠m.ownBlock:=by
  rw[<-B];cases j with
  | none=>simp[AM,Value.ownBlock]
  | some g=>simp[AM,Value.ownBlock];exact(z g rfl).2
 have D:Hid (∀i h k,((w.alloc i).alloc h).drew.grownBy k m.ownBlock->κ k c 1 m/\k.frozen? ⟨c,1,none⟩=false):=λi h k af=>by
  have L:k.heap[c]?=w.heap[c]?:=by
   rw[af.block c (by simp;omega) S];show((w.alloc i).alloc h).heap[c]?=_;rw[ju _ _ _ (by simp;omega),ju _ _ _ N]
  exact⟨(jB (a:=⟨c,1,none⟩) L).trans ak,(jM (a:=⟨c,1,none⟩) L).trans ae⟩
 have ai:Hid (∀i h,((w.alloc i).alloc h).drew.heap[w.heap.size+1]?=some h):=λi h=>by
  have:=iH (w.alloc i) h;rwa [jR]at this
 have Z:Hid (∀g,j=some g->g<w.heap.size/\c≠g):=z;clear r e B P z;go_enter func205,ntmps205;go_wp2_with fail
 go_region_law
  ((refine kF _ (by rfl) _ _ _ (by rfl) 0 247 ap _ 5 40 underlying254 ah am an ao rfl (by omega) m d (flat l) (by rfl) (((aj.alloc _).alloc _).drew)
        ⟨w.heap.size+1,0,none⟩ 1 1 [ι x.t,ι x.k,ι x.d,ι x.n,ι x.v] (by rfl) (by rfl) (iJ (cs:=#[ι x.t,ι x.k,ι x.d,ι x.n,ι x.v]) (t:=247) (fr:=(0,0)) (ai.out _ _)) (by simp[Value.oneCell'])
        (by omega) (by unfold maxLen;omega) (by omega) (by omega) (w.heap.size+2) (by simp) ?_;intro n q k R s J O;have ab:=(D.out _ _ _ s).1;have ad:=(D.out _ _ _ s).2))
 all_goals
  have W:=MY u.out aa.out N Z.out V.out S R s J;obtain⟨I,G,H,A,Q⟩:=W;have v:=Aa I;have X:=Aa G;have Y:=Aa H;clear I G H R s J O ab ad;generalize k.setCell ⟨c,1,none⟩ (σ n (d+1) q)=U at *
  have ar:κ U c 1 (σ n (d+1) q):=v.o.b.cell rfl;go_wp2_with fail
  refine(MD c n d q (d+1) U (l++[x]) (by simp[u.out]) (by omega) v.o X.o (by omega) A).mono ?_;rintro F av ⟨rfl,M,al⟩;go_wp2;go_end0;refine⟨rfl,some n,⟨A,q,?_,al⟩,Y.o.trans M (λau ag O=>?_),?_⟩
  ·have:(riseL (d+1) (l++[x]) d).length=d+1:=by rw[riseL_length];simp[u.out]
   rw[this];exact v.o.b.keeps M A
  ·subst ag;rcases Q with e | e
   ·exact .inr e
   omega
  rcases Q with e | e
  ·exact .inl e.symm
  exact .inr ⟨n,rfl,e⟩
end Go.Proofs.YtnokbhcennjanaaGreatDoor.Dr
namespace Go.Proofs.YtnokbhcennjanaaGreatDoor.Dr
theorem new_any(w:World):
  Calls prog 203 #[Cn] w λc a=>c=.returned (π w.heap.size)/\bB a w.heap.size none []/\lX w a/\a.heap.size=w.heap.size+1:=by
 unfold Cn;go_enter func203,ntmps203;go_wp2;go_ret;exact⟨rfl,⟨rfl,aD.new _ [_,_] _⟩,(aA.refl _ _).alloc _,by simp⟩
def takeL(l:List It): List It:=sinkL l.length ((l.set 0 (itAt l (l.length-1))).take (l.length-1)) 0
theorem aP.take{w:World}{g cap:Nat}{l:List It}(a:aP w g cap l)(m:Nat): aP w g cap (l.take m):=by
 obtain⟨c,d,h,i⟩:=a.ex;have e:∀(l:List It) (m:Nat),flat (l.take m)=(flat l).take (m*5):=by
  intro l;induction l with
  | nil=>intro m;simp[flat]
  | cons k l j =>
   intro m;cases m with
   | zero=>simp[flat]
   | succ m=>rw[show(m+1)*5=m*5+5 by omega];simp[flat,j]
 refine⟨⟨c,d,h,?_⟩,jN (List.length_take_le' _ _) a.le,a.max⟩;rw[e,<-i,kv];congr 1;simp
theorem take_any(e g:Nat)(l:List It)(w:World)(c:bB w e (some g) l)(N:l.length<=900)(ae:0<l.length):
  Calls prog 207 #[π e] w λH ao=>H=.returned (.tuple #[(itAt l 0).val,.bool true])/\bB ao e (some g) (takeL l)/\aA (λi=>i=e\/i=g) w ao:=by
 obtain⟨bt,af⟩:=c.lt;obtain⟨af,z⟩:=af g rfl;have P:=Aa c;clear c;have a5:(!l.isEmpty)=true:=by cases l with | nil=>simp at ae | cons=>rfl
 obtain⟨r,ag⟩:∃r,r=l.length:=⟨_,rfl⟩;have b0:0<r:=by omega
 have b1:r<=900:=by omega
 have q:=Aa ag;clear ag N ae;go_enter func207,ntmps207;go_wp2_with fail
 refine(J1 e (some g) l _ (P.o.keeps ((aA.refl (λ_=>False) _).alloc _) id (λ_ _ c=>c))).mono ?_;rintro H k ⟨rfl,J⟩;rw[a5];unfold It.val;have ad:aD k w.heap.size [ι 0,ι 0,ι 0,ι 0,ι 0] 247:=(aD.new w _ 247).keeps J id;have L:lX w k:=((aA.refl (λ_=>False) w).alloc _).then J;obtain⟨_,j,C,I⟩:=P.o.keeps L id (λ_ _ c=>c);rw[<-q.o]at C;have b3:e<k.heap.size:=C.lt;have b2:g<k.heap.size:=I.lt;have ba:e≠w.heap.size:=by omega
 have a7:g≠w.heap.size:=by omega
 have Q:=Aa ad;have V:=Aa L;have G:=Aa C;have T:=Aa I;clear J ad L C I;generalize ak:itAt l 0=a;have a1:=Aa ak;clear ak;obtain⟨d,a8⟩:∃d,r=d+1:=⟨r-1,by omega⟩;subst a8;have O:=G.o.c1;go_wp2_with fail
 have u:lX k (k.alloc (.cells #[ι a.t,ι a.k,ι a.d,ι a.n,ι a.v] 247)):=(aA.refl _ _).alloc _;have al:aD (k.alloc (.cells #[ι a.t,ι a.k,ι a.d,ι a.n,ι a.v] 247)) k.heap.size [ι a.t,ι a.k,ι a.d,ι a.n,ι a.v] 247:=aD.new _ _ _;generalize k.alloc (.cells #[ι a.t,ι a.k,ι a.d,ι a.n,ι a.v] 247)=n at *
 have aa:=Aa al;have Y:=Aa (Q.o.keeps u id);have B:=Aa (G.o.keeps u id);have o:=Aa (T.o.keeps u id);have U:=Aa (aA.then V.o u);clear u al Q G T V O;generalize bb:k.heap.size=aw at *
 generalize ai:w.heap.size=h at *
 have a0:=Aa ai;clear bb ai;have O:=B.o.c1;have a9:n.frozen? ⟨e,1,none⟩=false:=B.o.frozen 1;obtain⟨ap,aq,ar,au,av⟩:=o.o.cells 0 (by rw[<-q.o];omega);obtain⟨bc,bd,be,bf,bg⟩:=o.o.cells d (by rw[<-q.o];omega);simp only[k4,ja]at ap aq ar au av;have a6:=o.o.frozen;generalize an:itAt l d=y at *
 have a2:=Aa an;clear an;have bv:(0:Int)<=(d:Int):=by omega
 have bx:(d:Int)<(d:Int)+1:=by omega
 have a4:=o.o.le;rw[<-q.o]at a4;have bz:(d:Int)<=(j:Int):=by omega
 have R:=Aa (o.o.put 0 y);have X:=Aa ((B.o.keeps ((aA.refl (λi=>i=g) n).putTk (Or.inl rfl) 0 y) z).setCell 1 (σ g d j));have A:=Aa ((((aA.refl (λi=>i=e\/i=g) n).putTk (Or.inl (Or.inr rfl)) 0 y).setCell (p:=⟨e,1,none⟩) (Or.inl (Or.inl rfl)) (σ g d j)).drew);have S:=Aa ((R.o.keeps (M:=λi=>i=e) ((aA.refl (λi=>i=e) _).setCell (p:=⟨e,1,none⟩) (Or.inl rfl) (σ g d j)) (λc=>z c.symm)).drew);go_region
 go_wp2_with fail
 have ab:((((((n.setCell ⟨g,0,none⟩ (ι y.t)).setCell ⟨g,1,none⟩ (ι y.k)).setCell ⟨g,2,none⟩ (ι y.d)).setCell ⟨g,3,none⟩ (ι y.n)).setCell ⟨g,4,none⟩ (ι y.v)).setCell ⟨e,1,none⟩ (σ g d j)).drew=((bP n g 0 y).setCell ⟨e,1,none⟩ (σ g d j)).drew:=by
  unfold bP;rfl
 rw[ab];clear ab O a9 ap aq ar au av bc bd be bf bg a6;have F:Hid (QB ((bP n g 0 y).setCell ⟨e,1,none⟩ (σ g d j)).drew e (σ g d j)):=⟨X.o.drew⟩;have hlen:((l.set 0 y).take d).length=d:=by have:=q.o;simp;omega
 have W:=Aa hlen;have Z:=Aa (show takeL l=sinkL (d+1) ((l.set 0 y).take d) 0 by unfold takeL;rw[<-q.o,kZ,a2.o]);clear hlen R X;generalize((bP n g 0 y).setCell ⟨e,1,none⟩ (σ g d j)).drew=a3 at *
 refine(K9 e g 0 j d a3 ((l.set 0 y).take d) W.o (by omega) (by omega) F.o (S.o.take d) (by omega) z).mono ?_;rintro H D ⟨rfl,x,ah⟩;have aj:¬(h=e\/h=g):=by omega
 have am:¬(aw=e\/aw=g):=by omega
 have t:=Aa ((aa.o.keeps A.o am).keeps x (λc=>am (Or.inr c)));have m:=Aa ((Y.o.keeps A.o aj).keeps x (λc=>aj (Or.inr c)));have ax:=Aa (F.o.b.keeps x z);have ay:=Aa ah;have az:=Aa (((U.o.mono (M':=λi=>i=e\/i=g) (λ_ _ c=>c.elim)).then A.o).trans x (λ_ c _=>Or.inr c));clear x ah F S A U aa Y o B;have bh:=t.o.c0;have bi:=t.o.c1;have bj:=t.o.c2;have bk:=t.o.c3;have bl:=t.o.c4;have bm:=m.o.c0;have bn:=m.o.c1;have bo:=m.o.c2;have bp:=m.o.c3;have bq:=m.o.c4;have br:=m.o.frozen
 have E:=Aa (show aA (λi=>i=h) D (((((D.setCell ⟨h,0,none⟩ (ι a.t)).setCell ⟨h,1,none⟩ (ι a.k)).setCell ⟨h,2,none⟩ (ι a.d)).setCell ⟨h,3,none⟩ (ι a.n)).setCell ⟨h,4,none⟩ (ι a.v)) from
    (((((aA.refl (λi=>i=h) D).setCell (p:=⟨h,0,none⟩) (Or.inl rfl) _).setCell (p:=⟨h,1,none⟩) (Or.inl rfl) _).setCell (p:=⟨h,2,none⟩) (Or.inl rfl) _).setCell (p:=⟨h,3,none⟩) (Or.inl rfl) _).setCell (p:=⟨h,4,none⟩) (Or.inl rfl) _)
 have s:=Aa (((((m.o.setCell 0 (ι a.t)).setCell 1 (ι a.k)).setCell 2 (ι a.d)).setCell 3 (ι a.n)).setCell 4 (ι a.v));go_wp2;generalize(((((D.setCell ⟨h,0,none⟩ (ι a.t)).setCell ⟨h,1,none⟩ (ι a.k)).setCell ⟨h,2,none⟩ (ι a.d)).setCell ⟨h,3,none⟩ (ι a.n)).setCell ⟨h,4,none⟩ (ι a.v))=b5 at *
 have c0:=s.o.c0;have c1:=s.o.c1;have c2:=s.o.c2;have c3:=s.o.c3;have c4:=s.o.c4;refine iV (v:=.tuple #[.agg #[ι a.t,ι a.k,ι a.d,ι a.n,ι a.v],.bool true]) (by simp[results,results207,go_sem,c0,c1,c2,c3,c4]) rfl ⟨by rw[a1.o];rfl,⟨z,j,?_,?_⟩,?_⟩
 ·have N:(takeL l).length=d:=by rw[Z.o,GE];exact W.o
  rw[N];exact ax.o.keeps E.o (λc=>ba c)
 ·rw[Z.o];exact ay.o.keeps E.o (λc=>a7 c)
 exact az.o.trans E.o (λb4 bs bu=>by have:=a0.o;omega)
end Go.Proofs.YtnokbhcennjanaaGreatDoor.Dr
namespace Go.Proofs.YtnokbhcennjanaaGreatDoor
section
attribute [local go_sem ↓] AH Bs
attribute [local go_sem] AI Bt A3 A4 AJ AL Bd B2
def MH(c:Cfg)(q:Nat): List Value:=c.cells++[π q]
structure dN (w:World) (d q:Nat) (og:Option Nat) (c:Cfg) (l:List Dr.It):Prop where
 aF:aD w d (MH c q) 250
 dM:Dr.bB w q og l
 dq:d≠q
 dg:∀g,og=some g->d≠g
theorem dN.keeps{M:Nat->Prop}{w w':World}{d h:Nat}{e:Option Nat}{c:Cfg}{l:List Dr.It}(a:dN w d h e c l)(k:aA M w w')(i:¬M d)(m:¬M h)(j:∀g,e=some g->¬M g): dN w' d h e c l :=
 ⟨a.aF.keeps k i,a.dM.keeps k m j,a.dq,a.dg⟩
theorem dN.still{w w':World}{d h:Nat}{e:Option Nat}{c:Cfg}{l:List Dr.It}(a:dN w d h e c l)(k:lX w w'): dN w' d h e c l:=a.keeps k id id (λ_ _ a=>a)
theorem Iu{M:Nat->Prop}{w w':World}{b o n:Nat}(h:aA M w w')(i:b<w.heap.size)(e:¬M b): Ap w' b o n=Ap w b o n/\Az w' b o n=Az w b o n:=by
 have d:∀c,w'.cell? ⟨b,o+c,none⟩=w.cell? ⟨b,o+c,none⟩:=λc=>jB (a:=⟨b,o+c,none⟩) (h.block b i e);constructor
 ·unfold Ap C1;simp only[d]
 unfold Az;simp only[d]
theorem QD(a:Nat)(c:Option Nat)(l:List Dr.It)(n:Int)(w:World)(e:Dr.bB w a c l)(i:(l.length:Int)=n):
  Calls prog 206 #[π a] w λd j=>d=.returned (ι n)/\j=w :=
 (Dr.len_any a c l w e).mono λ_ _ ⟨h,hw⟩=>⟨by rw[h,i],hw⟩
def tick(c:Cfg)(y:It): Dr.It:=⟨y.t,y.k,y.d,y.n,As (Am c y.t)⟩
def AY(c:Cfg)(l:List Dr.It)(y:It): List Dr.It :=
 if c.size+1<((l.length+1:Nat):Int) then Dr.takeL (Dr.riseL (l.length+1) (l++[tick c y]) l.length) else Dr.riseL (l.length+1) (l++[tick c y]) l.length
theorem N3(e h:Nat)(o:Option Nat)(c:Cfg)(l:List Dr.It)(y:It)(m:Int)(w:World)(a:dN w e h o c l)(Z:c.bI)(bq:0<=y.t)(bc:y.t<=4611686018427387904)(bo:1<=c.size)(bp:c.size<=5)(bk:l.length<=6):
  Calls prog 159 #[π e,y.val,ι m] w λL j=>L=.returned (.tuple #[])/\∃aa,dN j e h aa c (AY c l y)/\aA (λd=>d=h\/o=some d) w j/\(aa=o\/∃d,aa=some d/\w.heap.size<=d):=by
 obtain⟨k,N⟩:∃k,k=w.alloc (.cells y.cells 80):=⟨_,rfl⟩;have G:=Aa (show lX w k by rw[N];exact(aA.refl _ _).alloc _);have D:aD k w.heap.size [ι y.t,ι y.k,ι y.d,ι y.n] 80:=by rw[N];exact aD.new w _ _
 have aw:=Aa N;have v:=Aa (a.still G.o);clear N;obtain⟨bl,ak⟩:=a.dM.lt
 have J:=Aa (show ¬(w.heap.size=h\/o=some w.heap.size) from λa=>by
    rcases a with a | a
    ·omega
    have:=(ak _ a).1;omega)
 have z:=Aa (show ¬(e=h\/o=some e) from λA=>by
    rcases A with A | A
    ·exact a.dq A
    exact a.dg e A rfl)
 have O:=v.o.aF;have a0:κ k e 20 (π h):=O.cell rfl;have bd:=D.c0;have be:=D.c1;have bf:=D.c2;have bg:=D.c3;obtain⟨a9,a6⟩:=El O 0 20 c.cells rfl rfl;have C:=O.lt;have ap:=Aa Z;have au:=Aa G.o.size;have av:=Aa a.aF;clear O a D Z ak;obtain⟨u,S⟩:∃u,u=tick c y:=⟨_,rfl⟩;have ax:=Aa S;have an:As (Am c y.t)=u.v:=by rw[S];rfl
 have az:=Aa an;have ay:=Aa (show Dr.It.val u=.agg #[ι y.t,ι y.k,ι y.d,ι y.n,ι u.v] by rw[S];rfl);clear S an;unfold It.val;go_enter func159,ntmps159;go_wp2_with fail
 rw[show w.alloc (.cells #[ι y.t,ι y.k,ι y.d,ι y.n] 80)=k from aw.o.symm];generalize ao:w.heap.size=T at *
 have ah:=Aa ao;clear ao;go_region_held3 (λj=>j.cell? ⟨e,20,none⟩=some (π h)/\Ap j e 0 20=.agg c.cells.toArray/\Az j e 0 20=true/\j.cell? ⟨T,0,none⟩=some (ι y.t)/\j.cell? ⟨T,1,none⟩=some (ι y.k)/\j.cell? ⟨T,2,none⟩=some (ι y.d)/\j.cell? ⟨T,3,none⟩=some (ι y.n))
  (first | (go_split_ands;exact⟨by assumption,by assumption,by assumption,by assumption,by assumption,by assumption,by assumption⟩) | (go_split_ands;exact⟨n.cell (by assumption) z.o,(Iu n (by have B:=i.size;have Y:k.heap.size<=X.heap.size:=(by simpa using B);omega) z.o).1.trans (by assumption),(Iu n (by have B:=i.size;have Y:k.heap.size<=X.heap.size:=(by simpa using B);omega) z.o).2.trans (by assumption),n.cell (by assumption) J.o,n.cell (by assumption) J.o,n.cell (by assumption) J.o,n.cell (by assumption) J.o⟩) | (go_split_ands;exact⟨i.cell (by assumption) id,(Iu i (by first | exact C | simpa using C) id).1.trans (by assumption),(Iu i (by first | exact C | simpa using C) id).2.trans (by assumption),i.cell (by assumption) id,i.cell (by assumption) id,i.cell (by assumption) id,i.cell (by assumption) id⟩))
  (first | (go_at_call 202;refine(L5 c y.t _ ap.o (by omega) bc).mono ?_;rintro L X ⟨rfl,i⟩;rw[az.o]) | (go_at_call 205;rw[<-ay.o];refine(Dr.put_any h o l u _ (by exact v.o.dM.keeps (M:=λ_=>False) (((aA.refl _ _).drew).then i) id (λ_ _ a=>a)) (by omega)).mono ?_;rintro L s ⟨rfl,ab,R,n,al⟩))
 have ae:=Aa ((((aA.refl (λ_=>False) k).drew).then i));have W:=Aa ((ae.o.mono (M':=λd=>d=h\/o=some d) (λ_ _ a=>a.elim)).then n);have F:=Aa (v.o.aF.keeps W.o z.o);have bi:κ s e 10 (ι c.size):=F.o.cell rfl;have a1:κ s e 20 (π h):=F.o.cell rfl;have ar:=Aa ae.o.size;obtain⟨q,Q⟩:∃q,q=Dr.riseL (l.length+1) (l++[u]) l.length:=⟨_,rfl⟩;rw[<-Q]at R;have hlen:q.length=l.length+1:=by rw[Q,Dr.riseL_length];simp
 have ag:=Aa (show AY c l y=if c.size+1<((l.length+1:Nat):Int) then Dr.takeL q else q by unfold AY;rw[Q,ax.o]);have H:=Aa hlen
 have V:=Aa (show ∀d,ab=some d->o=some d\/w.heap.size<=d from λd P=>by
    rcases al with a | ⟨bb,a,a7⟩
    ·exact .inl (by rw[<-a];exact P)
    rw[a]at P;injection P with P;have x:=ar.o;have B:=au.o;have Y:=ah.o
    have a3:X.heap.size<=bb:=a7
    exact .inr (by omega))
 obtain⟨g,a5⟩:∃g,ab=some g:=by
  cases ab with
  | none=>have:=R.1;rw[this]at hlen;simp at hlen
  | some g=>exact⟨g,rfl⟩
 subst a5;have I:=Aa R
 have af:=Aa (show some g=o\/∃d,some g=some d/\w.heap.size<=d from by
    rcases V.o g rfl with a | a
    ·exact .inl a.symm
    exact .inr ⟨g,rfl,a⟩)
 have U:=Aa (show e≠g from λa=>by
    rcases V.o g rfl with x | x
    ·exact z.o (.inr (by rw[a];exact x))
    have B:=C;have Y:=ah.o
    have a3:=av.o.lt
    omega)
 clear R Q al i n a0 bd be bf bg a9 a6 hlen;generalize a8:l.length=E at *
 clear a8;have bn:IntKind.i64.wrap (c.size+1)=c.size+1:=by rw[il];omega
 by_cases Z:c.size+1<(E:Int)+1
 ·have a4:decide (c.size+1<(E:Int)+1)=true:=by simp;omega
  go_wp2_with fail
  go_quiet (first | (go_at_call 206;refine jA (QD h (some g) q ((E:Int)+1) _ (by exact I.o.keeps (M:=λ_=>False) (aA.drewN _ _ _) id (λ_ _ a=>a)) (by have:=H.o;omega))))
  have bj:κ (s.drewN nq) e 20 (π h):=a1;have r:=Aa (aA.drewN (λ_=>False) s nq);generalize s.drewN nq=ai at *
  go_wp2_with fail
  refine(Dr.take_any h g q ai (I.o.keeps r.o id (λ_ _ a=>a)) (by have:=H.o;omega) (by have:=H.o;omega)).mono ?_;rintro L bh ⟨rfl,am,aj⟩;have aq:=Aa am;have ad:=Aa aj;clear am aj;go_wp2;go_end0;refine⟨rfl,some g,⟨?_,?_,v.o.dq,λa2 a=>by injection a with a;rw[<-a];exact U.o⟩,?_,af.o⟩
  ·exact(F.o.keeps r.o id).keeps ad.o (λa=>a.elim v.o.dq (λa=>U.o a))
  ·rw[ag.o,ij (by omega)];exact aq.o
  exact((G.o.mono (λ_ _ a=>a.elim)).then W.o).trans ((r.o.mono (λ_ _ a=>a.elim)).then ad.o) (λba t bm=>by
     rcases t with t | t
     ·exact .inl t
     rcases V.o g rfl with x | x
     ·exact .inr (by rw[t];exact x)
     omega)
 have a4:decide (c.size+1<(E:Int)+1)=false:=by simp;omega
 go_wp2_with fail
 go_quiet (first | (go_at_call 206;refine jA (QD h (some g) q ((E:Int)+1) _ (by exact I.o.keeps (M:=λ_=>False) (aA.drewN _ _ _) id (λ_ _ a=>a)) (by have:=H.o;omega))))
 have r:=Aa (aA.drewN (λ_=>False) s nq);generalize s.drewN nq=ai at *
 go_wp2;go_end0;refine⟨rfl,some g,⟨?_,?_,v.o.dq,λa2 a=>by injection a with a;rw[<-a];exact U.o⟩,?_,af.o⟩
 ·exact F.o.keeps r.o id
 ·rw[ag.o,ig (by omega)];exact I.o.keeps r.o id (λ_ _ a=>a)
 exact((G.o.mono (λ_ _ a=>a.elim)).then W.o).trans r.o (λba t=>t.elim)
end
section
theorem H8(ρ:Operand->Value)(dst:Option Tmp)(x:Operand)(a:TypeId)(pos:String)(after:Array Edge)(guard:Option (Nat×Bool)):
  execOp ρ { dst,op:=.load 228 x,type:=a,pos,after,guard }=EW 228 (ρ x):=rfl
theorem Ns: (prog.info? 228).map (·.size)=some 48:=by kernel_rfl
theorem Im(w:World)(b o:Nat)(a:Az w b o 48=true): (EW 228 (.pointer (some ⟨b,o,none⟩))).run prog w=.ok (.value (Ap w b o 48)) w:=by
 unfold EW;rw[jq,run_loadAt_mid w b o 228 (C1 w b o 48) _ (JY a) underlying228 rfl (by rw[Ns];simp[C1])];rfl
def Ay: List Int:=List.replicate 48 0
theorem Em: Ay.length=48:=by simp[Ay]
def Cy(n:Int): Pa.Pn:=⟨n,Ay,Em⟩
def Hc(ty:TypeId)(ps:Array (Nat×Value)): Sem Next:=do pure (.value (<-Instr.build ty ps))
theorem H5(ρ:Operand->Value)(dst:Option Tmp)(x:Array (Nat×Operand))(c:TypeId)(pos:String)(after:Array Edge)(guard:Option (Nat×Bool)):
  execOp ρ { dst,op:=.build 228 x,type:=c,pos,after,guard }=Hc 228 (x.map λ(a,y)=>(a,ρ y)):=rfl
theorem H6(ρ:Operand->Value)(dst:Option Tmp)(x:Array (Nat×Operand))(c:TypeId)(pos:String)(after:Array Edge)(guard:Option (Nat×Bool)):
  execOp ρ { dst,op:=.build 230 x,type:=c,pos,after,guard }=Hc 230 (x.map λ(a,y)=>(a,ρ y)):=rfl
theorem Ii(w:World): (Hc 228 #[]).run prog w=.ok (.value (.agg (Af Ay).toArray)) w:=by kernel_rfl
theorem Ib(n:Int)(w:World): (Hc 230 #[(0,ι n)]).run prog w=.ok (.value (.agg (Cy n).cells.toArray)) w:=by kernel_rfl
theorem Ki(n:Int)(a:Nat)(w:World)(c:w.there a 20 49): (Pa.storeP 230 (.pointer (some ⟨a,20,none⟩)) (.agg (Cy n).cells.toArray)).run prog w=.ok .skip (w.setCells a 20 (Cy n).cells) :=
 Pa.run_storeP w a 20 (Cy n).cells (Cy n).aE c (Cy n).one
attribute [local go_sem ↓] Pa.execOp_loadP Pa.execOp_storeP H8 H5 H6
attribute [local go_sem] Pa.run_loadP Im Ii Ib Ki zMh Em A3 A4
def A8(o:Pa.Pn)(cl:List Pa.Pn)(n:Int): Pa.Pn×List Pa.Pn:=if o.no=n then(o,cl) else(Cy n,if o.cs=Ay then cl else cl++[o])
theorem M5{w:World}{a e:Nat}{c:Cfg}{o:Pa.Pn}(d:aD w a (Bm c o e) 233): w.there a 20 49:=λi h =>
 ⟨d.some (by simp[Bm,Cfg.cells,o.aE];omega),d.frozen _⟩
theorem Jn{w:World}{a h:Nat}{c:Cfg}{o:Pa.Pn}(i:aD w a (Bm c o h) 233): w.rangeAt a 20 o.cells:=λe k d=>by
 have j:e<49:=by have:=(iq.1 d).1;rwa [o.aE]at this
 exact i.cell ((J5 c o h e j).trans d)
theorem VJ{w:World}{d h:Nat}{c:Cfg}{o:Pa.Pn}(i:aD w d (Bm c o h) 233): w.rangeAt d 21 (Af o.cs):=λa k e=>by
 have j:a<48:=by have:=(iq.1 e).1;simpa[Af,o.len] using this
 rw[show 21+a=20+(a+1) by omega];refine i.cell ((J5 c o h (a+1) (by omega)).trans ?_);simpa[Pa.Pn.cells,Af] using e
theorem QN{w:World}{d a:Nat}{c:Cfg}{o:Pa.Pn}(p:Pa.Pn)(j:aD w d (Bm c o a) 233): aD (w.setCells d 20 p.cells) d (Bm c p a) 233:=by
 have:=aD.setCells p.cells 20 _ _ j (by simp[Bm,Cfg.cells,p.aE,o.aE]);have e:over (Bm c o a) 20 p.cells=Bm c p a:=by
  unfold over Bm;have k:c.cells.length=20:=by simp[Cfg.cells]
  rw[je (by omega),iw (by omega),List.drop_append,List.drop_append];have h:List.drop 69 c.cells=[]:=iX (by omega);have i:List.drop 49 o.cells=[]:=iX (by rw[o.aE];omega);simp[k,p.aE,o.aE,h,i]
 rw[e]at this;exact this
theorem PF(p:Pa.Pn)(w:World):
  Calls prog 222 #[p.val] w λa c=>a=.returned (.bool (decide (p.cs=Ay)))/\lX w c:=by
 have h:=p.len;have d:=p.aE;have i:Ap (w.alloc (.cells p.cells.toArray 230)) w.heap.size 1 48=.agg (Af p.cs).toArray:=by
  rw[Up _ _ _ _ _ (by omega)];have:(p.cells.drop 1).take 48=Af p.cs:=by
   unfold Pa.Pn.cells;simp only[kD,kJ];exact iw (by simp[p.len])
  rw[this]
 have e:Az (w.alloc (.cells p.cells.toArray 230)) w.heap.size 1 48=true:=UM _ _ _ _ _ (by omega);unfold Pa.Pn.val;go_enter func222,ntmps222;go_wp2;go_ret;exact⟨rfl,(aA.refl _ _).alloc _⟩
theorem QI(a h:Nat)(k:Option Nat)(c:Cfg)(o:Pa.Pn)(cl:List Pa.Pn)(n:Int)(w:World)(l:aD w a (Bm c o h) 233)(W:Pa.aH w a h k cl)(C:a≠h)(U:∀g,k=some g->a≠g)(af:cl.length<=1000000000):
  Calls prog 192 #[π a,ι n] w λj q=>j=.returned (.tuple #[])/\∃u,aD q a (Bm c (A8 o cl n).1 h) 233/\Pa.aH q a h u (A8 o cl n).2/\aA (λe=>e=a\/e=h\/k=some e) w q/\(u=k\/∃e,u=some e/\w.heap.size<=e):=by
 have ab:κ w a 20 (ι o.no):=l.cell ((J5 c o h 0 (by omega)).trans rfl);have T:κ w a 69 (π h):=l.cell (JA c o h);have L:=M5 l;have i:=D4 (Jn l);have X:=D4 (VJ l);rw[o.aE]at i;rw[show(Af o.cs).length=48 by simp[Af,o.len]]at X;have F:Ap w a 20 49=o.val:=by unfold Ap Pa.Pn.val;rw[i.1]
 have D:=i.2;have N:=Aa l;have R:=Aa W;have B:=Aa U;clear l W i X U;by_cases J:o.no=n
 ·have m:A8 o cl n=(o,cl):=by unfold A8;rw[ij J]
  rw[m];clear L F D;go_enter func192,ntmps192;go_wp2;refine iV (kB rfl _ _ _) rfl ?_;exact⟨rfl,k,N.o,R.o,aA.refl _ _,.inl rfl⟩
 have P:=Aa (PF o w);clear T L;unfold Pa.Pn.val at *
 go_enter func192,ntmps192;go_wp2_with fail
 refine P.o.mono ?_;rintro j A ⟨rfl,z⟩;have r:=Aa (N.o.keeps z id);have S:=Aa (R.o.still z);have Q:=Aa z;have E:=r.o.lt;have aa:=Aa z.size;clear z F D ab P;have T:κ A a 69 (π h):=r.o.cell (JA c o h);have L:=M5 r.o;have i:=D4 (Jn r.o);rw[o.aE]at i;have F:Ap A a 20 49=.agg o.cells.toArray:=by unfold Ap;rw[i.1]
 have D:=i.2;clear i;by_cases t:o.cs=Ay
 ·have m:A8 o cl n=(Cy n,cl):=by unfold A8;rw[ig J,ij t]
  have H:=Aa m;have v:decide (o.cs=Ay)=true:=by simpa using t
  rw[v];clear F D v t m;go_wp2;go_end0;rw[H.o];refine⟨rfl,k,QN _ r.o,S.o.keeps (M:=λe=>e=a) (aA.setCells (M:=λe=>e=a) (Or.inl rfl) _ _ _ (aA.refl _ _)) (λd=>C d.symm) (λg x d=>B.o g x d.symm),aA.setCells (Or.inl (Or.inl rfl)) _ _ _ (Q.o.mono (λ_ _ d=>d.elim)),.inl rfl⟩
 have m:A8 o cl n=(Cy n,cl++[o]):=by unfold A8;rw[ig J,ig t]
 have H:=Aa m;have v:decide (o.cs=Ay)=false:=by simpa using t
 rw[v];clear t v m;go_wp2_with fail
 have G:=Aa (show ¬(a=h\/k=some a) by rintro (d | d);exact C d;exact B.o a d rfl);go_region_held3 (λq=>q.cell? ⟨a,69,none⟩=some (π h)/\Ap q a 20 49=.agg o.cells.toArray/\Az q a 20 49=true)
  (first | (go_split_ands;exact⟨by assumption,by assumption,by assumption⟩) | (go_split_ands;exact⟨s.cell (by assumption) G.o,(Iu s (by first | exact E | simpa using E) G.o).1.trans (by assumption),(Iu s (by first | exact E | simpa using E) G.o).2.trans (by assumption)⟩))
  (first | (go_at_call 223;refine(Pa.rowPut_any a h k cl o _ (by exact S.o.still (aA.refl _ _).drew) af).mono ?_;rintro j ai ⟨rfl,u,i,s,V⟩))
 have O:=Aa ((r.o.keeps ((aA.refl (λ_=>False) A).drew) id).keeps s (by rintro (d | d);exact C d;exact B.o a d rfl));have ah:=M5 O.o;have Y:=Aa s;have Z:=Aa i;clear i s;go_wp2;go_end0;have ag:=aa.o;have ad:∀g,u=some g->g≠a:=λg x d=>by
  rcases V with j | ⟨e,j,I⟩
  ·exact B.o g (j ▸ x) d.symm
  rw[j]at x;cases x;have ae:A.heap.size<=g:=I;omega
 rw[H.o];refine⟨rfl,u,QN _ O.o,Z.o.keeps (M:=λe=>e=a) (aA.setCells (M:=λe=>e=a) (Or.inl rfl) _ _ _ (aA.refl _ _)) (λd=>C d.symm) ad,aA.setCells (Or.inl (Or.inl rfl)) _ _ _ ((((Q.o.mono (M':=λe=>e=a\/e=h\/k=some e) (λ_ _ d=>d.elim)).drew).then (Y.o.mono (λe _ d=>Or.inr d)))),?_⟩;rcases V with j | ⟨e,j,I⟩
 ·exact .inl j
 exact .inr ⟨e,j,by have ae:A.heap.size<=e:=I;omega⟩
end
section
def De(c:Cfg)(j:Nat): Int:=match j with | 0=>c.bV | 1=>c.cI | _=>c.cS
def Df(c:Cfg)(j:Nat): Int:=match j with | 0=>c.bW | 1=>c.cJ | _=>c.cT
def AA(c:Cfg)(key:Int)(j:Nat): Int:=AG (De c j) (Df c j) key%c.width
structure Cfg.rowed (c:Cfg):Prop where
 r0:1<=c.rows
 r1:c.rows<=3
 w0:1<=c.width
 w1:c.width<=16
 sd:∀j:Nat,(j:Int)<c.rows->0<=De c j/\De c j<2305843009213693951/\0<=Df c j/\Df c j<2305843009213693951
theorem Ij(c:Cfg)(a:c.rowed)(key:Int)(j:Nat): 0<=AA c key j/\AA c key j<16:=by
 unfold AA;have e:=a.w0;have h:=a.w1
 have d:=ki (AG (De c j) (Df c j) key) (show c.width≠0 by omega);have b:=j6 (AG (De c j) (Df c j) key) (show 0<c.width by omega);omega
theorem zPt(a b c d:Int)(w:World): (Op.equalIn 10000 43 (.agg #[ι a,ι b]) (.agg #[ι c,ι d])).run prog w=.ok (a==c&&b==d) w:=by
 have u3:=underlying3;have i:=isAgg3;have j:=sizeOf3;rw[show(10000:Nat)=9999+1 from rfl,Op.equalIn];simp only[jq,jL underlying43,jy];simp only[km,Std.Legacy.Range.size,lV,kZ,lN,kU,List.range'_zero,List.forIn_cons,List.forIn_nil];go_simp
 by_cases e:a=c <;> by_cases h:b=d <;> simp[e,h]
attribute [local go_sem] zPt
theorem Pe(j:Nat)(c:Cfg)(o:Pa.Pn)(D:Nat)(key:Int)(w:World)(A:aD w j (Bm c o D) 233)(X:c.rowed)(au:0<=key)(av:key<=2147483648):
  Calls prog 196 #[π j,ι key] w λab t=>∃e h l,ab=.returned (.agg #[ι e,ι h,ι l])/\(e=AA c key 0/\(1<c.rows->h=AA c key 1)/\(2<c.rows->l=AA c key 2))/\lX w t:=by
 have c7:κ w j 7 (ι c.rows):=A.cell (Ch c o D 7 (by omega));have bd:κ w j 14 (ι c.bV):=A.cell (Ch c o D 14 (by omega));have be:κ w j 15 (ι c.bW):=A.cell (Ch c o D 15 (by omega));have bf:κ w j 16 (ι c.cI):=A.cell (Ch c o D 16 (by omega));have bg:κ w j 17 (ι c.cJ):=A.cell (Ch c o D 17 (by omega));have bh:κ w j 18 (ι c.cS):=A.cell (Ch c o D 18 (by omega));have bi:κ w j 19 (ι c.cT):=A.cell (Ch c o D 19 (by omega));have ar:=A.lt;have b1:j≠w.heap.size+1:=by omega
 have b3:j<w.heap.size+1:=by omega
 have b4:j<w.heap.size+1+1:=by omega
 have a5:=Aa A;have ak:=Aa X;obtain⟨F,aq⟩:∃F:Nat,c.rows=(F:Int):=⟨c.rows.toNat,by have:=X.r0;omega⟩;have b0:F<=3:=by have:=X.r1;omega
 have bz:1<=F:=by have:=X.r0;omega
 rw[aq]at c7;have an:=Aa aq;clear A X aq;go_enter func196,ntmps196;go_wp2_with fail
 obtain⟨u,O⟩:∃u,u=(((w.alloc (.cells #[ι 0,ι 0,ι 0] 236)).alloc (.cells #[ι 0,ι 0,ι 0] 236)).alloc (.cells #[ι c.bV,ι c.bW,ι c.cI,ι c.cJ,ι c.cS,ι c.cT] 44)):=⟨_,rfl⟩;have ba:=Aa (show aD u w.heap.size [ι 0,ι 0,ι 0] 236 by rw[O];exact((aD.new w _ _).alloc _).alloc _);have a4:=Aa (show aD u (w.heap.size+1) [ι 0,ι 0,ι 0] 236 by rw[O];exact(aD.newAt (by simp) _ _).alloc _);have bb:=Aa (show aD u (w.heap.size+1+1) [ι c.bV,ι c.bW,ι c.cI,ι c.cJ,ι c.cS,ι c.cT] 44 by rw[O];exact aD.newAt (by simp) _ _);have aw:=Aa (show lX w u by rw[O];exact(((aA.refl _ _).alloc _).alloc _).alloc _);rw[<-O];clear O bd be bf bg bh bi;generalize b5:w.heap.size=a at *
 have s:=Aa (λbv bn=>ak.o.sd bv bn);rw[an.o]at s;have bc:=Aa (show 1<=c.width/\c.width<=16 from⟨ak.o.w0,ak.o.w1⟩);have a6:=Aa (a5.o.keeps aw.o id);go_loopw [18] (λk wr=>∃(z:Nat) (e h l:Int),k=ι z/\z<=F/\Hid (aD wr (a+1) [ι e,ι h,ι l] 236)/\Hid (aA (λk=>k=a+1) u wr)/\Hid ((0<z->e=AA c key 0)/\(1<z->h=AA c key 1)/\(2<z->l=AA c key 2))) (λk _=>F-(intOf k).toNat)
 case atStart=>exact⟨0,0,0,0,rfl,iT _,a4,aA.refl _ _,⟨λd=>by omega,λd=>by omega,λd=>by omega⟩⟩
 case round =>
  obtain⟨z,e,h,l,rfl,b2,E,B,x⟩:=hrel;have a7:=Aa (a6.o.keeps B.o (by omega));have L:=Aa (bb.o.keeps B.o (by omega));have T:=Aa (ba.o.keeps B.o (by omega));have N:κ wr j 8 (ι c.width):=a7.o.cell (Ch c o D 8 (by omega));have ae:=L.o.c0;have af:=L.o.c1;have ag:=L.o.c2;have ah:=L.o.c3;have ai:=L.o.c4;have aj:=L.o.c5;have V:=E.o.c0;have M:=E.o.c1;have W:=E.o.c2;have b6:¬c.width=0:=by have:=bc.o;omega
  by_cases ar:z<F
  ·have J:z=0\/z=1\/z=2:=by omega
   rcases J with J | J | J
   ·subst J;go_wp2_with fail
    go_quiet (fail)
    have a1:κ (wr.drewN nq) j 8 (ι c.width):=N;have a2:κ (wr.drewN nq) (a+1+1) 0 (ι c.bV):=ae;have a3:κ (wr.drewN nq) (a+1+1) 1 (ι c.bW):=af;have ad:κ (wr.drewN nq) (a+1) 0 (ι e):=V;have r:=Aa (show aD (wr.drewN nq) (a+1) [ι e,ι h,ι l] 236 from E.o);have C:=Aa (show aA (λk=>k=a+1) u (wr.drewN nq) from B.o.then (aA.drewN _ _ _));generalize wr.drewN nq=I at *
    clear N ae af ag ah ai aj V M W;have Q:=Aa (λU=>K8 c.bV c.bW key U (s.o 0 (by omega)).1 (s.o 0 (by omega)).2.1 (s.o 0 (by omega)).2.2.1 (s.o 0 (by omega)).2.2.2 au av);have aa:=GO c.bV c.bW key;have S:=Aa (show AG c.bV c.bW key%c.width=AA c key 0 from rfl);generalize AG c.bV c.bW key=q at *
    have Z:=aa.1;have a0:q.tmod c.width=q%c.width:=jY Z;have Y:a+1≠j:=by omega
    have H:a+1≠a+1+1:=by omega
    go_wp2_with fail
    go_region_held3 (λt=>t.cell? ⟨a+1+1,0,none⟩=some (ι c.bV)/\t.cell? ⟨a+1+1,1,none⟩=some (ι c.bW)/\t.cell? ⟨j,8,none⟩=some (ι c.width)) (first | (go_split_ands;exact⟨by assumption,by assumption,by assumption⟩) | (go_split_ands;exact⟨m.cell (by assumption) id,m.cell (by assumption) id,m.cell (by assumption) id⟩) | (go_split_ands;exact⟨(jW _ _ _ _ H).trans (by assumption),(jW _ _ _ _ H).trans (by assumption),(jW _ _ _ _ Y).trans (by assumption)⟩)) (first | (go_at_call 121;refine(Q.o _).mono ?_;rintro ab ax ⟨rfl,m⟩;have G:=(r.o.drew.keeps m id);have ay:=G.cell (i:=0) rfl;have az:=G.frozen))
    have P:=Aa ((r.o.keeps (((aA.refl (λ_=>False) I).drew).then m) id).setCell 0 (ι (q%c.width)));have R:=Aa (((C.o.drew.trans m (λ_ d=>d.elim))).setCell (p:=⟨a+1,0,none⟩) (Or.inl rfl) (ι (q%c.width)));go_wp2;refine⟨⟨0+1,q%c.width,h,l,by go_num,by omega,P,R,?_⟩,by simp[intOf];omega⟩;exact⟨λ_=>S.o,λd=>by omega,λd=>by omega⟩
   ·subst J;rw[show(((1:Nat)):Int)=1 from rfl];have bt:IntKind.i64.wrap 0=0:=by decide +kernel
    have bu:IntKind.i64.wrap 1=1:=by decide +kernel
    by_cases n:c.cI=c.bV/\c.cJ=c.bW
    ·have bp:(c.cI==c.bV)=true:=by simp[n.1]
     have bq:(c.cJ==c.bW)=true:=by simp[n.2]
     have al:=Aa (show AA c key 1=AA c key 0 by unfold AA;show AG c.cI c.cJ key%c.width=AG c.bV c.bW key%c.width;rw[n.1,n.2]);clear n;go_wp2_with fail
     go_quiet (fail)
     have ad:κ (wr.drewN nq) (a+1) 1 (ι h):=M;have bx:κ (wr.drewN nq) (a+1) 0 (ι e):=V;have r:=Aa (show aD (wr.drewN nq) (a+1) [ι e,ι h,ι l] 236 from E.o);have C:=Aa (show aA (λk=>k=a+1) u (wr.drewN nq) from B.o.then (aA.drewN _ _ _));generalize wr.drewN nq=I at *
     have bs:=r.o.frozen;go_wp2;refine⟨⟨1+1,e,e,l,by go_num,by omega,r.o.setCell 1 _,C.o.setCell (p:=⟨a+1,1,none⟩) (Or.inl rfl) _,?_⟩,by simp[intOf];omega⟩;exact⟨λ_=>x.o.1 (by omega),λ_=>al.o.trans (x.o.1 (by omega)).symm |>.symm,λd=>by omega⟩
    have br:(c.cI==c.bV&&c.cJ==c.bW)=false:=by simp;intro ao ap;exact n ⟨ao,ap⟩
    have a9:=Aa n;clear n;go_wp2_with fail
    go_quiet (fail)
    have a1:κ (wr.drewN nq) j 8 (ι c.width):=N;have a2:κ (wr.drewN nq) (a+1+1) 2 (ι c.cI):=ag;have a3:κ (wr.drewN nq) (a+1+1) 3 (ι c.cJ):=ah;have ad:κ (wr.drewN nq) (a+1) 1 (ι h):=M;have r:=Aa (show aD (wr.drewN nq) (a+1) [ι e,ι h,ι l] 236 from E.o);have C:=Aa (show aA (λk=>k=a+1) u (wr.drewN nq) from B.o.then (aA.drewN _ _ _));generalize wr.drewN nq=I at *
    clear N ae af ag ah ai aj V M W;have Q:=Aa (λU=>K8 c.cI c.cJ key U (s.o 1 (by omega)).1 (s.o 1 (by omega)).2.1 (s.o 1 (by omega)).2.2.1 (s.o 1 (by omega)).2.2.2 au av);have aa:=GO c.cI c.cJ key;have S:=Aa (show AG c.cI c.cJ key%c.width=AA c key 1 from rfl);generalize AG c.cI c.cJ key=q at *
    have Z:=aa.1;have a0:q.tmod c.width=q%c.width:=jY Z;have Y:a+1≠j:=by omega
    have H:a+1≠a+1+1:=by omega
    go_wp2_with fail
    go_region_held3 (λt=>t.cell? ⟨a+1+1,2,none⟩=some (ι c.cI)/\t.cell? ⟨a+1+1,3,none⟩=some (ι c.cJ)/\t.cell? ⟨j,8,none⟩=some (ι c.width)) (first | (go_split_ands;exact⟨by assumption,by assumption,by assumption⟩) | (go_split_ands;exact⟨m.cell (by assumption) id,m.cell (by assumption) id,m.cell (by assumption) id⟩) | (go_split_ands;exact⟨(jW _ _ _ _ H).trans (by assumption),(jW _ _ _ _ H).trans (by assumption),(jW _ _ _ _ Y).trans (by assumption)⟩)) (first | (go_at_call 121;refine(Q.o _).mono ?_;rintro ab ax ⟨rfl,m⟩;have G:=(r.o.drew.keeps m id);have ay:=G.cell (i:=1) rfl;have az:=G.frozen))
    have P:=Aa ((r.o.keeps (((aA.refl (λ_=>False) I).drew).then m) id).setCell 1 (ι (q%c.width)));have R:=Aa (((C.o.drew.trans m (λ_ d=>d.elim))).setCell (p:=⟨a+1,1,none⟩) (Or.inl rfl) (ι (q%c.width)));go_wp2;refine⟨⟨1+1,e,q%c.width,l,by go_num,by omega,P,R,?_⟩,by simp[intOf];omega⟩;exact⟨λ_=>x.o.1 (by omega),λ_=>S.o,λd=>by omega⟩
   subst J;rw[show(((2:Nat)):Int)=2 from rfl];have bt:IntKind.i64.wrap 0=0:=by decide +kernel
   have bu:IntKind.i64.wrap 1=1:=by decide +kernel
   by_cases n:c.cS=c.cI/\c.cT=c.cJ
   ·have bp:(c.cS==c.cI)=true:=by simp[n.1]
    have bq:(c.cT==c.cJ)=true:=by simp[n.2]
    have al:=Aa (show AA c key 2=AA c key 1 by unfold AA;show AG c.cS c.cT key%c.width=AG c.cI c.cJ key%c.width;rw[n.1,n.2]);clear n;go_wp2_with fail
    go_quiet (fail)
    have ad:κ (wr.drewN nq) (a+1) 2 (ι l):=W;have bx:κ (wr.drewN nq) (a+1) 1 (ι h):=M;have r:=Aa (show aD (wr.drewN nq) (a+1) [ι e,ι h,ι l] 236 from E.o);have C:=Aa (show aA (λk=>k=a+1) u (wr.drewN nq) from B.o.then (aA.drewN _ _ _));generalize wr.drewN nq=I at *
    have bs:=r.o.frozen;go_wp2;refine⟨⟨2+1,e,h,h,by go_num,by omega,r.o.setCell 2 _,C.o.setCell (p:=⟨a+1,2,none⟩) (Or.inl rfl) _,?_⟩,by simp[intOf];omega⟩;exact⟨λ_=>x.o.1 (by omega),λ_=>x.o.2.1 (by omega),λ_=>(al.o.trans (x.o.2.1 (by omega)).symm).symm⟩
   have br:(c.cS==c.cI&&c.cT==c.cJ)=false:=by simp;intro ao ap;exact n ⟨ao,ap⟩
   have a9:=Aa n;clear n;go_wp2_with fail
   go_quiet (fail)
   have a1:κ (wr.drewN nq) j 8 (ι c.width):=N;have a2:κ (wr.drewN nq) (a+1+1) 4 (ι c.cS):=ai;have a3:κ (wr.drewN nq) (a+1+1) 5 (ι c.cT):=aj;have ad:κ (wr.drewN nq) (a+1) 2 (ι l):=W;have r:=Aa (show aD (wr.drewN nq) (a+1) [ι e,ι h,ι l] 236 from E.o);have C:=Aa (show aA (λk=>k=a+1) u (wr.drewN nq) from B.o.then (aA.drewN _ _ _));generalize wr.drewN nq=I at *
   clear N ae af ag ah ai aj V M W;have Q:=Aa (λU=>K8 c.cS c.cT key U (s.o 2 (by omega)).1 (s.o 2 (by omega)).2.1 (s.o 2 (by omega)).2.2.1 (s.o 2 (by omega)).2.2.2 au av);have aa:=GO c.cS c.cT key;have S:=Aa (show AG c.cS c.cT key%c.width=AA c key 2 from rfl);generalize AG c.cS c.cT key=q at *
   have Z:=aa.1;have a0:q.tmod c.width=q%c.width:=jY Z;have Y:a+1≠j:=by omega
   have H:a+1≠a+1+1:=by omega
   go_wp2_with fail
   go_region_held3 (λt=>t.cell? ⟨a+1+1,4,none⟩=some (ι c.cS)/\t.cell? ⟨a+1+1,5,none⟩=some (ι c.cT)/\t.cell? ⟨j,8,none⟩=some (ι c.width)) (first | (go_split_ands;exact⟨by assumption,by assumption,by assumption⟩) | (go_split_ands;exact⟨m.cell (by assumption) id,m.cell (by assumption) id,m.cell (by assumption) id⟩) | (go_split_ands;exact⟨(jW _ _ _ _ H).trans (by assumption),(jW _ _ _ _ H).trans (by assumption),(jW _ _ _ _ Y).trans (by assumption)⟩)) (first | (go_at_call 121;refine(Q.o _).mono ?_;rintro ab ax ⟨rfl,m⟩;have G:=(r.o.drew.keeps m id);have ay:=G.cell (i:=2) rfl;have az:=G.frozen))
   have P:=Aa ((r.o.keeps (((aA.refl (λ_=>False) I).drew).then m) id).setCell 2 (ι (q%c.width)));have R:=Aa (((C.o.drew.trans m (λ_ d=>d.elim))).setCell (p:=⟨a+1,2,none⟩) (Or.inl rfl) (ι (q%c.width)));go_wp2;refine⟨⟨2+1,e,h,q%c.width,by go_num,by omega,P,R,?_⟩,by simp[intOf];omega⟩;exact⟨λ_=>x.o.1 (by omega),λ_=>x.o.2.1 (by omega),λ_=>S.o⟩
  have bo:z=F:=by omega
  subst bo;have b7:=T.o.c0;have b8:=T.o.c1;have b9:=T.o.c2;have ca:=T.o.frozen;go_wp2;have am:=Aa (((T.o.setCell 0 (ι e)).setCell 1 (ι h)).setCell 2 (ι l));have a8:=Aa ((((aA.refl (λk=>k=a) wr).setCell (p:=⟨a,0,none⟩) (Or.inl rfl) (ι e)).setCell (p:=⟨a,1,none⟩) (Or.inl rfl) (ι h)).setCell (p:=⟨a,2,none⟩) (Or.inl rfl) (ι l));generalize((wr.setCell ⟨a,0,none⟩ (ι e)).setCell ⟨a,1,none⟩ (ι h)).setCell ⟨a,2,none⟩ (ι l)=cb at *
  have bj:=am.o.c0;have bk:=am.o.c1;have bl:=am.o.c2;refine iV (v:=.agg #[ι e,ι h,ι l]) (by simp[results,results196,go_sem,bj,bk,bl]) rfl ⟨e,h,l,rfl,⟨x.o.1 (by omega),λd=>x.o.2.1 (by have:=an.o;omega),λd=>x.o.2.2 (by have:=an.o;omega)⟩,?_⟩;exact((aw.o.trans B.o (λk bm ar=>by omega))).trans a8.o (λk bm ar=>by omega)
end
section
attribute [local go_sem ↓] Pa.execOp_loadP Pa.execOp_storeP H8 H5 H6
attribute [local go_sem] Pa.run_loadP Im Ii Ib Ki Em A3 A4
structure cR (w:World) (d q:Nat) (og:Option Nat) (c:Cfg) (o:Pa.Pn) (cl:List Pa.Pn):Prop where
 aF:aD w d (Bm c o q) 233
 row:Pa.aH w d q og cl
 dq:d≠q
 dg:∀g,og=some g->d≠g
theorem cR.keeps{M:Nat->Prop}{w w':World}{d h:Nat}{e:Option Nat}{c:Cfg}{o:Pa.Pn}{cl:List Pa.Pn}(a:cR w d h e c o cl)(k:aA M w w')(i:¬M d)(l:¬M h)(j:∀g,e=some g->¬M g): cR w' d h e c o cl :=
 ⟨a.aF.keeps k i,a.row.keeps k l j,a.dq,a.dg⟩
theorem cR.still{w w':World}{d h:Nat}{e:Option Nat}{c:Cfg}{o:Pa.Pn}{cl:List Pa.Pn}(a:cR w d h e c o cl)(k:lX w w'): cR w' d h e c o cl:=a.keeps k id id (λ_ _ a=>a)
def FD(cs:List Int)(p:Nat): List Int:=cs.set p (cs.getD p 0+1)
def BO(c:Cfg)(key:Int): Nat->List Int->List Int
 | 0,cs=>cs
 | j+1,cs=>FD (BO c key j cs) (j*16+(AA c key j).toNat)
theorem Ji(c:Cfg)(key:Int)(cs:List Int): ∀a,(BO c key a cs).length=cs.length
 | 0=>rfl
 | a+1=>by unfold BO FD;rw[jw,Ji c key cs a]
def E5(c:Cfg)(key:Int)(n:Nat)(o:Pa.Pn): Pa.Pn:=⟨o.no,BO c key n o.cs,by rw[Ji,o.len]⟩
def Cl(c:Cfg)(o:Pa.Pn)(cl:List Pa.Pn)(y:It)(m:Int): Pa.Pn×List Pa.Pn :=
 let s:=A8 o cl (y.t/Ag c)
 (E5 c y.k c.rows.toNat s.1,s.2.drop (B7 c s.2 (m-c.aB)))
theorem zMz{cs:List Int}{B:Int}(c:∀a∈cs,0<=a/\a<=B)(h:0<=B)(p:Nat): ∀a∈FD cs p,0<=a/\a<=B+1:=by
 intro a e;unfold FD at e;rcases jx e with d | d
 ·have:=c a d;omega
 have j:0<=cs.getD p 0/\cs.getD p 0<=B:=by
  rw[γ];cases he:cs[p]? with
  | none=>simpa using h
  | some i=>exact c i (iz he)
 omega
theorem MS{c:Cfg}{key:Int}{cs:List Int}{B:Int}(h:∀a∈cs,0<=a/\a<=B)(i:0<=B): ∀d:Nat,∀a∈BO c key d cs,0<=a/\a<=B+d
 | 0=>by intro a e;have:=h a e;simpa using this
 | d+1=>by
  intro a e;have:=zMz (MS h i d) (by omega) _ a e
  push_cast
  omega
theorem zKx{c:Cfg}{o:Pa.Pn}{cl:List Pa.Pn}{n:Int}(a:∀p∈cl,CK c p)(e:CK c o): ∀p∈(A8 o cl n).2,CK c p:=by
 unfold A8;split
 ·exact a
 dsimp only
 split
 ·exact a
 intro p h;rcases ik.1 h with d | d
 ·exact a p d
 rw[im.1 d];exact e
theorem Qd(o:Pa.Pn)(cl:List Pa.Pn)(n:Int): (A8 o cl n).2.length<=cl.length+1:=by
 unfold A8;split
 ·exact Nat.le_succ _
 dsimp only
 split
 ·exact Nat.le_succ _
 simp
theorem YZ{o:Pa.Pn}{cl:List Pa.Pn}{n B:Int}(c:∀a∈o.cs,0<=a/\a<=B)(h:0<=B): ∀a∈(A8 o cl n).1.cs,0<=a/\a<=B:=by
 unfold A8;split
 ·exact c
 intro a d;have e:a∈List.replicate 48 0:=d;rw[(kj.1 e).2];omega
theorem Qn(c:Cfg)(p:Pa.Pn)(a j:Nat)(v:Value)(e:j<49): (Bm c p a).set (20+j) v=c.cells++(p.cells.set j v++[π a]):=by
 have d:c.cells.length=20:=by simp[Cfg.cells]
 unfold Bm;rw[jU _ _ (by omega),d,kH,List.set_append_left _ _ (by rw[p.aE];exact e)]
theorem zPe{w:World}{a e:Nat}{c:Cfg}{p p':Pa.Pn}(i:Nat)(x:Int)(hi:i<48)(j:aD w a (Bm c p e) 233)(m:p.cs[i]?=some x)(k:p'.no=p.no)(l:p'.cs=FD p.cs i):
  aD (w.setCell ⟨a,21+i,none⟩ (ι (x+1))) a (Bm c p' e) 233:=by
 have d:=j.setCell (21+i) (ι (x+1));rw[show 21+i=20+(i+1) by omega,Qn c p e (i+1) _ (by omega)]at d;have h:p.cells.set (i+1) (ι (x+1))=p'.cells:=by
  unfold Pa.Pn.cells;rw[List.set_cons_succ,k,l];unfold FD;rw[kO,γ,m];rfl
 rw[h]at d;rw[show 21+i=20+(i+1) by omega];exact d
theorem Sy(e i:Nat)(z:Option Nat)(c:Cfg)(o:Pa.Pn)(cl:List Pa.Pn)(y:It)(m:Int)(w:World)(d:cR w e i z c o cl)(C:c.paned)(be:c.rowed)(df:1<=Ag c)(au:0<=y.t)(dx:y.t<=4611686018427387904)(cs:0<=y.k)(aq:y.k<=2147483648)(du:-4611686018427387904<=m)(dw:m<=4611686018427387904)(ck:cl.length<=1000000000)(ad:∀p∈cl,CK c p)(a9:CK c o)(a5:∀l∈o.cs,0<=l/\l<=4611686018427387904):
  Calls prog 148 #[π e,y.val,ι m] w λh v=>h=.returned (.tuple #[])/\∃ar,cR v e i ar c (Cl c o cl y m).1 (Cl c o cl y m).2/\aA (λa=>a=e\/a=i\/z=some a) w v/\(ar=z\/∃a,ar=some a/\w.heap.size<=a):=by
 obtain⟨q,Z⟩:∃q,q=w.alloc (.cells y.cells 80):=⟨_,rfl⟩;have S:=Aa (show lX w q by rw[Z];exact(aA.refl _ _).alloc _);have ap:aD q w.heap.size [ι y.t,ι y.k,ι y.d,ι y.n] 80:=by rw[Z];exact aD.new w _ _
 have a1:=Aa Z;have x:=Aa (d.still S.o);clear Z;obtain⟨dl,cm⟩:=d.row.lt;have dk:=d.aF.lt
 have W:=Aa (show ¬(w.heap.size=e\/w.heap.size=i\/z=some w.heap.size) from λd=>by
    rcases d with d | d | d
    ·omega
    ·omega
    have:=(cm _ d).1;omega)
 have B:=x.o.aF;have c5:κ q e 5 (ι c.aB):=B.cell (Ch c o i 5 (by omega));have c9:κ q e 9 (ι c.aM):=B.cell (Ch c o i 9 (by omega));have cv:=ap.c0;have b6:=Aa (show κ q w.heap.size 1 (ι y.k) from ap.cell rfl);have bt:=Aa (λY cb cc=>LZ e c Y cb cc (by have:=C.w0;omega) C.w1 C.p0);have bm:=Aa C;have V:=Aa be;have bv:=Aa ad;have bu:=Aa a9;have bn:=Aa a5;have az:=Aa (show Cl c o cl y m=(E5 c y.k c.rows.toNat (A8 o cl (y.t/Ag c)).1,(A8 o cl (y.t/Ag c)).2.drop (B7 c (A8 o cl (y.t/Ag c)).2 (m-c.aB))) from rfl);have bf:y.t.tdiv (Ag c)=y.t/Ag c:=jd au;have cf:0<=y.t/Ag c:=jO au (by omega);have cg:y.t/Ag c<=y.t:=jS _ au;have cp:IntKind.i64.wrap (y.t.tdiv (Ag c))=y.t/Ag c:=by rw[bf,il];omega
 have cq:IntKind.i64.wrap (y.t/Ag c)=y.t/Ag c:=by rw[il];omega
 have ce:¬Ag c=0:=by omega
 have dq:=C.w0;have dr:=C.w1;have cr:IntKind.i64.wrap (m-c.aB)=m-c.aB:=by rw[il];omega
 clear d B ap C be ad a9 a5;generalize cd:Ag c=X at *
 clear cd;unfold It.val;go_enter func148,ntmps148;go_wp2_with fail
 rw[show w.alloc (.cells #[ι y.t,ι y.k,ι y.d,ι y.n] 80)=q from a1.o.symm];generalize bg:w.heap.size=Q at *
 have a2:=Aa bg;clear bg;go_region_held3 (λv=>v.cell? ⟨Q,0,none⟩=some (ι y.t)/\v.cell? ⟨e,5,none⟩=some (ι c.aB)/\v.cell? ⟨e,9,none⟩=some (ι c.aM))
  (first | (go_split_ands;exact⟨by assumption,by assumption,by assumption⟩) | (go_split_ands;exact⟨D.cell (by assumption) id,D.cell (by assumption) id,D.cell (by assumption) id⟩) | (go_split_ands;exact⟨an.cell (by assumption) W.o,J.cell (Ch c _ i 5 (by omega)),J.cell (Ch c _ i 9 (by omega))⟩))
  (first | (go_at_call 193;refine(bt.o _ (by first | assumption | simpa using c5) (by first | assumption | simpa using c9)).mono ?_;rintro h cx ⟨rfl,D⟩) | (go_at_call 192;refine(QI e i z c o cl _ _ (by exact x.o.aF.keeps (M:=λ_=>False) (((aA.refl _ _).drew).then D) id) (by exact x.o.row.still (((aA.refl _ _).drew).then D)) x.o.dq x.o.dg ck).mono ?_;rintro h A ⟨rfl,s,J,ao,an,ba⟩))
 obtain⟨j,r,P⟩:∃j r,A8 o cl (y.t/X)=(j,r):=⟨_,_,rfl⟩;have bx:=Aa (show ∀p∈r,CK c p from λp ad=>zKx (n:=y.t/X) bv.o bu.o p (by rw[P];exact ad));have dj:r.length<=1000000001:=by have:=Qd o cl (y.t/X);rw[P]at this;have de:r.length<=cl.length+1:=this;omega
 have bo:=Aa (show ∀l∈j.cs,0<=l/\l<=4611686018427387904 from λl G=>YZ (cl:=cl) (n:=y.t/X) bn.o (by omega) l (by rw[P];exact G));rw[P]at J ao az;have aw:=Aa (((aA.refl (λ_=>False) q).drew).then D);have ax:=Aa ((aw.o.mono (M':=λa=>a=e\/a=i\/z=some a) (λ_ _ d=>d.elim)).then an);have b4:=Aa aw.o.size
 have U:=Aa (show s=z\/∃a,s=some a/\q.heap.size<=a by
    rcases ba with h | ⟨a,h,N⟩
    ·exact .inl h
    exact .inr ⟨a,h,jN b4.o N⟩)
 have bp:=Aa (show ∀g,s=some g->e≠g from λg L=>by
    rcases U.o with h | ⟨a,h,N⟩
    ·exact x.o.dg g (h ▸ L)
    have:=x.o.aF.lt;rw[h]at L;cases L;omega)
 have t:=Aa (show cR A e i s c j r from⟨J,ao,x.o.dq,bp.o⟩);have b7:=Aa (ax.o.cell b6.o W.o);have b8:=Aa (show Q<q.heap.size by rw[a1.o];simp[a2.o])
 have b9:=Aa (show ¬(Q=i\/s=some Q) from λd=>by
    rcases d with d | d
    ·exact W.o (.inr (.inl d))
    rcases U.o with h | ⟨a,h,N⟩
    ·exact W.o (.inr (.inr (h ▸ d)))
    rw[h]at d;cases d;have:=b8.o;omega)
 clear D an J ao ba P c5 c9 cv;have ca:κ A e 69 (π i):=t.o.aF.cell (JA c j i);have c5:κ A e 5 (ι c.aB):=t.o.aF.cell (Ch c j i 5 (by omega));have c9:κ A e 9 (ι c.aM):=t.o.aF.cell (Ch c j i 9 (by omega));have bz:=Aa (λY (a:lX A Y)=>NJ e i s c r (m-c.aB) Y (t.o.row.still a) (by omega) (a.cell c5 id) (a.cell c9 id) bm.o bx.o);have bc:=Qv c r (m-c.aB);generalize ae:B7 c r (m-c.aB)=bl at *
 clear ae
 have af:=Aa (show ¬(e=i\/s=some e) from λd=>by
    rcases d with d | d
    ·exact t.o.dq d
    exact t.o.dg e d rfl)
 go_wp2_with fail
 go_region_held3 (λv=>v.cell? ⟨e,69,none⟩=some (π i)/\v.cell? ⟨e,5,none⟩=some (ι c.aB))
  (first | (go_split_ands;exact⟨by assumption,by assumption⟩) | (go_split_ands;exact⟨ab.cell (by assumption) af.o,ab.cell (by assumption) af.o⟩) | (go_split_ands;exact⟨O.cell (by assumption) id,O.cell (by assumption) id⟩))
  (first | (go_at_call 195;refine(bz.o _ ((aA.refl _ _).drew)).mono ?_;rintro h cy ⟨rfl,O⟩) | (go_at_call 194;refine(Pa.lose_any e i s r bl _ (by exact t.o.row.still (((aA.refl _ _).drew).then O)) bc).mono ?_;rintro h a3 ⟨rfl,bd,ab⟩))
 have br:=Aa (((aA.refl (λ_=>False) A).drew).then O);have ag:=Aa ((br.o.mono (M':=λa=>a=i\/s=some a) (λ_ _ d=>d.elim)).then ab);have a0:=Aa (show cR a3 e i s c j (r.drop bl) from⟨t.o.aF.keeps ag.o af.o,bd,t.o.dq,t.o.dg⟩);have cw:κ a3 Q 1 (ι y.k):=ag.o.cell b7.o b9.o;clear O ab bd ca c5 c9;go_wp2_with fail
 refine(Pe e c j i y.k _ a0.o.aF V.o cs aq).mono ?_;rintro h F ⟨ai,aj,ak,rfl,bb,am⟩;have b2:=Aa bb;have ah:=Aa (a0.o.still am);have bs:=Aa am;obtain⟨u,al⟩:∃u:Nat,c.rows=(u:Int):=⟨c.rows.toNat,by have:=V.o.r0;omega⟩;have dg:u<=3:=by have:=V.o.r1;omega
 have c7:κ F e 7 (ι (u:Int)):=al ▸ ah.o.aF.cell (Ch c j i 7 (by omega));have dh:=ah.o.aF.lt;have ay:=Aa al;clear bb am al cw bc cr bf cp cq cf cg ce;go_wp2_with fail
 obtain⟨I,aa⟩:∃I,I=F.alloc (.cells #[ι ai,ι aj,ι ak] 236):=⟨_,rfl⟩;have b0:=Aa (show aD I F.heap.size [ι ai,ι aj,ι ak] 236 by rw[aa];exact aD.new F _ _);have av:=Aa (show lX F I by rw[aa];exact(aA.refl _ _).alloc _);have E:=Aa (ah.o.still av.o);rw[<-aa];clear aa c7;generalize cn:F.heap.size=bk at *
 clear cn;have bq:=Aa (show e≠bk by omega)
 have b3:=Aa (show ∀a,a<u->∃k:Nat,k<16/\(AA c y.k a).toNat=k/\([Value.int .i64 ai,ι aj,ι ak]:List Value)[a]?=some (ι (k:Int)) from λa N=>by
    have B:=Ij c V.o y.k a;obtain⟨cu,bi,bj⟩:=b2.o;rw[ay.o]at bi bj;refine⟨(AA c y.k a).toNat,by omega,rfl,?_⟩;have a6:a=0\/a=1\/a=2:=by omega
    rcases a6 with h | h | h
    ·subst h;rw[kE B.1,cu];rfl
    ·subst h;rw[kE B.1,bi (by omega)];rfl
    subst h;rw[kE B.1,bj (by omega)];rfl)
 go_loopw [41] (λH wr=>∃a:Nat,H=ι a/\a<=u/\Hid (aD wr e (Bm c (E5 c y.k a j) i) 233)/\Hid (aA (λH=>H=e) I wr)) (λH _=>u-(intOf H).toNat)
 case atStart=>exact⟨0,rfl,by omega,E.o.aF,aA.refl _ _⟩
 case round =>
  obtain⟨a,rfl,N,R,T⟩:=hrel;have di:(0:Int)<=(a:Int):=by omega
  by_cases a8:a<u
  ·have a6:(a:Int)<3:=by omega
   obtain⟨k,dp,ae,a4⟩:=b3.o a a8;have dm:(0:Int)<=(k:Int):=by omega
   have dn:(k:Int)<16:=by omega
   have db:κ wr bk a (ι (k:Int)):=T.o.cell (b0.o.cell a4) (λd=>bq.o d.symm);have a7:a*16+k<(BO c y.k a j.cs).length:=by rw[Ji,j.len];omega
   obtain⟨l,G⟩:∃l,(BO c y.k a j.cs)[a*16+k]?=some l:=⟨_,h9 a7⟩;have dt:=MS (c:=c) (key:=y.k) bo.o (by omega) a l (iz G);have ds:IntKind.i64.wrap (l+1)=l+1:=by rw[il];omega
   have dc:κ wr e (21+a*16+k) (ι l):=by
    rw[show 21+a*16+k=20+(a*16+k+1) by omega];refine R.o.cell ((J5 c _ i (a*16+k+1) (by omega)).trans ?_);show((ι j.no::(BO c y.k a j.cs).map (ι ·):List Value))[a*16+k+1]?=_;rw[k3,iS,G];rfl
   have da:=R.o.frozen;have b5:=Aa G;have b1:=Aa ae;clear G ae a4 a7;go_wp2_with fail
   go_region
   go_wp2;go_roundw;case rel =>
    refine⟨a+1,by go_num,by omega,?_,?_⟩
    ·have:=(zPe (p':=E5 c y.k (a+1) j) (a*16+k) l (by omega) R.o b5.o rfl (by show BO c y.k (a+1) j.cs=_;unfold BO;rw[b1.o];rfl)).drew;rw[show 21+(a*16+k)=21+a*16+k by omega]at this;exact this
    exact(T.o.setCell (p:=⟨e,21+a*16+k,none⟩) (Or.inl rfl) _).drew
   case measure=>simp[intOf];omega
  have cj:a=u:=by omega
  subst cj;go_wp2;go_end0;have co:c.rows.toNat=a:=by rw[ay.o];simp
  refine⟨rfl,s,?_,?_,?_⟩
  ·rw[az.o,co];exact⟨R.o,E.o.row.keeps T.o (λd=>E.o.dq d.symm) (λg L d=>E.o.dg g L d.symm),E.o.dq,E.o.dg⟩
  ·have aq:aA (λa=>a=e\/a=i\/z=some a) w A:=(S.o.mono (λ_ _ d=>d.elim)).then ax.o
   have ct:=aq.trans ag.o (λH ch a8=>by
      rcases ch with d | d
      ·exact .inr (.inl d)
      rcases U.o with h | ⟨bh,h,ci⟩
      ·exact .inr (.inr (h ▸ d))
      rw[h]at d;cases d;have:=S.o.size;omega)
   exact((ct.trans bs.o (λ_ d=>d.elim)).trans av.o (λ_ d=>d.elim)).trans T.o (λ_ d _=>.inl d)
  rcases U.o with h | ⟨bh,h,ci⟩
  ·exact .inl h
  exact .inr ⟨bh,h,by have:=S.o.size;have:=a2.o;omega⟩
def Eu(a:List Int)(p:Pa.Pn): List Int:=List.zipWith (·+·) a p.cs
def Eg(l:List Pa.Pn): List Int:=l.foldl Eu Ay
def D7(c:Cfg)(o:Pa.Pn)(cl:List Pa.Pn)(t:Int): List Int :=
 if t<AW c o then Eu (Eg (cl.drop (B7 c cl t))) o else Eg (cl.drop (B7 c cl t))
theorem LB{a:List Int}{p:Pa.Pn}(c:a.length=48): (Eu a p).length=48:=by simp[Eu,c,p.len]
theorem Ry: ∀(a b:List Int) (d B:Int),(∀c∈a,0<=c/\c<=d)->(∀c∈b,0<=c/\c<=B)->∀c∈List.zipWith (·+·) a b,0<=c/\c<=d+B
 | [],_,_,_,_,_=>by simp
 | _::_,[],_,_,_,_=>by simp
 | c::a,y::b,d,B,h1,h2=>by
  intro j i;rw[List.zipWith_cons_cons]at i;rcases iA.1 i with h | h
  ·have:=h1 c (by simp);have:=h2 y (by simp);omega
  exact Ry a b d B (λc e=>h1 c (by simp[e])) (λc e=>h2 c (by simp[e])) j h
theorem Qe(l:List Pa.Pn)(p:Pa.Pn): Eg (l++[p])=Eu (Eg l) p:=by simp[Eg]
theorem QF: ∀(l:List Pa.Pn) (a:List Int),a.length=48->(l.foldl Eu a).length=48
 | [],_,h=>h
 | p::l,a,h=>QF l (Eu a p) (LB h)
theorem Jf(l:List Pa.Pn): (Eg l).length=48:=QF l _ Em
def Cq(p:Pa.Pn): Int:=p.cs.foldr max 0
def BH: List Pa.Pn->Int
 | []=>0
 | p::l=>Cq p+BH l
theorem Hd(cs:List Int): 0<=cs.foldr max 0:=by
 induction cs with
 | nil=>exact iL _
 | cons a cs c=>simp only[List.foldr_cons];omega
theorem JF{cs:List Int}{x:Int}(c:x∈cs): x<=cs.foldr max 0:=by
 induction cs with
 | nil=>cases c
 | cons e cs d =>
  simp only[List.foldr_cons];rcases iA.1 c with a | a
  ·omega
  have:=d a;omega
theorem Nj{cs:List Int}{B:Int}(e:0<=B)(c:∀a∈cs,a<=B): cs.foldr max 0<=B:=by
 induction cs with
 | nil=>exact e
 | cons d cs i =>
  simp only[List.foldr_cons];have j:=c d (by simp);have k:=i (λa h=>c a (by simp[h]));omega
theorem JB(l:List Pa.Pn): 0<=BH l:=by
 induction l with
 | nil=>exact iL _
 | cons p l c=>have a:0<=Cq p:=Hd _;unfold BH;omega
theorem GR(a b:List Pa.Pn): BH (a++b)=BH a+BH b:=by
 induction a with
 | nil=>simp[BH]
 | cons p a c =>
  show Cq p+BH (a++b)=Cq p+BH a+BH b;rw[c];omega
theorem Mr(l:List Pa.Pn)(n:Nat): BH (l.drop n)<=BH l:=by
 have a:=GR (l.take n) (l.drop n);rw[τ]at a;have:=JB (l.take n);omega
theorem Y9(l:List Pa.Pn)(n:Nat): BH (l.take n)<=BH l:=by
 have a:=GR (l.take n) (l.drop n);rw[τ]at a;have:=JB (l.drop n);omega
theorem Qq: ∀(l:List Pa.Pn) (a:List Int) (d:Int),(∀c∈a,0<=c/\c<=d)->(∀p∈l,∀c∈p.cs,0<=c)->∀c∈l.foldl Eu a,0<=c/\c<=d+BH l
 | [],a,d,h,_=>by intro c e;have:=h c e;simpa[BH] using this
 | p::l,a,d,h,hp=>by
  intro c e;have:=Qq l (Eu a p) (d+Cq p) (Ry a p.cs d (Cq p) h (λc e=>⟨hp p (by simp) c e,JF e⟩)) (λj i=>hp j (by simp[i])) c e;unfold BH;omega
theorem Ql(l:List Pa.Pn)(d:∀p∈l,∀a∈p.cs,0<=a): ∀a∈Eg l,0<=a/\a<=BH l:=by
 intro a c;have:=Qq l Ay 0 (λa c=>by have e:a∈List.replicate 48 (0:Int):=c;rw[(kj.1 e).2];omega) d a c;omega
theorem Li(w:World): (isAgg 228).run prog w=.ok true w:=by kernel_rfl
theorem Z9(p:Pa.Pn): p.cells.toArray.extract 1 (1+48)=(Af p.cs).toArray:=by
 unfold Pa.Pn.cells;simp only[List.extract_toArray,List.extract_eq_take_drop,kD,kJ];rw[iw (by simp[p.len])];rfl
theorem Kq(p:Pa.Pn)(w:World): (Instr.field 230 (.agg p.cells.toArray) 1).run prog w=.ok (.agg (Af p.cs).toArray) w:=by
 unfold Instr.field;simp only[jq,jL underlying230,jy];rw[<-Z9 p];have a:=Li w;simp[a,asAgg,part]
theorem JV(ρ:Operand->Value)(dst:Option Tmp)(x y:Operand)(a:TypeId)(pos:String)(after:Array Edge)(guard:Option (Nat×Bool)):
  execOp ρ { dst,op:=.store 228 x y,type:=a,pos,after,guard }=Pa.storeP 228 (ρ x) (ρ y):=rfl
theorem Js(w:World)(b:Nat)(cs:List Int)(h:cs.length=48)(i:w.there b 0 48):
  (Pa.storeP 228 (π b) (.agg (Af cs).toArray)).run prog w=.ok .skip (w.setCells b 0 (Af cs)):=by
 have a:(Af cs).length=48:=by simp[Af,h]
 have e:∀d∈Af cs,d.oneCell'=true:=λd c=>by unfold Af at c;obtain⟨y,_,rfl⟩:=iI.1 c;rfl
 unfold Pa.storeP;rw[jq,lq w b 0 228 (Af cs).toArray (by simpa[a] using i) (by rw[Ns];simp[a]) (by simpa using e)];rfl
attribute [local go_sem ↓] JV
attribute [local go_sem] Kq Js
theorem Zs(W:World)(c:Nat)(a:List Int)(j:aD W c (Af Ay) 228)(e:a.length=48):
  (loadVar 228 ⟨c,0,none⟩).run prog (W.setCells c 0 (Af a))=.ok (.agg (Af a).toArray) (W.setCells c 0 (Af a)):=by
 have h:(Af a).length=48:=by simp[Af,e]
 have d:=aD.setCells (Af a) 0 _ _ j (by simp[Af,e,Em]);have i:over (Af Ay) 0 (Af a)=Af a:=by
  unfold over;rw[h,iX (by simp[Af,Em])];simp
 rw[i]at d;exact lu _ c 0 228 (Af a) _ (λl m k=>by rw[ja];exact d.cell k) underlying228 rfl (by rw[Ns,h])
def A6(c:Cfg)(o:Pa.Pn)(cl:List Pa.Pn)(t:Int): List Pa.Pn:=cl.drop (B7 c cl t)++(if t<AW c o/\o.cs≠Ay then[o] else[])
theorem Vp{a:List Int}{p:Pa.Pn}(c:a.length=48)(d:p.cs=Ay): Eu a p=a:=by
 unfold Eu;rw[d];unfold Ay;rw[<-c];clear c d;induction a with
 | nil=>rfl
 | cons h a e=>simp only[iD,List.replicate_succ,List.zipWith_cons_cons,e,kW]
theorem LY(c:Cfg)(o:Pa.Pn)(cl:List Pa.Pn)(t:Int): Eg (A6 c o cl t)=D7 c o cl t:=by
 unfold A6 D7;by_cases a:t<AW c o
 ·rw[ij a];by_cases d:o.cs=Ay
  ·rw[ig (by simp[d]),iC,Vp (Jf _) d]
  rw[ij ⟨a,d⟩,Qe]
 rw[ig a,ig (by simp[a]),iC]
theorem Nm{w w':World}{base:Nat}{t size:Nat}{v:Value}{n:Nat}{d:List Value}(a:w.ownsRow base t size v n d)(k:lX w w'): w'.ownsRow base t size v n d:=by
 refine⟨a.1,?_⟩;rcases a.2 with i | ⟨g,e,h,rfl,j,c,l⟩
 ·exact .inl i
 exact .inr ⟨g,e,h,rfl,j,by rw[k.block g (js.1 c).1 id];exact c,l⟩
attribute [local go_sem ↓] Pa.execOp_bsP
attribute [local go_sem] Pa.run_bsP
theorem PX(i h:Nat)(L:Option Nat)(c:Cfg)(o:Pa.Pn)(cl:List Pa.Pn)(t:Int)(w:World)(u:cR w i h L c o cl)(X:c.paned)(bn:cl.length<=1000)(au:∀p∈cl,CK c p)(ar:CK c o):
  Calls prog 198 #[π i,ι t] w λn M=>∃j,n=.returned j/\M.ownsRow w.heap.size 230 49 j (A6 c o cl t).length (Pa.flatP (A6 c o cl t))/\lX w M:=by
 have V:κ w i 69 (π h):=u.aF.cell (JA c o h);have a6:=Aa u;have a1:=Aa X;have a5:=Aa ar;have al:=Aa (NJ i h L c cl t w u.row (by omega) (u.aF.cell (Ch c o h 5 (by omega))) (u.aF.cell (Ch c o h 9 (by omega))) X au);have s:=Aa (show A6 c o cl t=cl.drop (B7 c cl t)++(if t<AW c o/\o.cs≠Ay then[o] else[]) from rfl);have bg:=Qv c cl t;obtain⟨az,ap,aw,ax,ay⟩:=jg Pa.infoBk;generalize B7 c cl t=d at *
 clear X au ar u;go_enter func198,ntmps198;go_wp2_with fail
 refine al.o.mono ?_;rintro n bl ⟨rfl,aa⟩;have a3:=Aa aa;clear aa al V;generalize av:w.heap.size=E at *
 have l:=Aa av;clear av;generalize aq:cl.length=D at *
 have z:=Aa aq;clear aq;go_wp2_with fail
 go_loopw [5,6] (λj ae wr=>∃a:Nat,ae=ι a/\d<=a/\a<=D/\Hid (wr.ownsRow E 230 49 j (a-d) (Pa.flatP ((cl.drop d).take (a-d))))/\Hid (lX w wr)) (λ_ ae _=>D-(intOf ae).toNat)
 case atStart=>exact⟨d,rfl,ir _,bg,by show World.ownsRow _ _ _ _ _ _ _;rw[j9];exact iy _ _ _ _,a3⟩
 case round =>
  obtain⟨a,rfl,aa,bm,O,R⟩:=hrel;generalize u5=j at *
  have m:=Aa (a6.o.still R.o);have V:κ wr i 69 (π h):=m.o.aF.cell (JA c o h);have T:=Aa (Pa.rowLen_any i h L cl wr m.o.row);rw[z.o]at T;by_cases be:a<D
  ·have v:decide ((a:Int)<(D:Int))=true:=by simp;omega
   go_wp2_with fail
   refine T.o.mono ?_;rintro n M ⟨rfl,C⟩;rw[C];clear C;have k:a<cl.length:=by rw[z.o];exact be
   have a0:=Aa (Vq i h L cl a wr m.o.row k);have a2:=Aa (Pa.pnAt_drop cl a k);clear k;generalize Pa.pnAt cl a=r at *
   go_wp2_with fail
   refine a0.o.mono ?_;rintro n F ⟨rfl,ab⟩;have ag:=Aa (Nm O.o ab);have ai:=Aa (R.o.then ab)
   have a4:=Aa (show(cl.drop d).take (a+1-d)=(cl.drop d).take (a-d)++[r] by
      have hlen:a-d<(cl.drop d).length:=by rw[iU,z.o];omega
      rw[show a+1-d=(a-d)+1 by omega,jm hlen];congr 2;have ao:=a2.o;have ba:cl.drop a=(cl.drop d).drop (a-d):=by rw[List.drop_drop];congr 1;omega
      rw[ba,δ hlen]at ao
      exact(List.cons.inj ao).1)
   have bh:E<=F.heap.size:=by have:=ai.o.size;have:=l.o;omega
   clear ab;generalize B:a-d=q at *
   have U:=Aa B;clear B;have bf:q<=1000:=by have:=U.o;omega
   go_wp2_with (at_builtin;refine jf _ rfl _ _ _ rfl E 230 az _ 49 392 underlying239 ap aw ax ay rfl (by omega) j q (Pa.flatP ((cl.drop d).take q)) rfl (ag.o.alloc _) ⟨F.heap.size,0,none⟩ 1 1 r.cells rfl (by rw[r.aE]) (iJ (cs:=r.cells.toArray) (t:=230) (fr:=(0,0)) (iH F _)) r.one (by omega) (by unfold maxLen;omega) (by omega) (by simp;omega) (F.heap.size+1) (by simp) ?_;intro a9 a8 bk ad Y bb bd)
   go_roundw;case rel =>
    refine⟨a+1,by go_num,by omega,by omega,?_,(ai.o.alloc _).grown Y (λaf Z=>Or.inr (by have:=(ag.o.lt af Z).1;have:=l.o;omega))⟩;show World.ownsRow _ _ _ _ _ _ _;rw[a4.o,Pa.flatP_append,show a+1-d=q+1 by have:=U.o;omega];have W:Pa.flatP [r]=r.cells:=by simp[Pa.flatP]
    rw[W];exact ad
   case measure=>simp[intOf];omega
  have bc:a=D:=by omega
  subst bc;have bj:(cl.drop d).take (a-d)=cl.drop d:=iw (by rw[iU,z.o];omega);rw[bj]at O;have S:=Aa (show(cl.drop d).length=a-d by rw[iU,z.o]);go_wp2_with fail
  refine T.o.mono ?_;rintro n M ⟨rfl,C⟩;rw[C];clear C;have e:=D4 (Jn m.o.aF);rw[o.aE]at e;have J:Ap wr i 20 49=.agg o.cells.toArray:=by unfold Ap;rw[e.1]
  have G:=e.2;clear e;have ak:=Aa (NK i c o wr (m.o.aF.cell (Ch c o h 5 (by omega))) (m.o.aF.cell (Ch c o h 9 (by omega))) a1.o a5.o);go_wp2_with fail
  refine ak.o.mono ?_;rintro n an ⟨rfl,k⟩;have am:=Aa (m.o.still k);have ah:=Aa (Nm O.o k);have aj:=Aa (R.o.then k);clear k J G ak V;have e:=D4 (Jn am.o.aF);rw[o.aE]at e;have J:Ap an i 20 49=.agg o.cells.toArray:=by unfold Ap;rw[e.1]
  have G:=e.2;clear e;generalize AW c o=lt at *
  by_cases I:t<lt
  ·have bi:decide (t<lt)=true:=by simpa using I
   have P:=Aa (PF o an);unfold Pa.Pn.val at P;go_wp2_with fail
   refine P.o.mono ?_;rintro n A ⟨rfl,H⟩;have a7:=Aa (am.o.still H);have N:=Aa (Nm ah.o H);have Q:=Aa (aj.o.then H);clear H J G P;by_cases x:o.cs=Ay
   ·rw[ig (by simp[x])]at s;have v:decide (o.cs=Ay)=true:=by simpa using x
    rw[v];clear x v;go_wp2;go_ret;refine⟨j,rfl,?_,Q.o⟩;rw[s.o,iC,S.o,l.o];exact N.o
   rw[ij ⟨I,x⟩]at s;have v:decide (o.cs=Ay)=false:=by simpa using x
   rw[v];clear x v;have e:=D4 (Jn a7.o.aF);rw[o.aE]at e;have J:Ap A i 20 49=.agg o.cells.toArray:=by unfold Ap;rw[e.1]
   have G:=e.2;clear e;have bh:E<=A.heap.size:=by have:=Q.o.size;have:=l.o;omega
   generalize B:a-d=q at *
   have bf:q<=1000:=by omega
   have U:=Aa B;clear B;go_wp2_with (at_builtin;refine jf _ rfl _ _ _ rfl E 230 az _ 49 392 underlying239 ap aw ax ay rfl (by omega) j q (Pa.flatP (cl.drop d)) rfl (N.o.alloc _) ⟨A.heap.size,0,none⟩ 1 1 o.cells rfl (by rw[o.aE]) (iJ (cs:=o.cells.toArray) (t:=230) (fr:=(0,0)) (iH A _)) o.one (by omega) (by unfold maxLen;omega) (by omega) (by simp;omega) (A.heap.size+1) (by simp) ?_;intro a9 a8 bk ad Y bb bd)
   go_ret;refine⟨_,rfl,?_,(Q.o.alloc _).grown Y (λaf Z=>Or.inr (by have:=(N.o.lt af Z).1;have:=l.o;omega))⟩;rw[s.o,Pa.flatP_append,ic,S.o,l.o];have W:Pa.flatP [o]=o.cells:=by simp[Pa.flatP]
   rw[W];exact ad
  have bi:decide (t<lt)=false:=by simpa using I
  rw[ig (by simp[I])]at s;go_wp2;go_ret;refine⟨j,rfl,?_,aj.o⟩;rw[s.o,iC,S.o,l.o];exact ah.o
end
section
theorem Sa{P:Program}{w:World}(base:Nat)(t k e:TypeId)(i:TypeInfo)(size:Nat)(d:P.underlying t=some (.slice e))(hi:P.info? e=some i)(v:Value)(n:Nat)(l:List Value)(j:w.ownsRow base e size v n l)(a:Option Addr)(c:Nat):
  (Builtin.append_ #[t,t] k #[v,.slice a 0 c]).run P w=.ok v w:=by
 rcases j.2 with ⟨rfl,rfl⟩ | ⟨g,m,o,rfl,_,_,h,_⟩
 ·cases a <;> simp[Builtin.append_,jL d,sizeOf,typeInfo,hi,Builtin.lenOf,Builtin.firstCells,loadCells,loadCellsFrom]
 cases a <;> simp[Builtin.append_,jL d,sizeOf,typeInfo,hi,Builtin.lenOf,Builtin.firstCells,h,storeCells,loadCells,loadCellsFrom]
theorem JU{P:Program}{w:World}{l:Array Oper}{rest:List Oper}{o:Oper}{a:Act}{e:Exit->Act->World->Prop}(r:o.guard=none)(s x:Operand)(t:TypeId)(v:o.op=.call { callee:=.builtin .append,args:=#[s,x],argTypes:=#[t,t] })(base:Nat)(c:TypeId)(j:TypeInfo)(size:Nat)(C:P.underlying t=some (.slice c))(u:P.info? c=some j)(d:Value)(k:Nat)(m:List Value)(B:a.eval s=d)(z:w.ownsRow base c size d k m)(h:Option Addr)(i:Nat)(D:a.eval x=.slice h 0 i)(n:wpList P l e rest (a.put o.dst d) w): wpList P l e (o::rest) a w:=by
 refine wpList_plain r λK q=>?_;have A:=Sa (P:=P) (w:=w) base t o.type c j size C u d k m z h i;unfold Oper.wp;simp[execOp,v,resolve,invoke,builtin,B,D,A,Result.andThen];exact q _ _ n
theorem FB{M:Nat->Prop}{w w':World}{base:Nat}{t size:Nat}{v:Value}{n:Nat}{e:List Value}(a:w.ownsRow base t size v n e)(l:aA M w w')(m:∀d,v.ownBlock=some d->¬M d): w'.ownsRow base t size v n e:=by
 refine⟨a.1,?_⟩;rcases a.2 with j | ⟨g,h,i,rfl,k,c,o⟩
 ·exact .inl j
 exact .inr ⟨g,h,i,rfl,k,by rw[l.block g (js.1 c).1 (m g rfl)];exact c,o⟩
theorem D6{w:World}{base T size n:Nat}{v:Value}{j:List Value}(e:w.ownsRow base T size v n j): ∃d a,v=.slice d n a/\(0<n->∃g,d=some ⟨g,0,none⟩/\base<=g):=by
 rcases e.2 with ⟨c,h⟩ | ⟨g,a,k,c,i,_⟩
 ·exact⟨none,0,by rw[c,h],λe=>by omega⟩
 exact⟨some ⟨g,0,none⟩,a,c,λ_=>⟨g,rfl,i⟩⟩
def Ck: Nat->Nat->List Nat
 | 0,n=>[n]
 | f+1,n=>if n<=127 then[n] else(n%128+128)::Ck f (n/128)
def enc(n:Int): List Nat:=Ck 9 n.toNat
def Ae(l:List Int): List Nat:=l.flatMap enc
theorem Dv: Ae []=[]:=rfl
theorem BQ(n:Int)(l:List Int): Ae (n::l)=enc n++Ae l:=by simp[Ae]
theorem B3(a b:List Int): Ae (a++b)=Ae a++Ae b:=by simp[Ae]
theorem En(n:Int): Ae [n]=enc n:=by simp[Ae]
theorem UK(f n:Nat): (Ck f n).length<=f+1:=by
 induction f generalizing n with
 | zero=>simp[Ck]
 | succ f a =>
  unfold Ck;split
  ·simp
  have:=a (n/128);simp;omega
theorem Dt(n:Int): (enc n).length<=10:=UK 9 _
theorem Cu(l:List Int): (Ae l).length<=10*l.length:=by
 induction l with
 | nil=>simp[Ae]
 | cons a l c=>have:=Dt a;rw[BQ,ic,iD];omega
def BB(l:List Nat): List Value:=l.map λ(n:Nat)=>.int .u8 (n:Int)
theorem Tf(a b:List Nat): BB (a++b)=BB a++BB b:=by simp[BB]
theorem Rv: (prog.info? 5).map (λa=>(a.zero,a.size,a.bytes))=some (some (.int .u8 0),1,1):=by kernel_rfl
def dQ(w:World)(v:Value)(bs:List Nat): Prop :=
 w.ownsRow 0 5 1 v bs.length (BB bs)\/∃g,v=σ g bs.length bs.length/\w.heap[g]?=some (.cells (BB bs).toArray 5 (bs.length,bs.length+1))
theorem dQ.lt{w:World}{v:Value}{bs:List Nat}(a:dQ w v bs)(i:Nat)(hi:v.ownBlock=some i): i<w.heap.size:=by
 rcases a with a | ⟨g,rfl,a⟩
 ·exact(a.lt i hi).2
 have:g=i:=by simpa[Value.ownBlock] using hi
 subst this;exact(js.1 a).1
theorem dQ.keeps{M:Nat->Prop}{w w':World}{v:Value}{bs:List Nat}(a:dQ w v bs)(c:aA M w w')(d:∀e,v.ownBlock=some e->¬M e): dQ w' v bs:=by
 rcases a with a | ⟨g,rfl,a⟩
 ·exact .inl (FB a c d)
 exact .inr ⟨g,rfl,by rw[c.block g (js.1 a).1 (d g rfl)];exact a⟩
theorem dQ.form{w:World}{v:Value}{bs:List Nat}(a:dQ w v bs): ∃c d,v=.slice c bs.length d:=by
 rcases a with a | ⟨g,rfl,a⟩
 ·obtain⟨c,d,e,_⟩:=D6 a;exact⟨c,d,e⟩
 exact⟨_,_,rfl⟩
theorem dQ.cells{w:World}{v:Value}{bs:List Nat}(a:dQ w v bs): (bs.length=0/\v=.slice none 0 0)\/∃g e,v=σ g bs.length e/\∀(i:Nat) d,(BB bs)[i]?=some d->w.cell? ⟨g,i,none⟩=some d:=by
 rcases a with a | ⟨g,rfl,a⟩
 ·rcases a.2 with ⟨h,k⟩ | ⟨g,e,j,h,_,l,n,o,q,m⟩
  ·exact .inl ⟨k,h⟩
  refine .inr ⟨g,e,h,λi d c=>?_⟩;have r:i<bs.length:=by have:=(iq.1 c).1;simpa[BB] using this
  have:j[i]?=some d:=by
   rw[<-m,iW,ij (by omega)]at c;simpa using c
  simp[World.cell?,l,this]
 refine .inr ⟨g,_,rfl,λi d c=>?_⟩;simp[World.cell?,a,c]
theorem TK(w:World)(l:TypeId)(v:Value)(bs:List Nat)(e:dQ w v bs)(d:Addr)(c:Nat)(y:Nat)(C:w.cell? d=some (.int .u8 (y:Int)))(u:d.add 0=d)(E:bs.length<=140737488355320):
  ∃g m j,(Builtin.append_ #[129,129] l #[v,.slice (some d) 1 c]).run prog w=.ok (σ g (bs.length+1) m) j /\
   j.ownsRow 0 5 1 (σ g (bs.length+1) m) (bs.length+1) (BB bs++[.int .u8 (y:Int)])/\w.grownBy j v.ownBlock/\(v.ownBlock=some g\/g=w.heap.size)/\g<j.heap.size:=by
 obtain⟨s,n,q,k,r⟩:=jg Rv;have o:∀(a:Nat) i,[Value.int .u8 (y:Int)][a]?=some i->w.cell? (d.add a)=some i:=by
  intro a i h;cases a with
  | zero=>rw[u,C];exact h
  | succ a=>simp at h
 rcases e with e | ⟨g,rfl,e⟩
 ·exact run_append_lies (P:=prog) w 129 l 0 5 s _ 1 1 underlying129 n q k r rfl (by omega) v bs.length (BB bs) e d 1 c [.int .u8 (y:Int)] rfl o (by simp[Value.oneCell']) (by omega) (by unfold maxLen;omega) (by omega) (iT _) w.heap.size rfl
 have D:=run_append_grow (P:=prog) w 129 l 5 s _ underlying129 n q ⟨g,0,none⟩ bs.length bs.length (BB bs) (by simp[BB,k]) (λa i h=>by
     have x:(⟨g,0,none⟩:Addr).add a=⟨g,a,none⟩:=by unfold Addr.add;split <;> simp_all
     rw[x]
     simp[World.cell?,e,h]) d 1 c [.int .u8 (y:Int)] (by simp[k]) o (by omega) (by omega) (growslice_fits (by omega) (by rw[r];omega))
 have A:=grownCap_ge w (bs.length+1) bs.length 5;have z:grownCap w (bs.length+1) bs.length 5<=maxLen:=grownCap_le_maxLen w (bs.length+1) bs.length 5 (by unfold maxLen;omega);refine⟨w.heap.size,_,_,D,⟨by simp[BB],.inr ⟨w.heap.size,_,_,rfl,iT _,iH w.drew _,A,z,?_,?_⟩⟩,⟨rfl,rfl,rfl,by simp,λF B _=>ju w.drew _ _ B⟩,.inr rfl,by simp⟩
 ·simp only[Array.size_append,List.size_toArray,size_zeroCells];simp[BB,Value.cells];omega
 simp only[Array.toList_append];have t:(bs.length+1)*1=(BB bs++[Value.int .u8 (y:Int)]).length:=by simp[BB]
 rw[t];exact List.take_left
theorem Nx{w:World}{n:Array Oper}{rest:List Oper}{o:Oper}{a:Act}{l:Exit->Act->World->Prop}(D:o.guard=none)(s x:Operand)(G:o.op=.call { callee:=.builtin .append,args:=#[s,x],argTypes:=#[129,129] })(h:Value)(i:List Nat)(e:Nat)(C:i.length=e)(I:a.eval s=h)(J:dQ w h i)(d:Addr)(m:Nat)(y:Nat)(L:a.eval x=.slice (some d) 1 m)(F:w.cell? d=some (.int .u8 (y:Int)))(B:d.add 0=d)(E:e<=140737488355320)(k:Nat)(z:w.heap.size=k)(q:∀g j c,c.ownsRow 0 5 1 (σ g (e+1) j) (e+1) (BB i++[.int .u8 (y:Int)])->w.grownBy c h.ownBlock->(h.ownBlock=some g\/g=k)->g<c.heap.size->wpList prog n l rest (a.put o.dst (σ g (e+1) j)) c): wpList prog n l (o::rest) a w:=by
 subst C z;refine wpList_plain D λK A=>?_;obtain⟨g,j,c,H,r,t,u,v⟩:=TK w o.type h i J d m y F B E;unfold Oper.wp execOp;simp only[G,resolve,invoke,builtin,jq,Sem.run_pure,jy,List.map_toArray,iF,kq,I,L,H];exact A _ _ (q g j c r t u v)
structure bR (w:World) (b:Nat) (v:Value) (bs:List Nat):Prop where
 aF:aD w b [v] 131
 row:dQ w v bs
 ne:v.ownBlock≠some b
 small:∀x∈bs,x<256
def AF(b:Nat)(v:Value)(i:Nat): Prop:=i=b\/v.ownBlock=some i
theorem bR.keeps{M:Nat->Prop}{w w':World}{b:Nat}{v:Value}{bs:List Nat}(a:bR w b v bs)(d:aA M w w')(e:∀c,AF b v c->¬M c): bR w' b v bs :=
 ⟨a.aF.keeps d (e b (.inl rfl)),a.row.keeps d (λc h=>e c (.inr h)),a.ne,a.small⟩
theorem bR.still{w w':World}{b:Nat}{v:Value}{bs:List Nat}(a:bR w b v bs)(c:lX w w'): bR w' b v bs:=a.keeps c (λ_ _ a=>a)
theorem bR.lt{w:World}{b:Nat}{v:Value}{bs:List Nat}(a:bR w b v bs)(i:Nat)(hi:AF b v i): i<w.heap.size:=by
 rcases hi with hi | hi
 ·rw[hi];exact a.aF.lt
 exact a.row.lt i hi
def aK(w:World)(b:Nat)(v:Value)(bs:List Nat)(w':World): Prop :=
 ∃v',bR w' b v' bs/\(∀i,v'.ownBlock=some i->v.ownBlock=some i\/w.heap.size<=i)/\aA (AF b v) w w'
theorem aK.refl{w:World}{b:Nat}{v:Value}{bs:List Nat}(a:bR w b v bs): aK w b v bs w:=⟨v,a,λ_ c=>.inl c,aA.refl _ _⟩
theorem bR.cells{w w':World}{b:Nat}{v:Value}{bs:List Nat}{o:Obj}(c:bR w b v bs)(h:(w.alloc o).grownBy w' v.ownBlock): w'.cell? ⟨b,0,none⟩=some v/\w'.frozen? ⟨b,0,none⟩=false:=by
 have d:w'.heap[b]?=w.heap[b]?:=by
  rw[h.block b (by have:=c.aF.lt;simp;omega) (λe=>c.ne e.symm),ju _ _ _ c.aF.lt]
 exact⟨(jB (a:=⟨b,0,none⟩) d).trans (c.aF.cell rfl),(jM (a:=⟨b,0,none⟩) d).trans (c.aF.frozen 0)⟩
theorem bR.more{w w':World}{b:Nat}{v:Value}{bs:List Nat}{o:Obj}{g n cap y:Nat}(c:bR w b v bs)(u:bs.length=n)(j:(w.alloc o).grownBy w' v.ownBlock)(x:w'.ownsRow 0 5 1 (σ g (n+1) cap) (n+1) (BB bs++[.int .u8 (y:Int)]))(i:v.ownBlock=some g\/g=w.heap.size+1)(A:y<256): aK w b v (bs++[y]) (w'.setCell ⟨b,0,none⟩ (σ g (n+1) cap)):=by
 have t:=c.aF.lt;have m:w'.heap[b]?=w.heap[b]?:=by
  rw[j.block b (by simp;omega) (λa=>c.ne a.symm),ju _ _ _ t]
 have q:aD w' b [v] 131:=by unfold aD;rw[m];exact c.aF
 have k:g≠b:=by
  rcases i with a | a
  ·intro l;exact c.ne (by rw[a,l])
  omega
 refine⟨σ g (n+1) cap,⟨q.setCell 0 _,?_,?_,?_⟩,?_,?_⟩
 ·refine .inl ?_;rw[ic,u,Tf];exact(FB x ((aA.refl (λe=>e=b) w').setCell (p:=⟨b,0,none⟩) (Or.inl rfl) _) (λe h a=>k ((show g=e by simpa[Value.ownBlock] using h).trans a)))
 ·intro a;exact k (by simpa[Value.ownBlock] using a)
 ·intro z d;rcases ik.1 d with d | d
  ·exact c.small z d
  rw[im]at d;omega
 ·intro e h;have r:g=e:=by simpa[Value.ownBlock] using h
  rcases i with a | a
  ·exact .inl (by rw[a,r])
  exact .inr (by omega)
 exact(((aA.refl (AF b v) w).alloc o).grown j (λB s=>.inl (.inr s))).setCell (p:=⟨b,0,none⟩) (Or.inl (.inl rfl)) _
theorem aK.then{w k l:World}{b:Nat}{v j:Value}{e:List Nat}(i:∀a,j.ownBlock=some a->v.ownBlock=some a\/w.heap.size<=a)(h:aA (AF b v) w k)(m:aK k b j e l): aK w b v e l:=by
 obtain⟨r,q,o,n⟩:=m;have t:=h.size;refine⟨r,q,λa c=>?_,h.trans n (λa c s=>?_)⟩
 ·rcases o a c with d | d
  ·exact i a d
  exact .inr (by omega)
 rcases c with c | c
 ·exact .inl c
 rcases i a c with d | d
 ·exact .inr d
 omega
theorem FL(b:Nat)(v:Value)(bs:List Nat)(n:Int)(w:World)(d:bR w b v bs)(I:0<=n)(n1:n<=9223372036854775807)(ai:bs.length<=140737488355300):
  Calls prog 47 #[π b,ι n] w λO ad=>O=.returned (.tuple #[])/\aK w b v (bs++enc n) ad:=by
 obtain⟨e,rfl⟩:=jl I;have J:=Aa (show enc (e:Int)=Ck 9 e by unfold enc;rw[iM]);have M:=Aa d;have ap:IntKind.u64.wrap (e:Int)=(e:Int):=by rw[jF];omega
 clear d I;go_enter func47,ntmps47;go_wp2;go_loopw [4] (λh wr=>∃(f a:Nat) (pre:List Nat) (x:Value),h=.int .u64 a/\a<=9223372036854775807/\f<=9/\a<128 ^ (f+1)/\pre.length+f=bs.length+9/\Hid (bs++enc (e:Int)=pre++Ck f a)/\Hid (bR wr b x pre)/\Hid (∀m,x.ownBlock=some m->v.ownBlock=some m\/w.heap.size<=m)/\Hid (aA (AF b v) w wr)) (λh _=>(intOf h).toNat)
 case atStart=>exact⟨9,e,bs,v,rfl,by omega,by omega,(by have:(128:Nat) ^ (9+1)=1180591620717411303424:=(by decide);omega),rfl,by show _=_;rw[J.o],M,λm V=>.inl V,aA.refl _ _⟩
 case round =>
  obtain⟨f,a,pre,x,rfl,al,ah,u,aj,B,c,E,C⟩:=hrel;obtain⟨z,A,Y⟩:=c.o.row.form;subst Y;have ag:=c.o.aF.c0;have ak:pre.length<=140737488355310:=by omega
  generalize G:pre.length=k at *
  have i:=Aa G;have D:=Aa (show dQ wr (.slice z k A) pre from c.o.row);clear G;have ao:IntKind.u8.wrap (a:Int)=((a%256:Nat):Int):=by rw[ku];omega
  by_cases af:127<a
  ·have S:decide ((127:Int)<(a:Int))=true:=by simp;omega
   have am:bits BinOp.or IntKind.u8 ((a%256:Nat):Int) 128=((a%128+128:Nat):Int):=by
    have F:=u8_or_nat (a%256) 128 (by omega) (by omega);rw[show((128:Nat):Int)=128 from rfl]at F;rw[F];congr 1;have Q:∀h:Fin 256,h.val ||| 128=h.val%128+128:=by decide
    have:=Q ⟨a%256,by omega⟩;simp only at this;rw[this];omega
   generalize H:a%128+128=y at *
   have l:=Aa H;clear H;generalize a%256=an at *
   go_wp2_with (at_builtin;refine Nx rfl _ _ rfl (.slice z k A) pre k i.o rfl (D.o.keeps ((aA.refl (λ_=>False) wr).alloc _) (λ_ _ d=>d)) ⟨wr.heap.size,0,none⟩ 1 y rfl (by simp) rfl (by omega) (wr.heap.size+1) (by simp) ?_;intro P N ae t j r X;have s:=bR.cells c.o j;obtain⟨R,U⟩:=s)
   have o:=Aa (bR.more (y:=y) c.o i.o j t r (by have:=l.o;omega));obtain⟨q,T⟩:∃q,f=q+1:=by
    cases f with
    | zero=>simp at u;omega
    | succ f=>exact⟨f,rfl⟩
   subst T;go_roundw;case rel =>
    obtain⟨ab,aa,Z,W⟩:=aK.then E.o C.o o.o;refine⟨q,a/128,pre++[y],ab,by go_num,by omega,by omega,?_,by rw[ic,i.o,jh];omega,?_,aa,Z,W⟩
    ·rw[kM]at u;exact(lI (by omega)).2 u
    show _=_;rw[B.o,ε]
    conv=>lhs;unfold Ck
    rw[ig (by omega),l.o];rfl
   case measure=>simp[intOf];omega
  have S:decide ((127:Int)<(a:Int))=false:=by simp;omega
  have L:=Aa (show Ck f a=[a%256] by
     cases f with
     | zero=>unfold Ck;rw[Nat.mod_eq_of_lt (by omega)]
     | succ f=>unfold Ck;rw[ij (by omega),Nat.mod_eq_of_lt (by omega)])
  have l:=Aa (show a%256<256 by omega);generalize a%256=y at *
  go_wp2_with (at_builtin;refine Nx rfl _ _ rfl (.slice z k A) pre k i.o rfl (D.o.keeps ((aA.refl (λ_=>False) wr).alloc _) (λ_ _ d=>d)) ⟨wr.heap.size,0,none⟩ 1 y rfl (by simp) rfl (by omega) (wr.heap.size+1) (by simp) ?_;intro P N ae t j r X;have s:=bR.cells c.o j;obtain⟨R,U⟩:=s)
  have o:=Aa (bR.more (y:=y) c.o i.o j t r l.o);go_end0;refine⟨rfl,?_⟩;rw[B.o,L.o];exact aK.then E.o C.o o.o
end
section
attribute [local go_sem ↓] Pa.execOp_loadP Pa.execOp_storeP H8 H5 H6 JV
attribute [local go_sem] Pa.run_loadP Im Ii Ib Em A3 A4 Kq Js
theorem Qj{w:World}{base T size n:Nat}{v:Value}{c:List Value}(a:w.ownsRow base T size v n c): w.ownsRow 0 T size v n c:=by
 refine⟨a.1,?_⟩;rcases a.2 with i | ⟨g,d,e,h,k,j⟩
 ·exact .inl i
 exact .inr ⟨g,d,e,h,iT _,j⟩
theorem Vi(H al:Nat)(ak:Option Nat)(c:Cfg)(o:Pa.Pn)(cl:List Pa.Pn)(t:Int)(w:World)(j:cR w H al ak c o cl)(aa:c.paned)(af:cl.length<=1000)(k:∀p∈cl,CK c p)(ai:CK c o)(ab:∀e∈o.cs,0<=e)(ag:∀p∈cl,∀e∈p.cs,0<=e)(bh:BH cl+Cq o<=4611686018427387904):
  Calls prog 197 #[π H,ι t] w λI bl=>I=.returned (.agg (Af (D7 c o cl t)).toArray)/\lX w bl:=by
 obtain⟨l,q⟩:∃l,l=(w.alloc (.cells (Af Ay).toArray 228)).alloc (.cells (Af Ay).toArray 228):=⟨_,rfl⟩;have E:=Aa (show lX w l by rw[q];exact((aA.refl _ _).alloc _).alloc _);have U:=Aa (show aD l w.heap.size (Af Ay) 228 by rw[q];exact(aD.new w _ _).alloc _);have V:=Aa (show aD l (w.heap.size+1) (Af Ay) 228 by rw[q];exact aD.newAt (by simp) _ _);have W:=Aa (show(w.alloc (.cells #[ι 0,ι 0,ι 0,ι 0,ι 0,ι 0,ι 0,ι 0,ι 0,ι 0,ι 0,ι 0,ι 0,ι 0,ι 0,ι 0,ι 0,ι 0,ι 0,ι 0,ι 0,ι 0,ι 0,ι 0,ι 0,ι 0,ι 0,ι 0,ι 0,ι 0,ι 0,ι 0,ι 0,ι 0,ι 0,ι 0,ι 0,ι 0,ι 0,ι 0,ι 0,ι 0,ι 0,ι 0,ι 0,ι 0,ι 0,ι 0] 228)).alloc (.cells #[ι 0,ι 0,ι 0,ι 0,ι 0,ι 0,ι 0,ι 0,ι 0,ι 0,ι 0,ι 0,ι 0,ι 0,ι 0,ι 0,ι 0,ι 0,ι 0,ι 0,ι 0,ι 0,ι 0,ι 0,ι 0,ι 0,ι 0,ι 0,ι 0,ι 0,ι 0,ι 0,ι 0,ι 0,ι 0,ι 0,ι 0,ι 0,ι 0,ι 0,ι 0,ι 0,ι 0,ι 0,ι 0,ι 0,ι 0,ι 0] 228)=l from q.symm);have a6:=Aa (show l.heap.size=w.heap.size+2 by rw[q];simp);have T:=Aa (PX H al ak c o cl t l (j.still E.o) aa af k ai);have R:=Aa (LY c o cl t)
 have ay:=Aa (show(A6 c o cl t).length<=1001 by
    unfold A6;rw[ic,iU]
    split <;> simp <;> omega)
 have F:=Aa (show ∀p∈A6 c o cl t,∀e∈p.cs,0<=e from λp k=>by
    unfold A6 at k;rcases ik.1 k with h | h
    ·exact ag p (iE h)
    split at h
    ·rw[im]at h;rw[h];exact ab
    cases h)
 have a4:=Aa (show BH (A6 c o cl t)<=4611686018427387904 by
    have h:=Mr cl (B7 c cl t);have ba:0<=Cq o:=Hd _;unfold A6;rw[GR];split
    ·simp only[BH];omega
    simp only[BH];omega)
 generalize A6 c o cl t=d at *
 clear q aa k ai ab ag j af bh;go_enter func197,ntmps197;go_wp2_with fail
 rw[W.o];refine T.o.mono ?_;rintro I a9 ⟨bj,rfl,M,C⟩;obtain⟨b6,bk,bi,aj⟩:=D6 M;subst bi;have az:=Aa (U.o.keeps C id);have a1:=Aa (V.o.keeps C id);have aq:=Aa (E.o.then C);have ax:=Aa M;have a7:=Aa aj;clear C T W M aj U V E;generalize P:w.heap.size=n at *
 have a0:=Aa P;clear P;generalize ah:d.length=r at *
 have B:=Aa ah;clear ah;have b0:r<=1001:=ay.o;go_wp2_with fail
 go_loopw [12] (λm wr=>∃a:Nat,m=ι a/\a<=r/\Hid (aD wr (n+1) (Af (Eg (d.take a))) 228)/\Hid (aA (λm=>m=n+1) a9 wr)) (λm _=>r-(intOf m).toNat)
 case atStart=>exact⟨0,rfl,iT _,a1,aA.refl _ _⟩
 case round =>
  obtain⟨a,rfl,bx,z,A⟩:=hrel;have bv:(0:Int)<=(a:Int):=by omega
  by_cases bf:a<r
  ·obtain⟨g,bb,br⟩:=a7.o (by omega);subst bb;have u:a<d.length:=by rw[B.o];exact bf
   have bc:g≠n+1:=by have:=a6.o;omega
   have am:=Aa (show Pa.aY wr g bk d from by
      refine Pa.brow_of_owns B.o (Qj (FB ax.o A.o (λm ad j=>?_)));have:g=m:=by simpa[Value.ownBlock] using ad
      omega)
   have D:=D4 (am.o.range a u);rw[Pa.Pn.aE]at D;have bq:Ap wr g (a*49) 49=.agg (Pa.pnAt d a).cells.toArray:=by unfold Ap;rw[D.1]
   have bp:Az wr g (a*49) 49=true:=D.2;have ap:=Aa (Pa.pnAt_drop d a u)
   have aw:=Aa (show Pa.pnAt d a∈d by
      have:Pa.pnAt d a=d[a]:=by simp[Pa.pnAt,List.getD_eq_getElem?_getD,h9 u]
      rw[this];exact jk u)
   clear D u;generalize Pa.pnAt d a=e at *
   obtain⟨X,b1,Y,L⟩:=M3 e wr
   have N:=El Y 1 48 (Af e.cs) (by
      unfold Pa.Pn.cells;simp only[kD,kJ]
      exact iw (by simp[e.len])) (by simp[Af,e.len])
   have b3:Ap X wr.heap.size 1 48=.agg (Af e.cs).toArray:=N.1;have bs:=N.2;have an:=Aa (z.o.keeps L id);have ar:=Aa (A.o.trans L (λ_ j=>j.elim));have a8:=Aa (show ∀i∈e.cs,0<=i from λi x=>F.o e aw.o i x);have a2:=Aa (show ∀i∈Eg (d.take a),0<=i from λi x=>(Ql _ (λp k=>F.o p (iZ k)) i x).1)
   have S:=Aa (show Eg (d.take (a+1))=Eu (Eg (d.take a)) e by
      rw[<-Qe];congr 1;have hlen:a<d.length:=by rw[B.o];omega
      rw[jm hlen];congr 2;have h:=ap.o;rw[δ hlen]at h
      exact(List.cons.inj h).1)
   have a5:=Aa (show ∀i∈List.zipWith (·+·) (Eg (d.take a)) e.cs,i<=4611686018427387904 from λi x=>by
      have h:i∈Eg (d.take (a+1)):=by rw[S.o];exact x
      have ba:=Ql _ (λp k=>F.o p (iZ k)) i h;have bn:=Y9 d (a+1);have bo:=a4.o
      omega)
   clear Y L N bc;have bu:(a:Int)<(r:Int):=by omega
   go_wp2_with fail
   refine(zN4 (n+1) (Eg (d.take a)) e.cs X (Jf _) e.len an.o a2.o a8.o a5.o).mono ?_;rintro I bm ⟨rfl,Z,ae⟩;have ao:=Aa Z;have au:=Aa (ar.o.then ae);clear Z ae;go_wp2;go_roundw;case rel =>
    refine⟨a+1,by go_num,by omega,?_,au.o⟩;show aD _ _ _ _;rw[S.o];exact ao.o
   case measure=>simp[intOf];omega
  have be:a=r:=by omega
  subst be;have bg:d.take a=d:=iw (by rw[B.o];omega);rw[bg,R.o]at z;have Q:(D7 c o cl t).length=48:=by rw[<-R.o];exact Jf _
  have G:=Aa (az.o.keeps A.o (by omega));obtain⟨s,J⟩:∃s,s=D7 c o cl t:=⟨_,rfl⟩;rw[<-J]at z Q;have a3:=Aa J;clear J;have O:=CM z.o 48 (by simp[Af,Q]);have b4:Ap wr (n+1) 0 48=.agg (Af s).toArray:=O.1;have bt:=O.2;have b2:wr.there n 0 48:=λb5 bd=>⟨G.o.some (by simpa[Af,Em] using bd),G.o.frozen _⟩;have av:=Aa (Zs wr n s G.o Q);clear O;go_wp2;refine iV (v:=.agg (Af s).toArray) ?_ rfl ⟨by rw[a3.o],?_⟩
  ·simp[results,results197,asAddr,av.o]
  have P:=a0.o;exact aA.setCells (Or.inr (by omega)) _ _ _ (aq.o.trans A.o (λm ad bz=>by omega))
end
section
attribute [local go_sem ↓] Pa.execOp_loadP Pa.execOp_storeP H8 JV H5 H6
attribute [local go_sem] Pa.run_loadP Im Ii Ib Ki Em A3 A4 Kq Js
def DR(c:Cfg)(bL:List Int)(key:Int)(j:Nat): Int:=bL.getD (j*16+(AA c key j).toNat) 0
def Ec(c:Cfg)(bL:List Int)(key:Int): Nat->Int
 | 0=>DR c bL key 0
 | j+1=>min (Ec c bL key j) (DR c bL key j)
def Gc(c:Cfg)(o:Pa.Pn)(cl:List Pa.Pn)(key m:Int): Int:=Ec c (D7 c o cl (m-c.aB)) key c.rows.toNat
theorem U1(e:Nat)(a m:Int)(w:World)(h:Ab a 0 2147483648=false):
  Calls prog 149 #[π e,ι a,ι m] w λc d=>c=.returned (.tuple #[.slice none 0 0,ι 10])/\lX w d:=by
 go_enter func149,ntmps149;go_wp2_with (go_at_call 140;refine(MX _ _).mono ?_;rintro c d ⟨rfl,rfl⟩)
 go_ret2;exact⟨rfl,aA.refl _ _⟩
theorem TO(r G:Nat)(aq:Option Nat)(c:Cfg)(o:Pa.Pn)(cl:List Pa.Pn)(a m:Int)(w:World)(h:cR w r G aq c o cl)(bj:Ab a 0 2147483648=true)(t:c.paned)(an:c.rowed)(cb:-4611686018427387904<=m)(cc:m<=4611686018427387904)(D:cl.length<=1000)(al:∀p∈cl,CK c p)(ak:CK c o)(ah:∀H∈o.cs,0<=H)(aj:∀p∈cl,∀H∈p.cs,0<=H)(ao:BH cl+Cq o<=4611686018427387904):
  Calls prog 149 #[π r,ι a,ι m] w λi L=>∃g,i=.returned (.tuple #[σ g 1 1,ι 0])/\w.heap.size<=g/\aD L g [ι (Gc c o cl a m)] 3/\lX w L:=by
 have bk:0<=a/\a<=2147483648:=by simpa[Ab] using bj
 obtain⟨ba,bb⟩:=bk;have c5:κ w r 5 (ι c.aB):=h.aF.cell (Ch c o G 5 (by omega));have b8:=t.w0;have b9:=t.w1;have bs:IntKind.i64.wrap (m-c.aB)=m-c.aB:=by rw[il];omega
 have a6:=Aa h;have A:=Aa an;have ax:=Aa (λB (d:lX w B)=>Vi r G aq c o cl (m-c.aB) B (h.still d) t D al ak ah aj ao);have Z:=Aa (show Gc c o cl a m=Ec c (D7 c o cl (m-c.aB)) a c.rows.toNat from rfl);have J:=h.aF.lt;clear h t an al ak ah aj ao;go_enter func149,ntmps149;go_wp2_with (first | (go_at_call 140;refine(MX _ _).mono ?_;rintro i L ⟨rfl,ap⟩;rw[ap];clear ap L) | fail)
 refine(ax.o w (aA.refl _ _)).mono ?_;rintro i ae ⟨rfl,T⟩;have ab:=Aa (a6.o.still T);have az:=Aa T;clear T c5
 have x:=Aa (show(D7 c o cl (m-c.aB)).length=48 by
    unfold D7;split
    ·exact LB (Jf _)
    exact Jf _)
 have a5:=Aa (λB (d:lX ae B)=>Pe r c o G a B (ab.o.still d).aF A.o ba bb);generalize D7 c o cl (m-c.aB)=bL at *
 go_wp2_with fail
 refine(a5.o ae (aA.refl _ _)).mono ?_;rintro i e ⟨af,N,O,rfl,am,U⟩;have a4:=Aa am;have a7:=Aa (ab.o.still U);have X:=Aa (az.o.then U);obtain⟨k,P⟩:∃k:Nat,c.rows=(k:Int):=⟨c.rows.toNat,by have:=A.o.r0;omega⟩;have bz:k<=3:=by have:=A.o.r1;omega
 have bx:1<=k:=by have:=A.o.r0;omega
 have c7:κ e r 7 (ι (k:Int)):=P ▸ a7.o.aF.cell (Ch c o G 7 (by omega));have aa:=Aa P;clear am U P J bs
 have Y:=Aa (show ∀d,d<k->∃q:Nat,q<16/\(AA c a d).toNat=q/\([Value.int .i64 af,ι N,ι O]:List Value)[d]?=some (ι (q:Int)) from λd R=>by
    have s:=Ij c A.o a d;obtain⟨n,ar,au⟩:=a4.o;rw[aa.o]at ar au;refine⟨(AA c a d).toNat,by omega,rfl,?_⟩;have ai:d=0\/d=1\/d=2:=by omega
    rcases ai with i | i | i
    ·subst i;rw[kE s.1,n];rfl
    ·subst i;rw[kE s.1,ar (by omega)];rfl
    subst i;rw[kE s.1,au (by omega)];rfl)
 obtain⟨n,b2,E,C⟩:=Y.o 0 (by omega);have bl:af=(n:Int):=by simpa using C
 clear C;subst bl;have a1:=Aa E;clear E;obtain⟨l,br,Q,v,S⟩:∃l,(Pa.storeP 228 (π e.heap.size) (.agg (Af bL).toArray)).run prog ((e.alloc (.cells #[ι 0,ι 0,ι 0,ι 0,ι 0,ι 0,ι 0,ι 0,ι 0,ι 0,ι 0,ι 0,ι 0,ι 0,ι 0,ι 0,ι 0,ι 0,ι 0,ι 0,ι 0,ι 0,ι 0,ι 0,ι 0,ι 0,ι 0,ι 0,ι 0,ι 0,ι 0,ι 0,ι 0,ι 0,ι 0,ι 0,ι 0,ι 0,ι 0,ι 0,ι 0,ι 0,ι 0,ι 0,ι 0,ι 0,ι 0,ι 0] 228)).alloc (.cells #[ι 0,ι 0,ι 0] 236))=.ok .skip l /\
   aD l e.heap.size (Af bL) 228/\aD l (e.heap.size+1) [ι 0,ι 0,ι 0] 236/\lX e l:=by
  have s:aD ((e.alloc (.cells #[ι 0,ι 0,ι 0,ι 0,ι 0,ι 0,ι 0,ι 0,ι 0,ι 0,ι 0,ι 0,ι 0,ι 0,ι 0,ι 0,ι 0,ι 0,ι 0,ι 0,ι 0,ι 0,ι 0,ι 0,ι 0,ι 0,ι 0,ι 0,ι 0,ι 0,ι 0,ι 0,ι 0,ι 0,ι 0,ι 0,ι 0,ι 0,ι 0,ι 0,ι 0,ι 0,ι 0,ι 0,ι 0,ι 0,ι 0,ι 0] 228)).alloc (.cells #[ι 0,ι 0,ι 0] 236)) e.heap.size (Af Ay) 228:=(aD.new e (Af Ay) _).alloc _;have bm:aD ((e.alloc (.cells #[ι 0,ι 0,ι 0,ι 0,ι 0,ι 0,ι 0,ι 0,ι 0,ι 0,ι 0,ι 0,ι 0,ι 0,ι 0,ι 0,ι 0,ι 0,ι 0,ι 0,ι 0,ι 0,ι 0,ι 0,ι 0,ι 0,ι 0,ι 0,ι 0,ι 0,ι 0,ι 0,ι 0,ι 0,ι 0,ι 0,ι 0,ι 0,ι 0,ι 0,ι 0,ι 0,ι 0,ι 0,ι 0,ι 0,ι 0,ι 0] 228)).alloc (.cells #[ι 0,ι 0,ι 0] 236)) (e.heap.size+1) [ι 0,ι 0,ι 0] 236:=aD.newAt (by simp) _ _;have R:lX e ((e.alloc (.cells #[ι 0,ι 0,ι 0,ι 0,ι 0,ι 0,ι 0,ι 0,ι 0,ι 0,ι 0,ι 0,ι 0,ι 0,ι 0,ι 0,ι 0,ι 0,ι 0,ι 0,ι 0,ι 0,ι 0,ι 0,ι 0,ι 0,ι 0,ι 0,ι 0,ι 0,ι 0,ι 0,ι 0,ι 0,ι 0,ι 0,ι 0,ι 0,ι 0,ι 0,ι 0,ι 0,ι 0,ι 0,ι 0,ι 0,ι 0,ι 0] 228)).alloc (.cells #[ι 0,ι 0,ι 0] 236)):=((aA.refl _ _).alloc _).alloc _;generalize(e.alloc (.cells #[ι 0,ι 0,ι 0,ι 0,ι 0,ι 0,ι 0,ι 0,ι 0,ι 0,ι 0,ι 0,ι 0,ι 0,ι 0,ι 0,ι 0,ι 0,ι 0,ι 0,ι 0,ι 0,ι 0,ι 0,ι 0,ι 0,ι 0,ι 0,ι 0,ι 0,ι 0,ι 0,ι 0,ι 0,ι 0,ι 0,ι 0,ι 0,ι 0,ι 0,ι 0,ι 0,ι 0,ι 0,ι 0,ι 0,ι 0,ι 0] 228)).alloc (.cells #[ι 0,ι 0,ι 0] 236)=a9 at *
  refine⟨_,Js a9 e.heap.size bL x.o (λca bn=>⟨s.some (by simpa[Af,Em] using bn),s.frozen _⟩),?_,?_,?_⟩
  ·have ag:=aD.setCells (Af bL) 0 _ _ s (by simp[Af,x.o,Em]);have i:over (Af Ay) 0 (Af bL)=Af bL:=by
    unfold over;rw[iX (by simp[Af,Em,x.o])];simp
   rw[i]at ag;exact ag
  ·exact bm.keeps (M:=λj=>j=e.heap.size) (aA.setCells (M:=λj=>j=e.heap.size) (Or.inl rfl) _ _ _ (aA.refl _ _)) (λh=>by have bi:e.heap.size+1=e.heap.size:=h;omega)
  exact aA.setCells (Or.inr (ir _)) _ _ _ R
 have av:=Aa Q;have a2:=Aa v;have ay:=Aa S;have bc:=v.c0;have bd:=v.c1;have be:=v.c2;have bf:=v.frozen;have bg:κ l r 7 (ι (k:Int)):=S.cell c7 id;have F:bL[n]?=some (DR c bL a 0):=by
  unfold DR;have D:n<bL.length:=by rw[x.o];omega
  rw[a1.o,k4,ja,γ,h9 D];rfl
 have bh:κ l e.heap.size n (ι (DR c bL a 0)):=Q.cell (by unfold Af;rw[iS,F];rfl);have b3:(0:Int)<=(n:Int):=by omega
 have b4:(n:Int)<16:=by omega
 clear Q v S c7 F;go_wp2_with fail
 obtain⟨u,I⟩:∃u,u=((l.setCell ⟨e.heap.size+1,0,none⟩ (ι n)).setCell ⟨e.heap.size+1,1,none⟩ (ι N)).setCell ⟨e.heap.size+1,2,none⟩ (ι O):=⟨_,rfl⟩;rw[<-I];have a3:=Aa (show aD u (e.heap.size+1) [ι n,ι N,ι O] 236 by rw[I];exact((a2.o.setCell 0 _).setCell 1 _).setCell 2 _);have V:aA (λj=>j=e.heap.size+1) l u:=by rw[I];exact(((aA.refl (λj=>j=e.heap.size+1) l).setCell (p:=⟨e.heap.size+1,0,none⟩) (Or.inl rfl) _).setCell (p:=⟨e.heap.size+1,1,none⟩) (Or.inl rfl) _).setCell (p:=⟨e.heap.size+1,2,none⟩) (Or.inl rfl) _
 have aw:=Aa (av.o.keeps V (λh=>by have bi:e.heap.size=e.heap.size+1:=h;omega));have W:=Aa (show lX w u from(X.o.then ay.o).trans V (λj b0 J=>by have:=X.o.size;omega));clear I V bc bd be bf bg bh br;generalize e.heap.size=ad at *
 go_loopw [10,37] (λbt j wr=>∃d:Nat,j=ι d/\d<=k/\bt=ι (Ec c bL a d)/\Hid (lX u wr)) (λ_ j _=>k-(intOf j).toNat)
 case atStart=>exact⟨0,rfl,iT _,rfl,aA.refl _ _⟩
 case round =>
  obtain⟨d,rfl,R,rfl,z⟩:=hrel;have b1:(0:Int)<=(d:Int):=by omega
  by_cases J:d<k
  ·have ai:(d:Int)<3:=by omega
   obtain⟨q,b5,E,C⟩:=Y.o d J;have b6:(0:Int)<=(q:Int):=by omega
   have b7:(q:Int)<16:=by omega
   have bu:κ wr (ad+1) d (ι (q:Int)):=z.o.cell (a3.o.cell C) id;have F:bL[d*16+q]?=some (DR c bL a d):=by
    unfold DR;have D:d*16+q<bL.length:=by rw[x.o];omega
    rw[E,γ,h9 D];rfl
   have bv:κ wr ad (d*16+q) (ι (DR c bL a d)):=z.o.cell (aw.o.cell (by unfold Af;rw[iS,F];rfl)) id;have a0:=Aa (show Ec c bL a (d+1)=min (Ec c bL a d) (DR c bL a d) from rfl);clear F E C;generalize Ec c bL a d=a8 at *
   generalize DR c bL a d=H at *
   rcases Int.lt_trichotomy a8 H with t | t | t;all_goals
    go_wp2_with fail
    go_quiet (fail)
    go_wp2;go_roundw;case rel =>
     refine⟨d+1,by go_num,by omega,?_,z.o.then (aA.drewN _ _ _)⟩;rw[a0.o];congr 1;omega
    case measure=>simp[intOf];omega
  have bo:d=k:=by omega
  subst bo;have bp:c.rows.toNat=d:=by rw[aa.o];simp
  rw[bp]at Z;go_wp2;go_ret2;have bq:=(W.o.then z.o).size;exact⟨wr.heap.size,rfl,bq,by rw[Z.o];exact aD.new wr [ι (Ec c bL a d)] 3,(W.o.then z.o).alloc _⟩
