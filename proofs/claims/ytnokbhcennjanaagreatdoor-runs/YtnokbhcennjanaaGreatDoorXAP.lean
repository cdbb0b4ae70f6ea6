import Derived.Test.YtnokbhcennjanaaGreatDoorXAO
open Go.RowKit Go.Proofs.Tryz
set_option maxRecDepth 100000
set_option maxHeartbeats 16000000
namespace Go.Proofs.YtnokbhcennjanaaGreatDoor.Dr
def bB(w:World)(q:Nat)(og:Option Nat)(l:List It): Prop :=
 match og with
 | none=>l=[]/\aD w q [Ci,.slice none 0 0] 278
 | some g=>q≠g/\∃cap,aD w q [Ci,.slice (some ⟨g,0,none⟩) l.length cap] 278/\aP w g cap l
theorem bB.lt{w:World}{d:Nat}{c:Option Nat}{l:List It}(a:bB w d c l): d<w.heap.size/\∀g,c=some g->g<w.heap.size/\d≠g:=by
 cases c with
 | none=>exact⟨a.2.lt,λ_ a=>by cases a⟩
 | some g=>obtain⟨h,j,e,i⟩:=a;exact⟨e.lt,λk a=>by cases a;exact⟨i.lt,h⟩⟩
theorem bB.keeps{M:Nat->Prop}{w w':World}{d:Nat}{a:Option Nat}{l:List It}(c:bB w d a l)(k:aA M w w')(e:¬M d)(j:∀g,a=some g->¬M g): bB w' d a l:=by
 cases a with
 | none=>exact⟨c.1,c.2.keeps k e⟩
 | some g=>obtain⟨m,h,i,n⟩:=c;exact⟨m,h,i.keeps k e,n.keeps k (j g rfl)⟩
theorem len_any(e:Nat)(d:Option Nat)(l:List It)(w:World)(c:bB w e d l):
  Calls prog 206 #[.pointer (some ⟨e,0,none⟩)] w λh m=>h=.returned (.int .i64 l.length)/\m=w:=by
 cases d with
 | none =>
  obtain⟨i,a⟩:=c;have j:=a.c1;subst i;clear a;go_enter func206,ntmps206;go_wp2;go_ret;exact⟨rfl,rfl⟩
 | some g =>
  obtain⟨o,n,a,k⟩:=c;have j:=a.c1;clear a k;go_enter func206,ntmps206;go_wp2;go_ret;exact⟨rfl,rfl⟩
theorem Jk(m:Nat)(k:Option Nat)(l:List It)(w:World)(h:bB w m k l):
  Calls prog 230 #[.pointer (some ⟨m,0,none⟩)] w λt A=>t=.returned (.tuple #[(itAt l 0).val,.bool (!l.isEmpty)])/\lO w A:=by
 have i:=h.lt;cases k with
 | none =>
  obtain⟨u,c⟩:=h;have z:=c.c1;subst u;have x:=c.lt;clear c i;go_enter func230,ntmps230;go_wp2;exact iN (v:=.tuple #[.agg #[.int .i64 0,.int .i64 0,.int .i64 0,.int .i64 0,.int .i64 0],.bool false]) (by simp[results,results230,go_sem]) rfl ⟨rfl,by repeat (first | exact aA.refl _ _ | apply aA.drew | apply aA.alloc)⟩
 | some g =>
  obtain⟨F,B,c,d⟩:=h;have z:=c.c1;have x:=c.lt;have C:=d.lt;cases l with
  | nil =>
   clear c d i;go_enter func230,ntmps230;go_wp2;exact iN (v:=.tuple #[.agg #[.int .i64 0,.int .i64 0,.int .i64 0,.int .i64 0,.int .i64 0],.bool false]) (by simp[results,results230,go_sem]) rfl ⟨rfl,by repeat (first | exact aA.refl _ _ | apply aA.drew | apply aA.alloc)⟩
  | cons a e =>
   obtain⟨n,o,q,r,s⟩:=d.cells 0 (by simp);have j:itAt (a::e) 0=a:=rfl;rw[j]at n o q r s ⊢;simp only[kS,ja]at n o q r s;have D:(((a::e).length:Int)==0)=false:=by simp;omega
   have E:(0:Int)<((a::e).length:Int):=by simp
   generalize(a::e).length=G at *
   clear c d i j;go_enter func230,ntmps230;go_wp2;exact iN (v:=.tuple #[.agg #[.int .i64 a.t,.int .i64 a.k,.int .i64 a.d,.int .i64 a.n,.int .i64 a.v],.bool true]) (by simp[results,results230,go_sem]) rfl ⟨rfl,by repeat (first | exact aA.refl _ _ | apply aA.drew | apply aA.alloc)⟩
end Go.Proofs.YtnokbhcennjanaaGreatDoor.Dr
namespace Go.Proofs.YtnokbhcennjanaaGreatDoor.Dr
theorem Fo: (prog.info? 247).map (λa=>(a.zero,a.size,a.bytes))=some (some (.agg #[.int .i64 0,.int .i64 0,.int .i64 0,.int .i64 0,.int .i64 0]),5,40):=by kernel_rfl
theorem riseL_length(f:Nat)(l:List It)(i:Nat): (riseL f l i).length=l.length:=by
 induction f generalizing l i with
 | zero=>rfl
 | succ f a =>
  unfold riseL;split
  ·rfl
  split
  ·rw[a,Ca]
  rfl
theorem G5(f:Nat)(l:List It)(i:Nat): (sinkL f l i).length=l.length:=by
 induction f generalizing l i with
 | zero=>rfl
 | succ f a =>
  unfold sinkL;split
  ·rfl
  split
  ·rw[a,Ca]
  rfl
theorem bB.owns{w:World}{i:Nat}{c:Option Nat}{l:List It}(h:bB w i c l):
  ∃a,aD w i [Ci,AH c l.length a] 278/\w.ownsRow 0 247 5 (AH c l.length a) l.length (flat l):=by
 cases c with
 | none=>obtain⟨rfl,d⟩:=h;exact⟨0,d,ir _ _ _ _⟩
 | some g =>
  obtain⟨o,a,d,e⟩:=h;obtain⟨j,k,m,n⟩:=e.ex;exact⟨a,d,G4 l,.inr ⟨g,a,j.toArray,rfl,iM _,k,e.le,e.max,by simp[m],by simpa using n⟩⟩
theorem Li{w:World}{g n c:Nat}{l:List It}(o:l.length=n)(e:w.ownsRow 0 247 5 (.slice (some ⟨g,0,none⟩) n c) n (flat l)): aP w g c l:=by
 rcases e.2 with ⟨a,_⟩ | ⟨r,q,d,a,_,h,i,j,k,m⟩
 ·cases a
 cases a;subst o;exact⟨⟨d.toList,by unfold aD;simpa using h,by simpa using k,m⟩,i,j⟩
theorem MH{w i:World}{m B:Obj}{a d n z j:Nat}{h:Option Nat}{l:List It}{x:It}{v:Value}(G:l.length=n)(H:AH h n z=v)(J:a<w.heap.size)(I:∀g,h=some g->g<w.heap.size/\a≠g)(C:aD w a [Ci,v] 278)(u:some a≠v.ownBlock)(s:i.ownsRow 0 247 5 (.slice (some ⟨d,0,none⟩) (n+1) j) (n+1) (flat l++[.int .i64 x.t,.int .i64 x.k,.int .i64 x.d,.int .i64 x.n,.int .i64 x.v]))(q:((w.alloc m).alloc B).drew.grownBy i v.ownBlock)(o:v.ownBlock=some d\/d=w.heap.size+2):
  QB (i.setCell ⟨a,1,none⟩ (.slice (some ⟨d,0,none⟩) (n+1) j)) a (.slice (some ⟨d,0,none⟩) (n+1) j) /\
  aP (i.setCell ⟨a,1,none⟩ (.slice (some ⟨d,0,none⟩) (n+1) j)) d j (l++[x]) /\
  aA (λc=>c=a\/h=some c) w (i.setCell ⟨a,1,none⟩ (.slice (some ⟨d,0,none⟩) (n+1) j))/\a≠d/\(h=some d\/w.heap.size<=d):=by
 have r:∀c,v.ownBlock=some c->h=some c:=by
  intro c k;rw[<-H]at k;cases h with
  | none=>simp[AH,Value.ownBlock]at k
  | some g=>simpa[AH,Value.ownBlock] using k
 have t:a≠d:=by
  rcases o with e | e
  ·intro A;apply u;rw[e,A]
  omega
 have F:aA (λc=>c=a\/h=some c) w i:=(((aA.refl _ w).alloc m).alloc B).drew.grown q (λc k=>Or.inl (Or.inr (r c k)));have D:aD i a [Ci,v] 278:=by
  unfold aD;rw[q.block a (by simp;omega) u];exact(C.alloc m).alloc B
 refine⟨⟨D.setCell 1 _⟩,?_,F.setCell (Or.inl (Or.inl rfl)) _,t,?_⟩
 ·have E:flat l++[.int .i64 x.t,.int .i64 x.k,.int .i64 x.d,.int .i64 x.n,.int .i64 x.v]=flat (l++[x]):=by rw[IS];rfl
  rw[E]at s;exact(Li (by simp[G]) s).keeps (M:=λc=>c=a) ((aA.refl (λc=>c=a) _).setCell (Or.inl rfl) _) (λe=>t e.symm)
 rcases o with e | e
 ·exact .inl (r d e)
 exact .inr (by omega)
theorem put_any(c:Nat)(j:Option Nat)(l:List It)(x:It)(w:World)(e:bB w c j l)(aq:l.length<=900):
  Calls prog 205 #[.pointer (some ⟨c,0,none⟩),x.val] w λF T=>F=.returned (.tuple #[])/\∃C,bB T c C (riseL (l.length+1) (l++[x]) l.length)/\aA (λo=>o=c\/j=some o) w T/\(C=j\/∃o,C=some o/\w.heap.size<=o):=by
 obtain⟨N,z⟩:=e.lt;obtain⟨E,r,aj⟩:=e.owns;have ak:=r.c1;have ae:=r.frozen 1;obtain⟨ap,ah,am,an,ao⟩:=jh Fo;generalize P:l.length=d at *
 generalize B:AH j d E=m at *
 unfold It.val;have V:Hid (aD w c [Ci,m] 278):=r;have aa:Hid (AH j d E=m):=B;have u:Hid (l.length=d):=P;have S:some c≠m.ownBlock:=by
  rw[<-B];cases j with
  | none=>simp[AH,Value.ownBlock]
  | some g=>simp[AH,Value.ownBlock];exact(z g rfl).2
 have D:Hid (∀i h k,((w.alloc i).alloc h).drew.grownBy k m.ownBlock->k.cell? ⟨c,1,none⟩=some m/\k.frozen? ⟨c,1,none⟩=false):=λi h k af=>by
  have L:k.heap[c]?=w.heap[c]?:=by
   rw[af.block c (by simp;omega) S];show((w.alloc i).alloc h).heap[c]?=_;rw[jq _ _ _ (by simp;omega),jq _ _ _ N]
  exact⟨(jw (a:=⟨c,1,none⟩) L).trans ak,(jH (a:=⟨c,1,none⟩) L).trans ae⟩
 have ai:Hid (∀i h,((w.alloc i).alloc h).drew.heap[w.heap.size+1]?=some h):=λi h=>by
  have:=iJ (w.alloc i) h;rwa [jU]at this
 have Z:Hid (∀g,j=some g->g<w.heap.size/\c≠g):=z;clear r e B P z;go_enter func205,ntmps205;go_wp2_with fail
 go_region_law
  ((refine kz _ (by rfl) _ _ _ (by rfl) 0 247 ap _ 5 40 underlying254 ah am an ao rfl (by omega) m d (flat l) (by rfl) (((aj.alloc _).alloc _).drew)
        ⟨w.heap.size+1,0,none⟩ 1 1 [.int .i64 x.t,.int .i64 x.k,.int .i64 x.d,.int .i64 x.n,.int .i64 x.v] (by rfl) (by rfl) (iT (cs:=#[.int .i64 x.t,.int .i64 x.k,.int .i64 x.d,.int .i64 x.n,.int .i64 x.v]) (t:=247) (fr:=(0,0)) (ai.out _ _)) (by simp[Value.oneCell'])
        (by omega) (by unfold maxLen;omega) (by omega) (by omega) (w.heap.size+2) (by simp) ?_;intro n q k R s J O;have ab:=(D.out _ _ _ s).1;have ad:=(D.out _ _ _ s).2))
 all_goals
  have W:=MH u.out aa.out N Z.out V.out S R s J;obtain⟨I,G,H,A,Q⟩:=W;have v:=Aa I;have X:=Aa G;have Y:=Aa H;clear I G H R s J O ab ad;generalize k.setCell ⟨c,1,none⟩ (.slice (some ⟨n,0,none⟩) (d+1) q)=U at *
  have ar:U.cell? ⟨c,1,none⟩=some (.slice (some ⟨n,0,none⟩) (d+1) q):=v.o.b.cell rfl;go_wp2_with fail
  refine(M5 c n d q (d+1) U (l++[x]) (by simp[u.out]) (by omega) v.o X.o (by omega) A).mono ?_;rintro F av ⟨rfl,M,al⟩;go_wp2;go_end0;refine⟨rfl,some n,⟨A,q,?_,al⟩,Y.o.trans M (λau ag O=>?_),?_⟩
  ·have:(riseL (d+1) (l++[x]) d).length=d+1:=by rw[riseL_length];simp[u.out]
   rw[this];exact v.o.b.keeps M A
  ·subst ag;rcases Q with e | e
   ·exact .inr e
   omega
  rcases Q with e | e
  ·exact .inl e.symm
  exact .inr ⟨n,rfl,e⟩
end Go.Proofs.YtnokbhcennjanaaGreatDoor.Dr
namespace Go.Proofs.YtnokbhcennjanaaGreatDoor.Dr
theorem new_any(w:World):
  Calls prog 203 #[Ci] w λc a=>c=.returned (.pointer (some ⟨w.heap.size,0,none⟩))/\bB a w.heap.size none []/\lO w a/\a.heap.size=w.heap.size+1:=by
 unfold Ci;go_enter func203,ntmps203;go_wp2;go_ret;exact⟨rfl,⟨rfl,aD.new _ [_,_] _⟩,(aA.refl _ _).alloc _,by simp⟩
def takeL(l:List It): List It:=sinkL l.length ((l.set 0 (itAt l (l.length-1))).take (l.length-1)) 0
theorem aP.take{w:World}{g c:Nat}{l:List It}(a:aP w g c l)(m:Nat): aP w g c (l.take m):=by
 obtain⟨d,e,i,j⟩:=a.ex;have h:∀(l:List It) (m:Nat),flat (l.take m)=(flat l).take (m*5):=by
  intro l;induction l with
  | nil=>intro m;simp[flat]
  | cons n l k =>
   intro m;cases m with
   | zero=>simp[flat]
   | succ m=>rw[show(m+1)*5=m*5+5 by omega];simp[flat,k]
 refine⟨⟨d,e,i,?_⟩,jI (List.length_take_le' _ _) a.le,a.max⟩;rw[h,<-j,kB];congr 1;simp
theorem take_any(e g:Nat)(l:List It)(w:World)(c:bB w e (some g) l)(N:l.length<=900)(ae:0<l.length):
  Calls prog 207 #[.pointer (some ⟨e,0,none⟩)] w λH ao=>H=.returned (.tuple #[(itAt l 0).val,.bool true])/\bB ao e (some g) (takeL l)/\aA (λi=>i=e\/i=g) w ao:=by
 obtain⟨bt,af⟩:=c.lt;obtain⟨af,z⟩:=af g rfl;have P:=Aa c;clear c;have a5:(!l.isEmpty)=true:=by cases l with | nil=>simp at ae | cons=>rfl
 obtain⟨r,ag⟩:∃r,r=l.length:=⟨_,rfl⟩;have b0:0<r:=by omega
 have b1:r<=900:=by omega
 have q:=Aa ag;clear ag N ae;go_enter func207,ntmps207;go_wp2_with fail
 refine(Jk e (some g) l _ (P.o.keeps ((aA.refl (λ_=>False) _).alloc _) id (λ_ _ c=>c))).mono ?_;rintro H k ⟨rfl,J⟩;rw[a5];unfold It.val;have ad:aD k w.heap.size [.int .i64 0,.int .i64 0,.int .i64 0,.int .i64 0,.int .i64 0] 247:=(aD.new w _ 247).keeps J id;have L:lO w k:=((aA.refl (λ_=>False) w).alloc _).then J;obtain⟨_,j,C,I⟩:=P.o.keeps L id (λ_ _ c=>c);rw[<-q.o]at C;have b3:e<k.heap.size:=C.lt;have b2:g<k.heap.size:=I.lt;have ba:e≠w.heap.size:=by omega
 have a7:g≠w.heap.size:=by omega
 have Q:=Aa ad;have V:=Aa L;have G:=Aa C;have T:=Aa I;clear J ad L C I;generalize ak:itAt l 0=a;have a1:=Aa ak;clear ak;obtain⟨d,a8⟩:∃d,r=d+1:=⟨r-1,by omega⟩;subst a8;have O:=G.o.c1;go_wp2_with fail
 have u:lO k (k.alloc (.cells #[.int .i64 a.t,.int .i64 a.k,.int .i64 a.d,.int .i64 a.n,.int .i64 a.v] 247)):=(aA.refl _ _).alloc _;have al:aD (k.alloc (.cells #[.int .i64 a.t,.int .i64 a.k,.int .i64 a.d,.int .i64 a.n,.int .i64 a.v] 247)) k.heap.size [.int .i64 a.t,.int .i64 a.k,.int .i64 a.d,.int .i64 a.n,.int .i64 a.v] 247:=aD.new _ _ _;generalize k.alloc (.cells #[.int .i64 a.t,.int .i64 a.k,.int .i64 a.d,.int .i64 a.n,.int .i64 a.v] 247)=n at *
 have aa:=Aa al;have Y:=Aa (Q.o.keeps u id);have B:=Aa (G.o.keeps u id);have o:=Aa (T.o.keeps u id);have U:=Aa (aA.then V.o u);clear u al Q G T V O;generalize bb:k.heap.size=aw at *
 generalize ai:w.heap.size=h at *
 have a0:=Aa ai;clear bb ai;have O:=B.o.c1;have a9:n.frozen? ⟨e,1,none⟩=false:=B.o.frozen 1;obtain⟨ap,aq,ar,au,av⟩:=o.o.cells 0 (by rw[<-q.o];omega);obtain⟨bc,bd,be,bf,bg⟩:=o.o.cells d (by rw[<-q.o];omega);simp only[kS,ja]at ap aq ar au av;have a6:=o.o.frozen;generalize an:itAt l d=y at *
 have a2:=Aa an;clear an;have bv:(0:Int)<=(d:Int):=by omega
 have bx:(d:Int)<(d:Int)+1:=by omega
 have a4:=o.o.le;rw[<-q.o]at a4;have bz:(d:Int)<=(j:Int):=by omega
 have R:=Aa (o.o.put 0 y);have X:=Aa ((B.o.keeps ((aA.refl (λi=>i=g) n).putTk (Or.inl rfl) 0 y) z).setCell 1 (.slice (some ⟨g,0,none⟩) d j));have A:=Aa ((((aA.refl (λi=>i=e\/i=g) n).putTk (Or.inl (Or.inr rfl)) 0 y).setCell (p:=⟨e,1,none⟩) (Or.inl (Or.inl rfl)) (.slice (some ⟨g,0,none⟩) d j)).drew);have S:=Aa ((R.o.keeps (M:=λi=>i=e) ((aA.refl (λi=>i=e) _).setCell (p:=⟨e,1,none⟩) (Or.inl rfl) (.slice (some ⟨g,0,none⟩) d j)) (λc=>z c.symm)).drew);go_region
 go_wp2_with fail
 have ab:((((((n.setCell ⟨g,0,none⟩ (.int .i64 y.t)).setCell ⟨g,1,none⟩ (.int .i64 y.k)).setCell ⟨g,2,none⟩ (.int .i64 y.d)).setCell ⟨g,3,none⟩ (.int .i64 y.n)).setCell ⟨g,4,none⟩ (.int .i64 y.v)).setCell ⟨e,1,none⟩ (.slice (some ⟨g,0,none⟩) d j)).drew=((bP n g 0 y).setCell ⟨e,1,none⟩ (.slice (some ⟨g,0,none⟩) d j)).drew:=by
  unfold bP;rfl
 rw[ab];clear ab O a9 ap aq ar au av bc bd be bf bg a6;have F:Hid (QB ((bP n g 0 y).setCell ⟨e,1,none⟩ (.slice (some ⟨g,0,none⟩) d j)).drew e (.slice (some ⟨g,0,none⟩) d j)):=⟨X.o.drew⟩;have hlen:((l.set 0 y).take d).length=d:=by have:=q.o;simp;omega
 have W:=Aa hlen;have Z:=Aa (show takeL l=sinkL (d+1) ((l.set 0 y).take d) 0 by unfold takeL;rw[<-q.o,lK,a2.o]);clear hlen R X;generalize((bP n g 0 y).setCell ⟨e,1,none⟩ (.slice (some ⟨g,0,none⟩) d j)).drew=a3 at *
 refine(Ko e g 0 j d a3 ((l.set 0 y).take d) W.o (by omega) (by omega) F.o (S.o.take d) (by omega) z).mono ?_;rintro H D ⟨rfl,x,ah⟩;have aj:¬(h=e\/h=g):=by omega
 have am:¬(aw=e\/aw=g):=by omega
 have t:=Aa ((aa.o.keeps A.o am).keeps x (λc=>am (Or.inr c)));have m:=Aa ((Y.o.keeps A.o aj).keeps x (λc=>aj (Or.inr c)));have ax:=Aa (F.o.b.keeps x z);have ay:=Aa ah;have az:=Aa (((U.o.mono (M':=λi=>i=e\/i=g) (λ_ _ c=>c.elim)).then A.o).trans x (λ_ c _=>Or.inr c));clear x ah F S A U aa Y o B;have bh:=t.o.c0;have bi:=t.o.c1;have bj:=t.o.c2;have bk:=t.o.c3;have bl:=t.o.c4;have bm:=m.o.c0;have bn:=m.o.c1;have bo:=m.o.c2;have bp:=m.o.c3;have bq:=m.o.c4;have br:=m.o.frozen
 have E:=Aa (show aA (λi=>i=h) D (((((D.setCell ⟨h,0,none⟩ (.int .i64 a.t)).setCell ⟨h,1,none⟩ (.int .i64 a.k)).setCell ⟨h,2,none⟩ (.int .i64 a.d)).setCell ⟨h,3,none⟩ (.int .i64 a.n)).setCell ⟨h,4,none⟩ (.int .i64 a.v)) from
    (((((aA.refl (λi=>i=h) D).setCell (p:=⟨h,0,none⟩) (Or.inl rfl) _).setCell (p:=⟨h,1,none⟩) (Or.inl rfl) _).setCell (p:=⟨h,2,none⟩) (Or.inl rfl) _).setCell (p:=⟨h,3,none⟩) (Or.inl rfl) _).setCell (p:=⟨h,4,none⟩) (Or.inl rfl) _)
 have s:=Aa (((((m.o.setCell 0 (.int .i64 a.t)).setCell 1 (.int .i64 a.k)).setCell 2 (.int .i64 a.d)).setCell 3 (.int .i64 a.n)).setCell 4 (.int .i64 a.v));go_wp2;generalize(((((D.setCell ⟨h,0,none⟩ (.int .i64 a.t)).setCell ⟨h,1,none⟩ (.int .i64 a.k)).setCell ⟨h,2,none⟩ (.int .i64 a.d)).setCell ⟨h,3,none⟩ (.int .i64 a.n)).setCell ⟨h,4,none⟩ (.int .i64 a.v))=b5 at *
 have c0:=s.o.c0;have c1:=s.o.c1;have c2:=s.o.c2;have c3:=s.o.c3;have c4:=s.o.c4;refine iN (v:=.tuple #[.agg #[.int .i64 a.t,.int .i64 a.k,.int .i64 a.d,.int .i64 a.n,.int .i64 a.v],.bool true]) (by simp[results,results207,go_sem,c0,c1,c2,c3,c4]) rfl ⟨by rw[a1.o];rfl,⟨z,j,?_,?_⟩,?_⟩
 ·have N:(takeL l).length=d:=by rw[Z.o,G5];exact W.o
  rw[N];exact ax.o.keeps E.o (λc=>ba c)
 ·rw[Z.o];exact ay.o.keeps E.o (λc=>a7 c)
 exact az.o.trans E.o (λb4 bs bu=>by have:=a0.o;omega)
end Go.Proofs.YtnokbhcennjanaaGreatDoor.Dr
namespace Go.Proofs.YtnokbhcennjanaaGreatDoor
section
attribute [local go_sem ↓] AN B2
attribute [local go_sem] AO B4 A5 A6 AI AJ Bf B3
def Mz(c:Cfg)(q:Nat): List Value:=c.cells++[.pointer (some ⟨q,0,none⟩)]
structure dM (w:World) (d q:Nat) (og:Option Nat) (c:Cfg) (l:List Dr.It):Prop where
 aF:aD w d (Mz c q) 250
 dL:Dr.bB w q og l
 dq:d≠q
 dg:∀g,og=some g->d≠g
theorem dM.keeps{M:Nat->Prop}{w w':World}{d h:Nat}{e:Option Nat}{c:Cfg}{l:List Dr.It}(a:dM w d h e c l)(k:aA M w w')(i:¬M d)(m:¬M h)(j:∀g,e=some g->¬M g): dM w' d h e c l :=
 ⟨a.aF.keeps k i,a.dL.keeps k m j,a.dq,a.dg⟩
theorem dM.still{w w':World}{d h:Nat}{e:Option Nat}{c:Cfg}{l:List Dr.It}(a:dM w d h e c l)(k:lO w w'): dM w' d h e c l:=a.keeps k id id (λ_ _ a=>a)
theorem Ic{M:Nat->Prop}{w w':World}{b o n:Nat}(h:aA M w w')(i:b<w.heap.size)(e:¬M b): Ao w' b o n=Ao w b o n/\Ay w' b o n=Ay w b o n:=by
 have d:∀c,w'.cell? ⟨b,o+c,none⟩=w.cell? ⟨b,o+c,none⟩:=λc=>jw (a:=⟨b,o+c,none⟩) (h.block b i e);constructor
 ·unfold Ao Cv;simp only[d]
 unfold Ay;simp only[d]
theorem Qd(a:Nat)(c:Option Nat)(l:List Dr.It)(n:Int)(w:World)(e:Dr.bB w a c l)(i:(l.length:Int)=n):
  Calls prog 206 #[.pointer (some ⟨a,0,none⟩)] w λd j=>d=.returned (.int .i64 n)/\j=w :=
 (Dr.len_any a c l w e).mono λ_ _ ⟨h,hw⟩=>⟨by rw[h,i],hw⟩
def tick(c:Cfg)(y:It): Dr.It:=⟨y.t,y.k,y.d,y.n,Ar (Am c y.t)⟩
def AU(c:Cfg)(l:List Dr.It)(y:It): List Dr.It :=
 if c.size+1<((l.length+1:Nat):Int) then Dr.takeL (Dr.riseL (l.length+1) (l++[tick c y]) l.length) else Dr.riseL (l.length+1) (l++[tick c y]) l.length
theorem Nj(e h:Nat)(o:Option Nat)(c:Cfg)(l:List Dr.It)(y:It)(m:Int)(w:World)(a:dM w e h o c l)(Z:c.bH)(bq:0<=y.t)(bc:y.t<=4611686018427387904)(bo:1<=c.size)(bp:c.size<=5)(bk:l.length<=6):
  Calls prog 159 #[.pointer (some ⟨e,0,none⟩),y.val,.int .i64 m] w λL j=>L=.returned (.tuple #[])/\∃aa,dM j e h aa c (AU c l y)/\aA (λd=>d=h\/o=some d) w j/\(aa=o\/∃d,aa=some d/\w.heap.size<=d):=by
 obtain⟨k,N⟩:∃k,k=w.alloc (.cells y.cells 80):=⟨_,rfl⟩;have G:=Aa (show lO w k by rw[N];exact(aA.refl _ _).alloc _);have D:aD k w.heap.size [.int .i64 y.t,.int .i64 y.k,.int .i64 y.d,.int .i64 y.n] 80:=by rw[N];exact aD.new w _ _
 have aw:=Aa N;have v:=Aa (a.still G.o);clear N;obtain⟨bl,ak⟩:=a.dL.lt
 have J:=Aa (show ¬(w.heap.size=h\/o=some w.heap.size) from λa=>by
    rcases a with a | a
    ·omega
    have:=(ak _ a).1;omega)
 have z:=Aa (show ¬(e=h\/o=some e) from λA=>by
    rcases A with A | A
    ·exact a.dq A
    exact a.dg e A rfl)
 have O:=v.o.aF;have a0:k.cell? ⟨e,20,none⟩=some (.pointer (some ⟨h,0,none⟩)):=O.cell rfl;have bd:=D.c0;have be:=D.c1;have bf:=D.c2;have bg:=D.c3;obtain⟨a9,a6⟩:=Eg O 0 20 c.cells rfl rfl;have C:=O.lt;have ap:=Aa Z;have au:=Aa G.o.size;have av:=Aa a.aF;clear O a D Z ak;obtain⟨u,S⟩:∃u,u=tick c y:=⟨_,rfl⟩;have ax:=Aa S;have an:Ar (Am c y.t)=u.v:=by rw[S];rfl
 have az:=Aa an;have ay:=Aa (show Dr.It.val u=.agg #[.int .i64 y.t,.int .i64 y.k,.int .i64 y.d,.int .i64 y.n,.int .i64 u.v] by rw[S];rfl);clear S an;unfold It.val;go_enter func159,ntmps159;go_wp2_with fail
 rw[show w.alloc (.cells #[.int .i64 y.t,.int .i64 y.k,.int .i64 y.d,.int .i64 y.n] 80)=k from aw.o.symm];generalize ao:w.heap.size=T at *
 have ah:=Aa ao;clear ao;go_region_held3 (λj=>j.cell? ⟨e,20,none⟩=some (.pointer (some ⟨h,0,none⟩))/\Ao j e 0 20=.agg c.cells.toArray/\Ay j e 0 20=true/\j.cell? ⟨T,0,none⟩=some (.int .i64 y.t)/\j.cell? ⟨T,1,none⟩=some (.int .i64 y.k)/\j.cell? ⟨T,2,none⟩=some (.int .i64 y.d)/\j.cell? ⟨T,3,none⟩=some (.int .i64 y.n))
  (first | (go_split_ands;exact⟨by assumption,by assumption,by assumption,by assumption,by assumption,by assumption,by assumption⟩) | (go_split_ands;exact⟨n.cell (by assumption) z.o,(Ic n (by have B:=i.size;have Y:k.heap.size<=X.heap.size:=(by simpa using B);omega) z.o).1.trans (by assumption),(Ic n (by have B:=i.size;have Y:k.heap.size<=X.heap.size:=(by simpa using B);omega) z.o).2.trans (by assumption),n.cell (by assumption) J.o,n.cell (by assumption) J.o,n.cell (by assumption) J.o,n.cell (by assumption) J.o⟩) | (go_split_ands;exact⟨i.cell (by assumption) id,(Ic i (by first | exact C | simpa using C) id).1.trans (by assumption),(Ic i (by first | exact C | simpa using C) id).2.trans (by assumption),i.cell (by assumption) id,i.cell (by assumption) id,i.cell (by assumption) id,i.cell (by assumption) id⟩))
  (first | (go_at_call 202;refine(Lg c y.t _ ap.o (by omega) bc).mono ?_;rintro L X ⟨rfl,i⟩;rw[az.o]) | (go_at_call 205;rw[<-ay.o];refine(Dr.put_any h o l u _ (by exact v.o.dL.keeps (M:=λ_=>False) (((aA.refl _ _).drew).then i) id (λ_ _ a=>a)) (by omega)).mono ?_;rintro L s ⟨rfl,ab,R,n,al⟩))
 have ae:=Aa ((((aA.refl (λ_=>False) k).drew).then i));have W:=Aa ((ae.o.mono (M':=λd=>d=h\/o=some d) (λ_ _ a=>a.elim)).then n);have F:=Aa (v.o.aF.keeps W.o z.o);have bi:s.cell? ⟨e,10,none⟩=some (.int .i64 c.size):=F.o.cell rfl;have a1:s.cell? ⟨e,20,none⟩=some (.pointer (some ⟨h,0,none⟩)):=F.o.cell rfl;have ar:=Aa ae.o.size;obtain⟨q,Q⟩:∃q,q=Dr.riseL (l.length+1) (l++[u]) l.length:=⟨_,rfl⟩;rw[<-Q]at R;have hlen:q.length=l.length+1:=by rw[Q,Dr.riseL_length];simp
 have ag:=Aa (show AU c l y=if c.size+1<((l.length+1:Nat):Int) then Dr.takeL q else q by unfold AU;rw[Q,ax.o]);have H:=Aa hlen
 have V:=Aa (show ∀d,ab=some d->o=some d\/w.heap.size<=d from λd P=>by
    rcases al with a | ⟨bb,a,a7⟩
    ·exact .inl (by rw[<-a];exact P)
    rw[a]at P;injection P with P;have x:=ar.o;have B:=au.o;have Y:=ah.o
    have a3:X.heap.size<=bb:=a7
    exact .inr (by omega))
 obtain⟨g,a5⟩:∃g,ab=some g:=by
  cases ab with
  | none=>have:=R.1;rw[this]at hlen;simp at hlen
  | some g=>exact⟨g,rfl⟩
 subst a5;have I:=Aa R
 have af:=Aa (show some g=o\/∃d,some g=some d/\w.heap.size<=d from by
    rcases V.o g rfl with a | a
    ·exact .inl a.symm
    exact .inr ⟨g,rfl,a⟩)
 have U:=Aa (show e≠g from λa=>by
    rcases V.o g rfl with x | x
    ·exact z.o (.inr (by rw[a];exact x))
    have B:=C;have Y:=ah.o
    have a3:=av.o.lt
    omega)
 clear R Q al i n a0 bd be bf bg a9 a6 hlen;generalize a8:l.length=E at *
 clear a8;have bn:IntKind.i64.wrap (c.size+1)=c.size+1:=by rw[ic];omega
 by_cases Z:c.size+1<(E:Int)+1
 ·have a4:decide (c.size+1<(E:Int)+1)=true:=by simp;omega
  go_wp2_with fail
  go_quiet (first | (go_at_call 206;refine jv (Qd h (some g) q ((E:Int)+1) _ (by exact I.o.keeps (M:=λ_=>False) (aA.drewN _ _ _) id (λ_ _ a=>a)) (by have:=H.o;omega))))
  have bj:(s.drewN nq).cell? ⟨e,20,none⟩=some (.pointer (some ⟨h,0,none⟩)):=a1;have r:=Aa (aA.drewN (λ_=>False) s nq);generalize s.drewN nq=ai at *
  go_wp2_with fail
  refine(Dr.take_any h g q ai (I.o.keeps r.o id (λ_ _ a=>a)) (by have:=H.o;omega) (by have:=H.o;omega)).mono ?_;rintro L bh ⟨rfl,am,aj⟩;have aq:=Aa am;have ad:=Aa aj;clear am aj;go_wp2;go_end0;refine⟨rfl,some g,⟨?_,?_,v.o.dq,λa2 a=>by injection a with a;rw[<-a];exact U.o⟩,?_,af.o⟩
  ·exact(F.o.keeps r.o id).keeps ad.o (λa=>a.elim v.o.dq (λa=>U.o a))
  ·rw[ag.o,h9 (by omega)];exact aq.o
  exact((G.o.mono (λ_ _ a=>a.elim)).then W.o).trans ((r.o.mono (λ_ _ a=>a.elim)).then ad.o) (λba t bm=>by
     rcases t with t | t
     ·exact .inl t
     rcases V.o g rfl with x | x
     ·exact .inr (by rw[t];exact x)
     omega)
 have a4:decide (c.size+1<(E:Int)+1)=false:=by simp;omega
 go_wp2_with fail
 go_quiet (first | (go_at_call 206;refine jv (Qd h (some g) q ((E:Int)+1) _ (by exact I.o.keeps (M:=λ_=>False) (aA.drewN _ _ _) id (λ_ _ a=>a)) (by have:=H.o;omega))))
 have r:=Aa (aA.drewN (λ_=>False) s nq);generalize s.drewN nq=ai at *
 go_wp2;go_end0;refine⟨rfl,some g,⟨?_,?_,v.o.dq,λa2 a=>by injection a with a;rw[<-a];exact U.o⟩,?_,af.o⟩
 ·exact F.o.keeps r.o id
 ·rw[ag.o,hZ (by omega)];exact I.o.keeps r.o id (λ_ _ a=>a)
 exact((G.o.mono (λ_ _ a=>a.elim)).then W.o).trans r.o (λba t=>t.elim)
end
section
theorem Hp(ρ:Operand->Value)(dst:Option Tmp)(x:Operand)(a:TypeId)(pos:String)(after:Array Edge)(guard:Option (Nat×Bool)):
  execOp ρ { dst,op:=.load 228 x,type:=a,pos,after,guard }=EP 228 (ρ x):=rfl
theorem MX: (prog.info? 228).map (·.size)=some 48:=by kernel_rfl
theorem H8(w:World)(b o:Nat)(a:Ay w b o 48=true): (EP 228 (.pointer (some ⟨b,o,none⟩))).run prog w=.ok (.value (Ao w b o 48)) w:=by
 unfold EP;rw[jm,run_loadAt_mid w b o 228 (Cv w b o 48) _ (JD a) underlying228 rfl (by rw[MX];simp[Cv])];rfl
def Ax: List Int:=List.replicate 48 0
theorem Eh: Ax.length=48:=by simp[Ax]
def Ct(n:Int): Pa.Pn:=⟨n,Ax,Eh⟩
def GQ(ty:TypeId)(ps:Array (Nat×Value)): Sem Next:=do pure (.value (<-Instr.build ty ps))
theorem Hn(ρ:Operand->Value)(dst:Option Tmp)(x:Array (Nat×Operand))(c:TypeId)(pos:String)(after:Array Edge)(guard:Option (Nat×Bool)):
  execOp ρ { dst,op:=.build 228 x,type:=c,pos,after,guard }=GQ 228 (x.map λ(a,y)=>(a,ρ y)):=rfl
theorem Hm(ρ:Operand->Value)(dst:Option Tmp)(x:Array (Nat×Operand))(c:TypeId)(pos:String)(after:Array Edge)(guard:Option (Nat×Bool)):
  execOp ρ { dst,op:=.build 230 x,type:=c,pos,after,guard }=GQ 230 (x.map λ(a,y)=>(a,ρ y)):=rfl
theorem H5(w:World): (GQ 228 #[]).run prog w=.ok (.value (.agg (Af Ax).toArray)) w:=by kernel_rfl
theorem Hu(n:Int)(w:World): (GQ 230 #[(0,.int .i64 n)]).run prog w=.ok (.value (.agg (Ct n).cells.toArray)) w:=by kernel_rfl
theorem Ka(n:Int)(a:Nat)(w:World)(c:w.there a 20 49): (Pa.storeP 230 (.pointer (some ⟨a,20,none⟩)) (.agg (Ct n).cells.toArray)).run prog w=.ok .skip (w.setCells a 20 (Ct n).cells) :=
 Pa.run_storeP w a 20 (Ct n).cells (Ct n).aE c (Ct n).one
attribute [local go_sem ↓] Pa.execOp_loadP Pa.execOp_storeP Hp Hn Hm
attribute [local go_sem] Pa.run_loadP H8 H5 Hu Ka zLt Eh A5 A6
def A8(o:Pa.Pn)(cl:List Pa.Pn)(n:Int): Pa.Pn×List Pa.Pn:=if o.no=n then(o,cl) else(Ct n,if o.cs=Ax then cl else cl++[o])
theorem Mo{w:World}{a e:Nat}{c:Cfg}{o:Pa.Pn}(d:aD w a (Be c o e) 233): w.there a 20 49:=λi h =>
 ⟨d.some (by simp[Be,Cfg.cells,o.aE];omega),d.frozen _⟩
theorem Jd{w:World}{a h:Nat}{c:Cfg}{o:Pa.Pn}(i:aD w a (Be c o h) 233): w.rangeAt a 20 o.cells:=λe k d=>by
 have j:e<49:=by have:=(ik.1 d).1;rwa [o.aE]at this
 exact i.cell ((Jp c o h e j).trans d)
theorem VK{w:World}{d h:Nat}{c:Cfg}{o:Pa.Pn}(i:aD w d (Be c o h) 233): w.rangeAt d 21 (Af o.cs):=λa k e=>by
 have j:a<48:=by have:=(ik.1 e).1;simpa[Af,o.len] using this
 rw[show 21+a=20+(a+1) by omega];refine i.cell ((Jp c o h (a+1) (by omega)).trans ?_);simpa[Pa.Pn.cells,Af] using e
theorem Q3{w:World}{d a:Nat}{c:Cfg}{o:Pa.Pn}(p:Pa.Pn)(j:aD w d (Be c o a) 233): aD (w.setCells d 20 p.cells) d (Be c p a) 233:=by
 have:=aD.setCells p.cells 20 _ _ j (by simp[Be,Cfg.cells,p.aE,o.aE]);have e:over (Be c o a) 20 p.cells=Be c p a:=by
  unfold over Be;have k:c.cells.length=20:=by simp[Cfg.cells]
  rw[iX (by omega),iq (by omega),List.drop_append,List.drop_append];have h:List.drop 69 c.cells=[]:=iU (by omega);have i:List.drop 49 o.cells=[]:=iU (by rw[o.aE];omega);simp[k,p.aE,o.aE,h,i]
 rw[e]at this;exact this
theorem Pj(p:Pa.Pn)(w:World):
  Calls prog 222 #[p.val] w λa c=>a=.returned (.bool (decide (p.cs=Ax)))/\lO w c:=by
 have h:=p.len;have d:=p.aE;have i:Ao (w.alloc (.cells p.cells.toArray 230)) w.heap.size 1 48=.agg (Af p.cs).toArray:=by
  rw[TJ _ _ _ _ _ (by omega)];have:(p.cells.drop 1).take 48=Af p.cs:=by
   unfold Pa.Pn.cells;simp only[kx,kD];exact iq (by simp[p.len])
  rw[this]
 have e:Ay (w.alloc (.cells p.cells.toArray 230)) w.heap.size 1 48=true:=UE _ _ _ _ _ (by omega);unfold Pa.Pn.val;go_enter func222,ntmps222;go_wp2;go_ret;exact⟨rfl,(aA.refl _ _).alloc _⟩
theorem Qh(a h:Nat)(k:Option Nat)(c:Cfg)(o:Pa.Pn)(cl:List Pa.Pn)(n:Int)(w:World)(l:aD w a (Be c o h) 233)(W:Pa.aH w a h k cl)(C:a≠h)(U:∀g,k=some g->a≠g)(af:cl.length<=1000000000):
  Calls prog 192 #[.pointer (some ⟨a,0,none⟩),.int .i64 n] w λj q=>j=.returned (.tuple #[])/\∃u,aD q a (Be c (A8 o cl n).1 h) 233/\Pa.aH q a h u (A8 o cl n).2/\aA (λe=>e=a\/e=h\/k=some e) w q/\(u=k\/∃e,u=some e/\w.heap.size<=e):=by
 have ab:w.cell? ⟨a,20,none⟩=some (.int .i64 o.no):=l.cell ((Jp c o h 0 (by omega)).trans rfl);have T:w.cell? ⟨a,69,none⟩=some (.pointer (some ⟨h,0,none⟩)):=l.cell (Jx c o h);have L:=Mo l;have i:=Dv (Jd l);have X:=Dv (VK l);rw[o.aE]at i;rw[show(Af o.cs).length=48 by simp[Af,o.len]]at X;have F:Ao w a 20 49=o.val:=by unfold Ao Pa.Pn.val;rw[i.1]
 have D:=i.2;have N:=Aa l;have R:=Aa W;have B:=Aa U;clear l W i X U;by_cases J:o.no=n
 ·have m:A8 o cl n=(o,cl):=by unfold A8;rw[h9 J]
  rw[m];clear L F D;go_enter func192,ntmps192;go_wp2;refine iN (ks rfl _ _ _) rfl ?_;exact⟨rfl,k,N.o,R.o,aA.refl _ _,.inl rfl⟩
 have P:=Aa (Pj o w);clear T L;unfold Pa.Pn.val at *
 go_enter func192,ntmps192;go_wp2_with fail
 refine P.o.mono ?_;rintro j A ⟨rfl,z⟩;have r:=Aa (N.o.keeps z id);have S:=Aa (R.o.still z);have Q:=Aa z;have E:=r.o.lt;have aa:=Aa z.size;clear z F D ab P;have T:A.cell? ⟨a,69,none⟩=some (.pointer (some ⟨h,0,none⟩)):=r.o.cell (Jx c o h);have L:=Mo r.o;have i:=Dv (Jd r.o);rw[o.aE]at i;have F:Ao A a 20 49=.agg o.cells.toArray:=by unfold Ao;rw[i.1]
 have D:=i.2;clear i;by_cases t:o.cs=Ax
 ·have m:A8 o cl n=(Ct n,cl):=by unfold A8;rw[hZ J,h9 t]
  have H:=Aa m;have v:decide (o.cs=Ax)=true:=by simpa using t
  rw[v];clear F D v t m;go_wp2;go_end0;rw[H.o];refine⟨rfl,k,Q3 _ r.o,S.o.keeps (M:=λe=>e=a) (aA.setCells (M:=λe=>e=a) (Or.inl rfl) _ _ _ (aA.refl _ _)) (λd=>C d.symm) (λg x d=>B.o g x d.symm),aA.setCells (Or.inl (Or.inl rfl)) _ _ _ (Q.o.mono (λ_ _ d=>d.elim)),.inl rfl⟩
 have m:A8 o cl n=(Ct n,cl++[o]):=by unfold A8;rw[hZ J,hZ t]
 have H:=Aa m;have v:decide (o.cs=Ax)=false:=by simpa using t
 rw[v];clear t v m;go_wp2_with fail
 have G:=Aa (show ¬(a=h\/k=some a) by rintro (d | d);exact C d;exact B.o a d rfl);go_region_held3 (λq=>q.cell? ⟨a,69,none⟩=some (.pointer (some ⟨h,0,none⟩))/\Ao q a 20 49=.agg o.cells.toArray/\Ay q a 20 49=true)
  (first | (go_split_ands;exact⟨by assumption,by assumption,by assumption⟩) | (go_split_ands;exact⟨s.cell (by assumption) G.o,(Ic s (by first | exact E | simpa using E) G.o).1.trans (by assumption),(Ic s (by first | exact E | simpa using E) G.o).2.trans (by assumption)⟩))
  (first | (go_at_call 223;refine(Pa.rowPut_any a h k cl o _ (by exact S.o.still (aA.refl _ _).drew) af).mono ?_;rintro j ai ⟨rfl,u,i,s,V⟩))
 have O:=Aa ((r.o.keeps ((aA.refl (λ_=>False) A).drew) id).keeps s (by rintro (d | d);exact C d;exact B.o a d rfl));have ah:=Mo O.o;have Y:=Aa s;have Z:=Aa i;clear i s;go_wp2;go_end0;have ag:=aa.o;have ad:∀g,u=some g->g≠a:=λg x d=>by
  rcases V with j | ⟨e,j,I⟩
  ·exact B.o g (j ▸ x) d.symm
  rw[j]at x;cases x;have ae:A.heap.size<=g:=I;omega
 rw[H.o];refine⟨rfl,u,Q3 _ O.o,Z.o.keeps (M:=λe=>e=a) (aA.setCells (M:=λe=>e=a) (Or.inl rfl) _ _ _ (aA.refl _ _)) (λd=>C d.symm) ad,aA.setCells (Or.inl (Or.inl rfl)) _ _ _ ((((Q.o.mono (M':=λe=>e=a\/e=h\/k=some e) (λ_ _ d=>d.elim)).drew).then (Y.o.mono (λe _ d=>Or.inr d)))),?_⟩;rcases V with j | ⟨e,j,I⟩
 ·exact .inl j
 exact .inr ⟨e,j,by have ae:A.heap.size<=e:=I;omega⟩
