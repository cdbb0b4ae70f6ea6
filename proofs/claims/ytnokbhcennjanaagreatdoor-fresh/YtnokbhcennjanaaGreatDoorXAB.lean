import Derived.Test.YtnokbhcennjanaaGreatDoorXAA
import Derived.Laws.CopyOwn
import Derived.Laws.IdiomCopy
open Go.RowKit Go.Proofs.Tryz
set_option maxRecDepth 100000
set_option maxHeartbeats 16000000
namespace Go.Proofs.YtnokbhcennjanaaGreatDoor
section
def sinkL: Nat->List It->Nat->List It
 | 0,l,_=>l
 | f+1,l,i=>if Bn l i<0 then l else if BY (itAt l (Bn l i).toNat) (itAt l i) then sinkL f (swapL l i (Bn l i).toNat) (Bn l i).toNat else l
theorem GI(l:List It)(i:Nat): Bn l i=-1\/∃a:Nat,Bn l i=a/\i<a/\a<l.length:=by
 unfold Bn;split
 ·split
  ·split
   ·exact .inr ⟨_,rfl,by omega,by omega⟩
   exact .inr ⟨_,rfl,by omega,by omega⟩
  exact .inr ⟨_,rfl,by omega,by omega⟩
 exact .inl rfl
theorem K9(k g i cap n:Nat)(w:World)(l:List It)(Q:l.length=n)(af:n<=1000)(ad:i<=1000)(R:QB w k (σ g n cap))(S:aP w g cap l)(hi:i<n\/n=0)(F:k≠g):
  Calls prog 117 #[π k,ι i] w λv h=>v=.returned (.tuple #[])/\aA (·=g) w h/\aP h g cap (sinkL (n+1) l i):=by
 have I:Hid (QB w k (σ g n cap)):=R;have aa:Hid (aP w g cap l):=S;have Z:Hid (l.length=n):=Q;have X:Hid (i<n\/n=0):=hi;clear R S Q hi;go_enter func117,ntmps117;go_wp2;go_loopw [1] (λG wr=>∃(c f:Nat) (e:List It),G=ι c/\Hid (c<n\/n=0)/\c<=1000/\n<=c+f/\Hid (e.length=n)/\Hid (aA (·=g) w wr)/\Hid (aP wr g cap e)/\Hid (sinkL (n+1) l i=sinkL (f+1) e c)) (λG _=>2000-(intOf G).toNat)
 case atStart=>exact⟨i,n,l,rfl,X,ad,by omega,Z,aA.refl _ _,aa,rfl⟩
 case round =>
  obtain⟨c,f,e,rfl,ag,ae,ak,q,s,H,z⟩:=hrel;go_wp2_with fail
  refine(M6 k g c cap n wr e q.out af ae ⟨I.out.b.keeps s.out F⟩ H.out).mono ?_;rintro v j ⟨rfl,x⟩;have A:Hid (lX wr j):=x;have r:Hid (aP j g cap e):=H.out.keeps x id;have B:Hid (QB j k (σ g n cap)):=⟨(I.out.b.keeps s.out F).keeps x id⟩;clear x;have ap:κ j k 1 (σ g n cap):=B.out.b.cell rfl;have ao:κ j k 0 (.func (.func 66) #[] #[]):=B.out.b.cell rfl;rcases GI e c with o | ⟨d,o,am,E⟩
  ·have u:Hid (Bn e c=-1):=o;rw[o];clear o;go_wp2;go_quiet (fail)
   go_wp2;refine iV (kB rfl _ _ _) rfl ?_;refine⟨rfl,(s.out.trans A.out (λ_ a=>a.elim)).trans (aA.drewN (λ_=>False) j _) (λ_ a=>a.elim),?_⟩;rw[z.out];simp only[sinkL,u.out];exact r.out.keeps (aA.drewN (λ_=>False) j _) id
  have u:Hid (Bn e c=(d:Int)):=o;rw[o];clear o;have M:d<n:=by rw[q.out]at E;exact E
  clear E;have P:c<n:=by omega
  obtain⟨aq,ar,au,av⟩:=r.out.cells d (by rw[q.out];exact M);obtain⟨aw,ax,ay,az⟩:=r.out.cells c (by rw[q.out];exact P);have al:(0:Int)<=(c:Int):=by omega
  have an:(c:Int)<(n:Int):=by omega
  have ah:(0:Int)<=(d:Int):=by omega
  have ai:(d:Int)<(n:Int):=by omega
  have aj:decide ((d:Int)<0)=false:=by simp
  generalize U:itAt e d=m at *
  generalize V:itAt e c=y at *
  have J:Hid (itAt e d=m):=U;have L:Hid (itAt e c=y):=V;clear U V;cases hab:BY m y;all_goals
   go_wp2
   go_region_held3 (λh=>h.cell? ⟨k,0,none⟩=some (.func (.func 66) #[] #[])/\h.cell? ⟨k,1,none⟩=some (σ g n cap) /\
      h.cell? ⟨g,d*4,none⟩=some (ι m.t)/\h.cell? ⟨g,d*4+1,none⟩=some (ι m.k)/\h.cell? ⟨g,d*4+2,none⟩=some (ι m.d)/\h.cell? ⟨g,d*4+3,none⟩=some (ι m.n) /\
      h.cell? ⟨g,c*4,none⟩=some (ι y.t)/\h.cell? ⟨g,c*4+1,none⟩=some (ι y.k)/\h.cell? ⟨g,c*4+2,none⟩=some (ι y.d)/\h.cell? ⟨g,c*4+3,none⟩=some (ι y.n)) (go_keep)
    (first | (go_at_call 66;refine(Il m y _).mono ?_;rintro v h ⟨rfl,rfl⟩))
   have N:lX j ((j.alloc (.cells m.cells 80)).alloc (.cells y.cells 80)).drew:=(((aA.refl _ _).alloc _).alloc _).drew;generalize((j.alloc (.cells m.cells 80)).alloc (.cells y.cells 80)).drew=C at *
   have t:Hid (lX j C):=N;clear N
  ·go_wp2;refine iV (kB rfl _ _ _) rfl ?_;refine⟨rfl,(s.out.trans A.out (λ_ a=>a.elim)).trans t.out (λ_ a=>a.elim),?_⟩;rw[z.out];simp only[sinkL,u.out,iM,J.out,L.out,hab,ig (show ¬((d:Int)<0) by omega)];exact r.out.keeps t.out id
  go_wp2_with fail
  refine(J4 k g c d cap n C e q.out ⟨B.out.b.keeps t.out id⟩ (r.out.keeps t.out id) P (by omega) (by omega) F).mono ?_;rintro v W ⟨rfl,O,T⟩;have Y:Hid (aA (·=g) C W):=O;have ab:Hid (aP W g cap (swapL e c d)):=T;clear O T;go_wp2;go_roundw;case rel =>
   obtain⟨D,rfl⟩:∃D,f=D+1:=⟨f-1,by omega⟩;refine⟨d,D,swapL e c d,rfl,.inl M,by omega,by omega,(Ce _ _ _).trans q.out,((s.out.trans A.out (λ_ a=>a.elim)).trans t.out (λ_ a=>a.elim)).then Y.out,ab,?_⟩;show _=_;rw[z.out]
   conv=>lhs;unfold sinkL
   simp only[u.out,iM,J.out,L.out,hab,ig (show ¬((d:Int)<0) by omega),lQ]
  case measure=>simp[intOf];omega
def bB(w:World)(q:Nat)(og:Option Nat)(l:List It): Prop :=
 match og with
 | none=>l=[]/\aD w q [Cn,.slice none 0 0] 159
 | some g=>q≠g/\∃cap,aD w q [Cn,σ g l.length cap] 159/\aP w g cap l
theorem bB.lt{w:World}{d:Nat}{c:Option Nat}{l:List It}(a:bB w d c l): d<w.heap.size/\∀g,c=some g->g<w.heap.size/\d≠g:=by
 cases c with
 | none=>exact⟨a.2.lt,λ_ a=>by cases a⟩
 | some g=>obtain⟨h,j,e,i⟩:=a;exact⟨e.lt,λk a=>by cases a;exact⟨i.lt,h⟩⟩
theorem bB.keeps{M:Nat->Prop}{w w':World}{d:Nat}{a:Option Nat}{l:List It}(c:bB w d a l)(k:aA M w w')(e:¬M d)(j:∀g,a=some g->¬M g): bB w' d a l:=by
 cases a with
 | none=>exact⟨c.1,c.2.keeps k e⟩
 | some g=>obtain⟨m,h,i,n⟩:=c;exact⟨m,h,i.keeps k e,n.keeps k (j g rfl)⟩
theorem len_any(e:Nat)(d:Option Nat)(l:List It)(w:World)(c:bB w e d l):
  Calls prog 67 #[π e] w λh m=>h=.returned (ι l.length)/\m=w:=by
 cases d with
 | none =>
  obtain⟨i,a⟩:=c;have j:=a.c1;subst i;clear a;go_enter func67,ntmps67;go_wp2;go_ret;exact⟨rfl,rfl⟩
 | some g =>
  obtain⟨o,n,a,k⟩:=c;have j:=a.c1;clear a k;go_enter func67,ntmps67;go_wp2;go_ret;exact⟨rfl,rfl⟩
theorem J1(m:Nat)(k:Option Nat)(l:List It)(w:World)(h:bB w m k l):
  Calls prog 69 #[π m] w λs z=>s=.returned (.tuple #[(itAt l 0).val,.bool (!l.isEmpty)])/\lX w z:=by
 have i:=h.lt;cases k with
 | none =>
  obtain⟨t,c⟩:=h;have x:=c.c1;subst t;have u:=c.lt;clear c i;go_enter func69,ntmps69;go_wp2;exact iV (v:=.tuple #[.agg #[ι 0,ι 0,ι 0,ι 0],.bool false]) (by simp[results,results69,go_sem]) rfl ⟨rfl,by repeat (first | exact aA.refl _ _ | apply aA.drew | apply aA.alloc)⟩
 | some g =>
  obtain⟨E,A,c,d⟩:=h;have x:=c.c1;have u:=c.lt;have B:=d.lt;cases l with
  | nil =>
   clear c d i;go_enter func69,ntmps69;go_wp2;exact iV (v:=.tuple #[.agg #[ι 0,ι 0,ι 0,ι 0],.bool false]) (by simp[results,results69,go_sem]) rfl ⟨rfl,by repeat (first | exact aA.refl _ _ | apply aA.drew | apply aA.alloc)⟩
  | cons a e =>
   obtain⟨n,o,q,r⟩:=d.cells 0 (by simp);have j:itAt (a::e) 0=a:=rfl;rw[j]at n o q r ⊢;simp only[k4,ja]at n o q r;have C:(((a::e).length:Int)==0)=false:=by simp;omega
   have D:(0:Int)<((a::e).length:Int):=by simp
   generalize(a::e).length=F at *
   clear c d i j;go_enter func69,ntmps69;go_wp2;exact iV (v:=.tuple #[.agg #[ι a.t,ι a.k,ι a.d,ι a.n],.bool true]) (by simp[results,results69,go_sem]) rfl ⟨rfl,by repeat (first | exact aA.refl _ _ | apply aA.drew | apply aA.alloc)⟩
theorem Fw: (prog.info? 80).map (λa=>(a.zero,a.size,a.bytes))=some (some (.agg #[ι 0,ι 0,ι 0,ι 0]),4,32):=by kernel_rfl
theorem riseL_length(f:Nat)(l:List It)(i:Nat): (riseL f l i).length=l.length:=by
 induction f generalizing l i with
 | zero=>rfl
 | succ f a =>
  unfold riseL;split
  ·rfl
  split
  ·rw[a,Ce]
  rfl
theorem GE(f:Nat)(l:List It)(i:Nat): (sinkL f l i).length=l.length:=by
 induction f generalizing l i with
 | zero=>rfl
 | succ f a =>
  unfold sinkL;split
  ·rfl
  split
  ·rw[a,Ce]
  rfl
def AM(og:Option Nat)(n cap:Nat): Value:=match og with | none=>.slice none 0 0 | some g=>σ g n cap
theorem bB.owns{w:World}{i:Nat}{c:Option Nat}{l:List It}(h:bB w i c l):
  ∃a,aD w i [Cn,AM c l.length a] 159/\w.ownsRow 0 80 4 (AM c l.length a) l.length (flat l):=by
 cases c with
 | none=>obtain⟨rfl,d⟩:=h;exact⟨0,d,iy _ _ _ _⟩
 | some g =>
  obtain⟨o,a,d,e⟩:=h;obtain⟨j,k,m,n⟩:=e.ex;exact⟨a,d,GJ l,.inr ⟨g,a,j.toArray,rfl,iT _,k,e.le,e.max,by simp[m],by simpa using n⟩⟩
theorem L8{w:World}{g n cap:Nat}{l:List It}(m:l.length=n)(d:w.ownsRow 0 80 4 (σ g n cap) n (flat l)): aP w g cap l:=by
 rcases d.2 with ⟨a,_⟩ | ⟨q,o,c,a,_,e,h,i,j,k⟩
 ·cases a
 cases a;subst m;exact⟨⟨c.toList,by unfold aD;simpa using e,by simpa using j,k⟩,h,i⟩
theorem MY{w h:World}{k B:Obj}{a gg n cap i:Nat}{e:Option Nat}{l:List It}{x:It}{v:Value}(E:l.length=n)(F:AM e n cap=v)(H:a<w.heap.size)(G:∀g,e=some g->g<w.heap.size/\a≠g)(z:aD w a [Cn,v] 159)(t:some a≠v.ownBlock)(r:h.ownsRow 0 80 4 (σ gg (n+1) i) (n+1) (flat l++[ι x.t,ι x.k,ι x.d,ι x.n]))(o:((w.alloc k).alloc B).drew.grownBy h v.ownBlock)(m:v.ownBlock=some gg\/gg=w.heap.size+2):
  QB (h.setCell ⟨a,1,none⟩ (σ gg (n+1) i)) a (σ gg (n+1) i) /\
  aP (h.setCell ⟨a,1,none⟩ (σ gg (n+1) i)) gg i (l++[x]) /\
  aA (λc=>c=a\/e=some c) w (h.setCell ⟨a,1,none⟩ (σ gg (n+1) i))/\a≠gg/\(e=some gg\/w.heap.size<=gg):=by
 have q:∀c,v.ownBlock=some c->e=some c:=by
  intro c j;rw[<-F]at j;cases e with
  | none=>simp[AM,Value.ownBlock]at j
  | some g=>simpa[AM,Value.ownBlock] using j
 have s:a≠gg:=by
  rcases m with d | d
  ·intro u;apply t;rw[d,u]
  omega
 have D:aA (λc=>c=a\/e=some c) w h:=(((aA.refl _ w).alloc k).alloc B).drew.grown o (λc j=>Or.inl (Or.inr (q c j)));have A:aD h a [Cn,v] 159:=by
  unfold aD;rw[o.block a (by simp;omega) t];exact(z.alloc k).alloc B
 refine⟨⟨A.setCell 1 _⟩,?_,D.setCell (Or.inl (Or.inl rfl)) _,s,?_⟩
 ·have C:flat l++[ι x.t,ι x.k,ι x.d,ι x.n]=flat (l++[x]):=by rw[Jg];rfl
  rw[C]at r;exact(L8 (by simp[E]) r).keeps (M:=λc=>c=a) ((aA.refl (λc=>c=a) _).setCell (Or.inl rfl) _) (λd=>s d.symm)
 rcases m with d | d
 ·exact .inl (q gg d)
 exact .inr (by omega)
theorem put_any(c:Nat)(j:Option Nat)(l:List It)(x:It)(w:World)(e:bB w c j l)(aq:l.length<=900):
  Calls prog 68 #[π c,x.val] w λF T=>F=.returned (.tuple #[])/\∃C,bB T c C (riseL (l.length+1) (l++[x]) l.length)/\aA (λo=>o=c\/j=some o) w T/\(C=j\/∃o,C=some o/\w.heap.size<=o):=by
 obtain⟨N,z⟩:=e.lt;obtain⟨E,r,aj⟩:=e.owns;have ak:=r.c1;have ae:=r.frozen 1;obtain⟨ap,ah,am,an,ao⟩:=jg Fw;generalize P:l.length=d at *
 generalize B:AM j d E=m at *
 unfold It.val;have V:Hid (aD w c [Cn,m] 159):=r;have aa:Hid (AM j d E=m):=B;have u:Hid (l.length=d):=P;have S:some c≠m.ownBlock:=by
  rw[<-B];cases j with
  | none=>simp[AM,Value.ownBlock]
  | some g=>simp[AM,Value.ownBlock];exact(z g rfl).2
 have D:Hid (∀i h k,((w.alloc i).alloc h).drew.grownBy k m.ownBlock->κ k c 1 m/\k.frozen? ⟨c,1,none⟩=false):=λi h k af=>by
  have L:k.heap[c]?=w.heap[c]?:=by
   rw[af.block c (by simp;omega) S];show((w.alloc i).alloc h).heap[c]?=_;rw[ju _ _ _ (by simp;omega),ju _ _ _ N]
  exact⟨(jB (a:=⟨c,1,none⟩) L).trans ak,(jM (a:=⟨c,1,none⟩) L).trans ae⟩
 have ai:Hid (∀i h,((w.alloc i).alloc h).drew.heap[w.heap.size+1]?=some h):=λi h=>by
  have:=iH (w.alloc i) h;rwa [jR]at this
 have Z:Hid (∀g,j=some g->g<w.heap.size/\c≠g):=z;clear r e B P z;go_enter func68,ntmps68;go_wp2_with fail
 go_region_law
  ((refine kF _ (by rfl) _ _ _ (by rfl) 0 80 ap _ 4 32 underlying134 ah am an ao rfl (by omega) m d (flat l) (by rfl) (((aj.alloc _).alloc _).drew)
        ⟨w.heap.size+1,0,none⟩ 1 1 [ι x.t,ι x.k,ι x.d,ι x.n] (by rfl) (by rfl) (iJ (cs:=#[ι x.t,ι x.k,ι x.d,ι x.n]) (t:=80) (fr:=(0,0)) (ai.out _ _)) (by simp[Value.oneCell'])
        (by omega) (by unfold maxLen;omega) (by omega) (by omega) (w.heap.size+2) (by simp) ?_;intro n q k R s J O;have ab:=(D.out _ _ _ s).1;have ad:=(D.out _ _ _ s).2))
 all_goals
  have W:=MY u.out aa.out N Z.out V.out S R s J;obtain⟨I,G,H,A,Q⟩:=W;have v:=Aa I;have X:=Aa G;have Y:=Aa H;clear I G H R s J O ab ad;generalize k.setCell ⟨c,1,none⟩ (σ n (d+1) q)=U at *
  have ar:κ U c 1 (σ n (d+1) q):=v.o.b.cell rfl;go_wp2_with fail
  refine(MD c n d q (d+1) U (l++[x]) (by simp[u.out]) (by omega) v.o X.o (by omega) A).mono ?_;rintro F av ⟨rfl,M,al⟩;go_wp2;go_end0;refine⟨rfl,some n,⟨A,q,?_,al⟩,Y.o.trans M (λau ag O=>?_),?_⟩
  ·have:(riseL (d+1) (l++[x]) d).length=d+1:=by rw[riseL_length];simp[u.out]
   rw[this];exact v.o.b.keeps M A
  ·subst ag;rcases Q with e | e
   ·exact .inr e
   omega
  rcases Q with e | e
  ·exact .inl e.symm
  exact .inr ⟨n,rfl,e⟩
theorem new_any(w:World):
  Calls prog 65 #[Cn] w λc a=>c=.returned (π w.heap.size)/\bB a w.heap.size none []/\lX w a/\a.heap.size=w.heap.size+1:=by
 unfold Cn;go_enter func65,ntmps65;go_wp2;go_ret;exact⟨rfl,⟨rfl,aD.new _ [_,_] _⟩,(aA.refl _ _).alloc _,by simp⟩
def takeL(l:List It): List It:=sinkL l.length ((l.set 0 (itAt l (l.length-1))).take (l.length-1)) 0
theorem aP.take{w:World}{g cap:Nat}{l:List It}(a:aP w g cap l)(m:Nat): aP w g cap (l.take m):=by
 obtain⟨c,d,h,i⟩:=a.ex;have e:∀(l:List It) (m:Nat),flat (l.take m)=(flat l).take (m*4):=by
  intro l;induction l with
  | nil=>intro m;simp[flat]
  | cons k l j =>
   intro m;cases m with
   | zero=>simp[flat]
   | succ m=>rw[show(m+1)*4=m*4+4 by omega];simp[flat,j]
 refine⟨⟨c,d,h,?_⟩,jN (List.length_take_le' _ _) a.le,a.max⟩;rw[e,<-i,kv];congr 1;simp
theorem take_any(e g:Nat)(l:List It)(w:World)(a:bB w e (some g) l)(N:l.length<=900)(ae:0<l.length):
  Calls prog 70 #[π e] w λH ao=>(∃an,H=.returned an)/\bB ao e (some g) (takeL l)/\aA (λh=>h=e\/h=g) w ao:=by
 obtain⟨bp,af⟩:=a.lt;obtain⟨af,u⟩:=af g rfl;have P:=Aa a;clear a;have a3:(!l.isEmpty)=true:=by cases l with | nil=>simp at ae | cons=>rfl
 obtain⟨r,ag⟩:∃r,r=l.length:=⟨_,rfl⟩;have bu:0<r:=by omega
 have bv:r<=900:=by omega
 have o:=Aa ag;clear ag N ae;go_enter func70,ntmps70;go_wp2_with fail
 refine(J1 e (some g) l _ (P.o.keeps ((aA.refl (λ_=>False) _).alloc _) id (λ_ _ a=>a))).mono ?_;rintro H k ⟨rfl,J⟩;rw[a3];unfold It.val;have ad:aD k w.heap.size [ι 0,ι 0,ι 0,ι 0] 80:=(aD.new w _ 80).keeps J id;have L:lX w k:=((aA.refl (λ_=>False) w).alloc _).then J;obtain⟨_,j,C,I⟩:=P.o.keeps L id (λ_ _ a=>a);rw[<-o.o]at C;have bz:e<k.heap.size:=C.lt;have bx:g<k.heap.size:=I.lt;have a8:e≠w.heap.size:=by omega
 have a5:g≠w.heap.size:=by omega
 have Q:=Aa ad;have V:=Aa L;have G:=Aa C;have T:=Aa I;clear J ad L C I;generalize a9:itAt l 0=c;clear a9;obtain⟨d,a6⟩:∃d,r=d+1:=⟨r-1,by omega⟩;subst a6;have O:=G.o.c1;go_wp2_with fail
 have s:lX k (k.alloc (.cells #[ι c.t,ι c.k,ι c.d,ι c.n] 80)):=(aA.refl _ _).alloc _;have ak:aD (k.alloc (.cells #[ι c.t,ι c.k,ι c.d,ι c.n] 80)) k.heap.size [ι c.t,ι c.k,ι c.d,ι c.n] 80:=aD.new _ _ _;generalize k.alloc (.cells #[ι c.t,ι c.k,ι c.d,ι c.n] 80)=m at *
 have aa:=Aa ak;have Y:=Aa (Q.o.keeps s id);have A:=Aa (G.o.keeps s id);have n:=Aa (T.o.keeps s id);have U:=Aa (aA.then V.o s);clear s ak Q G T V O;generalize ba:k.heap.size=av at *
 generalize ai:w.heap.size=i at *
 have az:=Aa ai;clear ba ai;have O:=A.o.c1;have a7:m.frozen? ⟨e,1,none⟩=false:=A.o.frozen 1;obtain⟨ap,aq,ar,au⟩:=n.o.cells 0 (by rw[<-o.o];omega);obtain⟨bb,bc,bd,be⟩:=n.o.cells d (by rw[<-o.o];omega);simp only[k4,ja]at ap aq ar au;have a4:=n.o.frozen;generalize am:itAt l d=y at *
 have a0:=Aa am;clear am;have br:(0:Int)<=(d:Int):=by omega
 have bs:(d:Int)<(d:Int)+1:=by omega
 have a2:=n.o.le;rw[<-o.o]at a2;have bt:(d:Int)<=(j:Int):=by omega
 have R:=Aa (n.o.put 0 y);have X:=Aa ((A.o.keeps ((aA.refl (λh=>h=g) m).bP (Or.inl rfl) 0 y) u).setCell 1 (σ g d j));have z:=Aa ((((aA.refl (λh=>h=e\/h=g) m).bP (Or.inl (Or.inr rfl)) 0 y).setCell (p:=⟨e,1,none⟩) (Or.inl (Or.inl rfl)) (σ g d j)).drew);have S:=Aa ((R.o.keeps (M:=λh=>h=e) ((aA.refl (λh=>h=e) _).setCell (p:=⟨e,1,none⟩) (Or.inl rfl) (σ g d j)) (λa=>u a.symm)).drew);go_region
 go_wp2_with fail
 have ab:(((((m.setCell ⟨g,0,none⟩ (ι y.t)).setCell ⟨g,1,none⟩ (ι y.k)).setCell ⟨g,2,none⟩ (ι y.d)).setCell ⟨g,3,none⟩ (ι y.n)).setCell ⟨e,1,none⟩ (σ g d j)).drew=((bP m g 0 y).setCell ⟨e,1,none⟩ (σ g d j)).drew:=by
  unfold bP;rfl
 rw[ab];clear ab O a7 ap aq ar au bb bc bd be a4;have F:Hid (QB ((bP m g 0 y).setCell ⟨e,1,none⟩ (σ g d j)).drew e (σ g d j)):=⟨X.o⟩;have hlen:((l.set 0 y).take d).length=d:=by have:=o.o;simp;omega
 have W:=Aa hlen;have Z:=Aa (show takeL l=sinkL (d+1) ((l.set 0 y).take d) 0 by unfold takeL;rw[<-o.o,<-a0.o];rfl);clear hlen R X;generalize((bP m g 0 y).setCell ⟨e,1,none⟩ (σ g d j)).drew=a1 at *
 refine(K9 e g 0 j d a1 ((l.set 0 y).take d) W.o (by omega) (by omega) F.o (S.o.take d) (by omega) u).mono ?_;rintro H D ⟨rfl,t,ah⟩;have aj:¬(i=e\/i=g):=by omega
 have al:¬(av=e\/av=g):=by omega
 have B:=Aa ((aa.o.keeps z.o al).keeps t (λa=>al (Or.inr a)));have q:=Aa ((Y.o.keeps z.o aj).keeps t (λa=>aj (Or.inr a)));have aw:=Aa (F.o.b.keeps t u);have ax:=Aa ah;have ay:=Aa (((U.o.mono (M':=λh=>h=e\/h=g) (λ_ _ a=>a.elim)).then z.o).trans t (λ_ a _=>Or.inr a));clear t ah F S z U aa Y n A;have bf:=B.o.c0;have bg:=B.o.c1;have bh:=B.o.c2;have bi:=B.o.c3;have bj:=q.o.c0;have bk:=q.o.c1;have bl:=q.o.c2;have bm:=q.o.c3;have bn:=q.o.frozen
 have E:=Aa (show aA (λh=>h=i) D ((((D.setCell ⟨i,0,none⟩ (ι c.t)).setCell ⟨i,1,none⟩ (ι c.k)).setCell ⟨i,2,none⟩ (ι c.d)).setCell ⟨i,3,none⟩ (ι c.n)) from
    ((((aA.refl (λh=>h=i) D).setCell (p:=⟨i,0,none⟩) (Or.inl rfl) _).setCell (p:=⟨i,1,none⟩) (Or.inl rfl) _).setCell (p:=⟨i,2,none⟩) (Or.inl rfl) _).setCell (p:=⟨i,3,none⟩) (Or.inl rfl) _)
 have x:=Aa ((((q.o.setCell 0 (ι c.t)).setCell 1 (ι c.k)).setCell 2 (ι c.d)).setCell 3 (ι c.n));go_wp2;generalize((((D.setCell ⟨i,0,none⟩ (ι c.t)).setCell ⟨i,1,none⟩ (ι c.k)).setCell ⟨i,2,none⟩ (ι c.d)).setCell ⟨i,3,none⟩ (ι c.n))=b1 at *
 have c0:=x.o.c0;have c1:=x.o.c1;have c2:=x.o.c2;have c3:=x.o.c3;refine iV (v:=.tuple #[.agg #[ι c.t,ι c.k,ι c.d,ι c.n],.bool true]) (by simp[results,results70,go_sem,c0,c1,c2,c3]) rfl ⟨⟨_,rfl⟩,⟨u,j,?_,?_⟩,?_⟩
 ·have N:(takeL l).length=d:=by rw[Z.o,GE];exact W.o
  rw[N];exact aw.o.keeps E.o (λa=>a8 a)
 ·rw[Z.o];exact ax.o.keeps E.o (λa=>a5 a)
 exact ay.o.trans E.o (λb0 bo bq=>by have:=az.o;omega)
def over(L:List Value)(o:Nat)(vs:List Value): List Value:=L.take o++vs++L.drop (o+vs.length)
theorem Di{a:List Value}{o:Nat}{c:List Value}(d:o+c.length<=a.length): (over a o c).length=a.length:=by
 simp[over];omega
theorem YB(a:List Value)(o:Nat)(v:Value)(c:List Value)(i:o+(c.length+1)<=a.length): over (a.set o v) (o+1) c=over a o (v::c):=by
 unfold over;have h:o<a.length:=by omega
 have d:(a.set o v).take (o+1)=a.take o++[v]:=by
  rw[ji,List.take_set_of_le (ir _)];simp[h]
 have e:(a.set o v).drop (o+1+c.length)=a.drop (o+(c.length+1)):=by
  rw[List.drop_set_of_lt (by omega),show o+1+c.length=o+(c.length+1) by omega]
 rw[d,e];simp
theorem aD.setCells{b:Nat}{T:TypeId}: ∀(a:List Value) (o:Nat) (w:World) (cs:List Value),aD w b cs T->o+a.length<=cs.length->aD (w.setCells b o a) b (over cs o a) T
 | [],o,_,cs,h,_=>by simpa[World.setCells,over] using h
 | v::a,o,_,cs,h,hl=>by
  rw[World.setCells,<-YB cs o v a (by simpa using hl)];exact aD.setCells a (o+1) _ _ (h.setCell o v) (by simp at hl ⊢;omega)
theorem aA.setCells{M:Nat->Prop}{a:World}{b:Nat}(d:M b\/a.heap.size<=b): ∀(c:List Value) (o:Nat) (w:World),aA M a w->aA M a (w.setCells b o c)
 | [],_,_,h=>h
 | v::c,o,_,h=>aA.setCells d c (o+1) _ (h.setCell (p:=⟨b,o,none⟩) d v)
theorem aD.some{w:World}{b:Nat}{cs:List Value}{T:TypeId}(a:aD w b cs T){i:Nat}(hi:i<cs.length): (w.cell? ⟨b,i,none⟩).isSome=true:=by
 rw[a.cell (h9 hi)];rfl
structure Bk where
 sz:Int
 t:Int
def Bk.val(x:Bk): Value:=.agg #[ι x.sz,ι x.t]
def Ad(l:List Bk)(i:Nat): Bk:=l.getD i ⟨0,0⟩
def A2: List Bk->List Value
 | []=>[]
 | x::l=>ι x.sz::ι x.t::A2 l
def Ci: Nat->List Value
 | 0=>[]
 | n+1=>ι 0::ι 0::Ci n
theorem F1(l:List Bk): (A2 l).length=l.length*2:=by
 induction l with
 | nil=>rfl
 | cons c l a=>simp[A2,a];omega
theorem H7(a b:List Bk): A2 (a++b)=A2 a++A2 b:=by
 induction a with
 | nil=>rfl
 | cons e d c=>simp[A2,c]
theorem Ku(l:List Bk)(i:Nat): A2 (l.drop i)=(A2 l).drop (i*2):=by
 induction l generalizing i with
 | nil=>simp[A2]
 | cons c l a =>
  cases i with
  | zero=>simp
  | succ i=>rw[show(i+1)*2=i*2+2 by omega];simp[A2,a]
theorem Km(l:List Bk)(i:Nat): A2 (l.take i)=(A2 l).take (i*2):=by
 induction l generalizing i with
 | nil=>simp[A2]
 | cons c l a =>
  cases i with
  | zero=>simp[A2]
  | succ i=>rw[show(i+1)*2=i*2+2 by omega];simp[A2,a]
theorem M9(l:List Bk)(i:Nat)(a:i<l.length): (A2 l)[i*2]?=some (ι (Ad l i).sz)/\(A2 l)[i*2+1]?=some (ι (Ad l i).t):=by
 induction l generalizing i with
 | nil=>simp at a
 | cons d l c =>
  cases i with
  | zero=>simp[A2,Ad]
  | succ i =>
   have:=c i (by simpa using a);rw[show(i+1)*2=i*2+2 by omega];simpa[A2,Ad] using this
theorem K2(l:List Bk): ∀c∈A2 l,c.oneCell'=true:=by
 induction l with
 | nil=>simp[A2]
 | cons e l d =>
  intro c a;simp only[A2,iA]at a;rcases a with rfl | rfl | a
  ·rfl
  ·rfl
  exact d c a
theorem E9(n:Nat): (Ci n).length=n*2:=by
 induction n with
 | zero=>rfl
 | succ n a=>simp[Ci,a];omega
theorem OH(n:Nat): ∀c∈Ci n,c.oneCell'=true:=by
 induction n with
 | zero=>simp[Ci]
 | succ n d =>
  intro c a;simp only[Ci,iA]at a;rcases a with rfl | rfl | a
  ·rfl
  ·rfl
  exact d c a
theorem Wt(n j:Nat)(c:j<n*2): (Ci n)[j]?=some (ι 0):=by
 induction n generalizing j with
 | zero=>omega
 | succ n a =>
  match j with
  | 0=>rfl
  | 1=>rfl
  | j+2=>simp only[Ci,k3];exact a j (by omega)
structure aY (w:World) (g cap:Nat) (l:List Bk):Prop where
 ex:∃cur:List Value,aD w g cur 207/\cur.length=cap*2/\cur.take (l.length*2)=A2 l
 le:l.length<=cap
 max:cap<=maxLen
theorem aY.lt{w:World}{g cap:Nat}{l:List Bk}(a:aY w g cap l): g<w.heap.size:=by obtain⟨d,c,_⟩:=a.ex;exact c.lt
theorem aY.keeps{M:Nat->Prop}{w w':World}{g cap:Nat}{l:List Bk}(a:aY w g cap l)(k:aA M w w')(e:¬M g): aY w' g cap l:=by
 obtain⟨c,d,h⟩:=a.ex;exact⟨⟨c,d.keeps k e,h⟩,a.le,a.max⟩
theorem aY.cells{w:World}{g cap:Nat}{l:List Bk}(j:aY w g cap l)(i:Nat)(hi:i<l.length):
  w.cell? ⟨g,i*2,none⟩=some (ι (Ad l i).sz)/\w.cell? ⟨g,i*2+1,none⟩=some (ι (Ad l i).t):=by
 obtain⟨h,c,n,m⟩:=j.ex;have d:∀a,a<l.length*2->h[a]?=(A2 l)[a]?:=λa k=>by rw[<-m,iW,ij k]
 obtain⟨e,b⟩:=M9 l i hi;exact⟨c.cell (by rw[d _ (by omega)];exact e),c.cell (by rw[d _ (by omega)];exact b)⟩
theorem aY.owns{w:World}{g cap:Nat}{l:List Bk}(a:aY w g cap l): w.ownsRow 0 207 2 (σ g l.length cap) l.length (A2 l):=by
 obtain⟨c,d,e,h⟩:=a.ex;exact⟨F1 l,.inr ⟨g,cap,c.toArray,rfl,iT _,d,a.le,a.max,by simp[e],by simpa using h⟩⟩
theorem brow_of_owns{w:World}{g n cap:Nat}{l:List Bk}(m:l.length=n)(d:w.ownsRow 0 207 2 (σ g n cap) n (A2 l)): aY w g cap l:=by
 rcases d.2 with ⟨a,_⟩ | ⟨q,o,c,a,_,e,h,i,j,k⟩
 ·cases a
 cases a;subst m;exact⟨⟨c.toList,by unfold aD;simpa using e,by simpa using j,k⟩,h,i⟩
theorem infoBk: (prog.info? 207).map (λa=>(a.zero,a.size,a.bytes))=some (some (.agg #[ι 0,ι 0]),2,16):=by kernel_rfl
theorem ND(n:Nat): (Builtin.zeroCells (Value.agg #[ι 0,ι 0]).cells n).toList=Ci n:=by
 have e:(Value.agg #[ι 0,ι 0]).cells=#[ι 0,ι 0]:=rfl;rw[e];apply ke;intro a;by_cases d:a<n*2
 ·rw[Wt n a d];have:a%2=0\/a%2=1:=by omega
  rcases this with c | c <;> simp[Builtin.zeroCells,d,c]
 rw[jC (by simp[Builtin.zeroCells];omega),jC (by rw[E9];omega)]
theorem Gh(w:World)(j:TypeId)(b o n c:Nat)(cs:List Value)(a:aD w b cs 207)(l:0<n)(k:o+n*2<=cs.length):
  (Builtin.clear_ #[258] j #[.slice (some ⟨b,o,none⟩) n c]).run prog w=.ok (.tuple #[]) (w.setCells b o (Ci n)):=by
 have d:=kS (P:=prog) b o (Ci n) 0 w (λi h=>a.some (by rw[E9]at h;omega)) (λi _=>a.frozen _) (OH n);simp only[j0]at d;obtain⟨e,rfl⟩:∃e,n=e+1:=⟨n-1,by omega⟩;simp[Builtin.clear_,jL underlying258,ND,d]
theorem NF(w:World)(u:TypeId)(b o e k:Nat)(a:Addr)(h t:Nat)(cs news:List Value)(i:aD w b cs 207)(q:news.length=Nat.min h e*2)(r:∀c d,news[c]?=some d->w.cell? (a.add c)=some d)(v:o+news.length<=cs.length)(l:∀d∈news,d.oneCell'=true):
  (Builtin.copy_ #[258,258] u #[.slice (some ⟨b,o,none⟩) e k,.slice (some a) h t]).run prog w=.ok (goInt (Nat.min h e)) (w.setCells b o news):=by
 have n:=run_loadCells_list (P:=prog) w a news r;have j:=kS (P:=prog) b o news 0 w (λc x=>i.some (by omega)) (λc _=>i.frozen _) l;simp only[j0]at j;obtain⟨B,m,z,s,A⟩:=jg infoBk;simp[Builtin.copy_,jL underlying258,Builtin.lenOf,Builtin.firstCells,sizeOf,typeInfo,m,s,<-q,n,j]
theorem Jm{w:World}{g cap n j:Nat}{l:List Bk}{a:List Value}(e:l.length=n)(h:aD w g a 207)(m:a.length=cap*2)(r:n<=cap)(o:cap<=maxLen)(q:j<=n):
  aY ((w.setCells g 0 (A2 (l.drop j))).setCells g ((n-j)*2) (Ci j)) g cap (l.drop j):=by
 have c:(A2 (l.drop j)).length=(n-j)*2:=by rw[F1];simp[e]
 have i:=aD.setCells (A2 (l.drop j)) 0 w a h (by rw[c];omega);have d:(over a 0 (A2 (l.drop j))).length=cap*2:=by rw[Di (by rw[c];omega),m]
 have k:=aD.setCells (Ci j) ((n-j)*2) _ _ i (by rw[d,E9];omega);refine⟨⟨_,k,by rw[Di (by rw[d,E9];omega),d],?_⟩,by simp[e];omega,o⟩;have hlen:(l.drop j).length*2=(n-j)*2:=by simp[e]
 rw[hlen];unfold over;rw[ε,je (by simp[c])];rw[kv,Nat.min_self];simp only[jP,jv];rw[je (by omega),iw (by omega)]
theorem Jd(w:World):
  Calls prog 212 #[.slice none 0 0,ι 0,ι 0] w λa c=>a=.returned (.slice none 0 0)/\c=w:=by
 go_enter func212,ntmps212;go_wp2;go_ret;exact⟨rfl,rfl⟩
theorem Jb(g cap n:Nat)(w:World)(h:n<=cap):
  Calls prog 212 #[σ g n cap,ι 0,ι 0] w λa c=>a=.returned (σ g n cap)/\c=w:=by
 have d:(0:Int)<=(n:Int):=by omega
 have e:(n:Int)<=(cap:Int):=by omega
 go_enter func212,ntmps212;go_wp2;go_ret;exact⟨rfl,rfl⟩
theorem Jj(g cap n j:Nat)(l:List Bk)(w:World)(o:l.length=n)(q:aY w g cap l)(Y:0<j)(N:j<=n):
  Calls prog 212 #[σ g n cap,ι 0,ι j] w λH D=>H=.returned (σ g (n-j) cap)/\aY D g cap (l.drop j)/\aA (·=g) w D:=by
 obtain⟨G,h,z,C⟩:=q.ex;have A:=q.le;rw[o]at A;have B:=q.max;have r:=Aa (Jm (w:=w.drew) o (by exact h.drew) z A B N);obtain⟨news,k⟩:∃news,news=A2 (l.drop j):=⟨_,rfl⟩;rw[<-k]at r;have hlen:news.length=(n-j)*2:=by rw[k,F1];simp[o]
 have x:∀a c,news[a]?=some c->κ w g (j*2+a) c:=by
  intro a c e;refine h.cell ?_;have ab:a<(n-j)*2:=by have:=(iq.1 e).1;omega
  rw[k,Ku,j5,<-C,iW,ij (by omega)]at e;exact e
 obtain⟨m,W,O⟩:∃m:Addr,(if cap=j then some (⟨g,0,none⟩:Addr) else some ⟨g,j*2,none⟩)=some m/\Hid (∀a c,news[a]?=some c->w.drew.cell? (m.add a)=some c):=by
  by_cases u:cap=j
  ·refine⟨⟨g,0,none⟩,by simp[u],λa c e=>?_⟩;have I:news.length=0:=by omega
   rw[iR.1 I]at e;simp at e
  refine⟨⟨g,j*2,none⟩,by simp[u],λa c e=>?_⟩;rw[kl];exact x a c e
 have T:Hid (news.length=(n-j)*2):=hlen;have U:Hid (∀c∈news,c.oneCell'=true):=by rw[k];exact K2 _
 have V:Hid (∀a,a<news.length->(w.drew.cell? ⟨g,0+0*2+a,none⟩).isSome=true/\w.drew.frozen? ⟨g,0+0*2+a,none⟩=false):=by
  intro a aa;exact⟨h.some (by omega),h.frozen _⟩
 obtain⟨d,i⟩:∃d,d=w.drew.setCells g 0 news:=⟨_,rfl⟩;have v:aD d g (over G 0 news) 207:=by rw[i];exact aD.setCells _ _ _ _ h.drew (by omega)
 have X:∀s,(Builtin.clear_ #[258] s #[.slice (some ⟨g,(n-j)*2,none⟩) (n-(n-j)) (cap-(n-j))]).run prog d=.ok (.tuple #[]) (d.setCells g ((n-j)*2) (Ci (n-(n-j)))) :=
  λs=>Gh d s g _ _ _ _ v (by omega) (by rw[Di (by omega)];omega)
 have J:Hid (d=w.drew.setCells g (0+0*2) news):=i;have E:=Aa (show aA (·=g) w d by rw[i];exact aA.setCells (M:=λt=>t=g) (Or.inl rfl) _ _ _ (aA.refl _ _).drew);rw[<-i]at r;obtain⟨S,L,P,Q,R⟩:=jg infoBk;have Z:j<=cap:=by omega
 have F:=Aa (show n-(n-j)=j by omega);clear i v x k hlen h C z q o B P R;go_enter func212,ntmps212;go_wp2_with fail
 go_region_law (refine step_append_room rfl (.tmp 22) (.tmp 25) 258 rfl 207 S 2 underlying258 L Q g 0 0 cap (by simp[Act.eval,Act.put]) m (n-j) (cap-j) news (by simp[Act.eval,Act.put]) T.out O.out U.out (by omega) V.out ?_;rw[<-J.out])
 go_wp2;go_ret;refine⟨by simp,?_,?_⟩
 ·have:=r.o;rw[F.o];exact this
 exact aA.setCells (M:=λt=>t=g) (Or.inl rfl) _ _ _ E.o
def BJ(l:List Bk)(i:Nat)(x:Bk): List Bk:=l.take i++[x]++l.drop (i+2)
theorem Fo{l:List Bk}{i:Nat}(x:Bk)(a:i+2<=l.length): (BJ l i x).length=l.length-1:=by simp[BJ];omega
theorem M4{a d:List Value}{o k:Nat}(c:k<=o)(e:o<=a.length): (over a o d).take k=a.take k:=by
 unfold over;rw[ε,je (by simp;omega),kv,jG c]
theorem L4{a c:List Value}{o:Nat}(d:o<=a.length): (over a o c).take (o+c.length)=a.take o++c:=by
 unfold over;rw[je (by simp;omega),iw (by simp;omega)]
theorem Sz{w:World}{g cap n i:Nat}{l:List Bk}{x:Bk}{a:List Value}(t:l.length=n)(e:aD w g a 207)(o:a.length=cap*2)(r:a.take (l.length*2)=A2 l)(s:n<=cap)(q:cap<=maxLen)(hi:i+2=n):
  aY ((w.setCells g (i*2) [ι x.sz,ι x.t]).setCells g ((i+1)*2) (Ci 1)) g cap (BJ l i x):=by
 have h:=aD.setCells [ι x.sz,ι x.t] (i*2) w a e (by simp;omega);have c:(over a (i*2) [ι x.sz,ι x.t]).length=cap*2:=by rw[Di (by simp;omega),o]
 have j:=aD.setCells (Ci 1) ((i+1)*2) _ _ h (by rw[c,E9];omega);have m:=Fo x (l:=l) (i:=i) (by omega);refine⟨⟨_,j,by rw[Di (by rw[c,E9];omega),c],?_⟩,by omega,q⟩;rw[m,M4 (by omega) (by omega),show(l.length-1)*2=i*2+[Value.int .i64 x.sz,ι x.t].length by simp;omega,L4 (by omega)];have k:l.drop (i+2)=[]:=iX (by omega);have d:a.take (i*2)=(A2 l).take (i*2):=by rw[<-r,kv,jG (by omega)]
 unfold BJ;rw[k,iC,H7,Km,d];rfl
theorem Sv{w:World}{g cap n i:Nat}{l:List Bk}{x:Bk}{a:List Value}(t:l.length=n)(j:aD w g a 207)(r:a.length=cap*2)(u:a.take (l.length*2)=A2 l)(v:n<=cap)(s:cap<=maxLen)(hi:i+2<n):
  aY (((w.setCells g (i*2) [ι x.sz,ι x.t]).setCells g ((i+1)*2) (A2 (l.drop (i+2)))).setCells g ((n-1)*2) (Ci 1)) g cap (BJ l i x):=by
 have k:=aD.setCells [ι x.sz,ι x.t] (i*2) w a j (by simp;omega);have c:(over a (i*2) [ι x.sz,ι x.t]).length=cap*2:=by rw[Di (by simp;omega),r]
 have e:(A2 (l.drop (i+2))).length=(n-(i+2))*2:=by rw[F1];simp[t]
 have m:=aD.setCells (A2 (l.drop (i+2))) ((i+1)*2) _ _ k (by rw[c,e];omega);have d:(over (over a (i*2) [ι x.sz,ι x.t]) ((i+1)*2) (A2 (l.drop (i+2)))).length=cap*2:=by rw[Di (by rw[c,e];omega),c]
 have o:=aD.setCells (Ci 1) ((n-1)*2) _ _ m (by rw[d,E9];omega);have q:=Fo x (l:=l) (i:=i) (by omega);refine⟨⟨_,o,by rw[Di (by rw[d,E9];omega),d],?_⟩,by omega,s⟩;rw[q,M4 (by omega) (by rw[d];omega),show(l.length-1)*2=(i+1)*2+(A2 (l.drop (i+2))).length by rw[e];omega,L4 (by rw[c];omega)];rw[show(i+1)*2=i*2+[Value.int .i64 x.sz,ι x.t].length by simp;omega,L4 (by omega)];have h:a.take (i*2)=(A2 l).take (i*2):=by rw[<-u,kv,jG (by omega)]
 unfold BJ;rw[H7,H7,Km,h];rfl
theorem RQ{w:World}{u:Array Oper}{rest:List Oper}{o:Oper}{a:Act}{m:Exit->Act->World->Prop}(C:o.guard=none)(s x:Operand)(F:o.op=.call { callee:=.builtin .append,args:=#[s,x],argTypes:=#[258,258] })(g e c h:Nat)(H:a.eval s=.slice (some ⟨g,e,none⟩) c h)(k:Addr)(d n:Nat)(I:a.eval x=.slice (some k) d n)(q news:List Value)(r:aD w g q 207)(E:news.length=d*2)(B:∀i j,news[i]?=some j->w.cell? (k.add i)=some j)(z:∀j∈news,j.oneCell'=true)(G:c+d<=h)(L:e+c*2+news.length<=q.length)(v:wpList prog u m rest (a.put o.dst (.slice (some ⟨g,e,none⟩) (c+d) h)) (w.setCells g (e+c*2) news)): wpList prog u m (o::rest) a w:=by
 refine wpList_plain C λK A=>?_;obtain⟨J,D,N,l,O⟩:=jg infoBk;have t:=run_append_room_cells (P:=prog) w 258 o.type 207 J underlying258 D g e c h k d n news (by rw[l];exact E) B z G (λi M=>r.some (by rw[l];omega)) (λi _=>r.frozen _);rw[l]at t;unfold Oper.wp;simp[execOp,F,resolve,invoke,builtin,H,I,t,Result.andThen];exact A _ _ v
theorem Si{w:World}{n:Array Oper}{o:Oper}{a:Act}{K:Act->World->Prop}{r:Exit->Act->World->Prop}{q:Prop}(B:o.guard=none)(s x:Operand)(D:o.op=.call { callee:=.builtin .copy,args:=#[s,x],argTypes:=#[258,258] })(g e d l:Nat)(F:a.eval s=.slice (some ⟨g,e,none⟩) d l)(i:Addr)(c k:Nat)(H:a.eval x=.slice (some i) c k)(j news:List Value)(v:aD w g j 207)(C:news.length=Nat.min c d*2)(z:∀m h,news[m]?=some h->w.cell? (i.add m)=some h)(u:∀h∈news,h.oneCell'=true)(A:e+news.length<=j.length)(t:K (a.put o.dst (goInt (Nat.min c d))) (w.setCells g e news)): if Region.wanted o (yielded n a.tmps)=true then Oper.wp prog o a w K r else q:=by
 have G:Region.wanted o (yielded n a.tmps)=true:=by simp[Region.wanted,B]
 rw[ij G];have E:=NF w o.type g e d l i c k j news v C z A u;unfold Oper.wp;simp[execOp,D,resolve,invoke,builtin,F,H,E,Result.andThen];exact t
theorem Sl(g cap n i e:Nat)(l:List Bk)(x:Bk)(w:World)(o:l.length=n)(j:aY w g cap l)(hi:i+2=n)(C:w.cell? ⟨e,0,none⟩=some (ι x.sz))(D:w.cell? ⟨e,1,none⟩=some (ι x.t)):
  Calls prog 234 #[σ g n cap,ι i,ι ((i:Int)+2),σ e 1 1] w λO E=>O=.returned (σ g (n-1) cap)/\aY E g cap (BJ l i x)/\aA (·=g) w E:=by
 obtain⟨t,h,m,B⟩:=j.ex;have z:=j.le;rw[o]at z;have A:=j.max;have s:=Aa (Sz (x:=x) o h m B z A hi);have F:=Aa h;have H:=Aa m
 have N:=Aa (show ∀k r,[Value.int .i64 x.sz,ι x.t][k]?=some r->w.cell? ((⟨e,0,none⟩:Addr).add k)=some r from λk r a=>by
    rw[kl]
    match k,a with
    | 0,a=>injection a with a;rw[<-a];exact C
    | 1,a=>injection a with a;rw[<-a];exact D)
 obtain⟨c,d⟩:∃c,c=w.setCells g (i*2) [ι x.sz,ι x.t]:=⟨_,rfl⟩;have u:aD c g (over t (i*2) [ι x.sz,ι x.t]) 207:=by rw[d];exact aD.setCells _ _ _ _ h (by simp;omega)
 have Q:∀q,(Builtin.clear_ #[258] q #[.slice (some ⟨g,(i+1)*2,none⟩) (n-(i+1)) (cap-(i+1))]).run prog c=.ok (.tuple #[]) (c.setCells g ((i+1)*2) (Ci (n-(i+1)))) :=
  λq=>Gh c q g _ _ _ _ u (by omega) (by rw[Di (by simp;omega)];omega)
 have L:=Aa (show w.setCells g (0+i*2) [ι x.sz,ι x.t]=c by rw[d,ja]);have G:=Aa (show aA (λP=>P=g) w c by rw[d];exact aA.setCells (M:=λx=>x=g) (Or.inl rfl) _ _ _ (aA.refl _ _));rw[<-d]at s;have J:=Aa (show n-(i+1)=1 by omega);have I:=Aa (show n-1=i+1 by omega);clear d u h B m j o A C D;have S:i<=cap:=by omega
 have R:(0:Int)<=(i:Int):=by omega
 have v:(i:Int)+2=(n:Int):=by omega
 rw[v];have U:((i:Int)==(n:Int))=false:=by simp;omega
 have T:decide ((i:Int)+1<(n:Int))=true:=by simp;omega
 clear v;go_enter func234,ntmps234;go_wp2_with (at_builtin;refine RQ rfl _ _ rfl g 0 i cap rfl ⟨e,0,none⟩ 1 1 rfl t [ι x.sz,ι x.t] F.o rfl N.o (by simp[Value.oneCell']) (by omega) (by have:=H.o;simp;omega) ?_;rw[L.o])
 go_ret;refine⟨by rw[I.o];rfl,?_,?_⟩
 ·rw[J.o];exact s.o
 exact aA.setCells (M:=λx=>x=g) (Or.inl rfl) _ _ _ G.o
theorem N8(b:Nat): ∀(a:List Value) (o:Nat) (w:World),(w.setCells b o a).drew=w.drew.setCells b o a
 | [],_,_=>rfl
 | v::a,o,w=>N8 b a (o+1) (w.setCell ⟨b,o,none⟩ v)
theorem S2(g cap n i k:Nat)(l:List Bk)(x:Bk)(w:World)(v:l.length=n)(z:aY w g cap l)(hi:i+2<n)(O:w.cell? ⟨k,0,none⟩=some (ι x.sz))(P:w.cell? ⟨k,1,none⟩=some (ι x.t)):
  Calls prog 234 #[σ g n cap,ι i,ι ((i:Int)+2),σ k 1 1] w λab Q=>ab=.returned (σ g (n-1) cap)/\aY Q g cap (BJ l i x)/\aA (·=g) w Q:=by
 obtain⟨s,t,C,E⟩:=z.ex;have L:=z.le;rw[v]at L;have D:=z.max;have ae:cap<=9223372036854775807:=by unfold maxLen at D;omega
 have F:=Aa (Sv (w:=w.drew.drew) (x:=x) v (by exact t.drew.drew) C E L D hi);obtain⟨a,J⟩:∃a,a=i+2:=⟨_,rfl⟩;obtain⟨j,m⟩:∃j,j=w.drew.setCells g (i*2) [ι x.sz,ι x.t]:=⟨_,rfl⟩;have u:aD j g (over s (i*2) [ι x.sz,ι x.t]) 207:=by rw[m];exact aD.setCells _ _ _ _ t.drew (by simp;omega)
 have q:(over s (i*2) [ι x.sz,ι x.t]).length=cap*2:=by rw[Di (by simp;omega),C]
 obtain⟨news,r⟩:∃news,news=A2 (l.drop (i+2)):=⟨_,rfl⟩;have hlen:news.length=(n-a)*2:=by rw[r,F1];simp[v,J]
 have N:∀A d,news[A]?=some d->j.drew.cell? ((⟨g,a*2,none⟩:Addr).add A)=some d:=by
  intro A d c;have ax:A<(n-a)*2:=by have:=(iq.1 c).1;omega
  rw[kl];refine u.cell ?_;rw[r,Ku,j5,<-E,iW,ij (by omega)]at c;unfold over;rw[iO (by simp;omega),j5];rw[<-c];congr 1;simp;omega
 obtain⟨e,o⟩:∃e,e=j.drew.setCells g ((i+1)*2) news:=⟨_,rfl⟩;have H:aD e g (over (over s (i*2) [ι x.sz,ι x.t]) ((i+1)*2) news) 207:=by rw[o];exact aD.setCells _ _ _ _ u.drew (by rw[q];omega)
 have ag:∀h,(Builtin.clear_ #[258] h #[.slice (some ⟨g,(i+1+(n-a))*2,none⟩) (n-(i+1+(n-a))) (cap-(i+1+(n-a)))]).run prog e=.ok (.tuple #[]) (e.setCells g ((i+1+(n-a))*2) (Ci (n-(i+1+(n-a))))) :=
  λh=>Gh e h g _ _ _ _ H (by omega) (by rw[Di (by rw[q];omega),q];omega)
 have U:=Aa (show aA (λad=>ad=g) w e by
    rw[o,m]
    exact aA.setCells (M:=λx=>x=g) (Or.inl rfl) _ _ _ (aA.setCells (M:=λx=>x=g) (Or.inl rfl) _ _ _ (aA.refl _ _).drew).drew)
 have T:=Aa (show aY (e.setCells g ((i+1+(n-a))*2) (Ci (n-(i+1+(n-a))))) g cap (BJ l i x) by
    have:=F.o;rw[o,m,N8,r,show i+1+(n-a)=n-1 by omega,show n-(n-1)=1 by omega]
    exact this)
 have R:=Aa t.drew;have S:=Aa u.drew
 have aa:=Aa (show ∀a d,[Value.int .i64 x.sz,ι x.t][a]?=some d->w.drew.cell? ((⟨k,0,none⟩:Addr).add a)=some d from λa d c=>by
    rw[kl]
    match a,c with
    | 0,c=>injection c with c;rw[<-c];exact O
    | 1,c=>injection c with c;rw[<-c];exact P)
 have ah:∀h,(Builtin.copy_ #[258,258] h #[.slice (some ⟨g,i*2,none⟩) (i+1+(n-a)-i) (cap-i),σ k 1 1]).run prog w.drew=.ok (goInt (Nat.min 1 (i+1+(n-a)-i))) j :=
  λh=>by rw[m];exact NF w.drew h g (i*2) _ _ ⟨k,0,none⟩ 1 1 s [ι x.sz,ι x.t] R.o (by have B:Nat.min 1 (i+1+(n-a)-i)=1:=jG (by omega);rw[B];rfl) aa.o (by simp;omega) (by simp[Value.oneCell'])
 have V:=Aa q;have Y:=Aa N;have G:=Aa hlen;have X:=Aa (show ∀d∈news,d.oneCell'=true by rw[r];exact K2 _);have Z:=Aa o.symm;have ak:i<=cap:=by omega
 have aj:(0:Int)<=(i:Int):=by omega
 have I:(i:Int)+2=(a:Int):=by omega
 rw[I];have ao:a<n:=by omega
 have am:i<a:=by omega
 have an:a<=cap:=by omega
 have al:¬cap=i+1:=by omega
 have af:¬cap=a:=by omega
 have ap:a<=n:=by omega
 have ai:¬cap=i+1+(n-a):=by omega
 have ay:IntKind.i64.wrap ((i:Int)+1)=(i:Int)+1:=by rw[il];omega
 have av:0<=(i:Int)+1:=by omega
 have aw:(i:Int)+1<=(i:Int)+1+((n-a:Nat):Int):=by omega
 have ar:((i:Int)==(a:Int))=false:=by simp;omega
 have au:((a:Int)==(n:Int))=false:=by simp;omega
 have aq:decide ((i:Int)+1<=(a:Int))=true:=by simp;omega
 have W:=Aa (show n-1=i+1+(n-a) by omega);clear I J m o t u H C q E r hlen N F z v D O P;go_enter func234,ntmps234;go_wp2_with fail
 go_region
 go_wp2_with fail
 go_region_law (refine Si rfl _ _ rfl g ((i+1)*2) (i+1+(n-a)-(i+1)) (cap-(i+1)) (by simp[Act.eval,Act.put]) ⟨g,a*2,none⟩ (n-a) (cap-a) (by simp[Act.eval,Act.put]) _ news S.o (by have B:Nat.min (n-a) (i+1+(n-a)-(i+1))=n-a:=jG (by omega);rw[B];exact G.o) Y.o X.o (by rw[V.o,G.o];omega) ?_;rw[Z.o])
 go_wp2;go_ret;exact⟨by rw[W.o];rfl,T.o,aA.setCells (M:=λx=>x=g) (Or.inl rfl) _ _ _ U.o⟩
def BZ: Value:=.func (.func 170) #[] #[]
def aH(w:World)(r:Nat)(og:Option Nat)(l:List Bk): Prop :=
 match og with
 | none=>l=[]/\aD w r [BZ,.slice none 0 0] 260
 | some g=>r≠g/\∃cap,aD w r [BZ,σ g l.length cap] 260/\aY w g cap l
theorem aH.lt{w:World}{d:Nat}{c:Option Nat}{l:List Bk}(a:aH w d c l): d<w.heap.size/\∀g,c=some g->g<w.heap.size/\d≠g:=by
 cases c with
 | none=>exact⟨a.2.lt,λ_ a=>by cases a⟩
 | some g=>obtain⟨h,j,e,i⟩:=a;exact⟨e.lt,λk a=>by cases a;exact⟨i.lt,h⟩⟩
theorem aH.keeps{M:Nat->Prop}{w w':World}{d:Nat}{a:Option Nat}{l:List Bk}(c:aH w d a l)(k:aA M w w')(e:¬M d)(j:∀g,a=some g->¬M g): aH w' d a l:=by
 cases a with
 | none=>exact⟨c.1,c.2.keeps k e⟩
 | some g=>obtain⟨m,h,i,n⟩:=c;exact⟨m,h,i.keeps k e,n.keeps k (j g rfl)⟩
theorem aH.still{w w':World}{d:Nat}{c:Option Nat}{l:List Bk}(a:aH w d c l)(k:lX w w'): aH w' d c l:=a.keeps k id (λ_ _ a=>a)
theorem rowLen_any(e:Nat)(d:Option Nat)(l:List Bk)(w:World)(c:aH w e d l):
  Calls prog 176 #[π e] w λh m=>h=.returned (ι l.length)/\m=w:=by
 cases d with
 | none =>
  obtain⟨i,a⟩:=c;have j:=a.c1;subst i;clear a;go_enter func176,ntmps176;go_wp2;go_ret;exact⟨rfl,rfl⟩
 | some g =>
  obtain⟨o,n,a,k⟩:=c;have j:=a.c1;clear a k;go_enter func176,ntmps176;go_wp2;go_ret;exact⟨rfl,rfl⟩
theorem FM(h:Nat)(e:Option Nat)(l:List Bk)(i:Nat)(w:World)(d:aH w h e l)(hi:i<l.length):
  Calls prog 178 #[π h,ι i] w λj n=>j=.returned (Ad l i).val/\lX w n:=by
 cases e with
 | none=>obtain⟨k,a⟩:=d;subst k;simp at hi
 | some g =>
  obtain⟨x,q,a,c⟩:=d;have z:=a.c1;have u:=a.lt;have t:=c.lt;obtain⟨A,B⟩:=c.cells i hi;generalize Ad l i=o at *
  generalize l.length=m at *
  have r:(0:Int)<=(i:Int):=by omega
  have s:(i:Int)<(m:Int):=by omega
  clear a c;go_enter func178,ntmps178;go_wp2;refine iV (v:=o.val) (by simp[results,results178,go_sem,Bk.val]) rfl ⟨rfl,(aA.refl _ _).alloc _⟩
theorem Na(x:Bk)(w:World):
  Calls prog 170 #[x.val] w λa c=>a=.returned (ι x.t)/\c=w.alloc (.cells #[ι x.sz,ι x.t] 207):=by
 unfold Bk.val;go_enter func170,ntmps170;go_wp2;go_ret;exact⟨rfl,rfl⟩
def pastN(l:List Bk)(t:Int): Nat:=(l.takeWhile (λb=>decide (b.t<=t))).length
theorem pastN_le(l:List Bk)(t:Int): pastN l t<=l.length:=(lJ _).length_le
theorem Gj(l:List Bk)(k:Nat)(a:k<l.length): l.drop k=Ad l k::l.drop (k+1):=by
 rw[δ a];congr 1;simp[Ad,List.getD_eq_getElem?_getD,h9 a]
theorem past_any(j:Nat)(F:Option Nat)(l:List Bk)(t:Int)(w:World)(c:aH w j F l)(B:l.length<=4398046511104):
  Calls prog 213 #[π j,ι t] w λz i=>z=.returned (ι (pastN l t))/\lX w i:=by
 cases F with
 | none =>
  obtain⟨B,k⟩:=c;have H:=k.c1;subst B;clear k;go_enter func213,ntmps213;go_wp2;go_loopw [5] (λm wr=>m=ι 0/\wr=w) (λ_ _=>0)
  case atStart=>exact⟨rfl,rfl⟩
  case round =>
   obtain⟨rfl,rfl⟩:=hrel;go_wp2;go_quiet (fail)
   go_wp2;go_ret;exact⟨rfl,aA.drewN _ _ _⟩
 | some g =>
  obtain⟨P,x,k,E⟩:=c;have r:=Aa k;have G:=Aa E;clear k E;generalize D:l.length=h at *
  have o:=Aa D;clear D;go_enter func213,ntmps213;go_wp2;go_loopw [5] (λm wr=>∃a:Nat,m=ι a/\a<=h/\Hid (lX w wr)/\Hid (pastN l t=a+pastN (l.drop a) t)) (λm _=>h-(intOf m).toNat)
  case atStart=>exact⟨0,rfl,iT _,aA.refl _ _,by show _=_;simp⟩
  case round =>
   obtain⟨a,rfl,M,e,n⟩:=hrel;have H:κ wr j 1 (σ g h x):=e.o.cell (r.o.cell rfl) id;have Q:κ wr j 0 (.func (.func 170) #[] #[]):=e.o.cell (r.o.cell rfl) id;by_cases C:a<h
   ·have q:=G.o.cells a (by rw[o.o];exact C);have R:=e.o.cell q.1 id;have S:=e.o.cell q.2 id;clear q;have N:(0:Int)<=(a:Int):=by omega
    have O:(a:Int)<(h:Int):=by omega
    have s:=Aa (Gj l a (by rw[o.o];exact C));generalize Ad l a=d at *
    by_cases I:d.t<=t;all_goals
     have v:=Aa I;go_wp2
     go_region_held3 (λi=>i.cell? ⟨j,0,none⟩=some (.func (.func 170) #[] #[])/\i.cell? ⟨j,1,none⟩=some (σ g h x) /\
        i.cell? ⟨g,a*2,none⟩=some (ι d.sz)/\i.cell? ⟨g,a*2+1,none⟩=some (ι d.t)) (go_keep)
      (first | (go_at_call 170;refine(Na d _).mono ?_;rintro z i ⟨rfl,rfl⟩))
     have A:lX wr (wr.alloc (.cells #[ι d.sz,ι d.t] 207)).drew:=((aA.refl _ _).alloc _).drew;generalize(wr.alloc (.cells #[ι d.sz,ι d.t] 207)).drew=J at *
     have u:=Aa A;clear A
    ·go_wp2;go_roundw;case rel =>
      refine⟨a+1,by go_num,by omega,e.o.then u.o,?_⟩;show _=_;rw[n.o,s.o];unfold pastN;rw[jE,ij (by simpa using v.o)];simp;omega
     case measure=>simp[intOf];omega
    go_wp2;go_ret;refine⟨?_,e.o.then u.o⟩;rw[n.o,s.o];unfold pastN;rw[jE,ig (by simpa using v.o)];simp
   have L:decide ((a:Int)<(h:Int))=false:=by simp;omega
   go_wp2;go_quiet (fail)
   go_wp2;go_ret;refine⟨?_,e.o.then (aA.drewN _ _ _)⟩;rw[n.o,iX (by rw[o.o];omega)];simp[pastN]
theorem lose_any(c:Nat)(o:Option Nat)(l:List Bk)(k:Nat)(w:World)(j:aH w c o l)(s:k<=l.length):
  Calls prog 171 #[π c,ι k] w λi e=>i=.returned (.tuple #[])/\aH e c o (l.drop k)/\aA (λa=>a=c\/o=some a) w e:=by
 cases o with
 | none =>
  obtain⟨H,d⟩:=j;subst H;have G:k=0:=by simpa using s
  subst G;have v:=d.c1;have F:=d.frozen;have m:=Aa d;clear d s;go_enter func171,ntmps171;go_wp2_with fail
  refine(Jd _).mono ?_;rintro i e ⟨rfl,rfl⟩;go_wp2;go_end0;refine⟨rfl,⟨rfl,?_⟩,(aA.refl (λa=>a=c\/none=some a) _).setCell (p:=⟨c,1,none⟩) (Or.inl (Or.inl rfl)) _⟩;exact m.o.setCell 1 _
 | some g =>
  obtain⟨u,h,d,A⟩:=j;have v:=d.c1;have I:=d.lt;have m:=Aa d;have n:=Aa A;clear d A;have x:Hid (Calls prog 212 #[σ g l.length h,ι 0,ι k] w λi e=>i=.returned (σ g (l.length-k) h)/\aY e g h (l.drop k)/\aA (λa=>a=g) w e):=by
   rcases lS k with r | r
   ·subst r;refine(Jb g h l.length w n.o.le).mono ?_;rintro i e ⟨rfl,rfl⟩;exact⟨rfl,n.o,aA.refl _ _⟩
   exact Jj g h l.length k l w rfl n.o r s
  generalize z:l.length=J at *
  have D:=Aa z;clear z;go_enter func171,ntmps171;go_wp2_with fail
  refine x.o.mono ?_;rintro i L ⟨rfl,B,t⟩;have q:=Aa (m.o.keeps t u);have E:=Aa B;have C:=Aa t;clear B t x m n v;have v:=q.o.c1;have F:=q.o.frozen;go_wp2;go_end0;refine⟨rfl,⟨u,h,?_,?_⟩,?_⟩
  ·rw[iU,D.o];exact q.o.setCell 1 _
  ·exact E.o.keeps (M:=λa=>a=c) ((aA.refl (λa=>a=c) _).setCell (p:=⟨c,1,none⟩) (Or.inl rfl) _) (λj=>u j.symm)
  exact(C.o.mono (M':=λa=>a=c\/some g=some a) (λa _ j=>.inr (by rw[j]))).setCell (p:=⟨c,1,none⟩) (Or.inl (Or.inl rfl)) _
theorem aH.owns{w:World}{h:Nat}{c:Option Nat}{l:List Bk}(e:aH w h c l):
  ∃a,aD w h [BZ,AM c l.length a] 260/\w.ownsRow 0 207 2 (AM c l.length a) l.length (A2 l):=by
 cases c with
 | none=>obtain⟨rfl,d⟩:=e;exact⟨0,d,iy _ _ _ _⟩
 | some g =>
  obtain⟨j,a,d,i⟩:=e;exact⟨a,d,i.owns⟩
theorem Jw{w h:World}{k B:Obj}{c gg n cap j:Nat}{e:Option Nat}{l:List Bk}{x:Bk}{v:Value}(q:l.length=n)(F:AM e n cap=v)(G:c<w.heap.size)(A:aD w c [BZ,v] 260)(u:some c≠v.ownBlock)(s:h.ownsRow 0 207 2 (σ gg (n+1) j) (n+1) (A2 l++[ι x.sz,ι x.t]))(o:((w.alloc k).alloc B).drew.grownBy h v.ownBlock)(m:v.ownBlock=some gg\/gg=w.heap.size+2):
  aH (h.setCell ⟨c,1,none⟩ (σ gg (n+1) j)) c (some gg) (l++[x]) /\
  aA (λa=>a=c\/e=some a) w (h.setCell ⟨c,1,none⟩ (σ gg (n+1) j))/\(e=some gg\/w.heap.size<=gg):=by
 have r:∀a,v.ownBlock=some a->e=some a:=by
  intro a i;rw[<-F]at i;cases e with
  | none=>simp[AM,Value.ownBlock]at i
  | some g=>simpa[AM,Value.ownBlock] using i
 have t:c≠gg:=by
  rcases m with d | d
  ·intro z;apply u;rw[d,z]
  omega
 have E:aA (λa=>a=c\/e=some a) w h:=(((aA.refl _ w).alloc k).alloc B).drew.grown o (λa i=>Or.inl (Or.inr (r a i)));have C:aD h c [BZ,v] 260:=by
  unfold aD;rw[o.block c (by simp;omega) u];exact(A.alloc k).alloc B
 refine⟨⟨t,j,?_,?_⟩,E.setCell (Or.inl (Or.inl rfl)) _,?_⟩
 ·have:(l++[x]).length=n+1:=by simp[q]
  rw[this];exact C.setCell 1 _
 ·have D:A2 l++[ι x.sz,ι x.t]=A2 (l++[x]):=by rw[H7];rfl
  rw[D]at s;exact(brow_of_owns (by simp[q]) s).keeps (M:=λa=>a=c) ((aA.refl (λa=>a=c) _).setCell (Or.inl rfl) _) (λd=>t d.symm)
 rcases m with d | d
 ·exact .inl (r gg d)
 exact .inr (by omega)
theorem rowPut_any(c:Nat)(i:Option Nat)(l:List Bk)(x:Bk)(w:World)(h:aH w c i l)(af:l.length<=4398046511104):
  Calls prog 173 #[π c,x.val] w λL F=>L=.returned (.tuple #[])/\∃s,aH F c s (l++[x])/\aA (λm=>m=c\/i=some m) w F/\(s=i\/∃m,s=some m/\w.heap.size<=m):=by
 obtain⟨C,B⟩:=h.lt;obtain⟨v,n,U⟩:=h.owns;have W:=n.c1;have P:=n.frozen 1;obtain⟨aa,R,X,Y,Z⟩:=jg infoBk;generalize D:l.length=o at *
 generalize r:AM i o v=j at *
 unfold Bk.val;have G:Hid (aD w c [BZ,j] 260):=n;have J:Hid (AM i o v=j):=r;have I:Hid (l.length=o):=D;have E:some c≠j.ownBlock:=by
  rw[<-r];cases i with
  | none=>simp[AM,Value.ownBlock]
  | some g=>simp[AM,Value.ownBlock];exact(B g rfl).2
 have u:Hid (∀e d k,((w.alloc e).alloc d).drew.grownBy k j.ownBlock->κ k c 1 j/\k.frozen? ⟨c,1,none⟩=false):=λe d k Q=>by
  have A:k.heap[c]?=w.heap[c]?:=by
   rw[Q.block c (by simp;omega) E];show((w.alloc e).alloc d).heap[c]?=_;rw[ju _ _ _ (by simp;omega),ju _ _ _ C]
  exact⟨(jB (a:=⟨c,1,none⟩) A).trans W,(jM (a:=⟨c,1,none⟩) A).trans P⟩
 have S:Hid (∀e d,((w.alloc e).alloc d).drew.heap[w.heap.size+1]?=some d):=λe d=>by
  have:=iH (w.alloc e) d;rwa [jR]at this
 clear n h r D B;go_enter func173,ntmps173;go_wp2_with fail
 go_region_law
  ((refine kF _ (by rfl) _ _ _ (by rfl) 0 207 aa _ 2 16 underlying258 R X Y Z rfl (by omega) j o (A2 l) (by rfl) (((U.alloc _).alloc _).drew)
        ⟨w.heap.size+1,0,none⟩ 1 1 [ι x.sz,ι x.t] (by rfl) (by rfl) (iJ (cs:=#[ι x.sz,ι x.t]) (t:=207) (fr:=(0,0)) (S.out _ _)) (by simp[Value.oneCell'])
        (by omega) (by unfold maxLen;omega) (by omega) (by omega) (w.heap.size+2) (by simp) ?_;intro z ab k V q O ag;have ad:=(u.out _ _ _ q).1;have ae:=(u.out _ _ _ q).2))
 all_goals
  have H:=Jw I.out J.out C G.out E V q O;obtain⟨N,M,T⟩:=H;go_wp2;go_end0;refine⟨rfl,some z,N,M,?_⟩;rcases T with h | h
  ·exact .inl h.symm
  exact .inr ⟨z,rfl,h⟩
theorem UX(a:Nat)(q:Option Nat)(l:List Bk)(i:Nat)(x:Bk)(w:World)(h:aH w a q l)(hi:i+2<=l.length)(C:l.length<=4398046511104):
  Calls prog 215 #[.pointer (some ⟨a,0,none⟩),.int .i64 i,x.val] w λn m=>n=.returned (.tuple #[])/\aH m a q (BJ l i x)/\aA (λc=>c=a\/q=some c) w m:=by
 cases q with
 | none=>obtain⟨C,k⟩:=h;subst C;simp at hi
 | some g =>
  obtain⟨u,e,k,D⟩:=h;have R:=k.c1;have Q:=k.lt;have E:=Aa k;have H:=Aa D;clear k D;have F:Hid (∀(j:Nat) (d:World),aY d g e l->d.cell? ⟨j,0,none⟩=some (.int .i64 x.sz)->d.cell? ⟨j,1,none⟩=some (.int .i64 x.t)->Calls prog 234 #[.slice (some ⟨g,0,none⟩) l.length e,.int .i64 i,.int .i64 ((i:Int)+2),.slice (some ⟨j,0,none⟩) 1 1] d λn m=>n=.returned (.slice (some ⟨g,0,none⟩) (l.length-1) e)/\aY m g e (BJ l i x)/\aA (λc=>c=g) d m):=by
   intro j d B v z;rcases kC (i+2) l.length with A | A
   ·exact S2 g e l.length i j l x d rfl B A v z
   exact Sl g e l.length i j l x d rfl B (by omega) v z
  have G:=Aa (Fo x (l:=l) (i:=i) hi);generalize L:l.length=O at *
  clear L;unfold Bk.val;go_enter func215,ntmps215;go_wp2_with fail
  have T:IntKind.i64.wrap ((i:Int)+2)=(i:Int)+2:=by rw[il];omega
  have t:=Aa (show ∀s r,aA (λc=>c=g) ((w.alloc (.cells #[.int .i64 x.sz,.int .i64 x.t] 207)).alloc s).drew r->aD r a [BZ,.slice (some ⟨g,0,none⟩) O e] 260 from λs r J=>(((E.o.alloc _).alloc s).drew).keeps J u);go_region_with (go_at_call 234;refine(F.o (w.heap.size+1) _ (H.o.keeps (M:=λ_=>False) (((aA.refl _ _).alloc _).alloc _).drew id) (by simp) (by simp)).mono ?_;rintro n r ⟨rfl,N,o⟩;have S:=(t.o _ _ o).cell (i:=1) rfl;have P:=(t.o _ _ o).frozen)
  all_goals
   have I:=t.o _ _ o;go_wp2;go_end0;refine⟨rfl,⟨u,e,?_,?_⟩,?_⟩
   ·rw[G.o];exact I.setCell 1 _
   ·exact N.keeps (M:=λi=>i=a) ((aA.refl (λi=>i=a) _).setCell (p:=⟨a,1,none⟩) (Or.inl rfl) _) (λh=>u h.symm)
   exact(((((aA.refl (λc=>c=a\/some g=some c) w).alloc _).alloc _).drew).trans o (λi hi _=>.inr (by rw[hi]))).setCell (p:=⟨a,1,none⟩) (Or.inl (Or.inl rfl)) _
theorem rowNew_any(w:World):
  Calls prog 169 #[BZ] w λc a=>c=.returned (π w.heap.size)/\aH a w.heap.size none []/\lX w a/\a.heap.size=w.heap.size+1:=by
 unfold BZ;go_enter func169,ntmps169;go_wp2;go_ret;exact⟨rfl,⟨rfl,aD.new w [BZ,.slice none 0 0] 260⟩,(aA.refl _ _).alloc _,by simp⟩
