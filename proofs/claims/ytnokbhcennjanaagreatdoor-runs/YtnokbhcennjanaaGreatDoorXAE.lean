import Derived.Test.YtnokbhcennjanaaGreatDoorXAD
open Go.RowKit Go.Proofs.Tryz
set_option maxRecDepth 100000
set_option maxHeartbeats 16000000
namespace Go.Proofs.YtnokbhcennjanaaGreatDoor
section
def sinkL: Nat->List It->Nat->List It
 | 0,l,_=>l
 | f+1,l,i=>if Bi l i<0 then l else if BU (itAt l (Bi l i).toNat) (itAt l i) then sinkL f (swapL l i (Bi l i).toNat) (Bi l i).toNat else l
theorem G8(l:List It)(i:Nat): Bi l i=-1\/∃a:Nat,Bi l i=a/\i<a/\a<l.length:=by
 unfold Bi;split
 ·split
  ·split
   ·exact .inr ⟨_,rfl,by omega,by omega⟩
   exact .inr ⟨_,rfl,by omega,by omega⟩
  exact .inr ⟨_,rfl,by omega,by omega⟩
 exact .inl rfl
theorem Ko(m g i j n:Nat)(w:World)(l:List It)(R:l.length=n)(ag:n<=1000)(ae:i<=1000)(S:QB w m (.slice (some ⟨g,0,none⟩) n j))(T:aP w g j l)(hi:i<n\/n=0)(G:m≠g):
  Calls prog 117 #[.pointer (some ⟨m,0,none⟩),.int .i64 i] w λx h=>x=.returned (.tuple #[])/\aA (·=g) w h/\aP h g j (sinkL (n+1) l i):=by
 have J:Hid (QB w m (.slice (some ⟨g,0,none⟩) n j)):=S;have ab:Hid (aP w g j l):=T;have aa:Hid (l.length=n):=R;have Y:Hid (i<n\/n=0):=hi;clear S T R hi;go_enter func117,ntmps117;go_wp2;go_loopw [1] (λH wr=>∃(c f:Nat) (e:List It),H=.int .i64 c/\Hid (c<n\/n=0)/\c<=1000/\n<=c+f/\Hid (e.length=n)/\Hid (aA (·=g) w wr)/\Hid (aP wr g j e)/\Hid (sinkL (n+1) l i=sinkL (f+1) e c)) (λH _=>2000-(intOf H).toNat)
 case atStart=>exact⟨i,n,l,rfl,Y,ae,by omega,aa,aA.refl _ _,ab,rfl⟩
 case round =>
  obtain⟨c,f,e,rfl,ah,af,al,r,t,I,A⟩:=hrel;go_wp2_with fail
  refine(Mt m g c j n wr e r.out ag af ⟨J.out.b.keeps t.out G⟩ I.out).mono ?_;rintro x k ⟨rfl,z⟩;have B:Hid (lO wr k):=z;have s:Hid (aP k g j e):=I.out.keeps z id;have C:Hid (QB k m (.slice (some ⟨g,0,none⟩) n j)):=⟨(J.out.b.keeps t.out G).keeps z id⟩;clear z;have aq:k.cell? ⟨m,1,none⟩=some (.slice (some ⟨g,0,none⟩) n j):=C.out.b.cell rfl;have ap:k.cell? ⟨m,0,none⟩=some (.func (.func 66) #[] #[]):=C.out.b.cell rfl;rcases G8 e c with q | ⟨d,q,an,F⟩
  ·have v:Hid (Bi e c=-1):=q;rw[q];clear q;go_wp2;go_quiet (fail)
   go_wp2;refine iN (ks rfl _ _ _) rfl ?_;refine⟨rfl,(t.out.trans B.out (λ_ a=>a.elim)).trans (aA.drewN (λ_=>False) k _) (λ_ a=>a.elim),?_⟩;rw[A.out];simp only[sinkL,v.out];exact s.out.keeps (aA.drewN (λ_=>False) k _) id
  have v:Hid (Bi e c=(d:Int)):=q;rw[q];clear q;have N:d<n:=by rw[r.out]at F;exact F
  clear F;have Q:c<n:=by omega
  obtain⟨ar,au,av,aw⟩:=s.out.cells d (by rw[r.out];exact N);obtain⟨ax,ay,az,a0⟩:=s.out.cells c (by rw[r.out];exact Q);have am:(0:Int)<=(c:Int):=by omega
  have ao:(c:Int)<(n:Int):=by omega
  have ai:(0:Int)<=(d:Int):=by omega
  have aj:(d:Int)<(n:Int):=by omega
  have ak:decide ((d:Int)<0)=false:=by simp
  generalize V:itAt e d=o at *
  generalize W:itAt e c=y at *
  have L:Hid (itAt e d=o):=V;have M:Hid (itAt e c=y):=W;clear V W;cases hab:BU o y;all_goals
   go_wp2
   go_region_held3 (λh=>h.cell? ⟨m,0,none⟩=some (.func (.func 66) #[] #[])/\h.cell? ⟨m,1,none⟩=some (.slice (some ⟨g,0,none⟩) n j) /\
      h.cell? ⟨g,d*4,none⟩=some (.int .i64 o.t)/\h.cell? ⟨g,d*4+1,none⟩=some (.int .i64 o.k)/\h.cell? ⟨g,d*4+2,none⟩=some (.int .i64 o.d)/\h.cell? ⟨g,d*4+3,none⟩=some (.int .i64 o.n) /\
      h.cell? ⟨g,c*4,none⟩=some (.int .i64 y.t)/\h.cell? ⟨g,c*4+1,none⟩=some (.int .i64 y.k)/\h.cell? ⟨g,c*4+2,none⟩=some (.int .i64 y.d)/\h.cell? ⟨g,c*4+3,none⟩=some (.int .i64 y.n)) (go_keep)
    (first | (go_at_call 66;refine(H7 o y _).mono ?_;rintro x h ⟨rfl,rfl⟩))
   have O:lO k ((k.alloc (.cells o.cells 80)).alloc (.cells y.cells 80)).drew:=(((aA.refl _ _).alloc _).alloc _).drew;generalize((k.alloc (.cells o.cells 80)).alloc (.cells y.cells 80)).drew=D at *
   have u:Hid (lO k D):=O;clear O
  ·go_wp2;refine iN (ks rfl _ _ _) rfl ?_;refine⟨rfl,(t.out.trans B.out (λ_ a=>a.elim)).trans u.out (λ_ a=>a.elim),?_⟩;rw[A.out];simp only[sinkL,v.out,iH,L.out,M.out,hab,hZ (show ¬((d:Int)<0) by omega)];exact s.out.keeps u.out id
  go_wp2_with fail
  refine(Jt m g c d j n D e r.out ⟨C.out.b.keeps u.out id⟩ (s.out.keeps u.out id) Q (by omega) (by omega) G).mono ?_;rintro x X ⟨rfl,P,U⟩;have Z:Hid (aA (·=g) D X):=P;have ad:Hid (aP X g j (swapL e c d)):=U;clear P U;go_wp2;go_roundw;case rel =>
   obtain⟨E,rfl⟩:∃E,f=E+1:=⟨f-1,by omega⟩;refine⟨d,E,swapL e c d,rfl,.inl N,by omega,by omega,(Ca _ _ _).trans r.out,((t.out.trans B.out (λ_ a=>a.elim)).trans u.out (λ_ a=>a.elim)).then Z.out,ad,?_⟩;show _=_;rw[A.out]
   conv=>lhs;unfold sinkL
   simp only[v.out,iH,L.out,M.out,hab,hZ (show ¬((d:Int)<0) by omega),lH]
  case measure=>simp[intOf];omega
def bB(w:World)(q:Nat)(og:Option Nat)(l:List It): Prop :=
 match og with
 | none=>l=[]/\aD w q [Ci,.slice none 0 0] 159
 | some g=>q≠g/\∃cap,aD w q [Ci,.slice (some ⟨g,0,none⟩) l.length cap] 159/\aP w g cap l
theorem bB.lt{w:World}{d:Nat}{c:Option Nat}{l:List It}(a:bB w d c l): d<w.heap.size/\∀g,c=some g->g<w.heap.size/\d≠g:=by
 cases c with
 | none=>exact⟨a.2.lt,λ_ a=>by cases a⟩
 | some g=>obtain⟨h,j,e,i⟩:=a;exact⟨e.lt,λk a=>by cases a;exact⟨i.lt,h⟩⟩
theorem bB.keeps{M:Nat->Prop}{w w':World}{d:Nat}{a:Option Nat}{l:List It}(c:bB w d a l)(k:aA M w w')(e:¬M d)(j:∀g,a=some g->¬M g): bB w' d a l:=by
 cases a with
 | none=>exact⟨c.1,c.2.keeps k e⟩
 | some g=>obtain⟨m,h,i,n⟩:=c;exact⟨m,h,i.keeps k e,n.keeps k (j g rfl)⟩
theorem len_any(e:Nat)(d:Option Nat)(l:List It)(w:World)(c:bB w e d l):
  Calls prog 67 #[.pointer (some ⟨e,0,none⟩)] w λh m=>h=.returned (.int .i64 l.length)/\m=w:=by
 cases d with
 | none =>
  obtain⟨i,a⟩:=c;have j:=a.c1;subst i;clear a;go_enter func67,ntmps67;go_wp2;go_ret;exact⟨rfl,rfl⟩
 | some g =>
  obtain⟨o,n,a,k⟩:=c;have j:=a.c1;clear a k;go_enter func67,ntmps67;go_wp2;go_ret;exact⟨rfl,rfl⟩
theorem Jk(m:Nat)(k:Option Nat)(l:List It)(w:World)(h:bB w m k l):
  Calls prog 69 #[.pointer (some ⟨m,0,none⟩)] w λs z=>s=.returned (.tuple #[(itAt l 0).val,.bool (!l.isEmpty)])/\lO w z:=by
 have i:=h.lt;cases k with
 | none =>
  obtain⟨t,c⟩:=h;have x:=c.c1;subst t;have u:=c.lt;clear c i;go_enter func69,ntmps69;go_wp2;exact iN (v:=.tuple #[.agg #[.int .i64 0,.int .i64 0,.int .i64 0,.int .i64 0],.bool false]) (by simp[results,results69,go_sem]) rfl ⟨rfl,by repeat (first | exact aA.refl _ _ | apply aA.drew | apply aA.alloc)⟩
 | some g =>
  obtain⟨E,A,c,d⟩:=h;have x:=c.c1;have u:=c.lt;have B:=d.lt;cases l with
  | nil =>
   clear c d i;go_enter func69,ntmps69;go_wp2;exact iN (v:=.tuple #[.agg #[.int .i64 0,.int .i64 0,.int .i64 0,.int .i64 0],.bool false]) (by simp[results,results69,go_sem]) rfl ⟨rfl,by repeat (first | exact aA.refl _ _ | apply aA.drew | apply aA.alloc)⟩
  | cons a e =>
   obtain⟨n,o,q,r⟩:=d.cells 0 (by simp);have j:itAt (a::e) 0=a:=rfl;rw[j]at n o q r ⊢;simp only[kS,ja]at n o q r;have C:(((a::e).length:Int)==0)=false:=by simp;omega
   have D:(0:Int)<((a::e).length:Int):=by simp
   generalize(a::e).length=F at *
   clear c d i j;go_enter func69,ntmps69;go_wp2;exact iN (v:=.tuple #[.agg #[.int .i64 a.t,.int .i64 a.k,.int .i64 a.d,.int .i64 a.n],.bool true]) (by simp[results,results69,go_sem]) rfl ⟨rfl,by repeat (first | exact aA.refl _ _ | apply aA.drew | apply aA.alloc)⟩
theorem Fo: (prog.info? 80).map (λa=>(a.zero,a.size,a.bytes))=some (some (.agg #[.int .i64 0,.int .i64 0,.int .i64 0,.int .i64 0]),4,32):=by kernel_rfl
theorem riseL_length(f:Nat)(l:List It)(i:Nat): (riseL f l i).length=l.length:=by
 induction f generalizing l i with
 | zero=>rfl
 | succ f a =>
  unfold riseL;split
  ·rfl
  split
  ·rw[a,Ca]
  rfl
theorem G5(f:Nat)(l:List It)(i:Nat): (sinkL f l i).length=l.length:=by
 induction f generalizing l i with
 | zero=>rfl
 | succ f a =>
  unfold sinkL;split
  ·rfl
  split
  ·rw[a,Ca]
  rfl
def AH(og:Option Nat)(n cap:Nat): Value:=match og with | none=>.slice none 0 0 | some g=>.slice (some ⟨g,0,none⟩) n cap
theorem bB.owns{w:World}{i:Nat}{c:Option Nat}{l:List It}(h:bB w i c l):
  ∃a,aD w i [Ci,AH c l.length a] 159/\w.ownsRow 0 80 4 (AH c l.length a) l.length (flat l):=by
 cases c with
 | none=>obtain⟨rfl,d⟩:=h;exact⟨0,d,ir _ _ _ _⟩
 | some g =>
  obtain⟨o,a,d,e⟩:=h;obtain⟨j,k,m,n⟩:=e.ex;exact⟨a,d,G4 l,.inr ⟨g,a,j.toArray,rfl,iM _,k,e.le,e.max,by simp[m],by simpa using n⟩⟩
theorem Li{w:World}{g n c:Nat}{l:List It}(o:l.length=n)(e:w.ownsRow 0 80 4 (.slice (some ⟨g,0,none⟩) n c) n (flat l)): aP w g c l:=by
 rcases e.2 with ⟨a,_⟩ | ⟨r,q,d,a,_,h,i,j,k,m⟩
 ·cases a
 cases a;subst o;exact⟨⟨d.toList,by unfold aD;simpa using h,by simpa using k,m⟩,i,j⟩
theorem MH{w i:World}{m B:Obj}{a d n z j:Nat}{h:Option Nat}{l:List It}{x:It}{v:Value}(G:l.length=n)(H:AH h n z=v)(J:a<w.heap.size)(I:∀g,h=some g->g<w.heap.size/\a≠g)(C:aD w a [Ci,v] 159)(u:some a≠v.ownBlock)(s:i.ownsRow 0 80 4 (.slice (some ⟨d,0,none⟩) (n+1) j) (n+1) (flat l++[.int .i64 x.t,.int .i64 x.k,.int .i64 x.d,.int .i64 x.n]))(q:((w.alloc m).alloc B).drew.grownBy i v.ownBlock)(o:v.ownBlock=some d\/d=w.heap.size+2):
  QB (i.setCell ⟨a,1,none⟩ (.slice (some ⟨d,0,none⟩) (n+1) j)) a (.slice (some ⟨d,0,none⟩) (n+1) j) /\
  aP (i.setCell ⟨a,1,none⟩ (.slice (some ⟨d,0,none⟩) (n+1) j)) d j (l++[x]) /\
  aA (λc=>c=a\/h=some c) w (i.setCell ⟨a,1,none⟩ (.slice (some ⟨d,0,none⟩) (n+1) j))/\a≠d/\(h=some d\/w.heap.size<=d):=by
 have r:∀c,v.ownBlock=some c->h=some c:=by
  intro c k;rw[<-H]at k;cases h with
  | none=>simp[AH,Value.ownBlock]at k
  | some g=>simpa[AH,Value.ownBlock] using k
 have t:a≠d:=by
  rcases o with e | e
  ·intro A;apply u;rw[e,A]
  omega
 have F:aA (λc=>c=a\/h=some c) w i:=(((aA.refl _ w).alloc m).alloc B).drew.grown q (λc k=>Or.inl (Or.inr (r c k)));have D:aD i a [Ci,v] 159:=by
  unfold aD;rw[q.block a (by simp;omega) u];exact(C.alloc m).alloc B
 refine⟨⟨D.setCell 1 _⟩,?_,F.setCell (Or.inl (Or.inl rfl)) _,t,?_⟩
 ·have E:flat l++[.int .i64 x.t,.int .i64 x.k,.int .i64 x.d,.int .i64 x.n]=flat (l++[x]):=by rw[IS];rfl
  rw[E]at s;exact(Li (by simp[G]) s).keeps (M:=λc=>c=a) ((aA.refl (λc=>c=a) _).setCell (Or.inl rfl) _) (λe=>t e.symm)
 rcases o with e | e
 ·exact .inl (r d e)
 exact .inr (by omega)
theorem put_any(c:Nat)(j:Option Nat)(l:List It)(x:It)(w:World)(e:bB w c j l)(aq:l.length<=900):
  Calls prog 68 #[.pointer (some ⟨c,0,none⟩),x.val] w λF T=>F=.returned (.tuple #[])/\∃C,bB T c C (riseL (l.length+1) (l++[x]) l.length)/\aA (λo=>o=c\/j=some o) w T/\(C=j\/∃o,C=some o/\w.heap.size<=o):=by
 obtain⟨N,z⟩:=e.lt;obtain⟨E,r,aj⟩:=e.owns;have ak:=r.c1;have ae:=r.frozen 1;obtain⟨ap,ah,am,an,ao⟩:=jh Fo;generalize P:l.length=d at *
 generalize B:AH j d E=m at *
 unfold It.val;have V:Hid (aD w c [Ci,m] 159):=r;have aa:Hid (AH j d E=m):=B;have u:Hid (l.length=d):=P;have S:some c≠m.ownBlock:=by
  rw[<-B];cases j with
  | none=>simp[AH,Value.ownBlock]
  | some g=>simp[AH,Value.ownBlock];exact(z g rfl).2
 have D:Hid (∀i h k,((w.alloc i).alloc h).drew.grownBy k m.ownBlock->k.cell? ⟨c,1,none⟩=some m/\k.frozen? ⟨c,1,none⟩=false):=λi h k af=>by
  have L:k.heap[c]?=w.heap[c]?:=by
   rw[af.block c (by simp;omega) S];show((w.alloc i).alloc h).heap[c]?=_;rw[jq _ _ _ (by simp;omega),jq _ _ _ N]
  exact⟨(jw (a:=⟨c,1,none⟩) L).trans ak,(jH (a:=⟨c,1,none⟩) L).trans ae⟩
 have ai:Hid (∀i h,((w.alloc i).alloc h).drew.heap[w.heap.size+1]?=some h):=λi h=>by
  have:=iJ (w.alloc i) h;rwa [jU]at this
 have Z:Hid (∀g,j=some g->g<w.heap.size/\c≠g):=z;clear r e B P z;go_enter func68,ntmps68;go_wp2_with fail
 go_region_law
  ((refine kz _ (by rfl) _ _ _ (by rfl) 0 80 ap _ 4 32 underlying134 ah am an ao rfl (by omega) m d (flat l) (by rfl) (((aj.alloc _).alloc _).drew)
        ⟨w.heap.size+1,0,none⟩ 1 1 [.int .i64 x.t,.int .i64 x.k,.int .i64 x.d,.int .i64 x.n] (by rfl) (by rfl) (iT (cs:=#[.int .i64 x.t,.int .i64 x.k,.int .i64 x.d,.int .i64 x.n]) (t:=80) (fr:=(0,0)) (ai.out _ _)) (by simp[Value.oneCell'])
        (by omega) (by unfold maxLen;omega) (by omega) (by omega) (w.heap.size+2) (by simp) ?_;intro n q k R s J O;have ab:=(D.out _ _ _ s).1;have ad:=(D.out _ _ _ s).2))
 all_goals
  have W:=MH u.out aa.out N Z.out V.out S R s J;obtain⟨I,G,H,A,Q⟩:=W;have v:=Aa I;have X:=Aa G;have Y:=Aa H;clear I G H R s J O ab ad;generalize k.setCell ⟨c,1,none⟩ (.slice (some ⟨n,0,none⟩) (d+1) q)=U at *
  have ar:U.cell? ⟨c,1,none⟩=some (.slice (some ⟨n,0,none⟩) (d+1) q):=v.o.b.cell rfl;go_wp2_with fail
  refine(M5 c n d q (d+1) U (l++[x]) (by simp[u.out]) (by omega) v.o X.o (by omega) A).mono ?_;rintro F av ⟨rfl,M,al⟩;go_wp2;go_end0;refine⟨rfl,some n,⟨A,q,?_,al⟩,Y.o.trans M (λau ag O=>?_),?_⟩
  ·have:(riseL (d+1) (l++[x]) d).length=d+1:=by rw[riseL_length];simp[u.out]
   rw[this];exact v.o.b.keeps M A
  ·subst ag;rcases Q with e | e
   ·exact .inr e
   omega
  rcases Q with e | e
  ·exact .inl e.symm
  exact .inr ⟨n,rfl,e⟩
