import Derived.Test.YtnokbhcennjanaaGreatDoorXAK
open Go.RowKit Go.Proofs.Tryz
set_option maxRecDepth 100000
set_option maxHeartbeats 16000000
namespace Go.Proofs.YtnokbhcennjanaaGreatDoor.Qi
def Own(w:World)(base:Nat)(v:Value)(l:List It): Prop:=w.ownsRow base 80 4 v l.length (flat l)
theorem Own.keeps{M:Nat->Prop}{w w':World}{base:Nat}{v:Value}{l:List It}(c:Own w base v l)(m:aA M w w')(o:∀h,v.ownBlock=some h->¬M h): Own w' base v l:=by
 rcases c.2 with ⟨a,d⟩ | ⟨g,i,j,a,d,e,k⟩
 ·exact⟨c.1,.inl ⟨a,d⟩⟩
 refine⟨c.1,.inr ⟨g,i,j,a,d,?_,k⟩⟩;have n:g<w.heap.size:=(js.1 e).1;rw[m.block g n (o g (by rw[a];simp[Value.ownBlock]))];exact e
theorem Own.base{w:World}{base:Nat}{v:Value}{l:List It}(c:Own w base v l)(i:Nat)(hi:v.ownBlock=some i): base<=i:=by
 rcases c.2 with ⟨a,_⟩ | ⟨g,d,e,a,h,_⟩
 ·rw[a]at hi;simp[Value.ownBlock]at hi
 rw[a]at hi;have:g=i:=by simpa[Value.ownBlock] using hi
 omega
theorem MP(l:List It): ∀c∈flat l,c.oneCell'=true:=by
 induction l with
 | nil=>simp[flat]
 | cons e l d =>
  intro c a;simp only[flat,iA]at a;rcases a with rfl | rfl | rfl | rfl | a
  ·rfl
  ·rfl
  ·rfl
  ·rfl
  exact d c a
theorem IZ{w:World}{A:Array Oper}{rest:List Oper}{o:Oper}{a:Act}{u:Exit->Act->World->Prop}(F:o.guard=none)(s x:Operand)(J:o.op=.call { callee:=.builtin .append,args:=#[s,x],argTypes:=#[134,134] })(base:Nat)(j:Value)(d:List It)(e:Nat)(q:d.length=e)(O:a.eval s=j)(L:Own w base j d)(r h v:Nat)(c:List It)(H:c.length=h)(Q:a.eval x=σ r h v)(C:∀l m,(flat c)[l]?=some m->w.cell? ⟨r,l,none⟩=some m)(N:0<h)(hlen:e+h<=100000)(E:base<=w.heap.size)(n:∀g k t,Own t base (σ g (e+h) k) (d++c)->aA (λU=>j.ownBlock=some U) w t->(j.ownBlock=some g\/w.heap.size<=g)->wpList prog A u rest (a.put o.dst (σ g (e+h) k)) t): wpList prog A u (o::rest) a w:=by
 obtain⟨V,G,R,S,T⟩:=jg Fw;subst q H;refine jf w F s x 134 J base 80 V _ 4 32 underlying134 G R S T (by rfl) (by omega) j d.length (flat d) O L ⟨r,0,none⟩ c.length v (flat c) Q (GJ c) ?_ (MP c) N (by unfold maxLen;omega) (by omega) E w.heap.size rfl ?_
 ·intro l m P;rw[kl,ja];exact C l m P
 intro g k B M i D W;refine n g k B ?_ ⟨i.os,i.tape,i.output,i.size,λe q I=>i.block e q (λn=>I n.symm)⟩ ?_
 ·show B.ownsRow base 80 4 _ (d++c).length (flat (d++c));rw[Jg,ic];exact M
 rcases D with z | z
 ·exact .inl z
 exact .inr (by omega)
theorem Own.row{w:World}{base g n c:Nat}{l:List It}(_:l.length=n)(e:Own w base (σ g n c) l): aP w g c l/\base<=g:=by
 rcases e.2 with ⟨a,_⟩ | ⟨r,q,d,a,h,i,j,k,m,o⟩
 ·cases a
 cases a;exact⟨⟨⟨d.toList,by unfold aD;simpa using i,by simpa using m,o⟩,j,k⟩,h⟩
theorem MF(g n cap:Nat)(w:World): (binOp BinOp.eql 134 (σ g n cap) (.slice none 0 0)).run prog w=.ok (.bool false) w:=by kernel_rfl
theorem Mu(w:World): (binOp BinOp.eql 134 (.slice none 0 0) (.slice none 0 0)).run prog w=.ok (.bool true) w:=by kernel_rfl
attribute [local go_sem] MF Mu
theorem LD(w:World):
  Calls prog 120 #[.slice none 0 0] w λa c=>a=.returned (.slice none 0 0)/\c=w:=by
 go_enter func120,ntmps120;go_wp2;go_ret;exact⟨rfl,rfl⟩
theorem Ms(g cap:Nat)(l:List It)(w:World)(c:aP w g cap l)(s:l.length<=1000):
  Calls prog 120 #[σ g l.length cap] w λE v=>∃j q,E=.returned (σ j l.length q)/\w.heap.size<=j/\aP v j q l/\lX w v:=by
 obtain⟨a,k⟩:∃a,a=l.length:=⟨_,rfl⟩;have D:=Aa c;have i:=Aa k;rw[<-k]at s ⊢;obtain⟨Q,M,U,V,W⟩:=jg Fw;clear k c
 have e:=Aa (show Own (w.alloc (.cells #[] 80)) w.heap.size (σ w.heap.size 0 0) [] from
    ⟨rfl,.inr ⟨w.heap.size,0,#[],rfl,ir _,iH w _,ir _,iT _,rfl,rfl⟩⟩)
 have h:=Aa ((aA.refl (λ_=>False) w).alloc (.cells #[] 80));by_cases G:a=0
 ·subst G;have B:=Aa (show l=[] from iR.1 i.o.symm);go_enter func120,ntmps120;go_wp2_with (at_builtin;refine JU rfl _ _ 134 rfl w.heap.size 80 Q 4 underlying134 M _ 0 [] rfl e.o (some ⟨g,0,none⟩) cap rfl ?_)
  go_ret;refine⟨w.heap.size,0,rfl,ir _,?_,h.o⟩;rw[B.o];exact(Own.row rfl e.o).1
 have x:=Aa (show ∀d o,(flat l)[d]?=some o->κ (w.alloc (.cells #[] 80)) g d o from λd o n=>by
    obtain⟨S,I,s,P⟩:=D.o.ex;refine h.o.cell (I.cell ?_) id;have N:d<l.length*4:=by have:=(iq.1 n).1;rwa [GJ]at this
    rw[<-P,iW,ij N]at n
    exact n)
 have O:0<a:=by omega
 go_enter func120,ntmps120;go_wp2_with (at_builtin;refine IZ rfl _ _ rfl w.heap.size _ [] 0 rfl rfl e.o g a cap l i.o.symm rfl x.o O (by omega) (by simp) ?_;intro F c2 R t r H)
 have m:=Own.row (by have:=i.o;simp;omega) t;have C:=Aa m.1;have z:=Aa m.2
 have A:=Aa ((h.o.trans r (λu J T=>by
        have L:(Value.slice (some ⟨w.heap.size,0,none⟩) 0 0).ownBlock=some u:=J;have:w.heap.size=u:=by simpa[Value.ownBlock] using L
        omega)))
 clear m t r H;go_wp2;go_ret;exact⟨F,c2,rfl,z.o,C.o,A.o⟩
def allL: Nat->List It->List It
 | 0,_=>[]
 | f+1,l=>if l.length=0 then[] else itAt l 0::allL f (takeL l)
theorem takeL_length(l:List It): (takeL l).length=l.length-1:=by
 unfold takeL;rw[GE];simp
theorem Yn(e g:Nat)(l:List It)(w:World)(a:bB w e (some g) l)(N:l.length<=900)(ae:0<l.length):
  Calls prog 70 #[π e] w λH ao=>H=.returned (.tuple #[(itAt l 0).val,.bool true])/\bB ao e (some g) (takeL l)/\aA (λh=>h=e\/h=g) w ao:=by
 obtain⟨bp,af⟩:=a.lt;obtain⟨af,u⟩:=af g rfl;have P:=Aa a;clear a;have a4:(!l.isEmpty)=true:=by cases l with | nil=>simp at ae | cons=>rfl
 obtain⟨r,ag⟩:∃r,r=l.length:=⟨_,rfl⟩;have bu:0<r:=by omega
 have bv:r<=900:=by omega
 have o:=Aa ag;clear ag N ae;go_enter func70,ntmps70;go_wp2_with fail
 refine(J1 e (some g) l _ (P.o.keeps ((aA.refl (λ_=>False) _).alloc _) id (λ_ _ a=>a))).mono ?_;rintro H k ⟨rfl,J⟩;rw[a4];unfold It.val;have ad:aD k w.heap.size [ι 0,ι 0,ι 0,ι 0] 80:=(aD.new w _ 80).keeps J id;have L:lX w k:=((aA.refl (λ_=>False) w).alloc _).then J;obtain⟨_,j,C,I⟩:=P.o.keeps L id (λ_ _ a=>a);rw[<-o.o]at C;have bz:e<k.heap.size:=C.lt;have bx:g<k.heap.size:=I.lt;have a9:e≠w.heap.size:=by omega
 have a6:g≠w.heap.size:=by omega
 have Q:=Aa ad;have V:=Aa L;have G:=Aa C;have T:=Aa I;clear J ad L C I;generalize ak:itAt l 0=c;have a0:=Aa ak;clear ak;obtain⟨d,a7⟩:∃d,r=d+1:=⟨r-1,by omega⟩;subst a7;have O:=G.o.c1;go_wp2_with fail
 have s:lX k (k.alloc (.cells #[ι c.t,ι c.k,ι c.d,ι c.n] 80)):=(aA.refl _ _).alloc _;have al:aD (k.alloc (.cells #[ι c.t,ι c.k,ι c.d,ι c.n] 80)) k.heap.size [ι c.t,ι c.k,ι c.d,ι c.n] 80:=aD.new _ _ _;generalize k.alloc (.cells #[ι c.t,ι c.k,ι c.d,ι c.n] 80)=m at *
 have aa:=Aa al;have Y:=Aa (Q.o.keeps s id);have A:=Aa (G.o.keeps s id);have n:=Aa (T.o.keeps s id);have U:=Aa (aA.then V.o s);clear s al Q G T V O;generalize ba:k.heap.size=av at *
 generalize ai:w.heap.size=i at *
 have az:=Aa ai;clear ba ai;have O:=A.o.c1;have a8:m.frozen? ⟨e,1,none⟩=false:=A.o.frozen 1;obtain⟨ap,aq,ar,au⟩:=n.o.cells 0 (by rw[<-o.o];omega);obtain⟨bb,bc,bd,be⟩:=n.o.cells d (by rw[<-o.o];omega);simp only[k4,ja]at ap aq ar au;have a5:=n.o.frozen;generalize an:itAt l d=y at *
 have a1:=Aa an;clear an;have br:(0:Int)<=(d:Int):=by omega
 have bs:(d:Int)<(d:Int)+1:=by omega
 have a3:=n.o.le;rw[<-o.o]at a3;have bt:(d:Int)<=(j:Int):=by omega
 have R:=Aa (n.o.put 0 y);have X:=Aa ((A.o.keeps ((aA.refl (λh=>h=g) m).bP (Or.inl rfl) 0 y) u).setCell 1 (σ g d j));have z:=Aa ((((aA.refl (λh=>h=e\/h=g) m).bP (Or.inl (Or.inr rfl)) 0 y).setCell (p:=⟨e,1,none⟩) (Or.inl (Or.inl rfl)) (σ g d j)).drew);have S:=Aa ((R.o.keeps (M:=λh=>h=e) ((aA.refl (λh=>h=e) _).setCell (p:=⟨e,1,none⟩) (Or.inl rfl) (σ g d j)) (λa=>u a.symm)).drew);go_region
 go_wp2_with fail
 have ab:(((((m.setCell ⟨g,0,none⟩ (ι y.t)).setCell ⟨g,1,none⟩ (ι y.k)).setCell ⟨g,2,none⟩ (ι y.d)).setCell ⟨g,3,none⟩ (ι y.n)).setCell ⟨e,1,none⟩ (σ g d j)).drew=((bP m g 0 y).setCell ⟨e,1,none⟩ (σ g d j)).drew:=by
  unfold bP;rfl
 rw[ab];clear ab O a8 ap aq ar au bb bc bd be a5;have F:Hid (QB ((bP m g 0 y).setCell ⟨e,1,none⟩ (σ g d j)).drew e (σ g d j)):=⟨X.o⟩;have hlen:((l.set 0 y).take d).length=d:=by have:=o.o;simp;omega
 have W:=Aa hlen;have Z:=Aa (show takeL l=sinkL (d+1) ((l.set 0 y).take d) 0 by unfold takeL;rw[<-o.o,<-a1.o];rfl);clear hlen R X;generalize((bP m g 0 y).setCell ⟨e,1,none⟩ (σ g d j)).drew=a2 at *
 refine(K9 e g 0 j d a2 ((l.set 0 y).take d) W.o (by omega) (by omega) F.o (S.o.take d) (by omega) u).mono ?_;rintro H D ⟨rfl,t,ah⟩;have aj:¬(i=e\/i=g):=by omega
 have am:¬(av=e\/av=g):=by omega
 have B:=Aa ((aa.o.keeps z.o am).keeps t (λa=>am (Or.inr a)));have q:=Aa ((Y.o.keeps z.o aj).keeps t (λa=>aj (Or.inr a)));have aw:=Aa (F.o.b.keeps t u);have ax:=Aa ah;have ay:=Aa (((U.o.mono (M':=λh=>h=e\/h=g) (λ_ _ a=>a.elim)).then z.o).trans t (λ_ a _=>Or.inr a));clear t ah F S z U aa Y n A;have bf:=B.o.c0;have bg:=B.o.c1;have bh:=B.o.c2;have bi:=B.o.c3;have bj:=q.o.c0;have bk:=q.o.c1;have bl:=q.o.c2;have bm:=q.o.c3;have bn:=q.o.frozen
 have E:=Aa (show aA (λh=>h=i) D ((((D.setCell ⟨i,0,none⟩ (ι c.t)).setCell ⟨i,1,none⟩ (ι c.k)).setCell ⟨i,2,none⟩ (ι c.d)).setCell ⟨i,3,none⟩ (ι c.n)) from
    ((((aA.refl (λh=>h=i) D).setCell (p:=⟨i,0,none⟩) (Or.inl rfl) _).setCell (p:=⟨i,1,none⟩) (Or.inl rfl) _).setCell (p:=⟨i,2,none⟩) (Or.inl rfl) _).setCell (p:=⟨i,3,none⟩) (Or.inl rfl) _)
 have x:=Aa ((((q.o.setCell 0 (ι c.t)).setCell 1 (ι c.k)).setCell 2 (ι c.d)).setCell 3 (ι c.n));go_wp2;generalize((((D.setCell ⟨i,0,none⟩ (ι c.t)).setCell ⟨i,1,none⟩ (ι c.k)).setCell ⟨i,2,none⟩ (ι c.d)).setCell ⟨i,3,none⟩ (ι c.n))=b1 at *
 have c0:=x.o.c0;have c1:=x.o.c1;have c2:=x.o.c2;have c3:=x.o.c3;refine iV (v:=.tuple #[.agg #[ι c.t,ι c.k,ι c.d,ι c.n],.bool true]) (by simp[results,results70,go_sem,c0,c1,c2,c3]) rfl ⟨by rw[a0.o];rfl,⟨u,j,?_,?_⟩,?_⟩
 ·have N:(takeL l).length=d:=by rw[Z.o,GE];exact W.o
  rw[N];exact aw.o.keeps E.o (λa=>a9 a)
 ·rw[Z.o];exact ax.o.keeps E.o (λa=>a6 a)
 exact ay.o.trans E.o (λb0 bo bq=>by have:=az.o;omega)
end Go.Proofs.YtnokbhcennjanaaGreatDoor.Qi
namespace Go.Proofs.YtnokbhcennjanaaGreatDoor.Qi
theorem Ft(a:Nat)(c:Option Nat)(l:List It)(n:Int)(w:World)(e:bB w a c l)(i:(l.length:Int)=n):
  Calls prog 67 #[π a] w λd j=>d=.returned (ι n)/\j=w :=
 (len_any a c l w e).mono λ_ _ ⟨h,hw⟩=>⟨by rw[h,i],hw⟩
theorem MV(a g:Nat)(l:List It)(x:It)(w:World)(h:bB w a (some g) l)(j:l.length<=900)(k:0<l.length)(m:itAt l 0=x):
  Calls prog 70 #[π a] w λe d=>e=.returned (.tuple #[.agg #[ι x.t,ι x.k,ι x.d,ι x.n],.bool true])/\bB d a (some g) (takeL l)/\aA (λc=>c=a\/c=g) w d :=
 (Yn a g l w h j k).mono λ_ _ ⟨i,hw⟩=>⟨by rw[i,m];rfl,hw⟩
theorem all_some(z g:Nat)(l:List It)(w:World)(a:bB w z (some g) l)(bm:l.length<=900):
  Calls prog 73 #[π z] w λr i=>∃g n,r=.returned (σ g l.length n)/\w.heap.size<=g/\aP i g n (allL (l.length+1) l)/\(allL (l.length+1) l).length=l.length/\lX w i:=by
 obtain⟨d,E⟩:∃d,d=l.length:=⟨_,rfl⟩;obtain⟨br,bk,bo,bp,bq⟩:=jg Fw;have R:=Aa E;have a6:=Aa a;rw[<-E]at bm ⊢;obtain⟨b3,I,V,aw⟩:=a;have b4:κ w z 0 (.func (.func 66) #[] #[]):=V.cell rfl;have b5:κ w z 1 (σ g d I):=by rw[E];exact V.cell rfl
 have ad:=Aa (show ∀A,lX w A->Calls prog 120 #[σ g d I] A λr i=>∃c c1,r=.returned (σ c d c1)/\A.heap.size<=c/\aP i c c1 l/\lX A i from λA bj=>by
    rw[E];exact Ms g I l A (aw.keeps bj id) (by omega))
 clear V aw E;go_enter func73,ntmps73;go_wp2_with fail
 go_region_held3 (λi=>i.cell? ⟨z,0,none⟩=some (.func (.func 66) #[] #[])/\i.cell? ⟨z,1,none⟩=some (σ g d I))
  (first | (go_split_ands;exact⟨by assumption,by assumption⟩) | (go_split_ands;exact⟨((aA.refl (λ_=>False) _).alloc _).cell (by assumption) id,((aA.refl (λ_=>False) _).alloc _).cell (by assumption) id⟩) | (go_split_ands;exact⟨L.cell (by assumption) id,L.cell (by assumption) id⟩))
  (first | (go_at_call 120;refine(ad.o _ (by exact(aA.refl _ _).drew)).mono ?_;rintro r m ⟨c,c1,rfl,al,Y,L⟩))
 have af:=Aa (((aA.refl (λ_=>False) w).drew).then L);have az:=Aa (show w.heap.size<=c from al);have be:=Aa af.o.size;have a1:=Aa Y.lt;have ba:=Aa Y;clear Y L ad al;obtain⟨h,J⟩:∃h,h=m.alloc (.cells #[.func (.func 66) #[] #[],σ c d c1] 159):=⟨_,rfl⟩;have ab:=Aa (show aD h m.heap.size [Cn,σ c d c1] 159 by rw[J];exact aD.new m _ _);have aa:=Aa (show lX m h by rw[J];exact(aA.refl (λ_=>False) m).alloc _);have bc:=Aa J;clear J;have ai:=Aa (show bB h m.heap.size (some c) l from⟨by have:=a1.o;omega,c1,by rw[<-R.o];exact ab.o,ba.o.keeps aa.o id⟩);have N:=Aa (af.o.then aa.o);obtain⟨ax,b2,au,X⟩:=lT (P:=prog) h w.heap.size 134 80 br _ 4 underlying134 bk bo bp .i64 .i64 d (by rw[bq];omega) (by unfold maxLen;omega) N.o.size;have ah:=Aa (show lX h ax from(aA.refl (λ_=>False) h).grown X (λo D=>by cases D));have a5:=Aa (show Own ax w.heap.size (σ h.heap.size 0 d) [] from au);clear au X;go_wp2_with fail
 rw[show m.alloc (.cells #[.func (.func 66) #[] #[],σ c d c1] 159)=h from bc.o.symm];refine(Ft z (some g) l d h (a6.o.keeps N.o id (λ_ _ a=>a)) (by rw[R.o])).mono ?_;rintro r i ⟨rfl,t⟩;rw[t];clear t i;have a8:=Aa (show m.heap.size<h.heap.size from ab.o.lt);have a0:=Aa (show c<h.heap.size from(ai.o.lt.2 c rfl).1);have a9:=Aa (show w.heap.size<=m.heap.size from be.o);generalize b6:m.heap.size=G at *
 generalize bz:h.heap.size=bf at *
 go_wp2_with fail
 go_loopg [4] (d) (λgk bs wr=>∃(q k:List It) (e n:Nat),bs=σ e k.length n/\Hid (q.length=gk)/\Hid (k.length+gk=d)/\Hid (e≠G/\e≠c)/\Hid (Own wr w.heap.size (σ e k.length n) k)/\Hid (bB wr G (some c) q)/\Hid (lX w wr)/\Hid (allL (d+1) l=k++allL (gk+1) q))
 case atStart=>exact⟨l,[],bf,d,rfl,R.o.symm,by show _=_;simp,⟨by have:=a8.o;omega,by have:=a0.o;omega⟩,a5,ai.o.keeps ah.o id (λ_ _ a=>a),N.o.then ah.o,rfl⟩
 case round =>
  obtain⟨q,k,e,n,rfl,x,H,M,S,T,Q,ae⟩:=hrel;obtain⟨o,D⟩:∃o,k.length=o:=⟨_,rfl⟩;rw[D];have v:=Aa D;clear D;by_cases bh:gk=0
  ·go_wp2_with (go_at_call 67;refine(Ft G (some c) q 0 _ T.o (by have:=x.o;omega)).mono ?_;rintro r i ⟨rfl,t⟩;rw[t];clear t i)
   go_ret;have bl:o=d:=by have:=H.o;have:=v.o;omega
   subst bl;have ar:=Own.row rfl S.o;have aj:allL (o+1) l=k:=by
    rw[ae.o,bh];unfold allL;rw[ij (by have:=x.o;omega),iC]
   refine⟨e,n,rfl,ar.2,?_,?_,Q.o⟩
   ·rw[aj];exact ar.1
   rw[aj];exact v.o
  have b1:(0:Int)<(gk:Int):=by omega
  have bx:0<gk:=by omega
  obtain⟨j,Z⟩:∃j,itAt q 0=j:=⟨_,rfl⟩;have bb:=Aa (MV G c q j wr T.o (by have:=x.o;have:=H.o;omega) (by have:=x.o;omega) Z);have bd:=Aa Z;clear Z
  go_wp2_with (first | (go_at_call 67;refine(Ft G (some c) q gk _ T.o (by have:=x.o;omega)).mono ?_;rintro r i ⟨rfl,t⟩;rw[t];clear t i) | (go_at_call 70;refine bb.o.mono ?_;rintro r B ⟨rfl,F,an⟩;have a7:=Aa F;have O:=Aa an;clear F an;have a3:=Aa (show Own B w.heap.size (σ e o n) k by rw[<-v.o];exact S.o.keeps O.o (λu s a=>by
            have am:e=u:=by simpa[Value.ownBlock] using s
            rcases a with a | a
            ·exact M.o.1 (by omega)
            exact M.o.2 (by omega)))) | (at_builtin;refine IZ rfl _ _ rfl w.heap.size _ k o v.o rfl (by exact a3.o.keeps (((aA.refl (λ_=>False) B).alloc _).alloc _) (λ_ _ a=>a)) (B.heap.size+1) 1 1 [j] rfl rfl (by exact λb7 b8 bn=>(aD.newAt (by simp) (flat [j]) 80).cell bn) (by omega) (by have:=H.o;have:=v.o;omega) (by have bu:=Q.o.size;have bv:=O.o.size;simp;omega) ?_;intro C c2 bt av ao ak))
  have F:=a7.o;have aq:=F.lt
  have ag:=Aa (((aA.refl (λu=>u=e) B).alloc (.cells #[ι j.t,ι j.k,ι j.d,ι j.n] 80)).alloc (.cells #[ι j.t,ι j.k,ι j.d,ι j.n] 80) |>.trans ao (λu s ap=>by
        have am:(Value.slice (some ⟨e,0,none⟩) o n).ownBlock=some u:=s;have:e=u:=by simpa[Value.ownBlock] using am
        exact this.symm))
  have a4:=Aa av
  have ay:=Aa (show C=e\/B.heap.size<=C from by
     rcases ak with a | a
     ·have bg:(Value.slice (some ⟨e,0,none⟩) o n).ownBlock=some C:=a;exact .inl (by have:e=C:=(by simpa[Value.ownBlock] using bg);exact this.symm)
     exact .inr (by simp at a;omega))
  clear av ao ak;have a2:=Aa (show w.heap.size<=e from S.o.base e (by simp[Value.ownBlock]));go_wp2;go_roundg (gk-1)
  case measure=>omega
  case rel =>
   have b0:=(aq.2 c rfl).1;have X:=aq.1;have U:=M.o;refine⟨takeL q,k++[j],C,c2,?_,?_,?_,?_,?_,?_,?_,?_⟩
   ·rw[ic,v.o];rfl
   ·show _=_;rw[takeL_length];have:=x.o;omega
   ·show _=_;rw[ic];have:=H.o;simp;omega
   ·show _/\_;rcases ay.o with a | a
    ·rw[a];exact U
    exact⟨by omega,by omega⟩
   ·show Own _ _ _ _;rw[ic,v.o];exact a4.o
   ·exact F.keeps ag.o (λa=>U.1 a.symm) (λg W a=>by injection W with W;exact U.2 (by rw[W];exact a.symm))
   ·have bi:lX w B:=Q.o.trans O.o (λu s ap=>by
       rcases s with s | s
       ·have:=a9.o;omega
       have:=az.o;omega)
    exact bi.trans ag.o (λu s ap=>by have:=a2.o;omega)
   show _=_;rw[ae.o]
   conv=>lhs;unfold allL
   rw[ig (by have:=x.o;omega),bd.o,show gk-1+1=gk by omega];simp
end Go.Proofs.YtnokbhcennjanaaGreatDoor.Qi
namespace Go.Proofs.YtnokbhcennjanaaGreatDoor.Qi
theorem all_none(e:Nat)(w:World)(c:bB w e none []):
  Calls prog 73 #[π e] w λi d=>∃g o,i=.returned (σ g 0 o)/\w.heap.size<=g/\aP d g o []/\lX w d:=by
 obtain⟨I,C,F,G,H⟩:=jg Fw;have z:=Aa c;have m:=c.2;have N:κ w e 0 (.func (.func 66) #[] #[]):=m.cell rfl;have O:=m.c1;clear m c;go_enter func73,ntmps73;go_wp2_with fail
 go_region_held3 (λd=>d.cell? ⟨e,0,none⟩=some (.func (.func 66) #[] #[])/\d.cell? ⟨e,1,none⟩=some (.slice none 0 0))
  (first | (go_split_ands;exact⟨by assumption,by assumption⟩) | (go_split_ands;exact⟨((aA.refl (λ_=>False) _).alloc _).cell (by assumption) id,((aA.refl (λ_=>False) _).alloc _).cell (by assumption) id⟩))
  (first | (go_at_call 120;refine(LD _).mono ?_;rintro i d ⟨rfl,rfl⟩))
 obtain⟨a,j⟩:∃a,a=(w.alloc (.cells #[.func (.func 66) #[] #[],.slice none 0 0] 159)).drew:=⟨_,rfl⟩;have v:=Aa (show aD a w.heap.size [Cn,.slice none 0 0] 159 by rw[j];exact(aD.new w _ _).drew);have l:=Aa (show lX w a by rw[j];exact((aA.refl (λ_=>False) w).alloc _).drew);have B:=Aa j;clear j;have A:=Aa (show bB a w.heap.size none [] from⟨rfl,v.o⟩);obtain⟨k,r,t,q⟩:=lT (P:=prog) a w.heap.size 134 80 I _ 4 underlying134 C F G .i64 .i64 0 (by rw[H];omega) (by unfold maxLen;omega) l.o.size;have n:=Aa (show lX a k from(aA.refl (λ_=>False) a).grown q (λQ D=>by cases D));have x:=Aa (show Own k w.heap.size (σ a.heap.size 0 0) [] from t);have M:(Instr.makeSlice 134 (ι 0) (ι 0)).run prog a=.ok (σ a.heap.size 0 0) k:=r;clear t q r;go_wp2_with fail
 rw[show(w.alloc (.cells #[.func (.func 66) #[] #[],.slice none 0 0] 159)).drew=a from B.o.symm];refine(Ft e none [] 0 a (z.o.keeps l.o id (λ_ c=>by cases c)) rfl).mono ?_;rintro i d ⟨rfl,h⟩;rw[h];clear h d;generalize E:w.heap.size=J at *
 go_wp2_with fail
 go_loopg [4] (0) (λgk L wr=>L=σ a.heap.size 0 0/\wr=k)
 case atStart=>exact⟨rfl,rfl⟩
 case round =>
  obtain⟨rfl,u⟩:=hrel;rw[u];clear u wr;go_wp2_with (go_at_call 67;refine(Ft J none [] 0 _ (A.o.keeps n.o id (λ_ c=>by cases c)) rfl).mono ?_;rintro i d ⟨rfl,h⟩;rw[h];clear h d)
  go_ret;have s:=Own.row rfl x.o;exact⟨a.heap.size,0,rfl,by rw[E];exact s.2,s.1,l.o.then n.o⟩
end Go.Proofs.YtnokbhcennjanaaGreatDoor.Qi
namespace Go.Proofs.YtnokbhcennjanaaGreatDoor
section
def Fc(k:Nat)(y:It): List Int:=y.n::(CW k).map (λj=>[y.t,y.k,y.d].getD j 0)
def Bq(k:Nat)(l:List It): List Int:=l.flatMap (Fc k)
def Ha(x:aJ): List Int:=x.id::(BV x.k x.c++(AE.map (Ac x.ref)++[x.rel,(x.l.length:Int)]))
def D9(clock:Int)(x:aJ): List Int:=Ha x++(Bq x.k (Qi.allL (x.l.length+1) x.l)++DX x.k x.c x.nt (clock-x.c.aL))
theorem Mz(k:Nat): (CW k).length<=3:=by unfold CW;split <;> simp
theorem TU(k:Nat)(y:It): (Fc k y).length<=4:=by have:=Mz k;simp[Fc];omega
theorem O6(k:Nat)(l:List It): (Bq k l).length<=4*l.length:=by
 induction l with
 | nil=>simp[Bq]
 | cons y l a=>have:=TU k y;simp[Bq]at a ⊢;omega
theorem Ox(k:Nat)(a b:List It): Bq k (a++b)=Bq k a++Bq k b:=by simp[Bq]
theorem P5(k:Nat)(a:List It)(i:Nat)(c:i<a.length): Bq k (a.take (i+1))=Bq k (a.take i)++Fc k (itAt a i):=by
 rw[ji,Ox,h9 c];simp[Bq,itAt,List.getD_eq_getElem?_getD,h9 c]
theorem Wx{w:World}{e k:Nat}{y:It}{T:Nat}(j:aD w e [ι y.t,ι y.k,ι y.d,ι y.n] T): PartsAt w (at' e (CW k)) ((CW k).map (λa=>[y.t,y.k,y.d].getD a 0)):=by
 refine⟨by simp[at'],λm p o c d=>?_⟩;have l:∀a,a∈CW k->κ w e a (ι ([y.t,y.k,y.d].getD a 0)):=by
  intro a i;have:a=0\/a=1\/a=2:=by unfold CW at i;split at i <;> simp at i <;> omega
  rcases this with h | h | h <;> subst h <;> exact j.cell rfl
 unfold at' at c;rw[iS]at c d;cases ho:(CW k)[m]? with
 | none=>rw[ho]at c;cases c
 | some n =>
  rw[ho]at c d;simp only[ko,lU]at c d;subst c d;exact l n (iz ho)
theorem Zo(c:Nat)(i:Option Nat)(l:List It)(w:World)(h:bB w c i l)(n:l.length<=900):
  Calls prog 73 #[π c] w λe d=>∃g a,e=.returned (σ g l.length a)/\w.heap.size<=g/\aP d g a (Qi.allL (l.length+1) l)/\(Qi.allL (l.length+1) l).length=l.length/\lX w d:=by
 cases i with
 | none =>
  obtain⟨rfl,j⟩:=h;refine(Qi.all_none c w ⟨rfl,j⟩).mono ?_;rintro e d ⟨g,a,rfl,k,o,m⟩;exact⟨g,a,rfl,k,o,rfl,m⟩
 | some g=>exact Qi.all_some c g l w h n
structure dL (x:aJ):Prop where
 fS:0<=x.id/\x.id<=9223372036854775807
 cfg:∀n,n∈BV x.k x.c->0<=n/\n<=9223372036854775807
 p0:0<=Bh x.k x.c
 p3:Bh x.k x.c<=3
 refl:x.ref.length=12
 ref:∀v,v∈x.ref->0<=v/\v<=9223372036854775807
 rel:0<=x.rel/\x.rel<=9223372036854775807
 len:x.l.length<=8
 buf:∀n,n∈Bq x.k (Qi.allL (x.l.length+1) x.l)->0<=n/\n<=9223372036854775807
 note:fP x.k x.c x.nt
 valid:Ak x.c=true
 kind:x.c.kind=x.k
 k1:1<=x.k
 k5:x.k<=5
theorem GQ{l:List Int}(c:∀a,a∈l->0<=a/\a<=9223372036854775807)(j:Nat): 0<=Ac l j/\Ac l j<=9223372036854775807:=by
 unfold Ac;rw[γ];cases hj:l[j]? with
 | none=>simp
 | some a=>exact c a (iz hj)
theorem GM(f:Nat->Int)(k j:Nat)(a:AE[k]?=some j): (AE.map f).take (k+1)=(AE.map f).take k++[f j]:=by
 rw[ji,iS,a];rfl
end
section
attribute [local go_sem ↓] AH Bs
attribute [local go_sem] AI Bt A3 A4 AJ AL B8 B9 Bd B2 Ll Lm Ln Lo Lp Lq Lr
theorem Nz(k:Nat)(c:Cfg)(e:Bh k c<=3): (BV k c).length<=14:=by
 have a:(Cm k).length<=4:=by unfold Cm;split <;> simp
 have d:(Bg (Bh k c).toNat).length<=6:=by simp[Bg];omega
 simp[BV];omega
theorem Um(a:SB)(x:aJ)(clock:Int)(b:Nat)(v:Value)(bs:List Nat)(w:World)(W:bJ w a x)(hi:dL x)(bm:bR w b v bs)(N:∀e,AF b v e->¬a.aQ x.k e)(c0:0<=clock)(c1:clock<=4611686018427387904)(dz:bs.length+10*x.nt.bs.length<=140737479000000):
  Calls prog 48 #[π a.s,π b,ι clock] w λj k=>j=.returned (.tuple #[])/\aK w b v (bs++Ae (D9 clock x)) k:=by
 have s:=Aa (show ∀k,aA (AF b v) w k->bJ k a x from λk bh=>W.keeps bh (λe cy dh=>N e dh cy));have b3:=Aa N;have c:=Aa hi;have af:=Aa (show ∀e,a.aQ x.k e->e<w.heap.size from W.lt);have cm:=Aa (aK.refl bm);have cr:=W.aF.c0;obtain⟨dk,dl⟩:=hi.fS;clear W hi bm N;go_enter func48,ntmps48;go_wp2_with fail
 refine(CR b v bs x.id w w cm.o dk dl (by omega)).mono ?_;rintro j a1 ⟨rfl,F⟩;have ai:=Aa F;clear F cr;obtain⟨dj,cx⟩:=El (s.o a1 ai.o.kp).aF 1 20 x.c.cells rfl rfl;go_wp2_with fail
 have b1:=Aa (Nz x.k x.c c.o.p3);obtain⟨bq,bd,be,bf⟩:=ai.o;refine(Sj b bq (bs++enc x.id) x.c x.k a1 bd c.o.kind c.o.k1 c.o.k5 c.o.p0 c.o.p3 c.o.cfg (by have:=Dt x.id;rw[ic];omega)).mono ?_;rintro j ds ⟨rfl,G⟩;have a8:=Aa (aK.then be bf G);clear G bd be bf bq dj cx ai;go_wp2_with fail
 refine(ML ds).mono ?_;rintro j d7 ⟨rfl,D⟩;have a9:=Aa (a8.o.still D);clear D a8;have da:(bs++enc x.id++Ae (BV x.k x.c)).length+10*x.nt.bs.length<=140737479000150:=by
  have C:=Dt x.id;have u:=Cu (BV x.k x.c);have cu:=b1.o;rw[ic,ic];omega
 obtain⟨J,an⟩:∃J,bs++enc x.id++Ae (BV x.k x.c)=J:=⟨_,rfl⟩;rw[an]at a9 da;have bt:=Aa an;clear an;go_wp2_with fail
 go_loopw [23] (λe wr=>∃d:Nat,d<=7/\e=ι d/\Hid (aK w b v (J++Ae ((AE.map (Ac x.ref)).take d)) wr)) (λe _=>7-(intOf e).toNat)
 case atStart=>exact⟨0,by omega,rfl,by show aK _ _ _ _ _;rw[jP,Dv,iC];exact a9.o⟩
 case round =>
  obtain⟨d,bh,rfl,i⟩:=hrel;by_cases d3:d<7
  ·have z:d=0\/d=1\/d=2\/d=3\/d=4\/d=5\/d=6:=by omega
   rcases z with z | z | z | z | z | z | z;all_goals subst z
   ·have t:κ wr a.s 40 (ι (Ac x.ref 5)):=(s.o wr i.o.kp).aF.cell (Ea a x c.o.refl 5 (by omega));obtain⟨q,r⟩:=GQ c.o.ref 5;have n:=Aa (GM (Ac x.ref) 0 5 rfl);go_wp2_with fail
    refine(CR b v _ (Ac x.ref 5) w wr i.o q r (by have C:=Cu ((AE.map (Ac x.ref)).take 0);have u:((AE.map (Ac x.ref)).take 0).length<=7:=(by rw[iG];omega);rw[ic];omega)).mono ?_;rintro j A ⟨rfl,h⟩;have l:=Aa h;clear h t;go_wp2;go_roundw;case rel =>
     refine⟨1,by omega,rfl,?_⟩;show aK _ _ _ _ _;have:=l.o;rw[n.o,B3,En,<-ε];exact this
    case measure=>simp[intOf]
   ·have t:κ wr a.s 41 (ι (Ac x.ref 6)):=(s.o wr i.o.kp).aF.cell (Ea a x c.o.refl 6 (by omega));obtain⟨q,r⟩:=GQ c.o.ref 6;have n:=Aa (GM (Ac x.ref) 1 6 rfl);go_wp2_with fail
    refine(CR b v _ (Ac x.ref 6) w wr i.o q r (by have C:=Cu ((AE.map (Ac x.ref)).take 1);have u:((AE.map (Ac x.ref)).take 1).length<=7:=(by rw[iG];omega);rw[ic];omega)).mono ?_;rintro j A ⟨rfl,h⟩;have l:=Aa h;clear h t;go_wp2;go_roundw;case rel =>
     refine⟨2,by omega,rfl,?_⟩;show aK _ _ _ _ _;have:=l.o;rw[n.o,B3,En,<-ε];exact this
    case measure=>simp[intOf]
   ·have t:κ wr a.s 42 (ι (Ac x.ref 7)):=(s.o wr i.o.kp).aF.cell (Ea a x c.o.refl 7 (by omega));obtain⟨q,r⟩:=GQ c.o.ref 7;have n:=Aa (GM (Ac x.ref) 2 7 rfl);go_wp2_with fail
    refine(CR b v _ (Ac x.ref 7) w wr i.o q r (by have C:=Cu ((AE.map (Ac x.ref)).take 2);have u:((AE.map (Ac x.ref)).take 2).length<=7:=(by rw[iG];omega);rw[ic];omega)).mono ?_;rintro j A ⟨rfl,h⟩;have l:=Aa h;clear h t;go_wp2;go_roundw;case rel =>
     refine⟨3,by omega,rfl,?_⟩;show aK _ _ _ _ _;have:=l.o;rw[n.o,B3,En,<-ε];exact this
    case measure=>simp[intOf]
   ·have t:κ wr a.s 43 (ι (Ac x.ref 8)):=(s.o wr i.o.kp).aF.cell (Ea a x c.o.refl 8 (by omega));obtain⟨q,r⟩:=GQ c.o.ref 8;have n:=Aa (GM (Ac x.ref) 3 8 rfl);go_wp2_with fail
    refine(CR b v _ (Ac x.ref 8) w wr i.o q r (by have C:=Cu ((AE.map (Ac x.ref)).take 3);have u:((AE.map (Ac x.ref)).take 3).length<=7:=(by rw[iG];omega);rw[ic];omega)).mono ?_;rintro j A ⟨rfl,h⟩;have l:=Aa h;clear h t;go_wp2;go_roundw;case rel =>
     refine⟨4,by omega,rfl,?_⟩;show aK _ _ _ _ _;have:=l.o;rw[n.o,B3,En,<-ε];exact this
    case measure=>simp[intOf]
   ·have t:κ wr a.s 45 (ι (Ac x.ref 10)):=(s.o wr i.o.kp).aF.cell (Ea a x c.o.refl 10 (by omega));obtain⟨q,r⟩:=GQ c.o.ref 10;have n:=Aa (GM (Ac x.ref) 4 10 rfl);go_wp2_with fail
    refine(CR b v _ (Ac x.ref 10) w wr i.o q r (by have C:=Cu ((AE.map (Ac x.ref)).take 4);have u:((AE.map (Ac x.ref)).take 4).length<=7:=(by rw[iG];omega);rw[ic];omega)).mono ?_;rintro j A ⟨rfl,h⟩;have l:=Aa h;clear h t;go_wp2;go_roundw;case rel =>
     refine⟨5,by omega,rfl,?_⟩;show aK _ _ _ _ _;have:=l.o;rw[n.o,B3,En,<-ε];exact this
    case measure=>simp[intOf]
   ·have t:κ wr a.s 44 (ι (Ac x.ref 9)):=(s.o wr i.o.kp).aF.cell (Ea a x c.o.refl 9 (by omega));obtain⟨q,r⟩:=GQ c.o.ref 9;have n:=Aa (GM (Ac x.ref) 5 9 rfl);go_wp2_with fail
    refine(CR b v _ (Ac x.ref 9) w wr i.o q r (by have C:=Cu ((AE.map (Ac x.ref)).take 5);have u:((AE.map (Ac x.ref)).take 5).length<=7:=(by rw[iG];omega);rw[ic];omega)).mono ?_;rintro j A ⟨rfl,h⟩;have l:=Aa h;clear h t;go_wp2;go_roundw;case rel =>
     refine⟨6,by omega,rfl,?_⟩;show aK _ _ _ _ _;have:=l.o;rw[n.o,B3,En,<-ε];exact this
    case measure=>simp[intOf]
   have t:κ wr a.s 46 (ι (Ac x.ref 11)):=(s.o wr i.o.kp).aF.cell (Ea a x c.o.refl 11 (by omega));obtain⟨q,r⟩:=GQ c.o.ref 11;have n:=Aa (GM (Ac x.ref) 6 11 rfl);go_wp2_with fail
   refine(CR b v _ (Ac x.ref 11) w wr i.o q r (by have C:=Cu ((AE.map (Ac x.ref)).take 6);have u:((AE.map (Ac x.ref)).take 6).length<=7:=(by rw[iG];omega);rw[ic];omega)).mono ?_;rintro j A ⟨rfl,h⟩;have l:=Aa h;clear h t;go_wp2;go_roundw;case rel =>
    refine⟨7,by omega,rfl,?_⟩;show aK _ _ _ _ _;have:=l.o;rw[n.o,B3,En,<-ε];exact this
   case measure=>simp[intOf]
  have z:d=7:=by omega
  subst z;have X:(AE.map (Ac x.ref)).take 7=AE.map (Ac x.ref):=rfl;rw[X]at i;have db:(J++Ae (AE.map (Ac x.ref))).length+10*x.nt.bs.length<=140737479000250:=by
   have u:=Cu (AE.map (Ac x.ref));have cu:(AE.map (Ac x.ref)).length=7:=rfl;rw[ic];omega
  obtain⟨L,ao⟩:∃L,J++Ae (AE.map (Ac x.ref))=L:=⟨_,rfl⟩;rw[ao]at i db;have bu:=Aa ao;clear ao X;have ct:κ wr a.s 34 (ι x.rel):=(s.o wr i.o.kp).aF.cell rfl;obtain⟨dp,dq⟩:=c.o.rel;go_wp2_with fail
  refine(CR b v L x.rel w wr i.o dp dq (by omega)).mono ?_;rintro j A ⟨rfl,h⟩;have l:=Aa h;clear h ct i;have ak:=Aa (s.o A l.o.kp);have al:κ A a.s 32 (π a.q):=ak.o.aF.cell rfl;have a5:=Aa (len_any a.q a.g x.l A ak.o.dM);have d2:=c.o.len;have ba:=Aa (show ∀k,aA (AF b v) w k->_ from λk O=>Zo a.q a.g x.l k (s.o k O).dM (by omega));have b0:=Aa c.o.buf;have cc:=Aa (show D9 clock x=(x.id::(BV x.k x.c++(AE.map (Ac x.ref)++[x.rel,(x.l.length:Int)])))++(Bq x.k (Qi.allL (x.l.length+1) x.l)++DX x.k x.c x.nt (clock-x.c.aL)) from rfl);generalize Qi.allL (x.l.length+1) x.l=o at *
  generalize x.l.length=m at *
  go_wp2_with fail
  refine a5.o.mono ?_;rintro j H ⟨rfl,Q⟩;rw[Q];clear Q H a5;go_wp2_with fail
  refine(CR b v _ m w A l.o (by omega) (by omega) (by have:=Dt x.rel;rw[ic];omega)).mono ?_;rintro j H ⟨rfl,Q⟩;have I:=Aa Q;clear Q al ak l;have al:κ H a.s 32 (π a.q):=(s.o H I.o.kp).aF.cell rfl;go_wp2_with fail
  obtain⟨S,ay,az,bp⟩:=I.o;have ag:=Aa (show ∀e,a.aQ x.k e->¬AF b S e from λe hi=>GN (λB=>b3.o e B hi) az (af.o e hi));have ch:=Aa az;have aj:=Aa bp;have a4:=Aa ay.lt;refine(ba.o H I.o.kp).mono ?_;rintro j a2 ⟨g,dw,rfl,cw,bk,hlen,V⟩;have cj:=Aa (show ∀k,aA (AF b S) a2 k->bJ k a x from λk O=>((s.o H I.o.kp).still V).keeps O ag.o);have b5:=Aa (show ¬AF b S g from λB=>by have:=a4.o g B;omega);have ci:=Aa bk;have ae:=Aa hlen;have bc:=Aa (aK.refl (ay.still V));have ab:=Aa V;have dc:(L++enc x.rel++enc (m:Int)).length+10*x.nt.bs.length<=140737479000300:=by
   have C:=Dt x.rel;have u:=Dt (m:Int);rw[ic,ic];omega
  obtain⟨M,ap⟩:∃M,L++enc x.rel++enc (m:Int)=M:=⟨_,rfl⟩;rw[ap]at bc dc;have bx:=Aa ap;clear ap V bk hlen ay az bp cw I ba al a4;go_wp2_with fail
  go_loopw [54] (λe wr=>∃d:Nat,e=ι d/\d<=m/\Hid (aK a2 b S (M++Ae (Bq x.k (o.take d))) wr)) (λe _=>m-(intOf e).toNat)
  case atStart=>exact⟨0,rfl,iT _,by show aK _ _ _ _ _;simp only[jP,Bq,kI,Dv,iC];exact bc.o⟩
  case round =>
   obtain⟨d,rfl,d1,i⟩:=hrel;have d0:(0:Int)<=(d:Int):=by omega
   have T:=Aa (cj.o wr i.o.kp);have de:(M++Ae (Bq x.k (o.take d))).length+10*x.nt.bs.length<=140737479000620:=by
    have C:=Cu (Bq x.k (o.take d));have u:=O6 x.k (o.take d);rw[iG,ae.o]at u;rw[ic];omega
   by_cases df:d<m
   ·obtain⟨a0,aw,bl,ar⟩:=i.o;have aq:d<o.length:=by rw[ae.o];exact df
    obtain⟨d8,d9,ea,eb⟩:=(ci.o.keeps ar b5.o).cells d aq;have n:=Aa (P5 x.k o d aq)
    have a7:=Aa (show ∀m,m∈Fc x.k (itAt o d)->0<=m/\m<=9223372036854775807 from λm P=>b0.o m (by
         have j:Bq x.k (o.take (d+1)++o.drop (d+1))=Bq x.k o:=by rw[τ]
         rw[<-j,Ox,P5 x.k o d aq];simp only[ik]
         exact .inl (.inr P)))
    have ca:=Aa aw.lt;have cq:=Aa aw;have bb:=Aa bl;have b8:=Aa ar;have bi:(d:Int)<(m:Int):=by omega
    generalize itAt o d=y at *
    clear aw bl ar;obtain⟨E,Y⟩:∃E,E=wr.alloc (.cells #[ι y.t,ι y.k,ι y.d,ι y.n] 80):=⟨_,rfl⟩;have aa:=Aa (show aD E wr.heap.size [ι y.t,ι y.k,ι y.d,ι y.n] 80 by rw[Y];exact aD.new wr _ _);have ad:=Aa (show lX wr E by rw[Y];exact(aA.refl _ _).alloc _);have cp:=Aa (cq.o.still ad.o);have a6:=Aa (show ¬AF b a0 wr.heap.size from λN=>by have:=ca.o _ N;omega);obtain⟨q,r⟩:=a7.o y.n (by simp[Fc]);have b2:=Aa Y.symm;have ck:=Aa (show ∀k,aA (AF b a0) E k->κ k a.s 25 (.func (.func (AR x.k)) #[] #[]) from λk O=>O.cell ((T.o.still ad.o).aF.cell rfl) (GN (ag.o a.s (.inl rfl)) bb.o (kN (af.o a.s (.inl rfl)) (jN aj.o.size ab.o.size))));clear Y;go_wp2_with fail
    rw[b2.o];refine(FL b a0 _ y.n E cp.o q r (by omega)).mono ?_;rintro j Z ⟨rfl,dr,G,av,U⟩;have dg:wr.heap.size<E.heap.size:=aa.o.lt;have bv:=Aa (aa.o.keeps U a6.o);have cb:=Aa (GN a6.o av dg);have cn:=Aa G;have cl:=Aa av;have b6:=Aa U;have b9:=Aa G.lt;have cs:κ Z a.s 25 (.func (.func (AR x.k)) #[] #[]):=ck.o Z U;have bj:=PK x.k c.o.k1 c.o.k5;clear G av U aa;go_wp2_with fail
    refine(PM x.k wr.heap.size Z c.o.k1 c.o.k5).mono ?_;rintro j dt ⟨d6,rfl,au,D⟩;obtain⟨d4,d5,di,_⟩:=D6 au;subst di;have co:=Aa (cn.o.still D);have bz:=Aa (bv.o.keeps D id);have cd:=Aa au;have b7:=Aa D;have a3:=Aa (show((CW x.k).map (λR=>[y.t,y.k,y.d].getD R 0)).length<=3 by rw[iu];exact Mz x.k);clear au D bj cs;go_wp2_with fail
    refine(Jh b dr _ _ Z.heap.size wr.heap.size (CW x.k) ((CW x.k).map (λR=>[y.t,y.k,y.d].getD R 0)) dt co.o cd.o (Wx bz.o) cb.o (λe hi B=>by have:=b9.o e B;omega) (λm P=>a7.o m (by unfold Fc;exact j8 _ P)) (by have:=Dt y.n;have:=a3.o;rw[ic];omega) (by have:=a3.o;omega)).mono ?_;rintro j du ⟨rfl,h⟩
    have b4:=Aa (show aK a2 b S (M++Ae (Bq x.k (o.take (d+1)))) du by
       have bg:=aK.then bb.o b8.o (aK.pre ad.o (aK.then cl.o b6.o (aK.pre b7.o h)));rw[n.o,B3];have j:Ae (Fc x.k y)=enc y.n++Ae ((CW x.k).map (λR=>[y.t,y.k,y.d].getD R 0)):=BQ _ _;rw[j];simp only[ε]at bg ⊢
       exact bg)
    clear h;go_wp2;go_roundw;case rel=>exact⟨d+1,by go_num,by omega,b4⟩
    case measure=>simp[intOf];omega
   have bi:d=m:=by omega
   subst bi;have X:o.take d=o:=iw (by rw[ae.o];omega);rw[X]at i de;have cv:0<=x.c.aL/\x.c.aL<=100:=by
    have:=c.o.valid;simp only[Ak,B5,Ab,iQ,iP]at this;omega
   obtain⟨dm,dn⟩:=cv;have dy:κ wr a.s 30 (.func (.func (I5 x.k)) (Et a.n.d) #[]):=T.o.aF.cell rfl;have dx:=T.o.aF.c2;have bj:=zNq x.k c.o.k1 c.o.k5;obtain⟨br,bn,ax,bo⟩:=i.o;have ce:=Aa bn;have cf:=Aa ax;have cg:=Aa bo;have ah:=Aa (show ∀e,a.aQ x.k e->¬AF b br e from λe hi=>GN (ag.o e hi) ax (kN (af.o e hi) (jN aj.o.size ab.o.size)));clear bn ax bo i;go_wp2_with fail
   go_region_held3 (λk=>k.cell? ⟨a.s,30,none⟩=some (.func (.func (I5 x.k)) (Et a.n.d) #[])/\k.cell? ⟨a.s,2,none⟩=some (ι x.c.aL))
    (first | (simp[*];done) | (go_split_ands;exact⟨F.kp.cell (by assumption) (ah.o a.s (.inl rfl)),F.kp.cell (by assumption) (ah.o a.s (.inl rfl))⟩))
    (first | (go_at_call 43;refine(G3 a.s x.c.aL clock _ (by go_keep) dm dn c0 c1).mono ?_;rintro j k ⟨rfl,rfl⟩) | (refine(zLv x.k a.n x.c x.nt b br _ (clock-x.c.aL) _ _ (by first | rfl | simp) (by exact T.o.note.still (aA.refl _ _).drew) (by exact ce.o.still (aA.refl _ _).drew) (λe B P=>ah.o e (.inr (.inr (.inr P))) B) c.o.note c.o.valid c.o.kind c.o.k1 c.o.k5 (by omega) (by omega) (by omega)).mono ?_;rintro j a1 ⟨rfl,F⟩))
   go_wp2;go_end0;refine⟨rfl,?_⟩;have am:=aK.then ch.o aj.o (aK.pre ab.o (aK.then cf.o cg.o (aK.pre ((aA.refl (λ_=>False) wr).drew) F)));rw[cc.o];rw[<-bx.o,<-bu.o,<-bt.o]at am;rw[B3,B3,BQ,B3,B3,BQ,En];simp only[ε]at am ⊢;exact am
end
section
theorem Qi.cA: ∀(f:Nat) (l:List It),(Qi.allL f l).length<=l.length
 | 0,_=>iT _
 | f+1,l=>by
  unfold Qi.allL;split
  ·simp
  have:=Qi.cA f (takeL l);rw[Qi.takeL_length]at this;rw[iD];omega
theorem Dr.cA: ∀(f:Nat) (l:List Dr.It),(Dr.allL f l).length<=l.length
 | 0,_=>iT _
 | f+1,l=>by
  unfold Dr.allL;split
  ·simp
  have:=Dr.cA f (Dr.takeL l);rw[Dr.takeL_length]at this;rw[iD];omega
theorem Ul(l:List Bk)(f s:Nat)(a:s<=l.length): (EN l f s).length<=f+(l.length-s):=by
 induction f generalizing s with
 | zero=>simp[EN]
 | succ f d =>
  have c:=QY l (2 ^ f) s a;have:=d (CI l (2 ^ f) s) c.2;rw[Mx,iD,ic,iu,iG,iU];omega
theorem XB{l:List Bk}(e:∀c∈l,1<=c.sz/\c.sz<4611686018427387904): Ed l<=62:=by
 unfold Ed;split
 ·omega
 rename_i h;have j:=e (Ad l 0) (EU (by omega));have d:=bitLen_spec (Ad l 0).sz.toNat;have i:=d.2 (by omega);rcases kC (bitLen (Ad l 0).sz.toNat-1) 62 with a | a
 ·omega
 have:=jr (show 1<=2 by omega) a;omega
theorem Vh{k:Nat}{c:Cfg}{a:aU}(d:fP k c a)(o:Ak c=true)(j:c.kind=k)(m:Int): (DX k c a m).length<=a.bs.length+50000:=by
 unfold DX;split
 ·simp
 split
 ·have h:=Ul a.bs (Ed a.bs) 0 (iT _);have e:=XB d.bz;unfold Ga;rw[iD];omega
 split
 ·rename_i e;obtain⟨_,r,s,_⟩:=FJ o j e;have h:=Of a.rg (B1 c) (m-c.aB) d.rl;have i:B1 c<=2 ^ 4:=jr (n:=2) (by omega) (show c.bits.toNat<=4 by omega);omega
 split
 ·rename_i i;obtain⟨_,l,_⟩:=D5 o j i;obtain⟨o1,_⟩:=d.oc i;have h:=NE c (A6 c a.op a.cl (m-c.aB)) (by have:=l.r1;omega) (by have:=l.w1;omega);have e:(A6 c a.op a.cl (m-c.aB)).length<=1001:=by
   unfold A6;rw[ic,iU];split <;> simp <;> omega
  unfold Hr;rw[iD];omega
 split
 ·rename_i q;have h:=d.tl q;have e:=Dr.cA (a.tk.length+1) a.tk;rw[Og];omega
 simp
theorem N1{x:aJ}(a:dL x)(clock:Int): (D9 clock x).length<=x.nt.bs.length+51000:=by
 have c:=Vh a.note a.valid a.kind (clock-x.c.aL);have d:=O6 x.k (Qi.allL (x.l.length+1) x.l);have e:=Qi.cA (x.l.length+1) x.l;have h:=a.len;have i:=Nz x.k x.c a.p3;unfold D9 Ha;rw[ic,ic,iD,ic,ic,iu];have j:AE.length=7:=rfl;simp only[iD,j4];omega
def By(clock:Int)(xs:List aJ): List Int:=xs.flatMap (D9 clock)
def FN(clock:Int)(xs:List aJ): List Int:=clock::(xs.length:Int)::By clock xs
def Er(clock:Int)(xs:List aJ): List Nat:=Bz++Ae (FN clock xs)
def FS(clock:Int)(xs:List aJ): List Nat:=Er clock xs++enc (CJ (Er clock xs))
def DC(clock:Int)(xs:List aJ): ByteArray:=AQ (FS clock xs)
theorem TA(clock:Int)(a b:List aJ): By clock (a++b)=By clock a++By clock b:=by simp[By]
theorem T7(clock:Int)(c:List aJ)(d:∀a,a∈c->dL a): (By clock c).length<=1000000051000*c.length:=by
 induction c with
 | nil=>simp[By]
 | cons a e j =>
  have k:=N1 (d a (by simp)) clock;have l:=(d a (by simp)).note.bn;have m:=j (λy i=>d y (by simp[i]));have h:By clock (a::e)=D9 clock a++By clock e:=by simp[By]
  rw[h,ic,iD];omega
theorem aX.eZ{M:Nat->Prop}{w w':World}{e:Nat}{v:Value}{clock:Int}{ps:List (SB×aJ)}(a:aX w e v clock ps)(h:aA M w w')(i:∀c,aN e v ps c->¬M c): aX w' e v clock ps :=
 ⟨a.aF.keeps h (i e (.inl rfl)),FB a.row h (λc d=>i c (.inr (.inl d))),λp j=>(a.bM p j).keeps h (λc d=>i c (.inr (.inr ⟨p,j,d⟩))),a.apart,a.ev,a.ef⟩
theorem Py(e:Nat)(v:Value)(clock:Int)(ps:List (SB×aJ))(w:World)(j:aX w e v clock ps)(af:∀C,C∈ps.map (·.2)->dL C)(bX:ps.length<=6)(c0:0<=clock)(c1:clock<=4611686018427387904):
  Calls prog 25 #[π e] w λo t=>o=.returned (.string (DC clock (ps.map (·.2))))/\lX w t:=by
 have av:=Aa j;have X:=Aa af;have U:=Aa (show ∀a,aN e v ps a->a<w.heap.size from j.lt);obtain⟨an,ao,ag,ai⟩:=D6 j.row;have H:=Aa ag;have a2:=Aa ai;have V:=Aa (Tc w);clear j af ag ai;obtain⟨h,Q⟩:∃h,ps.length=h:=⟨_,rfl⟩;have k:=Aa Q;rw[Q]at bX;clear Q;go_enter func25,ntmps25;go_wp2_with fail
 refine V.o.mono ?_;rintro o m ⟨b,q,rfl,aj,N,P⟩;have W:=Aa (show ∀a,aN e v ps a->¬AF b q a from λa d j=>by have s:=U.o a d;have L:=N a j;omega);have z:=Aa (show ∀t,aA (AF b q) m t->aX t e v clock ps from λt ba=>(av.o.still P).eZ ba W.o);have aa:=Aa (aK.refl aj);have T:=Aa P;have ar:=Aa N;have a6:m.cell? ⟨e,0,none⟩=some (ι clock):=(z.o m (aA.refl _ _)).aF.cell rfl;clear aj N P V;go_wp2_with fail
 refine(CR b q Bz clock m m aa.o c0 (by omega) (by decide)).mono ?_;rintro o S ⟨rfl,ak⟩;have F:=Aa ak;clear ak a6 aa;have O:S.cell? ⟨e,1,none⟩=some (.slice an h ao):=by
  have:=(z.o S F.o.kp).aF.cell (i:=1) rfl;rw[this,H.o,k.o]
 have bm:Bz.length=8:=rfl;go_wp2_with fail
 refine(CR b q _ h m S F.o (by omega) (by omega) (by have:=Dt clock;rw[ic];omega)).mono ?_;rintro o ap ⟨rfl,al⟩;have G:=Aa al;clear al O F;have O:ap.cell? ⟨e,1,none⟩=some (.slice an h ao):=by
  have:=(z.o ap G.o.kp).aF.cell (i:=1) rfl;rw[this,H.o,k.o]
 have bb:(Bz++enc clock++enc (h:Int)).length<=28:=by
  have s:=Dt clock;have L:=Dt (h:Int);rw[ic,ic];omega
 obtain⟨l,M⟩:∃l,Bz++enc clock++enc (h:Int)=l:=⟨_,rfl⟩;rw[M]at G bb;have aq:=Aa M;clear M;go_wp2_with fail
 clear O;go_loopw [25] (λa wr=>∃c:Nat,a=ι c/\c<=h/\Hid (aK m b q (l++Ae (By clock ((ps.take c).map (·.2)))) wr)) (λa _=>h-(intOf a).toNat)
 case atStart=>exact⟨0,rfl,iT _,by show aK _ _ _ _ _;simp only[jP,kq,By,kI,Dv,iC];exact G.o⟩
 case round =>
  obtain⟨c,rfl,bn,A⟩:=hrel;have bo:(0:Int)<=(c:Int):=by omega
  have E:=Aa (show(l++Ae (By clock ((ps.take c).map (·.2)))).length<=28+10*(1000000051000*c) by
     have s:=Cu (By clock ((ps.take c).map (·.2)))
     have L:=T7 clock ((ps.take c).map (·.2)) (λC bg=>X.o C (by
          obtain⟨p,n,rfl⟩:=iI.1 bg
          exact iK (iZ n)))
     have a4:((ps.take c).map (·.2)).length=c:=by rw[iu,iG,k.o];omega
     rw[a4]at L
     rw[ic];omega)
  by_cases bd:c<h
  ·obtain⟨g,a9,_⟩:=a2.o (by rw[k.o];omega);subst a9;have ae:c<ps.length:=by rw[k.o];exact bd
   obtain⟨p,n⟩:∃p,ps[c]?=some p:=⟨_,h9 ae⟩;have D:=Aa (z.o wr A.o.kp);have a8:wr.cell? ⟨g,c,none⟩=some (π p.1.s):=by
    rcases M1 D.o.row with ⟨bk,_⟩ | ⟨bj,bi,ah,a5⟩
    ·omega
    rw[H.o]at ah;cases ah;exact a5 c _ (by unfold Ba;rw[iS,n];rfl)
   have a7:=D.o.aF.c0
   have a1:=Aa (show By clock ((ps.take (c+1)).map (·.2))=By clock ((ps.take c).map (·.2))++D9 clock p.2 by
      rw[ji,n,iB,TA]
      simp[By])
   have B:p∈ps:=iz n;have az:=Aa (D.o.bM p B);have Z:=Aa (X.o p.2 (iK B));have Y:=Aa (show ∀a,p.1.aQ p.2.k a->aN e v ps a from λa d=>.inr (.inr ⟨p,B,d⟩));have bl:=Z.o.note.bn;have bc:=E.o;have ad:(c:Int)<(h:Int):=by omega
   obtain⟨R,u,r,x⟩:=A.o;have I:=Aa r;have J:=Aa x;have a0:=Aa (Um p.1 p.2 clock b R _ wr az.o Z.o u (λa j d=>GN (W.o a (Y.o a d)) r (kN (U.o a (Y.o a d)) T.o.size) j) c0 c1 (by omega));clear n ae B u r x;go_wp2_with fail
   refine a0.o.mono ?_;rintro o bh ⟨rfl,am⟩;have ax:=Aa (aK.then I.o J.o am);clear am a8 a7;go_wp2;go_roundw;case rel =>
    refine⟨c+1,by go_num,by omega,?_⟩;show aK _ _ _ _ _;have:=ax.o;rw[a1.o,B3,<-ε];exact this
   case measure=>simp[intOf];omega
  have ad:c=h:=by omega
  subst ad;have bf:ps.take c=ps:=iw (by rw[k.o];omega);rw[bf]at A E;have bc:=E.o;obtain⟨R,u,r,x⟩:=A.o;have I:=Aa r;have J:=Aa x;have au:=Aa (X6 b R _ wr u (by omega))
  have ay:=Aa (show DC clock (ps.map (·.2))=AQ (l++Ae (By clock (ps.map (·.2)))++enc (CJ (l++Ae (By clock (ps.map (·.2)))))) by
     have a3:Er clock (ps.map (·.2))=l++Ae (By clock (ps.map (·.2))):=by
      unfold Er FN;rw[BQ,BQ,<-aq.o,iu,k.o];simp only[ε]
     unfold DC FS
     rw[a3])
  clear u r x;go_wp2_with fail
  refine au.o.mono ?_;rintro o bh ⟨rfl,ab⟩;have aw:=Aa ab;clear ab;go_wp2;go_ret;refine⟨by rw[ay.o,ε];rfl,?_⟩;refine T.o.trans (J.o.trans aw.o (λa d be=>?_)) (λa d be=>?_) (M':=AF b q)
  ·rcases d with d | d
   ·exact .inl d
   rcases I.o a d with s | s
   ·exact .inr s
   omega
  have:=ar.o a d;omega
structure WS where
 clock:Int
 xs:List aJ
def Cx(s:WS): ByteArray:=DC s.clock s.xs
def Nu(_:ByteArray): Option WS:=none
def Lg(s:WS)(o:aO): WS×Int×List Int :=
 match Nu o.bytes with
 | none=>(s,14,[])
 | some s'=>(s',0,[])
def Dk(s:WS)(o:aO): WS×Int×List Int :=
 if Ab o.id 0 99=true/\(Ca s.xs o.id).isNone=true then
  if Ak o.cfg=true then(if s.xs.length<6 then(⟨s.clock,s.xs++[AT o.id o.cfg o.cfg.kind.toNat]⟩,0,[]) else(s,4,[])) else(s,3,[])
 else(s,2,[])
def C6(s:WS)(o:aO): WS×Int×List Int :=
 match Ca s.xs o.id with
 | none=>(s,2,[])
 | some x=>if bO x s.clock o.item=0 then(⟨s.clock,BD s.xs o.id (cD x o.item)⟩,0,[x.acc+1])
  else(⟨s.clock,BD s.xs o.id (cG x (bO x s.clock o.item).toNat)⟩,bO x s.clock o.item,[])
def DT(s:WS)(o:aO): WS×Int×List Int :=
 if Ab o.a 0 4611686018427387904=true then
  if Ab o.b 0 100=true then(⟨Av s.clock o.a,(Bw (Av s.clock o.a) o.b (s.xs.map (AS (Av s.clock o.a)))).1⟩,0,[(Bw (Av s.clock o.a) o.b (s.xs.map (AS (Av s.clock o.a)))).2]) else(s,12,[])
 else(s,5,[])
def Eb(s:WS)(o:aO): WS×Int×List Int :=
 match Ca s.xs o.id with
 | none=>(s,2,[])
 | some x=>(s,Bc x.k x.c x.nt o.a (s.clock-x.c.aL))
def E2(s:WS)(o:aO): WS×Int×List Int :=
 match Ca s.xs o.id with
 | none=>(s,2,[])
 | some x=>(s,0,BM x)
def Ax(s:WS)(o:aO): WS×Int×List Int :=
 if o.kind=1 then Dk s o else if o.kind=2 then C6 s o else if o.kind=3 then DT s o else if o.kind=4 then Eb s o else if o.kind=5 then E2 s o else if o.kind=6 then(s,0,[]) else if o.kind=7 then Lg s o else(s,1,[])
def E3(s:WS)(o:aO): ByteArray:=if o.kind=6 then Cx s else Ai
theorem aT.mono{n m:Int}{x:aJ}(a:aT n x)(h:n<=m): aT m x:=by
 have e:=a.dH;exact⟨a.valid,a.kind,a.k1,a.k5,a.eL,by omega,a.dJ,a.dE,a.bS,λd c=>by have:=a.cN d c;omega,a.cap,a.times,a.note,a.heap,a.eB,a.dR,a.dX,a.fits⟩
theorem OE{n:Int}(id:Int)(c:Cfg)(a:Ak c=true)(i:0<=n): aT n (AT id c c.kind.toNat):=by
 obtain⟨k,o,d,m,h,_⟩:=F2 a;have q:c.kind.toNat=k:=by omega
 simp only[B5,Ab,iQ,iP]at h;refine⟨a,?_,?_,?_,by simp[AT],by simpa[AT] using i,by simp[AT],by simp[AT],rfl,?_,?_,by simp[AT],?_,?_,by simp[AT],by simp[AT],by simp[AT],by simp[AT]⟩
 ·show c.kind=(c.kind.toNat:Int);omega
 ·show 1<=c.kind.toNat;omega
 ·show c.kind.toNat<=5;omega
 ·intro l j;have:l=0:=by simpa[AT] using j
  omega
 ·show((0:Nat):Int)<=c.cap;omega
 ·exact bT.zero c.kind.toNat c a (by omega)
 intro r d e;simp[AT]at e
theorem F4{c:List aJ}{id:Int}{y d:aJ}(a:d∈BD c id y): d∈c\/d=y:=by
 induction c with
 | nil=>simp[BD]at a
 | cons h i e =>
  unfold BD at a;split at a
  ·rcases iA.1 a with a | a
   ·exact .inr a
   exact .inl (by simp[a])
  rcases iA.1 a with a | a
  ·exact .inl (by simp[a])
  rcases e a with a | a
  ·exact .inl (by simp[a])
  exact .inr a
theorem Ke(a:List aJ)(id:Int)(y:aJ): (BD a id y).length=a.length:=by
 induction a with
 | nil=>rfl
 | cons d e c =>
  unfold BD;split
  ·rfl
  simp[c]
theorem bQ.mono{n m clock:Int}{c:List aJ}(a:bQ n clock c)(d:n<=m): bQ m clock c:=⟨a.c0,a.c1,a.bX,λh e=>(a.bD h e).mono d,a.marks⟩
theorem K3{x:aJ}{clock:Int}{y:It}(a:bO x clock y=0): 0<=y.t/\y.t<=4611686018427387904/\(x.l.length:Int)<x.c.cap/\clock-x.c.aL<y.t/\y.t<=clock+x.c.bF/\AP x.c x.k y=0/\x.acc<4611686018427387904:=by
 unfold bO at a;cases h1:Ab y.t 0 4611686018427387904 with
 | false=>rw[h1]at a;simp at a
 | true =>
  obtain⟨d,b⟩:=Bu h1;rw[h1]at a;simp only[lQ]at a;split at a
  ·omega
  split at a
  ·omega
  split at a
  ·rename_i c;exact absurd a c
  rename_i c;split at a
  ·omega
  split at a
  ·omega
  exact⟨d,b,by omega,by omega,by omega,by simpa using c,by omega⟩
theorem Jk{P:aJ->Prop}(clock:Int)(i:∀b a,P a->P (Dz clock b a))(b:Int)(e:List aJ)(d:∀a,a∈e->P a): ∀a,a∈(Bw clock b e).1->P a:=by
 induction e generalizing b with
 | nil=>intro a d;simp[Bw]at d
 | cons h l k =>
  intro a c;simp only[Bw,iA]at c;rcases c with c | c
  ·rw[c];exact i b h (d h (by simp))
  exact k _ (λy j=>d y (by simp[j])) a c
theorem NI(clock b:Int)(a:List aJ): (Bw clock b a).1.length=a.length:=by
 induction a generalizing b with
 | nil=>rfl
 | cons d e c=>simp[Bw,c]
theorem SR{clock a:Int}{x:aJ}(i:clock<=a)(c:x.last=0\/x.last<=clock-x.c.aL): (AS a x).last=0\/(AS a x).last<=a-(AS a x).c.aL:=by
 have e:(AS a x).c=x.c:=(Fx (x.l.length+1) x (a-x.c.aL)).2.1;rw[e];rcases Xo (x.l.length+1) x (a-x.c.aL) with d | d
 ·have h:(AS a x).last=x.last:=d;rw[h];rcases c with c | c
  ·exact .inl c
  exact .inr (by omega)
 exact .inr d
def Nq(n:Int)(o:aO): Prop:=o.kind=7->∀s',Nu o.bytes=some s'->bQ n s'.clock s'.xs
theorem Ow{n:Int}{o:aO}(c:o.kind≠7): Nq n o:=λa=>(c a).elim
theorem Zf{n j:Int}{s:WS}(o:aO)(e:bQ n s.clock s.xs)(O:0<=n)(l:n+1<=j\/(n<=j/\j=4611686018427387904))(u:Nq j o): bQ j (Ax s o).1.clock (Ax s o).1.xs:=by
 have d:bQ j s.clock s.xs:=e.mono (by omega);unfold Ax;split
 ·unfold Dk;split
  ·split
   ·split
    ·rename_i r J;refine⟨e.c0,e.c1,by simp;omega,λi c=>?_,λi c=>?_⟩
     ·rcases ik.1 c with c | c
      ·exact d.bD i c
      rw[im]at c;subst c;exact OE _ _ r (by omega)
     rcases ik.1 c with c | c
     ·exact d.marks i c
     rw[im]at c;subst c;exact .inl rfl
    exact d
   exact d
  exact d
 split
 ·unfold C6;split
  ·exact d
  rename_i i w;have c:i∈s.xs:=jc w;have k:=e.bD i c;have m:=e.marks i c;split
  ·rename_i A;obtain⟨E,F,v,N,_,x,q⟩:=K3 A;refine⟨e.c0,e.c1,by show(BD _ _ _).length<=6;rw[Ke];exact e.bX,λh a=>?_,λh a=>?_⟩
   ·rcases F4 a with a | a
    ·exact d.bD h a
    subst a;exact zKl (k.mono (by omega)) o.item E F v (by have:=k.dH;omega) (by rcases m with e | e <;> omega) x
   rcases F4 a with a | a
   ·exact d.marks h a
   subst a;exact m
  refine⟨e.c0,e.c1,by show(BD _ _ _).length<=6;rw[Ke];exact e.bX,λh a=>?_,λh a=>?_⟩
  ·rcases F4 a with a | a
   ·exact d.bD h a
   subst a;have Q:=Jo i s.clock o.item
   exact ZD (k.mono (by omega)) _ (by
      rcases l with l | l
      ·exact .inl (λG C=>by have:=k.cN G C;omega)
      exact .inr (by omega)) (by omega)
  rcases F4 a with a | a
  ·exact d.marks h a
  subst a;exact m
 split
 ·unfold DT;split
  ·rename_i q;obtain⟨H,I⟩:=Bu q;have L:=e.c0;have M:=e.c1;have z:s.clock<=Av s.clock o.a:=by unfold Av;split <;> omega
   split
   ·refine⟨?_,?_,by show(Bw _ _ _).1.length<=6;rw[NI];simpa using e.bX,λh a=>?_,λh a=>?_⟩
    ·show 0<=Av s.clock o.a;unfold Av;split <;> omega
    ·show Av s.clock o.a<=_;unfold Av;split <;> omega
    ·refine Jk (P:=aT j) _ (λb i c=>MO _ b c) _ _ (λh a=>?_) h a;obtain⟨i,c,rfl⟩:=iI.1 a;exact J6 _ (d.bD i c) _
    refine Jk (P:=λh=>h.last=0\/h.last<=Av s.clock o.a-h.c.aL) _ (λb i c=>c) _ _ (λh a=>?_) h a;obtain⟨i,c,rfl⟩:=iI.1 a;exact SR z (e.marks i c)
   exact d
  exact d
 split
 ·unfold Eb;split
  ·exact d
  exact d
 split
 ·unfold E2;split <;> exact d
 split
 ·exact d
 split
 ·rename_i t;unfold Lg;split
  ·exact d
  rename_i D B;exact u t D B
 exact d
theorem PU{n:Int}{s:WS}(o:aO)(a:bQ n s.clock s.xs)(d:0<=n)(c:Nq (n+1) o): bQ (n+1) (Ax s o).1.clock (Ax s o).1.xs:=Zf o a d (.inl (iL _)) c
def E0(ty:TypeId)(a x:Value): Sem Next:=do Instr.storeAt ty a x;pure .skip
theorem JR(ρ:Operand->Value)(dst:Option Tmp)(x y:Operand)(a:TypeId)(pos:String)(after:Array Edge)(guard:Option (Nat×Bool)):
  execOp ρ { dst,op:=.store 48 x y,type:=a,pos,after,guard }=E0 48 (ρ x) (ρ y):=rfl
def Fu(arr:Array Value)(o:Nat): List Value->Array Value
 | []=>arr
 | c::r=>Fu (arr.setIfInBounds o c) (o+1) r
theorem L9(w:World)(T:TypeId): ∀(cs:List Value) (o:Nat) (a:Array Value),(w.alloc (.cells a T)).setCells w.heap.size o cs=w.alloc (.cells (Fu a o cs) T)
 | [],_,_=>rfl
 | c::r,o,a=>by
  unfold World.setCells Fu;rw[World.setCell_alloc_at _ _ _ _ _ rfl];exact L9 w T r (o+1) (a.setIfInBounds o c)
theorem H9: ∀(cs:List Value) (pre:List Value) (rest:List Value),rest.length=cs.length->Fu (pre++rest).toArray pre.length cs=(pre++cs).toArray
 | [],pre,rest,h=>by
  have:rest=[]:=iR.1 h;subst this;rfl
 | c::r,pre,rest,h=>by
  cases rest with
  | nil=>simp at h
  | cons d a =>
   unfold Fu;have e:((pre++d::a).toArray.setIfInBounds pre.length c)=((pre++[c])++a).toArray:=by simp
   rw[e];have:=H9 r (pre++[c]) a (by simpa using h);rw[ic]at this;simpa using this
theorem Kb(w:World)(a:List Value)(cs:List Value)(k:a.length=26)(d:cs.length=26)(e:cs.toArray.all (·.oneCell')=true):
  (E0 48 (π w.heap.size) (.agg cs.toArray)).run prog (w.alloc (.cells a.toArray 48))=.ok .skip (w.alloc (.cells cs.toArray 48)):=by
 unfold E0;have j:(w.alloc (.cells a.toArray 48)).there w.heap.size 0 cs.toArray.size:=by
  intro l h;have i:l<26:=by simpa[d] using h
  rw[ja,kQ,World.frozen?_alloc_new];simp[k,i]
 rw[jq,lq _ w.heap.size 0 48 cs.toArray j (by rw[R7];simp[d]) e];have c:=H9 cs [] a (by omega);simp only[jv,j4]at c;rw[L9,ly,c];rfl
end
section
attribute [local go_sem ↓] AH Bs
attribute [local go_sem] AI Bt A3 A4 AJ AL B8 B9
theorem YG{w j m t:World}{e k:Nat}{v:Value}{ps:List (SB×aJ)}{aV:Int}{u:List aJ}{code:Int}{aI:List Int}{nv l:Value}{i:List (SB×aJ)}(q:lX w j)(D:w.heap.size=k)(r:∀a,aN e v ps a->a<k)(E:k+1<j.heap.size)(x:aX m e l aV i)(C:i.map (·.2)=u)(s:m.ownsRow j.heap.size 3 1 nv aI.length (ints aI))(A:aA (aN e v ps) j m)(o:∀a,aN e l i a->aN e v ps a\/j.heap.size<=a)(z:∀a,nv.ownBlock=some a->¬aN e l i a)(n:aA (λa=>a=k+1) m t):
  aS w e v ps aV u code aI (.returned (Aw code nv)) t:=by
 have B:=q.size;refine⟨nv,l,i,rfl,x.keeps n (λa c d=>?_),C,An (EQ s B) n (λa c d=>?_),?_,λa c=>?_,z⟩
 ·rcases o a c with h | h
  ·have:=r a h;omega
  omega
 ·have:=(s.lt a c).1;omega
 ·exact((q.mono (M':=aN e v ps) (λ_ _ d=>d.elim)).then (A.mono (λ_ _ d=>d))).trans n (λa c r=>by omega)
 rcases o a c with h | h
 ·exact .inl h
 exact .inr (by omega)
theorem Iv{w:World}{base:Nat}{nv:Value}{n:Nat}{i:List Value}(e:w.ownsRow base 3 1 nv n i): ∃d a,nv=.slice d n a:=by
 rcases e.2 with ⟨c,h⟩ | ⟨g,a,j,c,_⟩
 ·exact⟨none,0,by rw[c,h]⟩
 exact⟨some ⟨g,0,none⟩,a,c⟩
theorem Hb{k:Int}{f:Nat}(m:(k=1/\f=20)\/(k=2/\f=21)\/(k=3/\f=22)\/(k=4/\f=23)\/(k=5/\f=24)\/(k=7/\f=26))(e:Nat)(v:Value)(clock:Int)(ps:List (SB×aJ))(o:aO)(w:World)(c:aX w e v clock ps)(E:o.kind=k)(aV:Int)(s:List aJ)(code:Int)(aI:List Int)(B:∀a,aX a e v clock ps->lX w a->Calls prog f #[π e,o.val] a λh r=>aS a e v ps aV s code aI h r):
  Calls prog 15 #[π e,o.val] w λh r=>aS w e v ps aV s code aI h r:=by
 have V:o.cells[0]?=some (ι k):=by rw[<-E];rfl
 have X:Ap (w.alloc (.cells o.cells.toArray 48)) w.heap.size 0 26=.agg o.cells.toArray:=Bd w o.cells 48 26 rfl;have W:Az (w.alloc (.cells o.cells.toArray 48)) w.heap.size 0 26=true:=LP w o.cells 48 26 rfl;have t:=Aa c;have J:=Aa B;clear c B E;unfold aO.val;obtain⟨a,G,j,U,x⟩:=CC w o.cells;have L:=Aa (t.o.still j.o);have u:=Aa (show ∀d,aN e v ps d->d<w.heap.size from t.o.lt);have O:=Aa G;clear G;rcases m with ⟨rfl,rfl⟩ | ⟨rfl,rfl⟩ | ⟨rfl,rfl⟩ | ⟨rfl,rfl⟩ | ⟨rfl,rfl⟩ | ⟨rfl,rfl⟩;all_goals
  go_enter func15,ntmps15;go_wp2_with fail
  rw[<-O.o];generalize F:w.heap.size=I at *
  have M:=Aa F;clear F;have Q:I+1<a.heap.size:=x.o.lt;refine(J.o a L.o j.o).mono ?_;rintro h T ⟨Y,af,Z,rfl,A,H,n,l,D,C⟩;obtain⟨R,S,P⟩:=Iv n;subst P;unfold Aw;have z:=Aa (x.o.keeps l (λc=>by have:=u.o _ c;omega));have N:=Aa (show ∀i,aA (λd=>d=I+1) T i->aS w e v ps aV s code aI (.returned (Aw code (.slice R aI.length S))) i from λi m=>YG j.o M.o u.o Q A H n l D C m);clear A H n l D C;obtain⟨aa,ab,ad,ae⟩:=z.o.three;go_wp2;exact Dj z.o (λi q=>by simp[results,results15,go_sem,q.c0,q.c1,q.c2,Aw]) rfl N.o
theorem zNr(e:Nat)(v:Value)(clock:Int)(ps:List (SB×aJ))(o:aO)(w:World)(a:aX w e v clock ps)(t:o.kind<1\/7<o.kind):
  Calls prog 15 #[π e,o.val] w λk u=>aS w e v ps clock (ps.map (·.2)) 1 [] k u:=by
 have B:o.cells[0]?=some (ι o.kind):=rfl;have E:(o.kind==1)=false:=by simp;omega
 have F:(o.kind==2)=false:=by simp;omega
 have G:(o.kind==3)=false:=by simp;omega
 have H:(o.kind==4)=false:=by simp;omega
 have I:(o.kind==5)=false:=by simp;omega
 have J:(o.kind==6)=false:=by simp;omega
 have L:(o.kind==7)=false:=by simp;omega
 have l:=Aa a;clear a t;unfold aO.val;go_enter func15,ntmps15;go_wp2_with fail
 obtain⟨x,j,m,A,r⟩:=CC w o.cells;rw[<-j];clear j;generalize d:w.heap.size=N at *
 have q:=Aa d;clear d;refine(EE 1 x).mono ?_;rintro k S ⟨rfl,c⟩;unfold Aw;have i:=Aa (r.o.keeps c id);have n:=Aa (m.o.then c);clear c;obtain⟨O,P,Q,R⟩:=i.o.three;go_wp2;refine Dj i.o (λz h=>by simp[results,results15,go_sem,h.c0,h.c1,h.c2,Aw]) rfl (λz s=>?_);have d:=q.o;exact Ez l.o (n.o.trans s (λM C D=>by omega)) (iy _ _ _ _)
end
section
structure cH where
 code:Int
 nv:Value
 aI:List Int
 bs:ByteArray
def cH.cells(x:cH): List Value:=[ι x.code,x.nv,.string x.bs]
def CS(l:List cH): List Value:=l.flatMap cH.cells
structure cC (w:World) (base:Nat) (v:Value) (l:List cH):Prop where
 row:w.ownsRow base 39 3 v l.length (CS l)
 aI:∀x,x∈l->w.ownsRow base 3 1 x.nv x.aI.length (ints x.aI)
 apart:∀x,x∈l->∀i,x.nv.ownBlock=some i->v.ownBlock≠some i
def CG(v:Value)(l:List cH)(i:Nat): Prop:=v.ownBlock=some i\/∃x,x∈l/\x.nv.ownBlock=some i
theorem cC.keeps{M:Nat->Prop}{w w':World}{base:Nat}{v:Value}{l:List cH}(c:cC w base v l)(e:aA M w w')(h:∀a,CG v l a->¬M a): cC w' base v l :=
 ⟨An c.row e (λa d=>h a (.inl d)),λj i=>An (c.aI j i) e (λa d=>h a (.inr ⟨j,i,d⟩)),c.apart⟩
theorem cC.lt{w:World}{base:Nat}{v:Value}{l:List cH}(a:cC w base v l)(i:Nat)(hi:CG v l i): base<=i/\i<w.heap.size:=by
 rcases hi with hi | ⟨d,c,hi⟩
 ·exact a.row.lt i hi
 exact(a.aI d c).lt i hi
def Dh: WS:=⟨0,[]⟩
theorem IB: bQ 0 Dh.clock Dh.xs:=⟨by simp[Dh],by simp[Dh],by simp[Dh],λc a=>by simp[Dh]at a,λc a=>by simp[Dh]at a⟩
def dC(w:World)(sb so:Nat)(ops:List aO): Prop:=∀i o,ops[i]?=some o->w.rangeAt sb (so+i*26) o.cells
theorem Nn: (prog.info? 39).map (λa=>(a.zero,a.size,a.bytes))=some (some (.agg #[ι 0,.slice none 0 0,.string ⟨#[]⟩]),3,48):=by kernel_rfl
theorem Jl(o:aO): o.cells.toArray.all (·.oneCell')=true:=by simp[aO.cells,Cfg.eC,Value.oneCell']
theorem N0(a b:List cH): CS (a++b)=CS a++CS b:=by simp[CS]
theorem Yc{w wr i q:World}{P O:Obj}{e:Nat}{v o j av':Value}{aV:Int}{ps n:List (SB×aJ)}{l:List cH}{code:Int}{nv:Value}{aI:List Int}{bs:ByteArray}{gg M:Nat}(E:lX w wr)(u:cC wr w.heap.size j l)(F:∀a,aN e v ps a->w.heap.size<=a)(A:∀a,CG j l a->¬aN e v ps a)(D:aX i e o aV n)(C:i.ownsRow (wr.alloc P).heap.size 3 1 nv aI.length (ints aI))(H:aA (aN e v ps) (wr.alloc P) i)(x:∀a,aN e o n a->aN e v ps a\/(wr.alloc P).heap.size<=a)(T:∀a,nv.ownBlock=some a->¬aN e o n a)(S:av'=σ gg (l.length+1) M)(Y:q.ownsRow w.heap.size 39 3 av' (l.length+1) (CS l++[ι code,nv,.string bs]))(t:(i.alloc O).grownBy q j.ownBlock)(B:j.ownBlock=some gg\/gg=i.heap.size+1):
  aX q e o aV n/\cC q w.heap.size av' (l++[⟨code,nv,aI,bs⟩])/\lX w q/\(∀a,aN e o n a->w.heap.size<=a)/\(∀a,CG av' (l++[⟨code,nv,aI,bs⟩]) a->¬aN e o n a):=by
 rw[jR]at C x;have ab:=E.size;have aa:wr.heap.size+1<=i.heap.size:=by have:=H.size;rwa [jR]at this
 have J:av'.ownBlock=some gg:=by rw[S];rfl
 have V:aA (λa=>j.ownBlock=some a) (i.alloc O) q:=⟨t.os,t.tape,t.output,t.size,λZ U X=>t.block Z U (λh=>X h.symm)⟩;have z:aA (λa=>j.ownBlock=some a) i q:=((aA.refl (λa=>j.ownBlock=some a) i).alloc O).then V;have I:aA (aN e v ps) wr i:=((aA.refl (aN e v ps) wr).alloc P).then H;have r:=u.lt;have R:=D.lt;have L:∀a,nv.ownBlock=some a->wr.heap.size+1<=a/\a<i.heap.size:=λa c=>C.lt a c;have Q:cC i w.heap.size j l:=u.keeps I (λa c=>A a c);have G:∀a,j.ownBlock=some a->¬aN e o n a:=λa c s=>by
  rcases x a s with h | h
  ·exact A a (.inl c) h
  have:=(r a (.inl c)).2;omega
 refine⟨D.keeps z (λa c h=>G a h c),⟨?_,?_,?_⟩,?_,?_,?_⟩
 ·rw[N0,ic];exact Y
 ·intro m d;rcases ik.1 d with d | d
  ·exact An (Q.aI m d) z (λa c h=>u.apart m d a c h)
  rw[im]at d;subst d;exact An (EQ C (by omega)) z (λa c h=>by have N:=L a c;have k:=(r a (.inl h)).2;omega)
 ·intro m d a c h;rw[J]at h;injection h with h;rcases ik.1 d with d | d
  ·rcases B with k | k
   ·exact u.apart m d a c (by rw[k,h])
   have:=(r a (.inr ⟨m,d,c⟩)).2;omega
  rw[im]at d;subst d;have N:=L a c;rcases B with k | k
  ·have:=(r gg (.inl k)).2;omega
  omega
 ·refine((E.trans (M':=aN e v ps) I (λa c W=>by have:=F a c;omega)).trans z (λa c W=>by have:=(r a (.inl c)).1;omega))
 ·intro a c;rcases x a c with h | h
  ·exact F a h
  omega
 intro a c s;rcases c with c | ⟨m,d,c⟩
 ·rw[J]at c;injection c with c;rcases B with k | k
  ·exact G a (by rw[k,c]) s
  have:=R a s;omega
 rcases ik.1 d with d | d
 ·rcases x a s with h | h
  ·exact A a (.inr ⟨m,d,c⟩) h
  have:=(r a (.inr ⟨m,d,c⟩)).2;omega
 rw[im]at d;subst d;exact T a c s
theorem Kv{w:World}{base:Nat}{v:Value}{l:List Int}(k:w.ownsRow base 3 1 v l.length (ints l)): (l=[]/\∃i c,v=.slice i 0 c)\/∃g c,v=σ g l.length c/\∀a,a<l.length->w.cell? ⟨g,a,none⟩=some (ι (l.getD a 0)):=by
 rcases k.2 with ⟨d,m⟩ | ⟨g,j,e,d,_,n,r,s,t,o⟩
 ·exact .inl ⟨iR.1 m,none,0,d⟩
 refine .inr ⟨g,j,d,λa h=>?_⟩;have q:e[a]?=(ints l)[a]?:=by
  rw[<-o,iW,ij (by omega)];simp
 have:e[a]?=some (ι (l.getD a 0)):=by
  rw[q];unfold ints;rw[iS,h9 h,γ,h9 h];rfl
 simp[World.cell?,n,this]
theorem Vu{k q j:World}{O:Obj}{e:Nat}{v nv:Value}{clock:Int}{ps:List (SB×aJ)}{b2:SB}{x:aJ}{gg m G:Nat}(i:aX k e v clock ps)(J:ps.length=m)(N:nv=σ gg (m+1) G)(E:bJ q b2 x)(o:∀a,b2.aQ x.k a->k.heap.size<=a)(B:lX k q)(P:j.ownsRow 0 66 1 nv (m+1) (Ba ps++[π b2.s]))(l:(q.alloc O).grownBy j v.ownBlock)(r:v.ownBlock=some gg\/gg=q.heap.size+1):
  aX (j.setCell ⟨e,1,none⟩ nv) e nv clock (ps++[(b2,x)])/\aA (aN e v ps) k (j.setCell ⟨e,1,none⟩ nv)/\(∀a,aN e nv (ps++[(b2,x)]) a->aN e v ps a\/k.heap.size<=a):=by
 have T:=B.size;have t:nv.ownBlock=some gg:=by rw[N];rfl
 have z:aA (λa=>v.ownBlock=some a) k j:=((B.mono (M':=λa=>v.ownBlock=some a) (λ_ _ d=>d.elim)).alloc O).grown l (λF w=>Or.inl w);have s:aA (λa=>a=e) j (j.setCell ⟨e,1,none⟩ nv):=(aA.refl (λa=>a=e) j).setCell (p:=⟨e,1,none⟩) (Or.inl rfl) _;have S:=i.aF.lt;have I:gg≠e:=by
  rcases r with d | d
  ·intro H;exact i.ev (by rw[d,H])
  omega
 have D:∀a,v.ownBlock=some a->a<k.heap.size:=λa c=>i.lt a (.inr (.inl c));have R:bJ j b2 x:=(E.still ((aA.refl (λ_=>False) q).alloc O)).keeps (M:=λa=>v.ownBlock=some a) ⟨l.os,l.tape,l.output,l.size,λF w L=>l.block F w (λd=>L d.symm)⟩ (λa c d=>by have u:=o a c;have n:=D a d;omega);refine⟨⟨?_,?_,?_,?_,?_,?_⟩,?_,?_⟩
 ·exact(i.aF.keeps z (λd=>i.ev d)).setCell 1 nv
 ·have:=An P s (λa c d=>by rw[t]at c;injection c with c;omega);rw[Od,ic,J];exact this
 ·intro p h;rcases ik.1 h with h | h
  ·exact((i.bM p h).keeps z (λa c d=>(i.ef p h a c).2 d)).keeps s (λa c d=>(i.ef p h a c).1 d)
  rw[im]at h;subst h;exact R.keeps s (λa c d=>by have:=o a c;omega)
 ·refine jb.2 ⟨i.apart,j7 _ _,?_⟩;intro p h U C a c Q;rw[im]at C;subst C;have u:=(i.bM p h).lt a c;have n:=o a Q;omega
 ·rw[t];intro d;injection d with d;exact I d
 ·intro p h a c;rw[t];rcases ik.1 h with h | h
  ·refine⟨(i.ef p h a c).1,λd=>?_⟩;injection d with d;have u:=(i.bM p h).lt a c;rcases r with n | n
   ·exact(i.ef p h a c).2 (by rw[n,d])
   omega
  rw[im]at h;subst h;have u:=o a c;have n:=E.lt a c;refine⟨by omega,λd=>?_⟩;injection d with d;rcases r with A | A
  ·have:=D gg A;omega
  omega
 ·exact(z.mono (M':=aN e v ps) (λa _ d=>.inr (.inl d))).trans s (λa c _=>.inl c)
 intro a c;rcases c with c | c | ⟨p,h,c⟩
 ·exact .inl (.inl c)
 ·rw[t]at c;injection c with c;rcases r with d | d
  ·exact .inl (.inr (.inl (by rw[d,c])))
  exact .inr (by omega)
 rcases ik.1 h with h | h
 ·exact .inl (.inr (.inr ⟨p,h,c⟩))
 rw[im]at h;subst h;exact .inr (o a c)
