import Derived.Test.YtnokbhcennjanaaGreatDoorXAT
import Derived.Test.YtnokbhcennjanaaGreatDoorXAW
open Go.RowKit Go.Proofs.Tryz
set_option maxRecDepth 100000
set_option maxHeartbeats 16000000
namespace Go.Proofs.YtnokbhcennjanaaGreatDoor.Qi
def Own(w:World)(base:Nat)(v:Value)(l:List It): Prop:=w.ownsRow base 80 4 v l.length (flat l)
theorem Own.keeps{M:Nat->Prop}{w w':World}{base:Nat}{v:Value}{l:List It}(c:Own w base v l)(m:aA M w w')(o:∀h,v.ownBlock=some h->¬M h): Own w' base v l:=by
 rcases c.2 with ⟨a,d⟩ | ⟨g,i,j,a,d,e,k⟩
 ·exact⟨c.1,.inl ⟨a,d⟩⟩
 refine⟨c.1,.inr ⟨g,i,j,a,d,?_,k⟩⟩;have n:g<w.heap.size:=(jr.1 e).1;rw[m.block g n (o g (by rw[a];simp[Value.ownBlock]))];exact e
theorem Own.base{w:World}{base:Nat}{v:Value}{l:List It}(c:Own w base v l)(i:Nat)(hi:v.ownBlock=some i): base<=i:=by
 rcases c.2 with ⟨a,_⟩ | ⟨g,d,e,a,h,_⟩
 ·rw[a]at hi;simp[Value.ownBlock]at hi
 rw[a]at hi;have:g=i:=by simpa[Value.ownBlock] using hi
 omega
theorem My(l:List It): ∀c∈flat l,c.oneCell'=true:=by
 induction l with
 | nil=>simp[flat]
 | cons e l d =>
  intro c a;simp only[flat,iw]at a;rcases a with rfl | rfl | rfl | rfl | a
  ·rfl
  ·rfl
  ·rfl
  ·rfl
  exact d c a
theorem IH{w:World}{A:Array Oper}{rest:List Oper}{o:Oper}{a:Act}{u:Exit->Act->World->Prop}(F:o.guard=none)(s x:Operand)(J:o.op=.call { callee:=.builtin .append,args:=#[s,x],argTypes:=#[134,134] })(base:Nat)(j:Value)(d:List It)(e:Nat)(q:d.length=e)(O:a.eval s=j)(L:Own w base j d)(r h v:Nat)(c:List It)(H:c.length=h)(Q:a.eval x=.slice (some ⟨r,0,none⟩) h v)(C:∀l m,(flat c)[l]?=some m->w.cell? ⟨r,l,none⟩=some m)(N:0<h)(hlen:e+h<=100000)(E:base<=w.heap.size)(n:∀g k t,Own t base (.slice (some ⟨g,0,none⟩) (e+h) k) (d++c)->aA (λU=>j.ownBlock=some U) w t->(j.ownBlock=some g\/w.heap.size<=g)->wpList prog A u rest (a.put o.dst (.slice (some ⟨g,0,none⟩) (e+h) k)) t): wpList prog A u (o::rest) a w:=by
 obtain⟨V,G,R,S,T⟩:=jh Fo;subst q H;refine jf w F s x 134 J base 80 V _ 4 32 underlying134 G R S T (by rfl) (by omega) j d.length (flat d) O L ⟨r,0,none⟩ c.length v (flat c) Q (G4 c) ?_ (My c) N (by unfold maxLen;omega) (by omega) E w.heap.size rfl ?_
 ·intro l m P;rw[kv,ja];exact C l m P
 intro g k B M i D W;refine n g k B ?_ ⟨i.os,i.tape,i.output,i.size,λe q I=>i.block e q (λn=>I n.symm)⟩ ?_
 ·show B.ownsRow base 80 4 _ (d++c).length (flat (d++c));rw[IS,hY];exact M
 rcases D with z | z
 ·exact .inl z
 exact .inr (by omega)
theorem Own.row{w:World}{base g n c:Nat}{l:List It}(_:l.length=n)(e:Own w base (.slice (some ⟨g,0,none⟩) n c) l): aP w g c l/\base<=g:=by
 rcases e.2 with ⟨a,_⟩ | ⟨r,q,d,a,h,i,j,k,m,o⟩
 ·cases a
 cases a;exact⟨⟨⟨d.toList,by unfold aD;simpa using i,by simpa using m,o⟩,j,k⟩,h⟩
theorem Mv(g n a:Nat)(w:World): (binOp BinOp.eql 134 (.slice (some ⟨g,0,none⟩) n a) (.slice none 0 0)).run prog w=.ok (.bool false) w:=by kernel_rfl
theorem Mp(w:World): (binOp BinOp.eql 134 (.slice none 0 0) (.slice none 0 0)).run prog w=.ok (.bool true) w:=by kernel_rfl
attribute [local go_sem] Mv Mp
theorem Lr(w:World):
  Calls prog 120 #[.slice none 0 0] w λa c=>a=.returned (.slice none 0 0)/\c=w:=by
 go_enter func120,ntmps120;go_wp2;go_ret;exact⟨rfl,rfl⟩
theorem Mc(g c:Nat)(l:List It)(w:World)(d:aP w g c l)(t:l.length<=1000):
  Calls prog 120 #[.slice (some ⟨g,0,none⟩) l.length c] w λF x=>∃k r,F=.returned (.slice (some ⟨k,0,none⟩) l.length r)/\w.heap.size<=k/\aP x k r l/\lO w x:=by
 obtain⟨a,m⟩:∃a,a=l.length:=⟨_,rfl⟩;have E:=Aa d;have j:=Aa m;rw[<-m]at t ⊢;obtain⟨R,N,V,W,X⟩:=jh Fo;clear m d
 have h:=Aa (show Own (w.alloc (.cells #[] 80)) w.heap.size (.slice (some ⟨w.heap.size,0,none⟩) 0 0) [] from
    ⟨rfl,.inr ⟨w.heap.size,0,#[],rfl,il _,iJ w _,il _,iM _,rfl,rfl⟩⟩)
 have i:=Aa ((aA.refl (λ_=>False) w).alloc (.cells #[] 80));by_cases H:a=0
 ·subst H;have C:=Aa (show l=[] from iL.1 j.o.symm);go_enter func120,ntmps120;go_wp2_with (at_builtin;refine JB rfl _ _ 134 rfl w.heap.size 80 R 4 underlying134 N _ 0 [] rfl h.o (some ⟨g,0,none⟩) c rfl ?_)
  go_ret;refine⟨w.heap.size,0,rfl,il _,?_,i.o⟩;rw[C.o];exact(Own.row rfl h.o).1
 have z:=Aa (show ∀e q,(flat l)[e]?=some q->(w.alloc (.cells #[] 80)).cell? ⟨g,e,none⟩=some q from λe q o=>by
    obtain⟨T,J,t,Q⟩:=E.o.ex;refine i.o.cell (J.cell ?_) id;have O:e<l.length*4:=by have:=(ik.1 o).1;rwa [G4]at this
    rw[<-Q,iV,h9 O]at o
    exact o)
 have P:0<a:=by omega
 go_enter func120,ntmps120;go_wp2_with (at_builtin;refine IH rfl _ _ rfl w.heap.size _ [] 0 rfl rfl h.o g a c l j.o.symm rfl z.o P (by omega) (by simp) ?_;intro G c2 S u s I)
 have n:=Own.row (by have:=j.o;simp;omega) u;have D:=Aa n.1;have A:=Aa n.2
 have B:=Aa ((i.o.trans s (λv L U=>by
        have M:(Value.slice (some ⟨w.heap.size,0,none⟩) 0 0).ownBlock=some v:=L;have:w.heap.size=v:=by simpa[Value.ownBlock] using M
        omega)))
 clear n u s I;go_wp2;go_ret;exact⟨G,c2,rfl,A.o,D.o,B.o⟩
def allL: Nat->List It->List It
 | 0,_=>[]
 | f+1,l=>if l.length=0 then[] else itAt l 0::allL f (takeL l)
theorem takeL_length(l:List It): (takeL l).length=l.length-1:=by
 unfold takeL;rw[G5];simp
theorem Xt(e g:Nat)(l:List It)(w:World)(a:bB w e (some g) l)(N:l.length<=900)(ae:0<l.length):
  Calls prog 70 #[.pointer (some ⟨e,0,none⟩)] w λH ao=>H=.returned (.tuple #[(itAt l 0).val,.bool true])/\bB ao e (some g) (takeL l)/\aA (λh=>h=e\/h=g) w ao:=by
 obtain⟨bp,af⟩:=a.lt;obtain⟨af,u⟩:=af g rfl;have P:=Aa a;clear a;have a4:(!l.isEmpty)=true:=by cases l with | nil=>simp at ae | cons=>rfl
 obtain⟨r,ag⟩:∃r,r=l.length:=⟨_,rfl⟩;have bu:0<r:=by omega
 have bv:r<=900:=by omega
 have o:=Aa ag;clear ag N ae;go_enter func70,ntmps70;go_wp2_with fail
 refine(Jk e (some g) l _ (P.o.keeps ((aA.refl (λ_=>False) _).alloc _) id (λ_ _ a=>a))).mono ?_;rintro H k ⟨rfl,J⟩;rw[a4];unfold It.val;have ad:aD k w.heap.size [.int .i64 0,.int .i64 0,.int .i64 0,.int .i64 0] 80:=(aD.new w _ 80).keeps J id;have L:lO w k:=((aA.refl (λ_=>False) w).alloc _).then J;obtain⟨_,j,C,I⟩:=P.o.keeps L id (λ_ _ a=>a);rw[<-o.o]at C;have bz:e<k.heap.size:=C.lt;have bx:g<k.heap.size:=I.lt;have a9:e≠w.heap.size:=by omega
 have a6:g≠w.heap.size:=by omega
 have Q:=Aa ad;have V:=Aa L;have G:=Aa C;have T:=Aa I;clear J ad L C I;generalize ak:itAt l 0=c;have a0:=Aa ak;clear ak;obtain⟨d,a7⟩:∃d,r=d+1:=⟨r-1,by omega⟩;subst a7;have O:=G.o.c1;go_wp2_with fail
 have s:lO k (k.alloc (.cells #[.int .i64 c.t,.int .i64 c.k,.int .i64 c.d,.int .i64 c.n] 80)):=(aA.refl _ _).alloc _;have al:aD (k.alloc (.cells #[.int .i64 c.t,.int .i64 c.k,.int .i64 c.d,.int .i64 c.n] 80)) k.heap.size [.int .i64 c.t,.int .i64 c.k,.int .i64 c.d,.int .i64 c.n] 80:=aD.new _ _ _;generalize k.alloc (.cells #[.int .i64 c.t,.int .i64 c.k,.int .i64 c.d,.int .i64 c.n] 80)=m at *
 have aa:=Aa al;have Y:=Aa (Q.o.keeps s id);have A:=Aa (G.o.keeps s id);have n:=Aa (T.o.keeps s id);have U:=Aa (aA.then V.o s);clear s al Q G T V O;generalize ba:k.heap.size=av at *
 generalize ai:w.heap.size=i at *
 have az:=Aa ai;clear ba ai;have O:=A.o.c1;have a8:m.frozen? ⟨e,1,none⟩=false:=A.o.frozen 1;obtain⟨ap,aq,ar,au⟩:=n.o.cells 0 (by rw[<-o.o];omega);obtain⟨bb,bc,bd,be⟩:=n.o.cells d (by rw[<-o.o];omega);simp only[kS,ja]at ap aq ar au;have a5:=n.o.frozen;generalize an:itAt l d=y at *
 have a1:=Aa an;clear an;have br:(0:Int)<=(d:Int):=by omega
 have bs:(d:Int)<(d:Int)+1:=by omega
 have a3:=n.o.le;rw[<-o.o]at a3;have bt:(d:Int)<=(j:Int):=by omega
 have R:=Aa (n.o.put 0 y);have X:=Aa ((A.o.keeps ((aA.refl (λh=>h=g) m).bP (Or.inl rfl) 0 y) u).setCell 1 (.slice (some ⟨g,0,none⟩) d j));have z:=Aa ((((aA.refl (λh=>h=e\/h=g) m).bP (Or.inl (Or.inr rfl)) 0 y).setCell (p:=⟨e,1,none⟩) (Or.inl (Or.inl rfl)) (.slice (some ⟨g,0,none⟩) d j)).drew);have S:=Aa ((R.o.keeps (M:=λh=>h=e) ((aA.refl (λh=>h=e) _).setCell (p:=⟨e,1,none⟩) (Or.inl rfl) (.slice (some ⟨g,0,none⟩) d j)) (λa=>u a.symm)).drew);go_region
 go_wp2_with fail
 have ab:(((((m.setCell ⟨g,0,none⟩ (.int .i64 y.t)).setCell ⟨g,1,none⟩ (.int .i64 y.k)).setCell ⟨g,2,none⟩ (.int .i64 y.d)).setCell ⟨g,3,none⟩ (.int .i64 y.n)).setCell ⟨e,1,none⟩ (.slice (some ⟨g,0,none⟩) d j)).drew=((bP m g 0 y).setCell ⟨e,1,none⟩ (.slice (some ⟨g,0,none⟩) d j)).drew:=by
  unfold bP;rfl
 rw[ab];clear ab O a8 ap aq ar au bb bc bd be a5;have F:Hid (QB ((bP m g 0 y).setCell ⟨e,1,none⟩ (.slice (some ⟨g,0,none⟩) d j)).drew e (.slice (some ⟨g,0,none⟩) d j)):=⟨X.o⟩;have hlen:((l.set 0 y).take d).length=d:=by have:=o.o;simp;omega
 have W:=Aa hlen;have Z:=Aa (show takeL l=sinkL (d+1) ((l.set 0 y).take d) 0 by unfold takeL;rw[<-o.o,<-a1.o];rfl);clear hlen R X;generalize((bP m g 0 y).setCell ⟨e,1,none⟩ (.slice (some ⟨g,0,none⟩) d j)).drew=a2 at *
 refine(Ko e g 0 j d a2 ((l.set 0 y).take d) W.o (by omega) (by omega) F.o (S.o.take d) (by omega) u).mono ?_;rintro H D ⟨rfl,t,ah⟩;have aj:¬(i=e\/i=g):=by omega
 have am:¬(av=e\/av=g):=by omega
 have B:=Aa ((aa.o.keeps z.o am).keeps t (λa=>am (Or.inr a)));have q:=Aa ((Y.o.keeps z.o aj).keeps t (λa=>aj (Or.inr a)));have aw:=Aa (F.o.b.keeps t u);have ax:=Aa ah;have ay:=Aa (((U.o.mono (M':=λh=>h=e\/h=g) (λ_ _ a=>a.elim)).then z.o).trans t (λ_ a _=>Or.inr a));clear t ah F S z U aa Y n A;have bf:=B.o.c0;have bg:=B.o.c1;have bh:=B.o.c2;have bi:=B.o.c3;have bj:=q.o.c0;have bk:=q.o.c1;have bl:=q.o.c2;have bm:=q.o.c3;have bn:=q.o.frozen
 have E:=Aa (show aA (λh=>h=i) D ((((D.setCell ⟨i,0,none⟩ (.int .i64 c.t)).setCell ⟨i,1,none⟩ (.int .i64 c.k)).setCell ⟨i,2,none⟩ (.int .i64 c.d)).setCell ⟨i,3,none⟩ (.int .i64 c.n)) from
    ((((aA.refl (λh=>h=i) D).setCell (p:=⟨i,0,none⟩) (Or.inl rfl) _).setCell (p:=⟨i,1,none⟩) (Or.inl rfl) _).setCell (p:=⟨i,2,none⟩) (Or.inl rfl) _).setCell (p:=⟨i,3,none⟩) (Or.inl rfl) _)
 have x:=Aa ((((q.o.setCell 0 (.int .i64 c.t)).setCell 1 (.int .i64 c.k)).setCell 2 (.int .i64 c.d)).setCell 3 (.int .i64 c.n));go_wp2;generalize((((D.setCell ⟨i,0,none⟩ (.int .i64 c.t)).setCell ⟨i,1,none⟩ (.int .i64 c.k)).setCell ⟨i,2,none⟩ (.int .i64 c.d)).setCell ⟨i,3,none⟩ (.int .i64 c.n))=b1 at *
 have c0:=x.o.c0;have c1:=x.o.c1;have c2:=x.o.c2;have c3:=x.o.c3;refine iN (v:=.tuple #[.agg #[.int .i64 c.t,.int .i64 c.k,.int .i64 c.d,.int .i64 c.n],.bool true]) (by simp[results,results70,go_sem,c0,c1,c2,c3]) rfl ⟨by rw[a0.o];rfl,⟨u,j,?_,?_⟩,?_⟩
 ·have N:(takeL l).length=d:=by rw[Z.o,G5];exact W.o
  rw[N];exact aw.o.keeps E.o (λa=>a9 a)
 ·rw[Z.o];exact ax.o.keeps E.o (λa=>a6 a)
 exact ay.o.trans E.o (λb0 bo bq=>by have:=az.o;omega)
end Go.Proofs.YtnokbhcennjanaaGreatDoor.Qi
namespace Go.Proofs.YtnokbhcennjanaaGreatDoor.Qi
theorem Fi(a:Nat)(c:Option Nat)(l:List It)(n:Int)(w:World)(e:bB w a c l)(i:(l.length:Int)=n):
  Calls prog 67 #[.pointer (some ⟨a,0,none⟩)] w λd j=>d=.returned (.int .i64 n)/\j=w :=
 (len_any a c l w e).mono λ_ _ ⟨h,hw⟩=>⟨by rw[h,i],hw⟩
theorem MF(a g:Nat)(l:List It)(x:It)(w:World)(h:bB w a (some g) l)(j:l.length<=900)(k:0<l.length)(m:itAt l 0=x):
  Calls prog 70 #[.pointer (some ⟨a,0,none⟩)] w λe d=>e=.returned (.tuple #[.agg #[.int .i64 x.t,.int .i64 x.k,.int .i64 x.d,.int .i64 x.n],.bool true])/\bB d a (some g) (takeL l)/\aA (λc=>c=a\/c=g) w d :=
 (Xt a g l w h j k).mono λ_ _ ⟨i,hw⟩=>⟨by rw[i,m];rfl,hw⟩
theorem all_some(B g:Nat)(l:List It)(w:World)(a:bB w B (some g) l)(bm:l.length<=900):
  Calls prog 73 #[.pointer (some ⟨B,0,none⟩)] w λr i=>∃g n,r=.returned (.slice (some ⟨g,0,none⟩) l.length n)/\w.heap.size<=g/\aP i g n (allL (l.length+1) l)/\(allL (l.length+1) l).length=l.length/\lO w i:=by
 obtain⟨d,E⟩:∃d,d=l.length:=⟨_,rfl⟩;obtain⟨br,bk,bo,bp,bq⟩:=jh Fo;have R:=Aa E;have a6:=Aa a;rw[<-E]at bm ⊢;obtain⟨b3,I,V,aw⟩:=a;have b4:=V.c0;have b5:w.cell? ⟨B,1,none⟩=some (.slice (some ⟨g,0,none⟩) d I):=by rw[E];exact V.cell rfl
 have ad:=Aa (show ∀z,lO w z->Calls prog 120 #[.slice (some ⟨g,0,none⟩) d I] z λr i=>∃c c1,r=.returned (.slice (some ⟨c,0,none⟩) d c1)/\z.heap.size<=c/\aP i c c1 l/\lO z i from λz bj=>by
    rw[E];exact Mc g I l z (aw.keeps bj id) (by omega))
 clear V aw E;go_enter func73,ntmps73;go_wp2_with fail
 go_region_held3 (λi=>i.cell? ⟨B,0,none⟩=some (.func (.func 66) #[] #[])/\i.cell? ⟨B,1,none⟩=some (.slice (some ⟨g,0,none⟩) d I))
  (first | (go_split_ands;exact⟨by assumption,by assumption⟩) | (go_split_ands;exact⟨((aA.refl (λ_=>False) _).alloc _).cell (by assumption) id,((aA.refl (λ_=>False) _).alloc _).cell (by assumption) id⟩) | (go_split_ands;exact⟨L.cell (by assumption) id,L.cell (by assumption) id⟩))
  (first | (go_at_call 120;refine(ad.o _ (by exact(aA.refl _ _).drew)).mono ?_;rintro r m ⟨c,c1,rfl,al,Y,L⟩))
 have af:=Aa (((aA.refl (λ_=>False) w).drew).then L);have az:=Aa (show w.heap.size<=c from al);have be:=Aa af.o.size;have a1:=Aa Y.lt;have ba:=Aa Y;clear Y L ad al;obtain⟨h,J⟩:∃h,h=m.alloc (.cells #[.func (.func 66) #[] #[],.slice (some ⟨c,0,none⟩) d c1] 159):=⟨_,rfl⟩;have ab:=Aa (show aD h m.heap.size [Ci,.slice (some ⟨c,0,none⟩) d c1] 159 by rw[J];exact aD.new m _ _);have aa:=Aa (show lO m h by rw[J];exact(aA.refl (λ_=>False) m).alloc _);have bc:=Aa J;clear J;have ai:=Aa (show bB h m.heap.size (some c) l from⟨by have:=a1.o;omega,c1,by rw[<-R.o];exact ab.o,ba.o.keeps aa.o id⟩);have N:=Aa (af.o.then aa.o);obtain⟨ax,b2,au,X⟩:=lL (P:=prog) h w.heap.size 134 80 br _ 4 underlying134 bk bo bp .i64 .i64 d (by rw[bq];omega) (by unfold maxLen;omega) N.o.size;have ah:=Aa (show lO h ax from(aA.refl (λ_=>False) h).grown X (λo D=>by cases D));have a5:=Aa (show Own ax w.heap.size (.slice (some ⟨h.heap.size,0,none⟩) 0 d) [] from au);clear au X;go_wp2_with fail
 rw[show m.alloc (.cells #[.func (.func 66) #[] #[],.slice (some ⟨c,0,none⟩) d c1] 159)=h from bc.o.symm];refine(Fi B (some g) l d h (a6.o.keeps N.o id (λ_ _ a=>a)) (by rw[R.o])).mono ?_;rintro r i ⟨rfl,t⟩;rw[t];clear t i;have a8:=Aa (show m.heap.size<h.heap.size from ab.o.lt);have a0:=Aa (show c<h.heap.size from(ai.o.lt.2 c rfl).1);have a9:=Aa (show w.heap.size<=m.heap.size from be.o);generalize b6:m.heap.size=G at *
 generalize bz:h.heap.size=bf at *
 go_wp2_with fail
 go_loopg [4] (d) (λgk bs wr=>∃(q k:List It) (e n:Nat),bs=.slice (some ⟨e,0,none⟩) k.length n/\Hid (q.length=gk)/\Hid (k.length+gk=d)/\Hid (e≠G/\e≠c)/\Hid (Own wr w.heap.size (.slice (some ⟨e,0,none⟩) k.length n) k)/\Hid (bB wr G (some c) q)/\Hid (lO w wr)/\Hid (allL (d+1) l=k++allL (gk+1) q))
 case atStart=>exact⟨l,[],bf,d,rfl,R.o.symm,by show _=_;simp,⟨by have:=a8.o;omega,by have:=a0.o;omega⟩,a5,ai.o.keeps ah.o id (λ_ _ a=>a),N.o.then ah.o,rfl⟩
 case round =>
  obtain⟨q,k,e,n,rfl,x,H,M,S,T,Q,ae⟩:=hrel;obtain⟨o,D⟩:∃o,k.length=o:=⟨_,rfl⟩;rw[D];have v:=Aa D;clear D;by_cases bh:gk=0
  ·go_wp2_with (go_at_call 67;refine(Fi G (some c) q 0 _ T.o (by have:=x.o;omega)).mono ?_;rintro r i ⟨rfl,t⟩;rw[t];clear t i)
   go_ret;have bl:o=d:=by have:=H.o;have:=v.o;omega
   subst bl;have ar:=Own.row rfl S.o;have aj:allL (o+1) l=k:=by
    rw[ae.o,bh];unfold allL;rw[h9 (by have:=x.o;omega),iz]
   refine⟨e,n,rfl,ar.2,?_,?_,Q.o⟩
   ·rw[aj];exact ar.1
   rw[aj];exact v.o
  have b1:(0:Int)<(gk:Int):=by omega
  have bx:0<gk:=by omega
  obtain⟨j,Z⟩:∃j,itAt q 0=j:=⟨_,rfl⟩;have bb:=Aa (MF G c q j wr T.o (by have:=x.o;have:=H.o;omega) (by have:=x.o;omega) Z);have bd:=Aa Z;clear Z
  go_wp2_with (first | (go_at_call 67;refine(Fi G (some c) q gk _ T.o (by have:=x.o;omega)).mono ?_;rintro r i ⟨rfl,t⟩;rw[t];clear t i) | (go_at_call 70;refine bb.o.mono ?_;rintro r A ⟨rfl,F,an⟩;have a7:=Aa F;have O:=Aa an;clear F an;have a3:=Aa (show Own A w.heap.size (.slice (some ⟨e,0,none⟩) o n) k by rw[<-v.o];exact S.o.keeps O.o (λu s a=>by
            have am:e=u:=by simpa[Value.ownBlock] using s
            rcases a with a | a
            ·exact M.o.1 (by omega)
            exact M.o.2 (by omega)))) | (at_builtin;refine IH rfl _ _ rfl w.heap.size _ k o v.o rfl (by exact a3.o.keeps (((aA.refl (λ_=>False) A).alloc _).alloc _) (λ_ _ a=>a)) (A.heap.size+1) 1 1 [j] rfl rfl (by exact λb7 b8 bn=>(aD.newAt (by simp) (flat [j]) 80).cell bn) (by omega) (by have:=H.o;have:=v.o;omega) (by have bu:=Q.o.size;have bv:=O.o.size;simp;omega) ?_;intro C c2 bt av ao ak))
  have F:=a7.o;have aq:=F.lt
  have ag:=Aa (((aA.refl (λu=>u=e) A).alloc (.cells #[.int .i64 j.t,.int .i64 j.k,.int .i64 j.d,.int .i64 j.n] 80)).alloc (.cells #[.int .i64 j.t,.int .i64 j.k,.int .i64 j.d,.int .i64 j.n] 80) |>.trans ao (λu s ap=>by
        have am:(Value.slice (some ⟨e,0,none⟩) o n).ownBlock=some u:=s;have:e=u:=by simpa[Value.ownBlock] using am
        exact this.symm))
  have a4:=Aa av
  have ay:=Aa (show C=e\/A.heap.size<=C from by
     rcases ak with a | a
     ·have bg:(Value.slice (some ⟨e,0,none⟩) o n).ownBlock=some C:=a;exact .inl (by have:e=C:=(by simpa[Value.ownBlock] using bg);exact this.symm)
     exact .inr (by simp at a;omega))
  clear av ao ak;have a2:=Aa (show w.heap.size<=e from S.o.base e (by simp[Value.ownBlock]));go_wp2;go_roundg (gk-1)
  case measure=>omega
  case rel =>
   have b0:=(aq.2 c rfl).1;have X:=aq.1;have U:=M.o;refine⟨takeL q,k++[j],C,c2,?_,?_,?_,?_,?_,?_,?_,?_⟩
   ·rw[hY,v.o];rfl
   ·show _=_;rw[takeL_length];have:=x.o;omega
   ·show _=_;rw[hY];have:=H.o;simp;omega
   ·show _/\_;rcases ay.o with a | a
    ·rw[a];exact U
    exact⟨by omega,by omega⟩
   ·show Own _ _ _ _;rw[hY,v.o];exact a4.o
   ·exact F.keeps ag.o (λa=>U.1 a.symm) (λg W a=>by injection W with W;exact U.2 (by rw[W];exact a.symm))
   ·have bi:lO w A:=Q.o.trans O.o (λu s ap=>by
       rcases s with s | s
       ·have:=a9.o;omega
       have:=az.o;omega)
    exact bi.trans ag.o (λu s ap=>by have:=a2.o;omega)
   show _=_;rw[ae.o]
   conv=>lhs;unfold allL
   rw[hZ (by have:=x.o;omega),bd.o,show gk-1+1=gk by omega];simp
end Go.Proofs.YtnokbhcennjanaaGreatDoor.Qi
namespace Go.Proofs.YtnokbhcennjanaaGreatDoor.Qi
theorem all_none(h:Nat)(w:World)(c:bB w h none []):
  Calls prog 73 #[.pointer (some ⟨h,0,none⟩)] w λi d=>∃g o,i=.returned (.slice (some ⟨g,0,none⟩) 0 o)/\w.heap.size<=g/\aP d g o []/\lO w d:=by
 obtain⟨I,C,F,G,H⟩:=jh Fo;have z:=Aa c;have m:=c.2;have N:=m.c0;have O:=m.c1;clear m c;go_enter func73,ntmps73;go_wp2_with fail
 go_region_held3 (λd=>d.cell? ⟨h,0,none⟩=some (.func (.func 66) #[] #[])/\d.cell? ⟨h,1,none⟩=some (.slice none 0 0))
  (first | (go_split_ands;exact⟨by assumption,by assumption⟩) | (go_split_ands;exact⟨((aA.refl (λ_=>False) _).alloc _).cell (by assumption) id,((aA.refl (λ_=>False) _).alloc _).cell (by assumption) id⟩))
  (first | (go_at_call 120;refine(Lr _).mono ?_;rintro i d ⟨rfl,rfl⟩))
 obtain⟨a,j⟩:∃a,a=(w.alloc (.cells #[.func (.func 66) #[] #[],.slice none 0 0] 159)).drew:=⟨_,rfl⟩;have v:=Aa (show aD a w.heap.size [Ci,.slice none 0 0] 159 by rw[j];exact(aD.new w _ _).drew);have l:=Aa (show lO w a by rw[j];exact((aA.refl (λ_=>False) w).alloc _).drew);have B:=Aa j;clear j;have A:=Aa (show bB a w.heap.size none [] from⟨rfl,v.o⟩);obtain⟨k,r,t,q⟩:=lL (P:=prog) a w.heap.size 134 80 I _ 4 underlying134 C F G .i64 .i64 0 (by rw[H];omega) (by unfold maxLen;omega) l.o.size;have n:=Aa (show lO a k from(aA.refl (λ_=>False) a).grown q (λQ D=>by cases D));have x:=Aa (show Own k w.heap.size (.slice (some ⟨a.heap.size,0,none⟩) 0 0) [] from t);have M:(Instr.makeSlice 134 (.int .i64 0) (.int .i64 0)).run prog a=.ok (.slice (some ⟨a.heap.size,0,none⟩) 0 0) k:=r;clear t q r;go_wp2_with fail
 rw[show(w.alloc (.cells #[.func (.func 66) #[] #[],.slice none 0 0] 159)).drew=a from B.o.symm];refine(Fi h none [] 0 a (z.o.keeps l.o id (λ_ c=>by cases c)) rfl).mono ?_;rintro i d ⟨rfl,e⟩;rw[e];clear e d;generalize E:w.heap.size=J at *
 go_wp2_with fail
 go_loopg [4] (0) (λgk L wr=>L=.slice (some ⟨a.heap.size,0,none⟩) 0 0/\wr=k)
 case atStart=>exact⟨rfl,rfl⟩
 case round =>
  obtain⟨rfl,u⟩:=hrel;rw[u];clear u wr;go_wp2_with (go_at_call 67;refine(Fi J none [] 0 _ (A.o.keeps n.o id (λ_ c=>by cases c)) rfl).mono ?_;rintro i d ⟨rfl,e⟩;rw[e];clear e d)
  go_ret;have s:=Own.row rfl x.o;exact⟨a.heap.size,0,rfl,by rw[E];exact s.2,s.1,l.o.then n.o⟩
end Go.Proofs.YtnokbhcennjanaaGreatDoor.Qi
namespace Go.Proofs.YtnokbhcennjanaaGreatDoor
section
def ET(k:Nat)(y:It): List Int:=y.n::(CM k).map (λj=>[y.t,y.k,y.d].getD j 0)
def Bl(k:Nat)(l:List It): List Int:=l.flatMap (ET k)
def GH(x:aI): List Int:=x.id::(BR x.k x.c++(AE.map (Ac x.ref)++[x.rel,(x.l.length:Int)]))
def D2(clock:Int)(x:aI): List Int:=GH x++(Bl x.k (Qi.allL (x.l.length+1) x.l)++DO x.k x.c x.nt (clock-x.c.aK))
theorem LX(k:Nat): (CM k).length<=3:=by unfold CM;split <;> simp
theorem Tz(k:Nat)(y:It): (ET k y).length<=4:=by have:=LX k;simp[ET];omega
theorem NW(k:Nat)(l:List It): (Bl k l).length<=4*l.length:=by
 induction l with
 | nil=>simp[Bl]
 | cons y l a=>have:=Tz k y;simp[Bl]at a ⊢;omega
theorem NJ(k:Nat)(a b:List It): Bl k (a++b)=Bl k a++Bl k b:=by simp[Bl]
theorem OI(k:Nat)(a:List It)(i:Nat)(c:i<a.length): Bl k (a.take (i+1))=Bl k (a.take i)++ET k (itAt a i):=by
 rw[jg,NJ,hX c];simp[Bl,itAt,List.getD_eq_getElem?_getD,hX c]
theorem VG{w:World}{e k:Nat}{y:It}{T:Nat}(j:aD w e [.int .i64 y.t,.int .i64 y.k,.int .i64 y.d,.int .i64 y.n] T): PartsAt w (at' e (CM k)) ((CM k).map (λa=>[y.t,y.k,y.d].getD a 0)):=by
 refine⟨by simp[at'],λm p o c d=>?_⟩;have l:∀a,a∈CM k->w.cell? ⟨e,a,none⟩=some (.int .i64 ([y.t,y.k,y.d].getD a 0)):=by
  intro a i;have:a=0\/a=1\/a=2:=by unfold CM at i;split at i <;> simp at i <;> omega
  rcases this with h | h | h <;> subst h <;> exact j.cell rfl
 unfold at' at c;rw[iP]at c d;cases ho:(CM k)[m]? with
 | none=>rw[ho]at c;cases c
 | some n =>
  rw[ho]at c d;simp only[ke,lM]at c d;subst c d;exact l n (iu ho)
theorem Yp(c:Nat)(i:Option Nat)(l:List It)(w:World)(h:bB w c i l)(n:l.length<=900):
  Calls prog 73 #[.pointer (some ⟨c,0,none⟩)] w λe d=>∃g a,e=.returned (.slice (some ⟨g,0,none⟩) l.length a)/\w.heap.size<=g/\aP d g a (Qi.allL (l.length+1) l)/\(Qi.allL (l.length+1) l).length=l.length/\lO w d:=by
 cases i with
 | none =>
  obtain⟨rfl,j⟩:=h;refine(Qi.all_none c w ⟨rfl,j⟩).mono ?_;rintro e d ⟨g,a,rfl,k,o,m⟩;exact⟨g,a,rfl,k,o,rfl,m⟩
 | some g=>exact Qi.all_some c g l w h n
structure dK (x:aI):Prop where
 fQ:0<=x.id/\x.id<=9223372036854775807
 cfg:∀n,n∈BR x.k x.c->0<=n/\n<=9223372036854775807
 p0:0<=Bb x.k x.c
 p3:Bb x.k x.c<=3
 refl:x.ref.length=12
 ref:∀v,v∈x.ref->0<=v/\v<=9223372036854775807
 rel:0<=x.rel/\x.rel<=9223372036854775807
 len:x.l.length<=8
 buf:∀n,n∈Bl x.k (Qi.allL (x.l.length+1) x.l)->0<=n/\n<=9223372036854775807
 note:fN x.k x.c x.nt
 valid:Ak x.c=true
 kind:x.c.kind=x.k
 k1:1<=x.k
 k5:x.k<=5
theorem GE{l:List Int}(c:∀a,a∈l->0<=a/\a<=9223372036854775807)(j:Nat): 0<=Ac l j/\Ac l j<=9223372036854775807:=by
 unfold Ac;rw[List.getD_eq_getElem?_getD];cases hj:l[j]? with
 | none=>simp
 | some a=>exact c a (iu hj)
theorem GA(f:Nat->Int)(k j:Nat)(a:AE[k]?=some j): (AE.map f).take (k+1)=(AE.map f).take k++[f j]:=by
 rw[jg,iP,a];rfl
