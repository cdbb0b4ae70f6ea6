import Derived.Test.YtnokbhcennjanaaGreatDoorXAT
open Go.RowKit Go.Proofs.Tryz
set_option maxRecDepth 100000
set_option maxHeartbeats 16000000
namespace Go.Proofs.YtnokbhcennjanaaGreatDoor
section
attribute [local go_sem ↓] AN B2
attribute [local go_sem] AO B4 A5 A6 AI AJ BC BD Bf B3
def aO.item(o:aO): It:=⟨o.a,o.b,o.c,0⟩
theorem Zf(n:Int)(e:Nat)(v:Value)(clock:Int)(ps:List (SB×aI))(o:aO)(w:World)(a:aX w e v clock ps)(hi:bQ n clock (ps.map (·.2)))(q:Cf ps o.id=none):
  Calls prog 21 #[.pointer (some ⟨e,0,none⟩),o.val] w λj H=>aS w e v ps clock (ps.map (·.2)) 2 [] j H:=by
 have J:o.cells[1]?=some (.int .i64 o.id):=rfl;have k:=Aa a;have G:ps.length<=1000:=by have:=hi.bX;rw[im]at this;omega
 have A:=Aa q;clear a hi q;unfold aO.val;go_enter func21,ntmps21;go_wp2_with fail
 obtain⟨t,r,l,I,E⟩:=C5 w o.cells;have z:=Aa (k.o.still l.o);rw[<-r];clear r;generalize h:w.heap.size=N at *
 have D:=Aa h;clear h;refine(EM e v clock o.id ps t z.o G).mono ?_;rintro j u ⟨rfl,s⟩;rw[s];clear s u;rw[A.o];unfold EB;go_wp2_with fail
 refine(E9 2 t).mono ?_;rintro j u ⟨rfl,c⟩;unfold Av;have m:=Aa (E.o.keeps c id);have B:=Aa (l.o.then c);clear c;obtain⟨O,P,Q,R⟩:=m.o.three;go_wp2;refine CZ m.o (λx i=>by simp[results,results21,go_sem,i.c0,i.c1,i.c2,Av]) rfl (λx d=>?_);have C:=Aa d;have d:=C.o;have h:=D.o;have F:lO w x:=B.o.trans d (λM hi L=>by omega);exact Et k.o F (ir _ _ _ _)
theorem zMc(n:Int)(e:Nat)(v:Value)(clock:Int)(ps:List (SB×aI))(o:aO)(w:World)(c:aX w e v clock ps)(hi:bQ n clock (ps.map (·.2)))(p:SB×aI)(t:Cf ps o.id=some p)(aj:bO p.2 clock o.item=0)(bi:n<=4611686018427387904):
  Calls prog 21 #[.pointer (some ⟨e,0,none⟩),o.val] w λE k=>aS w e v ps clock (BB (ps.map (·.2)) o.id (cC p.2 o.item)) 0 [p.2.acc+1] E k:=by
 have al:p∈ps:=iW t;have J:=Aa al;have ar:=Aa (show bO p.2 clock ⟨o.a,o.b,o.c,0⟩=0 from aj);clear al aj;have i:o.cells[1]?=some (.int .i64 o.id):=rfl;have U:=Aa c;have H:=Aa hi;have a6:ps.length<=1000:=by have:=hi.bX;rw[im]at this;omega
 have V:=Aa t;clear c hi t;unfold aO.val;go_enter func21,ntmps21;go_wp2_with fail
 obtain⟨l,ap,I,D,aa⟩:=C5 w o.cells;have C:=Aa (U.o.still I.o);rw[<-ap];clear ap;have Y:=Aa (show ∀a,aN e v ps a->a<w.heap.size from U.o.lt);generalize P:w.heap.size=d at *
 have aw:=Aa P;clear P;refine(EM e v clock o.id ps l C.o a6).mono ?_;rintro E A ⟨rfl,aq⟩;rw[aq];clear aq A;rw[V.o];unfold EB;have ae:=Aa (C.o.bM p J.o);have af:=Aa (H.o.bD p.2 (iF J.o));have az:=H.o.c0;have a0:=H.o.c1;have a7:=D.o.c2;have a8:=D.o.c3;have a9:=D.o.c4;go_wp2_with fail
 have u:lO l (l.alloc (.cells #[.int .i64 o.a,.int .i64 o.b,.int .i64 o.c,.int .i64 0] 80)):=(aA.refl (λ_=>False) l).alloc _;have q:=Aa (aD.new l [.int .i64 o.a,.int .i64 o.b,.int .i64 o.c,.int .i64 0] 80);have G:=Aa (C.o.still u);have L:=Aa (ae.o.still u);have ab:=Aa (aa.o.keeps u id);have W:=Aa (I.o.then u);clear u C ae aa I D a7 a8 a9;generalize l.alloc (.cells #[.int .i64 o.a,.int .i64 o.b,.int .i64 o.c,.int .i64 0] 80)=A at *
 generalize bc:l.heap.size=F at *
 clear bc;have Q:=q.o.c0;have R:=q.o.c1;have S:=q.o.c2;have T:=q.o.c3;have a5:=G.o.aF.c0;go_region_held3 (λk=>k.cell? ⟨e,0,none⟩=some (.int .i64 clock)/\k.cell? ⟨F,0,none⟩=some (.int .i64 o.a)/\k.cell? ⟨F,1,none⟩=some (.int .i64 o.b)/\k.cell? ⟨F,2,none⟩=some (.int .i64 o.c)/\k.cell? ⟨F,3,none⟩=some (.int .i64 0))
  (first | (simp[*];done) | (go_split_ands;exact⟨j.cell (by assumption) id,j.cell (by assumption) id,j.cell (by assumption) id,j.cell (by assumption) id,j.cell (by assumption) id⟩))
  (first | (go_at_call 38;refine(NK n p.1 p.2 ⟨o.a,o.b,o.c,0⟩ clock _ (by exact L.o.still ((aA.refl (λ_=>False) A).drew)) af.o az a0).mono ?_;rintro E B ⟨rfl,j⟩))
 have r:lO A B:=((aA.refl (λ_=>False) A).drew).then j;have s:=Aa (q.o.keeps r id);have au:=Aa (G.o.still r);have ax:=Aa (L.o.still r);have ad:=Aa (ab.o.keeps r id);have av:=Aa (W.o.then r);clear j r q G L ab W Q R S T a5;rw[ar.o];have Q:=s.o.c0;have R:=s.o.c1;have S:=s.o.c2;have T:=s.o.c3;go_wp2_with fail
 refine(Ve n p.1 p.2 ⟨o.a,o.b,o.c,0⟩ B ax.o af.o (by omega)).mono ?_;rintro E h ⟨rfl,M,ao,am,O⟩;have an:∀a,p.1.aQ p.2.k a->a<d:=λa hi=>Y.o a (.inr (.inr ⟨p,J.o,hi⟩));have m:=Aa (ad.o.keeps O (λc=>by have:=an _ c;omega));have ay:=Aa ao;have Z:=Aa am;have X:=Aa O;have bk:d+1<B.heap.size:=ad.o.lt;have bj:d+1<h.heap.size:=m.o.lt;have bl:=m.o.c0;have bm:=m.o.c1;have bn:=m.o.c2;have bo:=m.o.frozen;clear ao am O an Q R S T s;go_wp2;have N:=(((m.o.setCell 0 (.int .i64 0)).setCell 1 (.slice (some ⟨h.heap.size,0,none⟩) 1 1)).setCell 2 (.string Ai)).alloc (.cells #[.int .i64 (p.2.acc+1)] 3);have ak:aA (λa=>a=d+1) h ((((h.setCell ⟨d+1,0,none⟩ (.int .i64 0)).setCell ⟨d+1,1,none⟩ (.slice (some ⟨h.heap.size,0,none⟩) 1 1)).setCell ⟨d+1,2,none⟩ (.string Ai)).alloc (.cells #[.int .i64 (p.2.acc+1)] 3)) :=
  ((((aA.refl (λa=>a=d+1) h).setCell (p:=⟨d+1,0,none⟩) (Or.inl rfl) _).setCell (p:=⟨d+1,1,none⟩) (Or.inl rfl) _).setCell (p:=⟨d+1,2,none⟩) (Or.inl rfl) _).alloc _
 have a4:aD ((((h.setCell ⟨d+1,0,none⟩ (.int .i64 0)).setCell ⟨d+1,1,none⟩ (.slice (some ⟨h.heap.size,0,none⟩) 1 1)).setCell ⟨d+1,2,none⟩ (.string Ai)).alloc (.cells #[.int .i64 (p.2.acc+1)] 3)) h.heap.size [.int .i64 (p.2.acc+1)] 3:=aD.newAt (by simp) [_] 3;have ag:((((h.setCell ⟨d+1,0,none⟩ (.int .i64 0)).setCell ⟨d+1,1,none⟩ (.slice (some ⟨h.heap.size,0,none⟩) 1 1)).setCell ⟨d+1,2,none⟩ (.string ⟨#[]⟩)).alloc (.cells #[.int .i64 (p.2.acc+1)] 3))=((((h.setCell ⟨d+1,0,none⟩ (.int .i64 0)).setCell ⟨d+1,1,none⟩ (.slice (some ⟨h.heap.size,0,none⟩) 1 1)).setCell ⟨d+1,2,none⟩ (.string Ai)).alloc (.cells #[.int .i64 (p.2.acc+1)] 3)):=rfl;rw[ag];clear ag;generalize((((h.setCell ⟨d+1,0,none⟩ (.int .i64 0)).setCell ⟨d+1,1,none⟩ (.slice (some ⟨h.heap.size,0,none⟩) 1 1)).setCell ⟨d+1,2,none⟩ (.string Ai)).alloc (.cells #[.int .i64 (p.2.acc+1)] 3))=bp at *
 have bd:=N.c0;have be:=N.c1;have bf:=N.c2;refine iN (v:=Av 0 (.slice (some ⟨h.heap.size,0,none⟩) 1 1)) (by simp[results,results21,go_sem,bd,be,bf,Av]) rfl ?_;obtain⟨x,z,ba,bb⟩:=O5 V.o;have P:=aw.o;have a1:=au.o;have a3:=Y.o;have a2:=av.o;rw[bb];subst ba;have ah:aX h e v clock (x++(M,cC p.2 ⟨o.a,o.b,o.c,0⟩)::z):=a1.one X.o ay.o rfl Z.o;have ai:∀a,aN e v (x++(M,cC p.2 ⟨o.a,o.b,o.c,0⟩)::z) a->aN e v (x++p::z) a\/B.heap.size<=a:=λa hi=>aN.one (w:=B) (x':=cC p.2 ⟨o.a,o.b,o.c,0⟩) rfl Z.o a hi;refine⟨.slice (some ⟨h.heap.size,0,none⟩) 1 1,v,x++(M,cC p.2 ⟨o.a,o.b,o.c,0⟩)::z,rfl,ah.keeps ak (λa hi c=>?_),?_,⟨rfl,.inr ⟨h.heap.size,1,_,rfl,by omega,a4,by simp,by unfold maxLen;omega,rfl,rfl⟩⟩,?_,?_,?_⟩
 ·rcases ai a hi with i | i
  ·have:=a3 a i;omega
  omega
 ·simp only[iy,iC];rfl
 ·refine((a2.mono (M':=aN e v (x++p::z)) (λ_ _ c=>c.elim)).trans X.o (λa hi _=>.inr (.inr ⟨p,by simp,hi⟩))).trans ak (λa hi bh=>?_);omega
 ·intro a hi;rcases ai a hi with i | i
  ·exact .inl i
  exact .inr (by omega)
 intro a hi t;have i:h.heap.size=a:=by simpa[Value.ownBlock] using hi
 have bg:=ah.lt a t;omega
theorem R2(n:Int)(b:SB)(x:aI)(a:Nat)(w:World)(d:bJ w b x)(hi:aT n x)(J:n<=4611686018427387904)(E:a<12):
  Calls prog 39 #[.pointer (some ⟨b.s,0,none⟩),.int .i64 a] w λD h=>D=.returned (.tuple #[])/\bJ h b (cF x a)/\aA (b.aQ x.k) w h:=by
 have B:=Aa d;have r:=DV b x hi.bS a E;have s:w.cell? ⟨b.s,35+a,none⟩=some (.int .i64 (Ac x.ref a)):=d.aF.cell r;have G:=d.aF.frozen;have u:0<=Ac x.ref a/\Ac x.ref a<=n:=hi.cL _ (by unfold Ac;rw[List.getD_eq_getElem?_getD,hX (by have:=hi.bS;omega)];exact jc _);have A:IntKind.i64.wrap (Ac x.ref a+1)=Ac x.ref a+1:=GJ (by omega) (by omega);have H:(0:Int)<=(a:Int):=by omega
 have I:(a:Int)<12:=by omega
 clear d hi r;have e:=Aa (show F7 (Ac x.ref a+1) 4611686018427387904=if Ac x.ref a+1<4611686018427387904 then Ac x.ref a+1 else 4611686018427387904 from rfl);generalize v:Ac x.ref a=q at *
 have C:=Aa v;clear v;have t:∀h,h=(w.setCell ⟨b.s,35+a,none⟩ (.int .i64 (F7 (Ac x.ref a+1) 4611686018427387904))).drew\/h=w.setCell ⟨b.s,35+a,none⟩ (.int .i64 (F7 (Ac x.ref a+1) 4611686018427387904))->bJ h b (cF x a)/\aA (b.aQ x.k) w h:=by
  intro h z;have d:=B.o;have m:aA (λi=>i=b.s) w h:=by
   rcases z with c | c
   ·rw[c];exact((aA.refl (λi=>i=b.s) w).setCell (p:=⟨b.s,35+a,none⟩) (Or.inl rfl) _).drew
   rw[c];exact((aA.refl (λi=>i=b.s) w).setCell (p:=⟨b.s,35+a,none⟩) (Or.inl rfl) _)
  refine⟨⟨?_,d.dL.keeps m (λc=>d.sq c.symm) (λg F c=>d.sg g F c.symm),d.note.keeps m (λi hi c=>(d.sn i hi).1 c),d.sq,d.sg,d.sn⟩,m.mono (λi _ c=>.inl c)⟩;have l:=d.aF.setCell (35+a) (.int .i64 (F7 (Ac x.ref a+1) 4611686018427387904));rw[O1]at l;rcases z with c | c
  ·rw[c];exact l.drew
  rw[c];exact l
 have j:=Aa t;clear t;rw[C.o]at j;rcases Int.lt_trichotomy (q+1) 4611686018427387904 with k | k | k
 ·rw[h9 k]at e;rw[e.o]at j;clear e;go_enter func39,ntmps39;go_wp2_with fail
  go_region
  go_wp2;go_end0;exact⟨rfl,j.o _ (by first | exact .inl rfl | exact .inr rfl)⟩
 ·rw[hZ (by omega)]at e;rw[e.o]at j;clear e;have o:q=4611686018427387903:=by omega
  rw[o]at s A u k;clear k;go_enter func39,ntmps39;go_wp2_with fail
  go_region
  go_wp2;go_end0;exact⟨rfl,j.o _ (by first | exact .inl rfl | exact .inr rfl)⟩
 rw[hZ (by omega)]at e;rw[e.o]at j;clear e;have o:q=4611686018427387904:=by omega
 rw[o]at s A u k;clear k;go_enter func39,ntmps39;go_wp2_with fail
 go_region
 go_wp2;go_end0;exact⟨rfl,j.o _ (by first | exact .inl rfl | exact .inr rfl)⟩
theorem zO5(n:Int)(e:Nat)(v:Value)(clock:Int)(ps:List (SB×aI))(o:aO)(w:World)(a:aX w e v clock ps)(hi:bQ n clock (ps.map (·.2)))(p:SB×aI)(d:Nat)(B:Cf ps o.id=some p)(J:bO p.2 clock o.item=d)(bg:d≠0)(bi:n<=4611686018427387904):
  Calls prog 21 #[.pointer (some ⟨e,0,none⟩),o.val] w λu i=>aS w e v ps clock (BB (ps.map (·.2)) o.id (cF p.2 d)) d [] u i:=by
 have ae:p∈ps:=iW B;have H:=Aa ae;have al:=Aa (show bO p.2 clock ⟨o.a,o.b,o.c,0⟩=d from J);have a2:d<12:=by have:=(Je p.2 clock o.item).2;rw[J]at this;omega
 clear ae J;have k:o.cells[1]?=some (.int .i64 o.id):=rfl;have P:=Aa a;have F:=Aa hi;have a4:ps.length<=1000:=by have:=hi.bX;rw[im]at this;omega
 have Q:=Aa B;clear a hi B;unfold aO.val;go_enter func21,ntmps21;go_wp2_with fail
 obtain⟨j,ah,G,A,V⟩:=C5 w o.cells;have z:=Aa (P.o.still G.o);rw[<-ah];clear ah;have U:=Aa (show ∀c,aN e v ps c->c<w.heap.size from P.o.lt);generalize N:w.heap.size=aj at *
 have ap:=Aa N;clear N;refine(EM e v clock o.id ps j z.o a4).mono ?_;rintro u x ⟨rfl,ai⟩;rw[ai];clear ai x;rw[Q.o];unfold EB;have Z:=Aa (z.o.bM p H.o);have aa:=Aa (F.o.bD p.2 (iF H.o));have av:=F.o.c0;have aw:=F.o.c1;have a5:=A.o.c2;have a6:=A.o.c3;have a7:=A.o.c4;go_wp2_with fail
 have r:lO j (j.alloc (.cells #[.int .i64 o.a,.int .i64 o.b,.int .i64 o.c,.int .i64 0] 80)):=(aA.refl (λ_=>False) j).alloc _;have m:=Aa (aD.new j [.int .i64 o.a,.int .i64 o.b,.int .i64 o.c,.int .i64 0] 80);have E:=Aa (z.o.still r);have I:=Aa (Z.o.still r);have W:=Aa (V.o.keeps r id);have R:=Aa (G.o.then r);clear r z Z V G A a5 a6 a7;generalize j.alloc (.cells #[.int .i64 o.a,.int .i64 o.b,.int .i64 o.c,.int .i64 0] 80)=x at *
 generalize be:j.heap.size=D at *
 clear be;have ba:=m.o.c0;have bb:=m.o.c1;have bc:=m.o.c2;have bd:=m.o.c3;have a3:=E.o.aF.c0;go_region_held3 (λi=>i.cell? ⟨e,0,none⟩=some (.int .i64 clock)/\i.cell? ⟨D,0,none⟩=some (.int .i64 o.a)/\i.cell? ⟨D,1,none⟩=some (.int .i64 o.b)/\i.cell? ⟨D,2,none⟩=some (.int .i64 o.c)/\i.cell? ⟨D,3,none⟩=some (.int .i64 0))
  (first | (simp[*];done) | (go_split_ands;exact⟨h.cell (by assumption) id,h.cell (by assumption) id,h.cell (by assumption) id,h.cell (by assumption) id,h.cell (by assumption) id⟩))
  (first | (go_at_call 38;refine(NK n p.1 p.2 ⟨o.a,o.b,o.c,0⟩ clock _ (by exact I.o.still ((aA.refl (λ_=>False) x).drew)) aa.o av aw).mono ?_;rintro u l ⟨rfl,h⟩))
 have q:lO x l:=((aA.refl (λ_=>False) x).drew).then h;have am:=Aa (E.o.still q);have ar:=Aa (I.o.still q);have X:=Aa (W.o.keeps q id);have an:=Aa (R.o.then q);clear h q m E I W R ba bb bc bd a3;rw[al.o];have bj:((d:Int) !=0)=true:=by simp;omega
 have bk:aj+1<l.heap.size:=X.o.lt;go_wp2_with fail
 refine(R2 n p.1 p.2 d l ar.o aa.o (by omega) a2).mono ?_;rintro u ak ⟨rfl,ag,M⟩;have af:∀c,p.1.aQ p.2.k c->c<aj:=λc hi=>U.o c (.inr (.inr ⟨p,H.o,hi⟩));have aq:=Aa (X.o.keeps M (λa=>by have:=af _ a;omega));have au:=Aa ag;have T:=Aa M;clear M af ag;go_wp2_with fail
 refine(E9 d ak).mono ?_;rintro u bp ⟨rfl,L⟩;unfold Av;have Y:=Aa (aq.o.keeps L id);have S:=Aa L;clear L;obtain⟨bl,bm,bn,bo⟩:=Y.o.three;go_wp2;refine CZ Y.o (λbf O=>by simp[results,results21,go_sem,O.c0,O.c1,O.c2,Av]) rfl (λbf C=>?_);have ao:=Aa C;have C:=ao.o;have N:=ap.o;obtain⟨s,t,a8,a9⟩:=O5 Q.o;have ax:=am.o;have a1:=U.o;have a0:=an.o;rw[a9];subst a8;have ad:p.1.next p.1 p.2.k l.heap.size:=⟨rfl,λ_ a=>.inl a⟩;have ay:aX ak e v clock (s++(p.1,cF p.2 d)::t):=ax.one T.o au.o rfl ad;have az:=ay.still S.o;have ab:∀c,aN e v (s++(p.1,cF p.2 d)::t) c->aN e v (s++p::t) c\/l.heap.size<=c:=λc hi=>aN.one (w:=l) (x':=cF p.2 d) rfl ad c hi;refine⟨.slice none 0 0,v,s++(p.1,cF p.2 d)::t,rfl,az.keeps C (λc hi a=>?_),?_,ir _ _ _ _,?_,?_,?_⟩
 ·rcases ab c hi with k | k
  ·have:=a1 c k;omega
  omega
 ·simp only[iy,iC]
 ·refine(((a0.mono (M':=aN e v (s++p::t)) (λ_ _ a=>a.elim)).trans T.o (λc hi _=>.inr (.inr ⟨p,by simp,hi⟩))).trans S.o (λ_ a _=>a.elim)).trans C (λc hi bh=>?_);omega
 ·intro c hi;rcases ab c hi with k | k
  ·exact .inl k
  exact .inr (by omega)
 intro c hi B;simp[Value.ownBlock]at hi
theorem QS{w:World}{g n h:Nat}{e:List Value}(c:w.ownsRow 0 66 1 (.slice (some ⟨g,0,none⟩) n h) n e)(i:Nat)(a:Value)(d:e[i]?=some a): w.cell? ⟨g,i,none⟩=some a:=by
 rcases Mj c with ⟨o,_⟩ | ⟨m,l,k,j⟩
 ·have:=(ik.1 d).1;have:=c.1;omega
 cases k;exact j i a d
theorem Qc(a:List (SB×aI))(k:Nat)(d:k<a.length): ∃c p e,a=c++p::e/\c.length=k:=by
 refine⟨a.take k,a[k],a.drop (k+1),?_,by simp;omega⟩;rw[<-List.drop_eq_getElem_cons d,List.take_append_drop]
def Do(clock b:Int)(x:aI): aI:={ x with nt:=(Bc x.k x.c x.nt (clock-x.c.aK) b).1 }
def Ep(clock b:Int)(x:aI): Int:=(Bc x.k x.c x.nt (clock-x.c.aK) b).2.1
def ED(clock b:Int)(x:aI): Int:=(Bc x.k x.c x.nt (clock-x.c.aK) b).2.2
def Br(clock:Int): Int->List aI->List aI×Int
 | _,[]=>([],0)
 | b,x::xs=>(Do clock b x::(Br clock (b-Ep clock b x) xs).1,ED clock b x+(Br clock (b-Ep clock b x) xs).2)
theorem zMg{n:Int}{x:aI}(clock b:Int)(a:aT n x)(h:n<=4611686018427387904)(e:0<=b): 0<=Ep clock b x/\Ep clock b x<=b/\0<=ED clock b x/\ED clock b x<=4398046511104:=by
 unfold Ep ED Bc;split
 ·have c:=pastN_le x.nt.bs (clock-x.c.aK-x.c.aB);have d:=(a.note.fX (by have c:=a.dD;have d:=a.dG;omega)).len;show 0<=DF _ _ _ _/\DF _ _ _ _<=b/\0<=_-DF _ _ _ _/\_-DF _ _ _ _<=_;unfold DF;omega
 show 0<=(0:Int)/\(0:Int)<=b/\0<=(0:Int)/\(0:Int)<=_;omega
theorem Mx{n:Int}{x:aI}(clock b:Int)(a:aT n x): aT n (Do clock b x) :=
 ⟨a.valid,a.kind,a.k1,a.k5,a.eJ,a.dG,a.dI,a.dD,a.bS,a.cL,a.cap,a.times,Zq a.note _ _,a.heap,a.dZ,a.dP,a.dV,a.fits⟩
theorem Zg{w w':World}{b:SB}{x:aI}(clock d:Int)(a:bJ w b x)(i:cB w' x.k b.n x.c (Bc x.k x.c x.nt (clock-x.c.aK) d).1)(e:aA (BH x.k b.n) w w'): bJ w' b (Do clock d x) :=
 ⟨a.aF.keeps e (λc=>(a.sn _ c).1 rfl),a.dL.keeps e (λc=>(a.sn _ c).2.1 rfl) (λ_ h c=>(a.sn _ c).2.2 h),i,a.sq,a.sg,a.sn⟩
theorem UB(a:List aI)(clock d:Int)(done:List aI)(c j:List (SB×aI))(p:SB×aI)(k:Nat)(r:c.length=k)(q:done.length=k)(i:k<a.length)(e:(c++p::j).map (·.2)=done++a.drop k):
  (c++(p.1,Do clock d p.2)::j).map (·.2)=(done++[Do clock d p.2])++a.drop (k+1)/\a.drop k=p.2::a.drop (k+1):=by
 have o:(c.map (·.2)).length=done.length:=by simp;omega
 rw[iy]at e;obtain⟨l,h⟩:=List.append_inj e o;rw[List.drop_eq_getElem_cons i,iC]at h;injection h with m n;refine⟨?_,?_⟩
 ·rw[iy,iC,l,n];simp
 rw[List.drop_eq_getElem_cons i,m]
theorem XY(n:Int)(e:Nat)(v:Value)(c x:Int)(ps:List (SB×aI))(w:World)(j:aX w e v c ps)(an:∀l,l∈ps.map (·.2)->aT n l)(b5:ps.length<=6)(bn:n<=4611686018427387904)(bx:0<=c)(bz:c<=4611686018427387904)(a5:0<=x)(a6:x<=100):
  Calls prog 44 #[.pointer (some ⟨e,0,none⟩),.int .i64 x] w λb0 z=>b0=.returned (.int .i64 (Br c x (ps.map (·.2))).2)/\∃M,aX z e v c M/\M.map (·.2)=(Br c x (ps.map (·.2))).1/\aA (aN e v ps) w z/\(∀i,aN e v M i->aN e v ps i)/\(∀l,l∈M.map (·.2)->aT n l):=by
 have au:=Aa j;have a3:=Aa an;have bf:=j.aF.c1;have bm:∃R I,v=.slice R ps.length I:=by
  rcases j.row.2 with ⟨o,A⟩ | ⟨g,I,a7,o,_⟩
  ·exact⟨none,0,by rw[o,A]⟩
  exact⟨some ⟨g,0,none⟩,I,o⟩
 obtain⟨G,N,br⟩:=bm;generalize aj:ps.length=k at *
 have Q:=Aa (show(ps.map (·.2)).length=k by rw[im];exact aj);clear aj j an;subst br;go_enter func44,ntmps44;go_wp2_with fail
 go_loopg [1,5,7,8,9,15] (k) (λa9 R b _ _ _ i wr=>∃(h:Nat) (t:List (SB×aI)) (d all:Int) (done:List aI),h<=k/\k-h=a9/\R=.int .i64 d/\b=.int .i64 all/\i=.int .i64 h/\0<=d/\d<=100/\0<=all/\all<=h*4398046511104/\Hid (aX wr e (.slice G k N) c t)/\Hid (done.length=h)/\Hid (t.map (·.2)=done++(ps.map (·.2)).drop h)/\Hid (Br c x (ps.map (·.2))=(done++(Br c d ((ps.map (·.2)).drop h)).1,all+(Br c d ((ps.map (·.2)).drop h)).2))/\Hid (aA (aN e (.slice G k N) ps) w wr)/\Hid (∀i,aN e (.slice G k N) t i->aN e (.slice G k N) ps i)/\Hid (∀l,l∈t.map (·.2)->aT n l))
 case atStart=>exact⟨0,ps,x,0,[],by omega,rfl,rfl,rfl,rfl,a5,a6,by omega,by omega,au,rfl,rfl,by show _=_;simp,aA.refl _ _,λ_ j=>j,a3⟩
 case round =>
  obtain⟨h,t,d,all,done,b6,ae,rfl,rfl,rfl,ab,a8,b3,b4,u,O,P,aa,X,V,H⟩:=hrel;have av:=Aa ae;clear bf ae;have al:t.length=k:=by
   have o:=congrArg List.length P.o;have A:=Q.o;have ba:=O.o;rw[hY,im,iQ,A,ba]at o;omega
  have Z:=Aa al;clear al;by_cases ai:h<k
  ·obtain⟨aq,a,ar,L,J⟩:=Qc t h (by rw[Z.o];exact ai);have a1:=Aa L;have ax:=Aa J;have F:a∈t:=by rw[L];simp
   have b2:=Aa F;have C:=Aa (u.o.bM a F);have m:=Aa (H.o a.2 (iF F));obtain⟨bu,bv,_,_,_,_⟩:=m.o.common;obtain⟨cc,cd,ce,cf⟩:=zMg c d m.o bn ab;obtain⟨g,bl⟩:∃g,G=some ⟨g,0,none⟩:=by
    rcases u.o.row.2 with ⟨o,_⟩ | ⟨g,I,a7,o,_⟩
    ·have b9:k=0:=by injection o
     omega
    injection o with A _ _;exact⟨g,A⟩
   subst bl;have bj:wr.cell? ⟨g,h,none⟩=some (.pointer (some ⟨a.1.s,0,none⟩)):=by
    have am:=u.o.row;rw[Z.o]at am;refine QS am h _ ?_;unfold AV;rw[L,iy,iS (by simp[J])];simp[J]
   have a0:=Aa (show ¬BH a.2.k a.1.n e from λj=>(u.o.ef a F e (.inr (.inr (.inr j)))).1 rfl);have Y:=Aa (show ¬BH a.2.k a.1.n a.1.s from λj=>(C.o.sn _ j).1 rfl);clear L J F;have bi:=u.o.aF.c0;have bg:=C.o.aF.c2;have bh:wr.cell? ⟨a.1.s,29,none⟩=some (.func (.func (Ip a.2.k)) (KL a.2.k a.1.n.d) #[]):=C.o.aF.cell rfl;have bp:=zMs a.2.k m.o.k1 m.o.k5;have a2:=Aa (show a.2.rel<=4611686018427387904 by have o:=m.o.dD;have A:=m.o.dG;omega);have b7:(0:Int)<=(h:Int):=by omega
   have b8:(h:Int)<(k:Int):=by omega
   go_wp2_with fail
   go_region_held3 (λz=>z.cell? ⟨a.1.s,29,none⟩=some (.func (.func (Ip a.2.k)) (KL a.2.k a.1.n.d) #[])/\z.cell? ⟨a.1.s,2,none⟩=some (.int .i64 a.2.c.aK)/\z.cell? ⟨e,0,none⟩=some (.int .i64 c))
    (first | (simp[*];done) | (go_split_ands;exact⟨E.cell (by assumption) Y.o,E.cell (by assumption) Y.o,E.cell (by assumption) a0.o⟩))
    (first | (go_at_call 43;refine(Gt a.1.s a.2.c.aK c _ (by go_keep) bu bv bx bz).mono ?_;rintro e z ⟨rfl,rfl⟩) | (refine(zMe (rel:=a.2.rel) a.2.k a.1.n a.2.c a.2.nt (c-a.2.c.aK) d _ _ (by first | rfl | simp) (by exact C.o.note.still (aA.refl _ _).drew) m.o.note a2.o m.o.valid m.o.kind m.o.k1 m.o.k5 (by omega) (by omega) ab a8).mono ?_;rintro e b1 ⟨rfl,ak,E⟩))
   have W:=Aa (((aA.refl (BH a.2.k a.1.n) wr).drew).then E);have az:=Aa ak;clear ak E bj bi bg bh bp;have ao:(Bc a.2.k a.2.c a.2.nt (c-a.2.c.aK) d).2.1=Ep c d a.2:=rfl;have ah:(Bc a.2.k a.2.c a.2.nt (c-a.2.c.aK) d).2.2=ED c d a.2:=rfl;rw[ao,ah];clear ao ah;generalize ap:Ep c d a.2=U at *
   generalize ag:ED c d a.2=T at *
   have a4:=Aa ap;have ay:=Aa ag;clear ap ag;have ca:IntKind.i64.wrap (d-U)=d-U:=by rw[ic];omega
   have cb:IntKind.i64.wrap (all+T)=all+T:=by rw[ic];omega
   go_wp2;go_roundg (k-(h+1))
   case measure=>have:=av.o;omega
   case rel =>
    have bc:=u.o;have B:=V.o;have D:=P.o;have ad:=H.o;have bd:=a1.o;subst bd;obtain⟨bs,bt⟩:=UB (ps.map (·.2)) c d done aq ar a h ax.o O.o (by rw[Q.o];exact ai) D;have bq:=Zg c d C.o az.o W.o;have bo:a.1.next a.1 a.2.k wr.heap.size:=⟨rfl,λ_ j=>.inl j⟩;have af:aA (a.1.aQ a.2.k) wr b1:=W.o.mono (λi _ j=>.inr (.inr (.inr j)));have bb:=bc.one af bq rfl bo;refine⟨h+1,aq++(a.1,Do c d a.2)::ar,d-U,all+T,done++[Do c d a.2],by omega,rfl,rfl,rfl,by go_num,by omega,by omega,by omega,by omega,bb,by show _=_;rw[hY,O.o];rfl,bs,?_,?_,?_,?_⟩
    ·show _=_;rw[aa.o,bt];simp only[Br];rw[a4.o,ay.o,List.append_assoc,ko,Int.add_assoc]
    ·exact X.o.trans af (λi r _=>B i (.inr (.inr ⟨a,by simp,r⟩)))
    ·rintro i (r | r | ⟨p,s,r⟩)
     ·exact B i (.inl r)
     ·exact B i (.inr (.inl r))
     rcases ig.1 s with s | s
     ·exact B i (.inr (.inr ⟨p,by simp[s],r⟩))
     rcases iw.1 s with s | s
     ·subst s;exact B i (.inr (.inr ⟨a,by simp,r⟩))
     exact B i (.inr (.inr ⟨p,by simp[s],r⟩))
    intro l q;rw[iy,iC]at q;rcases ig.1 q with q | q
    ·exact ad l (by rw[iy];exact ig.2 (.inl q))
    rcases iw.1 q with q | q
    ·rw[q];exact Mx _ _ m.o
    exact ad l (by rw[iy,iC];exact ig.2 (.inr (iw.2 (.inr q))))
  have aw:=Aa (show h=k by omega);go_wp2;go_ret;have bk:(ps.map (·.2)).drop h=[]:=iU (by rw[Q.o,aw.o];exact il _);have S:=aa.o;have D:=P.o;rw[bk]at S D;simp only[Br,iz,kO]at S D;rw[S];exact⟨rfl,t,u.o,D,X.o,V.o,by first | exact H.o | (intro l b be;exact H.o l (iF (f:=(·.2)) be))⟩
theorem Fp(f:Nat)(x:aI)(m:Int): (relS f x m).k=x.k/\(relS f x m).c=x.c/\(relS f x m).id=x.id:=by
 induction f generalizing x with
 | zero=>exact⟨rfl,rfl,rfl⟩
 | succ f a =>
  unfold relS;split
  ·exact⟨rfl,rfl,rfl⟩
  split
  ·exact⟨rfl,rfl,rfl⟩
  exact a (BP x m)
theorem Jq{n:Int}(f:Nat){x:aI}(a:aT n x)(m:Int): aT n (relS f x m):=by
 induction f generalizing x with
 | zero=>exact a
 | succ f h =>
  unfold relS;split
  ·exact a
  split
  ·exact a
  rename_i c e;exact h (Hz a (by intro d;rw[d]at c;exact c rfl) m e)
theorem WI(f:Nat)(x:aI)(m:Int): (relS f x m).last=x.last\/(relS f x m).last<=m:=by
 induction f generalizing x with
 | zero=>exact .inl rfl
 | succ f c =>
  unfold relS;split
  ·exact .inl rfl
  split
  ·exact .inl rfl
  rename_i d e;rcases c (BP x m) with a | a
  ·refine .inr ?_;rw[a];show(itAt x.l 0).t<=m;omega
  exact .inr a
def Au(c a:Int): Int:=if c<a then a else c
theorem UR(f:aI->aI)(a:List aI)(c i:List (SB×aI))(p:SB×aI)(k:Nat)(q:c.length=k)(h:k<a.length)(d:(c++p::i).map (·.2)=(a.take k).map f++a.drop k)(j:SB):
  (c++(j,f p.2)::i).map (·.2)=(a.take (k+1)).map f++a.drop (k+1):=by
 have o:(c.map (·.2)).length=((a.take k).map f).length:=by simp;omega
 rw[iy]at d;obtain⟨l,e⟩:=List.append_inj d o;rw[List.drop_eq_getElem_cons h,iC]at e;injection e with m n;rw[iy,iC,l,n];simp only;rw[m,je h];simp only[iy,iC,kh,List.append_assoc,ko]
def AP(clock:Int)(x:aI): aI:=relS (x.l.length+1) x (clock-x.c.aK)
theorem Yf(n:Int)(e:Nat)(v:Value)(clock:Int)(ps:List (SB×aI))(o:aO)(w:World)(a:aX w e v clock ps)(_:bQ n clock (ps.map (·.2)))(C:Ab o.a 0 4611686018427387904=false):
  Calls prog 22 #[.pointer (some ⟨e,0,none⟩),o.val] w λj E=>aS w e v ps clock (ps.map (·.2)) 5 [] j E:=by
 have G:o.cells[2]?=some (.int .i64 o.a):=rfl;have t:=Aa a;clear a;unfold aO.val;go_enter func22,ntmps22;go_wp2_with fail
 obtain⟨q,l,u,F,B⟩:=C5 w o.cells;rw[<-l];clear l;generalize h:w.heap.size=J at *
 have A:=Aa h;clear h;refine(Gm _ q).mono ?_;rintro j r ⟨rfl,m⟩;rw[m,C];clear m r;go_wp2_with fail
 refine(E9 5 q).mono ?_;rintro j r ⟨rfl,c⟩;unfold Av;have k:=Aa (B.o.keeps c id);have x:=Aa (u.o.then c);clear c;obtain⟨L,M,N,O⟩:=k.o.three;go_wp2;refine CZ k.o (λs i=>by simp[results,results22,go_sem,i.c0,i.c1,i.c2,Av]) rfl (λs d=>?_);have z:=Aa d;have d:=z.o;have h:=A.o;have D:lO w s:=x.o.trans d (λI hi H=>by omega);exact Et t.o D (ir _ _ _ _)
theorem U5(n:Int)(e:Nat)(v:Value)(clock:Int)(ps:List (SB×aI))(o:aO)(w:World)(c:aX w e v clock ps)(_:bQ n clock (ps.map (·.2)))(D:Ab o.a 0 4611686018427387904=true)(E:Ab o.b 0 100=false):
  Calls prog 22 #[.pointer (some ⟨e,0,none⟩),o.val] w λd G=>aS w e v ps clock (ps.map (·.2)) 12 [] d G:=by
 have H:o.cells[2]?=some (.int .i64 o.a):=rfl;have t:=Aa c;clear c;unfold aO.val;go_enter func22,ntmps22;go_wp2_with fail
 obtain⟨m,r,u,A,C⟩:=C5 w o.cells;rw[<-r];clear r;generalize k:w.heap.size=M at *
 have B:=Aa k;clear k;refine(Gm _ m).mono ?_;rintro d h ⟨rfl,a⟩;rw[a,D];clear a h;have J:=A.o.c3;go_wp2_with fail
 refine(AK _ _ _ m).mono ?_;rintro d h ⟨rfl,a⟩;rw[a,E];clear a h;go_wp2_with fail
 refine(E9 12 m).mono ?_;rintro d h ⟨rfl,i⟩;unfold Av;have q:=Aa (C.o.keeps i id);have x:=Aa (u.o.then i);clear i;obtain⟨N,O,P,Q⟩:=q.o.three;go_wp2;refine CZ q.o (λs l=>by simp[results,results22,go_sem,l.c0,l.c1,l.c2,Av]) rfl (λs j=>?_);have z:=Aa j;have j:=z.o;have k:=B.o;have F:lO w s:=x.o.trans j (λL hi I=>by omega);exact Et t.o F (ir _ _ _ _)
theorem ZH(n:Int)(e:Nat)(v:Value)(clock:Int)(ps:List (SB×aI))(o:aO)(w:World)(h:aX w e v clock ps)(hi:bQ n clock (ps.map (·.2)))(V:Ab o.a 0 4611686018427387904=true)(bb:Ab o.b 0 100=true)(cn:n<=4611686018427387904)(a8:eE w)(a9:¬aN e v ps 2):
  Calls prog 22 #[.pointer (some ⟨e,0,none⟩),o.val] w λF cx=>aS w e v ps (Au clock o.a) (Br (Au clock o.a) o.b ((ps.map (·.2)).map (AP (Au clock o.a)))).1 0 [(Br (Au clock o.a) o.b ((ps.map (·.2)).map (AP (Au clock o.a)))).2] F cx:=by
 have c:o.cells[2]?=some (.int .i64 o.a):=rfl;have av:=Aa h;have P:=Aa hi;have b7:=Aa a8;have a1:=Aa a9;clear a8 a9;have di:ps.length<=1000:=by have:=hi.bX;rw[im]at this;omega
 clear h hi;unfold aO.val;go_enter func22,ntmps22;go_wp2_with fail
 obtain⟨A,bo,ae,R,az⟩:=C5 w o.cells;have N:=Aa (av.o.still ae.o);rw[<-bo];clear bo;have G:=Aa (show ∀a,aN e v ps a->a<w.heap.size from av.o.lt);generalize ao:w.heap.size=d at *
 have ax:=Aa ao;clear ao;refine(Gm _ A).mono ?_;rintro F aa ⟨rfl,L⟩;rw[L,V];clear L aa;have ap:=R.o.c3;have cp:=R.o.c2;have an:=N.o.aF.c0;have ck:=N.o.aF.frozen;go_wp2_with fail
 refine(AK _ _ _ A).mono ?_;rintro F aa ⟨rfl,L⟩;rw[L,bb];clear L aa;go_wp2_with fail
 go_region
 have Q:=Aa (show Au clock o.a=if clock<o.a then o.a else clock from rfl);rw[<-Q.o];clear Q;obtain⟨de,df⟩:=Bp V;have co:0<=Au clock o.a/\Au clock o.a<=4611686018427387904:=by
  have c:=P.o.c0;have x:=P.o.c1;unfold Au;split <;> omega
 obtain⟨bq,br⟩:=co;generalize bg:Au clock o.a=l at *
 have Q:=Aa bg;clear bg;have E:aA (λa=>a=e) A (A.setCell ⟨e,0,none⟩ (.int .i64 l)).drew:=((aA.refl (λa=>a=e) A).setCell (p:=⟨e,0,none⟩) (Or.inl rfl) _).drew;have t:=N.o
 have ab:=Aa (show aX (A.setCell ⟨e,0,none⟩ (.int .i64 l)).drew e v l ps from
    ⟨(t.aF.setCell 0 (.int .i64 l)).drew,A2 t.row E (λa hi h=>t.ev (by rw[<-h];exact hi)),λi bh=>(t.bM i bh).keeps E (λa hi h=>(t.ef i bh a hi).1 h),t.apart,t.ev,t.ef⟩)
 have dj:e<d:=G.o e (.inl rfl);have b4:=Aa (az.o.keeps E (λh=>by omega));have b1:=Aa (R.o.keeps E (λh=>by omega));have bv:=Aa ((ae.o.mono (M':=aN e v ps) (λ_ _ h=>h.elim)).trans E (λa hi _=>.inl hi));clear t E N az ae R ap cp an ck;generalize(A.setCell ⟨e,0,none⟩ (.int .i64 l)).drew=aa at *
 have ci:=ab.o.aF.c1;have cm:∃a2 T,v=.slice a2 ps.length T/\∀g,a2=some g->g=⟨g.block,0,none⟩:=by
  rcases ab.o.row.2 with ⟨c,x⟩ | ⟨g,T,cb,c,_⟩
  ·exact⟨none,0,by rw[c,x],λg J=>by cases J⟩
  exact⟨some ⟨g,0,none⟩,T,c,λda J=>by cases J;rfl⟩
 obtain⟨u,s,cr,bn⟩:=cm;generalize be:ps.length=k at *
 have cy:=Aa bn;have S:=Aa (show(ps.map (·.2)).length=k by rw[im];exact be);clear be bn;subst cr;go_wp2_with fail
 go_loopw [32] (λa wr=>∃(m:Nat) (q:List (SB×aI)),m<=k/\a=.int .i64 m/\Hid (aX wr e (.slice u k s) l q)/\Hid (q.map (·.2)=((ps.map (·.2)).take m).map (AP l)++(ps.map (·.2)).drop m)/\Hid (aA (aN e (.slice u k s) ps) w wr)/\Hid (∀a,aN e (.slice u k s) q a->aN e (.slice u k s) ps a\/d+1<a)/\Hid (∀M,M∈q.map (·.2)->aT n M)/\Hid (aD wr (d+1) [.int .i64 0,.slice none 0 0,.string Ai] 39)/\Hid (aD wr d o.cells 48)) (λa _=>k-(intOf a).toNat)
 case atStart=>exact⟨0,ps,by omega,rfl,ab,rfl,bv,λa hi=>.inl hi,P.o.bD,b4,b1⟩
 case round =>
  obtain⟨m,q,dg,rfl,B,aj,af,O,ai,ah,ay⟩:=hrel;clear ci;have bi:q.length=k:=by
   have c:=congrArg List.length aj.o;have x:=S.o;rw[hY,im,im,iD,iQ,x]at c;omega
  have ag:=Aa bi;clear bi;by_cases X:m<k
  ·obtain⟨ar,i,au,Z,W⟩:=Qc q m (by rw[ag.o];exact X);have b3:=Aa Z;have bz:=Aa W;have Y:i∈q:=by rw[Z];simp
   have b2:=Aa Y;have a0:=Aa (B.o.bM i Y);have ad:=Aa (ai.o i.2 (iF Y));obtain⟨cs,ct,_,_,_,_⟩:=ad.o.common;obtain⟨g,J⟩:∃g,u=some ⟨g,0,none⟩:=by
    rcases B.o.row.2 with ⟨c,_⟩ | ⟨g,T,cb,c,_⟩
    ·have dl:k=0:=by injection c
     omega
    injection c with x _ _;exact⟨g,x⟩
   subst J;have cj:wr.cell? ⟨g,m,none⟩=some (.pointer (some ⟨i.1.s,0,none⟩)):=by
    have bk:=B.o.row;rw[ag.o]at bk;refine QS bk m _ ?_;unfold AV;rw[Z,iy,iS (by simp[W])];simp[W]
   clear Z W Y;have an:=B.o.aF.c0;have ba:=a0.o.aF.c2;have dh:(0:Int)<=(m:Int):=by omega
   have cl:(m:Int)<(k:Int):=by omega
   go_wp2_with fail
   refine(Gt i.1.s i.2.c.aK l wr ba cs ct bq br).mono ?_;rintro F j ⟨rfl,bp⟩;rw[bp];clear bp j;go_wp2_with fail
   refine(Uv n i.1 i.2 (l-i.2.c.aK) wr a0.o ad.o cn (b7.o.keeps af.o a1.o) (λh=>by
        rcases O.o 2 (.inr (.inr ⟨i,b2.o,h⟩)) with c | c
        ·exact a1.o c
        omega) (by omega) (by omega)).mono ?_
   rintro F j ⟨rfl,ak,bl,bf,bc⟩;have b5:=Aa bl;have aw:=Aa bf;have C:=Aa bc;clear bl bf bc cj an ba;go_wp2;go_roundw;case rel =>
    have cc:=B.o;have H:=O.o;have cd:=af.o;have U:=aj.o;have a7:=ai.o;have cf:=b3.o;subst cf;have bj:=Fp (i.2.l.length+1) i.2 (l-i.2.c.aK);have z:aX j e (.slice (some ⟨g,0,none⟩) k s) l (ar++(ak,AP l i.2)::au):=cc.one C.o b5.o bj.1 aw.o;have cq:d+1<wr.heap.size:=ah.o.lt;have aq:∀a,i.1.aQ i.2.k a->aN e (.slice (some ⟨g,0,none⟩) k s) ps a\/d+1<a:=λa hi=>H a (.inr (.inr ⟨i,by simp,hi⟩));refine⟨m+1,ar++(ak,AP l i.2)::au,by omega,by go_num,z,UR (AP l) _ ar au i m bz.o (by rw[S.o];exact X) U ak,?_,?_,?_,?_,?_⟩
    ·refine cd.trans C.o (λa hi dk=>?_);rcases aq a hi with h | h
     ·exact h
     have:=ax.o;omega
    ·intro a hi;rcases aN.one (w:=wr) (x':=AP l i.2) bj.1 aw.o a hi with h | h
     ·exact H a h
     exact .inr (by omega)
    ·intro M r;rw[iy,iC]at r;rcases ig.1 r with r | r
     ·exact a7 M (by rw[iy];exact ig.2 (.inl r))
     rcases iw.1 r with r | r
     ·subst r;exact Jq _ ad.o _
     exact a7 M (by rw[iy,iC];exact ig.2 (.inr (iw.2 (.inr r))))
    ·refine ah.o.keeps C.o (λh=>?_);rcases aq _ h with c | c
     ·have:=G.o _ c;omega
     omega
    refine ay.o.keeps C.o (λh=>?_);rcases aq _ h with c | c
    ·have:=G.o _ c;omega
    omega
   case measure=>simp[intOf];omega
  have bx:=Aa (show m=k by omega);have ap:=ay.o.c3;obtain⟨b9,ca⟩:=Bp bb;go_wp2_with fail
  refine(XY n e _ l o.b q wr B.o ai.o (by have c:=ag.o;have x:=P.o.bX;have db:=S.o;omega) (by omega) bq br b9 ca).mono ?_;rintro F j ⟨rfl,bs,z,I,al,a4,cg⟩;have bt:=Aa z;have b8:=Aa I;have C:=Aa al;have bu:=Aa a4
  have b0:=Aa (show ¬aN e (.slice u k s) q (d+1) from λh=>by
     rcases O.o _ h with c | c
     ·have:=G.o _ c;omega
     omega)
  have D:=Aa (ah.o.keeps al b0.o);clear z I al a4 cg ap;generalize bm:(Br l o.b (q.map (·.2))).2=left at *
  have b6:=Aa bm;clear bm;have dm:=D.o.c0;have dn:=D.o.c1;have dp:=D.o.c2;have dq:=D.o.frozen;have cq:d+1<j.heap.size:=D.o.lt;go_wp2;have am:=(((D.o.setCell 0 (.int .i64 0)).setCell 1 (.slice (some ⟨j.heap.size,0,none⟩) 1 1)).setCell 2 (.string Ai)).alloc (.cells #[.int .i64 left] 3);have bd:aA (λa=>a=d+1) j ((((j.setCell ⟨d+1,0,none⟩ (.int .i64 0)).setCell ⟨d+1,1,none⟩ (.slice (some ⟨j.heap.size,0,none⟩) 1 1)).setCell ⟨d+1,2,none⟩ (.string Ai)).alloc (.cells #[.int .i64 left] 3)) :=
   ((((aA.refl (λa=>a=d+1) j).setCell (p:=⟨d+1,0,none⟩) (Or.inl rfl) _).setCell (p:=⟨d+1,1,none⟩) (Or.inl rfl) _).setCell (p:=⟨d+1,2,none⟩) (Or.inl rfl) _).alloc _
  have ch:aD ((((j.setCell ⟨d+1,0,none⟩ (.int .i64 0)).setCell ⟨d+1,1,none⟩ (.slice (some ⟨j.heap.size,0,none⟩) 1 1)).setCell ⟨d+1,2,none⟩ (.string Ai)).alloc (.cells #[.int .i64 left] 3)) j.heap.size [.int .i64 left] 3:=aD.newAt (by simp) [_] 3;have a3:((((j.setCell ⟨d+1,0,none⟩ (.int .i64 0)).setCell ⟨d+1,1,none⟩ (.slice (some ⟨j.heap.size,0,none⟩) 1 1)).setCell ⟨d+1,2,none⟩ (.string ⟨#[]⟩)).alloc (.cells #[.int .i64 left] 3))=((((j.setCell ⟨d+1,0,none⟩ (.int .i64 0)).setCell ⟨d+1,1,none⟩ (.slice (some ⟨j.heap.size,0,none⟩) 1 1)).setCell ⟨d+1,2,none⟩ (.string Ai)).alloc (.cells #[.int .i64 left] 3)):=rfl;rw[a3];clear a3;generalize((((j.setCell ⟨d+1,0,none⟩ (.int .i64 0)).setCell ⟨d+1,1,none⟩ (.slice (some ⟨j.heap.size,0,none⟩) 1 1)).setCell ⟨d+1,2,none⟩ (.string Ai)).alloc (.cells #[.int .i64 left] 3))=dr at *
  have cu:=am.c0;have cv:=am.c1;have cw:=am.c2;refine iN (v:=Av 0 (.slice (some ⟨j.heap.size,0,none⟩) 1 1)) (by simp[results,results22,go_sem,cu,cv,cw,Av]) rfl ?_;have ao:=ax.o;have z:=bt.o;have H:=O.o;have ce:=G.o;have U:=aj.o;have dc:=S.o;have cl:=bx.o;rw[iq (by omega),iU (by omega),iz]at U;have I:=b8.o;have a6:=b6.o;rw[U]at I a6;rw[Q.o,a6,<-I];have a5:∀a,aN e (.slice u k s) bs a->aN e (.slice u k s) ps a\/d+1<a:=λa hi=>H a (bu.o a hi);refine⟨.slice (some ⟨j.heap.size,0,none⟩) 1 1,.slice u k s,bs,rfl,z.keeps bd (λa hi h=>?_),rfl,⟨rfl,.inr ⟨j.heap.size,1,_,rfl,by omega,ch,by simp,by unfold maxLen;omega,rfl,rfl⟩⟩,?_,?_,?_⟩
  ·rcases a5 a hi with c | c
   ·have:=ce a c;omega
   omega
  ·refine(af.o.trans C.o (λa hi X=>?_)).trans bd (λa hi X=>by omega);rcases H a hi with c | c
   ·exact c
   omega
  ·intro a hi;rcases a5 a hi with c | c
   ·exact .inl c
   exact .inr (by omega)
  intro a hi V;have c:j.heap.size=a:=by simpa[Value.ownBlock] using hi
  have x:=z.lt a V;omega
theorem Fw{c:Cfg}(d:Ak c=true): ∃a:Nat,c.kind=a/\1<=a/\a<=5/\B0 c=true/\Gj c a=true:=by
 simp only[Ak,iK]at d;obtain⟨e,h,i⟩:=d;obtain⟨j,b⟩:=Bp e;refine⟨c.kind.toNat,by omega,by omega,by omega,h,i⟩
theorem X3(n:Int)(e:Nat)(v:Value)(clock:Int)(ps:List (SB×aI))(o:aO)(w:World)(a:aX w e v clock ps)(_:bQ n clock (ps.map (·.2)))(C:Ab o.id 0 99=false):
  Calls prog 20 #[.pointer (some ⟨e,0,none⟩),o.val] w λj E=>aS w e v ps clock (ps.map (·.2)) 2 [] j E:=by
 have G:o.cells[1]?=some (.int .i64 o.id):=rfl;have t:=Aa a;clear a;unfold aO.val;go_enter func20,ntmps20;go_wp2_with fail
 obtain⟨q,l,u,F,B⟩:=C5 w o.cells;rw[<-l];clear l;generalize h:w.heap.size=J at *
 have A:=Aa h;clear h;refine(AK _ _ _ q).mono ?_;rintro j r ⟨rfl,m⟩;rw[m,C];clear m r;go_wp2_with fail
 refine(E9 2 q).mono ?_;rintro j r ⟨rfl,c⟩;unfold Av;have k:=Aa (B.o.keeps c id);have x:=Aa (u.o.then c);clear c;obtain⟨L,M,N,O⟩:=k.o.three;go_wp2;refine CZ k.o (λs i=>by simp[results,results20,go_sem,i.c0,i.c1,i.c2,Av]) rfl (λs d=>?_);have z:=Aa d;have d:=z.o;have h:=A.o;have D:lO w s:=x.o.trans d (λI hi H=>by omega);exact Et t.o D (ir _ _ _ _)
theorem SF(n:Int)(e:Nat)(v:Value)(clock:Int)(ps:List (SB×aI))(o:aO)(w:World)(c:aX w e v clock ps)(hi:bQ n clock (ps.map (·.2)))(G:Ab o.id 0 99=true)(p:SB×aI)(t:Cf ps o.id=some p):
  Calls prog 20 #[.pointer (some ⟨e,0,none⟩),o.val] w λd J=>aS w e v ps clock (ps.map (·.2)) 2 [] d J:=by
 have L:o.cells[1]?=some (.int .i64 o.id):=rfl;have q:=Aa c;have I:ps.length<=1000:=by have:=hi.bX;rw[im]at this;omega
 have A:=Aa t;clear c hi t;unfold aO.val;go_enter func20,ntmps20;go_wp2_with fail
 obtain⟨m,u,r,D,F⟩:=C5 w o.cells;have z:=Aa (q.o.still r.o);rw[<-u];clear u;generalize k:w.heap.size=P at *
 have E:=Aa k;clear k;refine(AK _ _ _ m).mono ?_;rintro d h ⟨rfl,a⟩;rw[a,G];clear a h;have N:=D.o.c1;go_wp2_with fail
 refine(EM e v clock o.id ps m z.o I).mono ?_;rintro d h ⟨rfl,a⟩;rw[a,A.o];clear a h;unfold EB;go_wp2_with fail
 refine(E9 2 m).mono ?_;rintro d h ⟨rfl,i⟩;unfold Av;have s:=Aa (F.o.keeps i id);have B:=Aa (r.o.then i);clear i;obtain⟨Q,R,S,T⟩:=s.o.three;go_wp2;refine CZ s.o (λx l=>by simp[results,results20,go_sem,l.c0,l.c1,l.c2,Av]) rfl (λx j=>?_);have C:=Aa j;have j:=C.o;have k:=E.o;have H:lO w x:=B.o.trans j (λO hi M=>by omega);exact Et q.o H (ir _ _ _ _)
theorem S7(n:Int)(e:Nat)(v:Value)(clock:Int)(ps:List (SB×aI))(o:aO)(w:World)(a:aX w e v clock ps)(hi:bQ n clock (ps.map (·.2)))(L:Ab o.id 0 99=true)(x:Cf ps o.id=none)(P:Ak o.cfg=false):
  Calls prog 20 #[.pointer (some ⟨e,0,none⟩),o.val] w λi R=>aS w e v ps clock (ps.map (·.2)) 3 [] i R:=by
 have S:o.cells[1]?=some (.int .i64 o.id):=rfl;have r:=Aa a;have N:ps.length<=1000:=by have:=hi.bX;rw[im]at this;omega
 have C:=Aa x;clear a hi x;unfold aO.val;go_enter func20,ntmps20;go_wp2_with fail
 obtain⟨j,z,s,t,H⟩:=C5 w o.cells;have B:=Aa (r.o.still s.o);rw[<-z];clear z;generalize m:w.heap.size=V at *
 have G:=Aa m;clear m;refine(AK _ _ _ j).mono ?_;rintro i d ⟨rfl,h⟩;rw[h,L];clear h d;have O:=t.o.c1;go_wp2_with fail
 refine(EM e v clock o.id ps j B.o N).mono ?_;rintro i d ⟨rfl,h⟩;rw[h,C.o];clear h d;unfold EB;obtain⟨Q,J⟩:=Eg t.o 5 20 o.cfg.cells rfl rfl;go_wp2_with fail
 refine(V9 o.cfg j P).mono ?_;rintro i d ⟨rfl,c⟩;have k:lO j (d.alloc (.cells #[.nilFunc,.nilFunc,.nilFunc,.nilFunc,.nilFunc,.nilFunc] 75)):=c.alloc _;have I:=Aa (H.o.keeps k id);have F:=Aa (s.o.then k);clear c k Q J O;go_wp2_with fail
 refine(E9 3 (d.alloc (.cells #[.nilFunc,.nilFunc,.nilFunc,.nilFunc,.nilFunc,.nilFunc] 75))).mono ?_;rintro i aa ⟨rfl,c⟩;unfold Av;have u:=Aa (I.o.keeps c id);have D:=Aa (F.o.then c);clear c;obtain⟨W,X,Y,Z⟩:=u.o.three;go_wp2;refine CZ u.o (λA q=>by simp[results,results20,go_sem,q.c0,q.c1,q.c2,Av]) rfl (λA l=>?_);have E:=Aa l;have l:=E.o;have m:=G.o;have M:lO w A:=D.o.trans l (λU hi T=>by omega);exact Et r.o M (ir _ _ _ _)
theorem Ur(n:Int)(e:Nat)(v:Value)(clock:Int)(ps:List (SB×aI))(o:aO)(w:World)(h:aX w e v clock ps)(hi:bQ n clock (ps.map (·.2)))(V:Ab o.id 0 99=true)(C:Cf ps o.id=none)(ab:Ak o.cfg=true)(R:ps.length=6):
  Calls prog 20 #[.pointer (some ⟨e,0,none⟩),o.val] w λj ag=>aS w e v ps clock (ps.map (·.2)) 4 [] j ag:=by
 obtain⟨a,D,i,W,S,T⟩:=Fw ab;have J:=Aa D;clear D;have q:o.cells[1]?=some (.int .i64 o.id):=rfl;have x:=Aa h;have Y:ps.length<=1000:=by have:=hi.bX;rw[im]at this;omega
 have H:=Aa C;clear h hi C;unfold aO.val;go_enter func20,ntmps20;go_wp2_with fail
 obtain⟨l,F,z,A,O⟩:=C5 w o.cells;have k:=Aa (x.o.still z.o);rw[<-F];clear F;generalize t:w.heap.size=ao at *
 have N:=Aa t;clear t;refine(AK _ _ _ l).mono ?_;rintro j d ⟨rfl,c⟩;rw[c,V];clear c d;have aa:=A.o.c1;go_wp2_with fail
 refine(EM e v clock o.id ps l k.o Y).mono ?_;rintro j d ⟨rfl,c⟩;rw[c,H.o];clear c d;unfold EB;obtain⟨ad,U⟩:=Eg A.o 5 20 o.cfg.cells rfl rfl;go_wp2_with fail
 refine(L3 o.cfg a l J.o i W S T).mono ?_;rintro j d ⟨rfl,c⟩;unfold B1 fn;have Z:∃Q m,v=.slice Q 6 m:=by
  rcases k.o.row.2 with ⟨q,aj⟩ | ⟨g,m,ai,q,_⟩
  ·omega
  exact⟨some ⟨g,0,none⟩,m,by rw[q,R]⟩
 obtain⟨ae,af,E⟩:=Z;have r:lO l (d.alloc (.cells #[.func (.func (Bu a)) #[] #[],.func (.func (Bg a)) #[] #[],.func (.func (Bh a)) #[] #[],.func (.func (AR a)) #[] #[],.func (.func (AW a)) #[] #[],.func (.func (Bo a)) #[] #[]] 75)):=c.alloc _;have P:=Aa (O.o.keeps r id);have M:=Aa (z.o.then r);have ak:d.cell? ⟨e,1,none⟩=some (.slice ae 6 af):=by rw[<-E];exact(k.o.still c).aF.cell rfl
 have al:e<d.heap.size:=(k.o.still c).aF.lt;clear c r ad U aa E;go_wp2_with fail
 generalize d.alloc (.cells #[.func (.func (Bu a)) #[] #[],.func (.func (Bg a)) #[] #[],.func (.func (Bh a)) #[] #[],.func (.func (AR a)) #[] #[],.func (.func (AW a)) #[] #[],.func (.func (Bo a)) #[] #[]] 75)=ah at *
 refine(E9 4 ah).mono ?_;rintro j av ⟨rfl,i⟩;unfold Av;have B:=Aa (P.o.keeps i id);have I:=Aa (M.o.then i);clear i;obtain⟨ap,aq,ar,au⟩:=B.o.three;go_wp2;refine CZ B.o (λG u=>by simp[results,results20,go_sem,u.c0,u.c1,u.c2,Av]) rfl (λG s=>?_);have L:=Aa s;have s:=L.o;have t:=N.o;have X:lO w G:=I.o.trans s (λan hi am=>by omega);exact Et x.o X (ir _ _ _ _)
