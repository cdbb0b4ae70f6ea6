import Derived.Test.YtnokbhcennjanaaGreatDoorXAI
open Go.RowKit Go.Proofs.Tryz
set_option maxRecDepth 100000
set_option maxHeartbeats 16000000
namespace Go.Proofs.YtnokbhcennjanaaGreatDoor
section
attribute [local go_sem ↓] AH Bs
attribute [local go_sem] AI Bt A3 A4 AJ AL B8 B9 Bd B2
theorem Cf{M:Nat->Prop}{w w':World}{b o n:Nat}(e:aA M w w')(i:¬M b)(h:b<w.heap.size): Ap w' b o n=Ap w b o n/\Az w' b o n=Az w b o n:=by
 have d:∀c,w'.cell? ⟨b,o+c,none⟩=w.cell? ⟨b,o+c,none⟩:=λc=>jB (a:=⟨b,o+c,none⟩) (e.block b h i);constructor
 ·unfold Ap C1;simp only[d]
 unfold Az;simp only[d]
theorem Ol(n:Int)(b:SB)(x:aJ)(y:It)(clock:Int)(w:World)(M:bJ w b x)(hi:aT n x)(c0:0<=clock)(c1:clock<=4611686018427387904):
  Calls prog 38 #[π b.s,y.val,ι clock] w λe c=>e=.returned (ι (bO x clock y))/\lX w c:=by
 obtain⟨ag,ah,aq,ar,ao,ap⟩:=hi.common;have j:=M.aF.lt;have Q:=Aa M;have o:=Aa hi;have O:=Aa (show aD (w.alloc (.cells y.cells 80)) w.heap.size [ι y.t,ι y.k,ι y.d,ι y.n] 80 from aD.new w [_,_,_,_] 80);have E:=Aa ((aA.refl (λ_=>False) w).alloc (.cells y.cells 80));have d:=Aa (show bO x clock y=if Ab y.t 0 4611686018427387904 then(if y.t<=clock-x.c.aL then 6 else if clock+x.c.bF<y.t then 7 else if AP x.c x.k y≠0 then AP x.c x.k y else if x.c.cap<=x.l.length then 11 else if 4611686018427387904<=x.acc then 11 else 0) else 5 from rfl);clear M hi;unfold It.val;cases h1:Ab y.t 0 4611686018427387904
 ·go_enter func38,ntmps38;go_wp2_with (go_at_call 41;refine(Gv _ _).mono ?_;rintro e c ⟨rfl,rfl⟩)
  go_ret;exact⟨A9 (by rw[d.o,h1];rfl),E.o⟩
 obtain⟨ai,aj⟩:=Bu h1;rw[h1,ij rfl]at d;have Z:=Q.o.aF.c2;go_enter func38,ntmps38;go_wp2_with fail
 refine(Gv _ _).mono ?_;rintro e c ⟨rfl,rfl⟩;rw[h1];go_wp2_with fail
 go_region_held3 (λc=>c.cell? ⟨w.heap.size,0,none⟩=some (ι y.t)/\c.cell? ⟨b.s,2,none⟩=some (ι x.c.aL)) (go_keep)
  (first | (go_at_call 43;refine(G3 b.s x.c.aL clock _ (by go_keep) ag ah c0 c1).mono ?_;rintro e c ⟨rfl,rfl⟩))
 have k:=Aa (O.o.drew);have q:=Aa (E.o.drew);clear O E;have R:(w.alloc (.cells #[ι y.t,ι y.k,ι y.d,ι y.n] 80)).drew=(w.alloc (.cells y.cells 80)).drew:=rfl;rw[R];clear R;generalize(w.alloc (.cells y.cells 80)).drew=D at *
 generalize Y:w.heap.size=u at *
 have t:=Aa (Q.o.still q.o);clear Z j Y;have j:=t.o.aF.lt;have L:=k.o.lt;have F:=k.o.c0;have G:=k.o.c1;have H:=k.o.c2;have I:=k.o.c3;have ab:=t.o.aF.c3;by_cases z:y.t<=clock-x.c.aL
 ·rw[ij z]at d;go_wp2;go_ret;exact⟨A9 d.o.symm,q.o⟩
 rw[ig z]at d;have U:decide (y.t<=clock-x.c.aL)=false:=by simpa using z
 go_wp2_with fail
 go_quiet (fail)
 by_cases A:clock+x.c.bF<y.t
 ·rw[ij A]at d;go_wp2;go_ret;exact⟨A9 d.o.symm,q.o.then (aA.drewN _ _ _)⟩
 rw[ig A]at d;have V:decide (clock+x.c.bF<y.t)=false:=by simpa using A
 go_wp2_with fail
 have C:lX D (D.drewN nq):=aA.drewN (λ_=>False) D nq;have r:=Aa (t.o.still C);have m:=Aa (k.o.keeps C id);have P:=Aa (q.o.then C);clear C;generalize D.drewN nq=N at *
 clear t k q F G H I ab j L z U A V;have j:=r.o.aF.lt;have L:=m.o.lt;have F:=m.o.c0;have G:=m.o.c1;have H:=m.o.c2;have I:=m.o.c3;have aa:κ N b.s 24 (.func (.func (AO x.k)) #[] #[]):=r.o.aF.cell rfl;obtain⟨af,ad⟩:=El r.o.aF 1 20 x.c.cells rfl rfl;have ae:=ON x.k o.o.k1 o.o.k5
 go_region_held3 (λc=>c.cell? ⟨b.s,24,none⟩=some (.func (.func (AO x.k)) #[] #[])/\Ap c b.s 1 20=.agg x.c.cells.toArray/\Az c b.s 1 20=true /\
     c.cell? ⟨u,0,none⟩=some (ι y.t)/\c.cell? ⟨u,1,none⟩=some (ι y.k)/\c.cell? ⟨u,2,none⟩=some (ι y.d)/\c.cell? ⟨u,3,none⟩=some (ι y.n))
  (first | (simp[*,A3,A4];done) | (go_split_ands;refine⟨h.cell (by assumption) id,(Cf h id (by simpa using j)).1.trans (by assumption),(Cf h id (by simpa using j)).2.trans (by assumption),h.cell (by assumption) id,h.cell (by assumption) id,h.cell (by assumption) id,h.cell (by assumption) id⟩))
  (first | (refine(Ml x.c x.k y _ o.o.k1 o.o.k5 o.o.bI ai aj).mono ?_;rintro e c ⟨rfl,h⟩))
 have J:lX N c:=((aA.refl (λ_=>False) N).drew).then h;have l:=Aa (r.o.still J);have s:=Aa (P.o.then J);clear h J r m P F G H I aa af ad ae j L;have j:=l.o.aF.lt;generalize an:AP x.c x.k y=e at *
 by_cases i:e=0
 ·have W:(e !=0)=false:=by simp[i]
  rw[ig (by simpa using i)]at d;have S:=Aa i;clear i;have ak:κ c b.s 32 (π b.q):=l.o.aF.cell rfl;have am:=l.o.aF.c4;have al:κ c b.s 33 (ι x.acc):=l.o.aF.cell rfl;by_cases B:x.c.cap<=(x.l.length:Int)
  ·rw[ij B]at d;have X:decide (x.c.cap<=(x.l.length:Int))=true:=by simpa using B
   go_wp2_with fail
   go_quiet (first | (go_at_call 67;refine jA (len_any b.q b.g x.l _ (by exact l.o.dM.keeps (aA.drewN (λ_=>False) _ _) id (λ_ _ a=>a)))))
   go_wp2;go_ret;exact⟨A9 d.o.symm,s.o.then (aA.drewN _ _ _)⟩
  rw[ig B]at d;have X:decide (x.c.cap<=(x.l.length:Int))=false:=by simpa using B
  by_cases v:4611686018427387904<=x.acc
  ·rw[ij v]at d;have T:decide (4611686018427387904<=x.acc)=true:=by simpa using v
   go_wp2_with fail
   go_quiet (first | (go_at_call 67;refine jA (len_any b.q b.g x.l _ (by exact l.o.dM.keeps (aA.drewN (λ_=>False) _ _) id (λ_ _ a=>a)))))
   go_wp2;go_ret;exact⟨A9 d.o.symm,s.o.then (aA.drewN _ _ _)⟩
  rw[ig v]at d;have T:decide (4611686018427387904<=x.acc)=false:=by simpa using v
  go_wp2_with fail
  go_quiet (first | (go_at_call 67;refine jA (len_any b.q b.g x.l _ (by exact l.o.dM.keeps (aA.drewN (λ_=>False) _ _) id (λ_ _ a=>a)))))
  go_wp2;go_ret;exact⟨A9 d.o.symm,s.o.then (aA.drewN _ _ _)⟩
 have W:(e !=0)=true:=by simp[i]
 rw[ij (by simpa using i)]at d;have S:=Aa i;clear i;go_wp2;go_ret;exact⟨A9 d.o.symm,s.o⟩
def Ah(y:It)(n:Int): It:=⟨y.t,y.k,y.d,n⟩
def cD(x:aJ)(y:It): aJ:={ x with acc:=x.acc+1,l:=riseL (x.l.length+1) (x.l++[Ah y (x.acc+1)]) x.l.length }
def SB.next(b b':SB)(k size:Nat): Prop:=b'.s=b.s/\∀i,b'.aQ k i->b.aQ k i\/size<=i
theorem Wu(n:Int)(b:SB)(x:aJ)(y:It)(w:World)(l:bJ w b x)(hi:aT n x)(ae:n<=4611686018427387904):
  Calls prog 40 #[π b.s,y.val] w λC h=>C=.returned (ι (x.acc+1))/\∃B,bJ h B (cD x y)/\b.next B x.k w.heap.size/\aA (b.aQ x.k) w h:=by
 obtain⟨ag,ah,ak,al,ai,aj⟩:=hi.common;have aa:=l.aF.lt;have Z:=hi.cap;have X:=hi.eL;have Y:=hi.dH;have R:=l.dM.lt;have O:κ w b.s 33 (ι x.acc):=l.aF.cell rfl;have P:=l.aF.frozen;have d:=Aa l;clear l hi;have af:IntKind.i64.wrap (x.acc+1)=x.acc+1:=GY (by omega) (by omega);unfold It.val;go_enter func40,ntmps40;go_wp2_with fail
 have r:aA (λc=>c=b.s) w ((w.setCell ⟨b.s,33,none⟩ (ι (x.acc+1))).alloc (.cells #[ι y.t,ι y.k,ι y.d,ι (x.acc+1)] 80)) :=
  ((aA.refl (λc=>c=b.s) w).setCell (p:=⟨b.s,33,none⟩) (Or.inl rfl) _).alloc _
 have t:=Aa (show aD ((w.setCell ⟨b.s,33,none⟩ (ι (x.acc+1))).alloc (.cells #[ι y.t,ι y.k,ι y.d,ι (x.acc+1)] 80)) b.s (D8 b { x with acc:=x.acc+1 }) 98 from(d.o.aF.setCell 33 (ι (x.acc+1))).alloc _);have m:=Aa (show aD ((w.setCell ⟨b.s,33,none⟩ (ι (x.acc+1))).alloc (.cells #[ι y.t,ι y.k,ι y.d,ι (x.acc+1)] 80)) w.heap.size [ι y.t,ι y.k,ι y.d,ι (x.acc+1)] 80 from aD.newAt (by simp) [_,_,_,_] 80);have M:=Aa (d.o.dM.keeps r (λa=>d.o.sq a.symm) (λg j a=>d.o.sg g j a.symm));have z:=Aa (show cB _ x.k b.n x.c x.nt from d.o.note.keeps r (λc hi a=>(d.o.sn c hi).1 a));have J:=Aa r;clear r O P;generalize((w.setCell ⟨b.s,33,none⟩ (ι (x.acc+1))).alloc (.cells #[ι y.t,ι y.k,ι y.d,ι (x.acc+1)] 80))=s at *
 generalize D:w.heap.size=i at *
 have H:=Aa D;clear D;have ab:=t.o.lt;have ad:=m.o.lt;have N:κ s b.s 32 (π b.q):=t.o.cell rfl;have S:=m.o.c0;have T:=m.o.c1;have U:=m.o.c2;have V:=m.o.c3;have A:=Aa (show ¬(b.s=b.q\/b.g=some b.s) from λa=>a.elim d.o.sq (λa=>d.o.sg b.s a rfl));have q:=Aa (show ¬(i=b.q\/b.g=some i) from λa=>a.elim (λa=>by omega) (λa=>by have:=(R.2 i a).1;omega));have Q:x.l.length<=900:=by omega
 go_region_held3 (λh=>h.cell? ⟨b.s,32,none⟩=some (π b.q)/\h.cell? ⟨i,0,none⟩=some (ι y.t)/\h.cell? ⟨i,1,none⟩=some (ι y.k)/\h.cell? ⟨i,2,none⟩=some (ι y.d)/\h.cell? ⟨i,3,none⟩=some (ι (x.acc+1)))
  (first | (simp[*];done) | (go_split_ands;exact⟨k.cell (by assumption) A.o,k.cell (by assumption) q.o,k.cell (by assumption) q.o,k.cell (by assumption) q.o,k.cell (by assumption) q.o⟩))
  (first | (go_at_call 68;refine(put_any b.q b.g x.l (Ah y (x.acc+1)) _ (by exact M.o.keeps ((aA.refl (λ_=>False) s).drew) id (λ_ _ a=>a)) Q).mono ?_;rintro C h ⟨rfl,W,G,k,F⟩))
 have I:=Aa k;have L:=Aa G;have u:=Aa F;clear k G F S T U V N;go_wp2;go_ret;have v:aA (λe=>e=b.q\/b.g=some e) s h:=((aA.refl (λe=>e=b.q\/b.g=some e) s).drew).then I.o;refine⟨rfl,⟨b.s,b.q,W,b.n⟩,⟨t.o.keeps v A.o,L.o,z.o.keeps v (λc hi a=>?_),d.o.sq,?_,λc hi=>⟨(d.o.sn c hi).1,(d.o.sn c hi).2.1,?_⟩⟩,⟨rfl,?_⟩,?_⟩
 ·rcases a with a | a
  ·exact(d.o.sn c hi).2.1 a
  exact(d.o.sn c hi).2.2 a
 ·intro g j;rcases u.o with a | ⟨e,a,o⟩
  ·exact d.o.sg g (a.symm.trans j)
  have E:g=e:=by have:=a.symm.trans j;simpa using this.symm
  show b.s≠g;rw[kY]at o;omega
 ·intro j;rcases u.o with a | ⟨e,a,o⟩
  ·exact(d.o.sn c hi).2.2 (a.symm.trans j)
  have E:c=e:=by have:=a.symm.trans j;simpa using this.symm
  have:=z.o.lt c hi;rw[kY]at o;omega
 ·intro c hi;rcases hi with hi | hi | hi | hi
  ·exact .inl (.inl hi)
  ·exact .inl (.inr (.inl hi))
  ·rcases u.o with a | ⟨e,a,o⟩
   ·exact .inl (.inr (.inr (.inl (a.symm.trans hi))))
   have E:c=e:=by have:=a.symm.trans hi;simpa using this.symm
   rw[kY]at o;exact .inr (by have:=H.o;omega)
  exact .inl (.inr (.inr (.inr hi)))
 refine(J.o.mono (M':=b.aQ x.k) (λc _ a=>.inl a)).trans v (λc hi _=>?_);rcases hi with hi | hi
 ·exact .inr (.inl hi)
 exact .inr (.inr (.inl hi))
end
section
theorem cO{P:It->Prop}(e:P ⟨0,0,0,0⟩){l:List It}(c:∀y,y∈l->P y)(i j:Nat): ∀y,y∈swapL l i j->P y:=by
 have d:∀i,P (itAt l i):=by
  intro i;unfold itAt;rw[γ];cases hi:l[i]? with
  | none=>exact e
  | some h=>exact c h (iz hi)
 intro y a;unfold swapL at a;rcases jx a with a | a
 ·rcases jx a with a | a
  ·exact c y a
  subst a;exact d j
 subst a;exact d i
theorem eI{P:It->Prop}(c:P ⟨0,0,0,0⟩)(f:Nat)(l:List It)(i:Nat)(a:∀y,y∈l->P y): ∀y,y∈riseL f l i->P y:=by
 induction f generalizing l i with
 | zero=>exact a
 | succ f d =>
  unfold riseL;split
  ·exact a
  split
  ·exact d _ _ (cO c a _ _)
  exact a
theorem dW{P:It->Prop}(c:P ⟨0,0,0,0⟩)(f:Nat)(l:List It)(i:Nat)(a:∀y,y∈l->P y): ∀y,y∈sinkL f l i->P y:=by
 induction f generalizing l i with
 | zero=>exact a
 | succ f d =>
  unfold sinkL;split
  ·exact a
  split
  ·exact d _ _ (cO c a _ _)
  exact a
theorem cM{P:It->Prop}(c:P ⟨0,0,0,0⟩){l:List It}(a:∀y,y∈l->P y)(i:Nat): P (itAt l i):=by
 unfold itAt;rw[γ];cases hi:l[i]? with
 | none=>exact c
 | some d=>exact a d (iz hi)
theorem dF{P:It->Prop}(d:P ⟨0,0,0,0⟩)(l:List It)(c:∀y,y∈l->P y): ∀y,y∈takeL l->P y:=by
 unfold takeL;refine dW d _ _ _ (λy a=>?_);have a:=iZ a;rcases jx a with a | a
 ·exact c y a
 subst a;exact cM d c _
theorem takeL_length(l:List It): (takeL l).length=l.length-1:=by
 unfold takeL;rw[GE];simp
def BS(x:aJ)(m:Int): aJ:={ x with l:=takeL x.l,rel:=x.rel+1,nt:=BE x.k x.c x.nt (itAt x.l 0) m,last:=(itAt x.l 0).t }
def relS: Nat->aJ->Int->aJ
 | 0,x,_=>x
 | f+1,x,m=>if x.l.isEmpty then x else if m<(itAt x.l 0).t then x else relS f (BS x m) m
theorem Gr{l:List It}(a:l≠[]): itAt l 0∈l:=by
 cases l with
 | nil=>exact absurd rfl a
 | cons c l=>exact List.mem_cons_self ..
theorem Ky{l:List It}(a:bE l)(c:l≠[]){y:It}(d:y∈takeL l): y∈l:=(take_heap l a c).2.subset (j8 _ d)
theorem Ig{n:Int}{x:aJ}(a:aT n x)(c:x.l≠[])(m:Int)(j:¬m<(itAt x.l 0).t): aT n (BS x m):=by
 have hlen:0<x.l.length:=jK.2 c;have k:=a.dE;have i:=a.cap;have hrel:=a.dJ;have l:(takeL x.l).length=x.l.length-1:=takeL_length _;have e:=Gr c;have h:=a.times _ e;refine⟨a.valid,a.kind,a.k1,a.k5,a.eL,a.dH,?_,?_,a.bS,a.cN,?_,λy d=>a.times y (Ky a.heap c d),?_,(take_heap _ a.heap c).1,h.1,h.2,λy d=>a.heap.cE (Ky a.heap c d),λy d=>a.fits y (Ky a.heap c d)⟩
 ·show 0<=x.rel+1;omega
 ·show x.rel+1+((takeL x.l).length:Int)=x.acc;omega
 ·show((takeL x.l).length:Int)<=x.c.cap;omega
 exact ZV a.note a.valid a.kind _ _ (a.dX _ e) (by omega)
theorem M2{c:Cfg}{k:Nat}{y:It}(e:AP c k y=0)(a:k=2\/k=3): 0<=y.k/\y.k<=2147483648:=by
 have d:Dx y=0:=by
  rcases a with a | a <;> subst a <;> exact e
 unfold Dx at d;split at d
 ·rename_i h;exact Bu h
 omega
theorem S8(c:Cfg)(k:Nat)(y:It)(n:Int): AP c k (Ah y n)=AP c k y:=by
 unfold AP Ah;split <;> rfl
theorem zKl{n:Int}{x:aJ}(a:aT n x)(y:It)(q:0<=y.t)(r:y.t<=4611686018427387904)(u:(x.l.length:Int)<x.c.cap)(t:x.acc<n)(m:x.last<=y.t)(l:AP x.c x.k y=0): aT n (cD x y):=by
 have s:=a.eL;have v:=a.dE
 have hlen:(riseL (x.l.length+1) (x.l++[Ah y (x.acc+1)]) x.l.length).length=x.l.length+1:=by rw[riseL_length];simp
 have i:=put_heap x.l (Ah y (x.acc+1)) a.heap;have h:∀ {d:It->Prop},(∀c,c∈x.l->d c)->d (Ah y (x.acc+1))->∀c,c∈(cD x y).l->d c:=λj k c o=>by
  rcases iA.1 (i.2.subset o) with e | e
  ·rw[e];exact k
  exact j c e
 refine⟨a.valid,a.kind,a.k1,a.k5,?_,?_,a.dJ,?_,a.bS,a.cN,?_,h a.times ⟨q,r⟩,a.note,i.1,a.eB,a.dR,h a.dX m,h a.fits ((S8 _ _ _ _).trans l)⟩
 ·show 0<=x.acc+1;omega
 ·show x.acc+1<=n;omega
 ·show x.rel+((riseL (x.l.length+1) (x.l++[Ah y (x.acc+1)]) x.l.length).length:Int)=x.acc+1;omega
 show((riseL (x.l.length+1) (x.l++[Ah y (x.acc+1)]) x.l.length).length:Int)<=x.c.cap;omega
end
section
attribute [local go_sem ↓] AH Bs
attribute [local go_sem] AI Bt A3 A4 AJ AL B8 B9 Bd B2
theorem Vm{w c:World}{b:SB}{x:aJ}{g:Nat}{m:Int}{a:NB}(e:bJ w b x)(k:b.g=some g)(h:aD c b.s (D8 b { x with rel:=x.rel+1 }) 98)(n:bB c b.q (some g) (takeL x.l))(l:cB c x.k a x.c (BE x.k x.c x.nt (itAt x.l 0) m))(i:a.d=b.n.d)(j:∀d,BK x.k a d->d≠b.s/\d≠b.q/\b.g≠some d): bJ c ⟨b.s,b.q,b.g,a⟩ (BS x m):=by
 refine⟨?_,by show bB c b.q b.g _;rw[k];exact n,l,e.sq,e.sg,j⟩;have:D8 ⟨b.s,b.q,b.g,a⟩ (BS x m)=D8 b { x with rel:=x.rel+1 }:=by unfold D8;simp only[i];rfl
 rw[this];exact h
theorem UP(n:Int)(b:SB)(x:aJ)(m:Int)(w:World)(bd:bJ w b x)(hi:aT n x)(cc:n<=4611686018427387904)(a4:eG w)(a5:¬b.aQ x.k 2)(b6:-100<=m)(b7:m<=4611686018427387904):
  Calls prog 42 #[π b.s,ι m] w λi V=>i=.returned (.tuple #[])/\∃D,bJ V D (relS (x.l.length+1) x m)/\b.next D x.k w.heap.size/\aA (b.aQ x.k) w V:=by
 have bo:=Aa bd;have bi:=Aa hi;have a1:=Aa a4;have az:=Aa a5;clear bd hi a4 a5;go_enter func42,ntmps42;go_wp2;go_loopg [5] (x.l.length) (λg _s wr=>∃(D:SB) (A:aJ),Hid (bJ wr D A)/\Hid (aT n A)/\Hid (b.next D x.k w.heap.size)/\Hid (aA (b.aQ x.k) w wr)/\A.k=x.k/\A.l.length=g/\Hid (relS (x.l.length+1) x m=relS (A.l.length+1) A m))
 case atStart=>exact⟨b,x,bo,bi,⟨rfl,λ_ a=>.inl a⟩,aA.refl _ _,rfl,rfl,rfl⟩
 case round =>
  obtain⟨e,c,N,h,j,ar,t,a9,X⟩:=hrel;have C:=Aa t;have bh:=Aa a9;have u:=Aa j.o.1;clear t a9;have I:=Aa (show aD wr b.s (D8 e c) 98 by rw[<-u.o];exact N.o.aF);have S:=I.o.lt;have ag:κ wr b.s 32 (π e.q):=I.o.cell rfl;go_wp2_with fail
  refine(J1 e.q e.g c.l wr N.o.dM).mono ?_;rintro i z ⟨rfl,t⟩;have J:=Aa (I.o.keeps t id);have O:=Aa (N.o.still t);have Z:=Aa (ar.o.trans t (λ_ a _=>a.elim));clear t ag S;by_cases o:c.l.isEmpty=true
  ·have B:=Aa o;rw[o];clear o;unfold It.val;go_wp2;refine iV (kB rfl _ _ _) rfl ⟨rfl,e,?_,j.o,Z.o.alloc _⟩;rw[X.o];unfold relS;rw[ij B.o];exact O.o.still ((aA.refl _ _).alloc _)
  have a7:c.l.isEmpty=false:=by simpa using o
  have M:=Aa (show c.l≠[] by intro a;rw[a]at o;exact o rfl);have B:=Aa o;rw[a7];clear o a7;generalize be:itAt c.l 0=y;have v:=Aa be;clear be;unfold It.val;have an:=Aa (J.o.alloc (.cells #[ι y.t,ι y.k,ι y.d,ι y.n] 80));have a2:=Aa (aD.new z [ι y.t,ι y.k,ι y.d,ι y.n] 80);have k:=Aa (O.o.still ((aA.refl (λ_=>False) z).alloc (.cells #[ι y.t,ι y.k,ι y.d,ι y.n] 80)));have aa:=Aa (Z.o.alloc (.cells #[ι y.t,ι y.k,ι y.d,ι y.n] 80));have cb:=J.o.lt;have ag:κ z b.s 32 (π e.q):=J.o.cell rfl;by_cases U:m<y.t
  ·go_wp2;refine iV (kB rfl _ _ _) rfl ⟨rfl,e,?_,j.o,aa.o⟩;rw[X.o];unfold relS;rw[ig B.o,ij (by rw[v.o];exact U)];exact k.o
  have cd:decide (m<y.t)=false:=by simpa using U
  have ay:=Aa U;clear U;go_wp2_with fail
  have av:=Aa (show ∀d,e.aQ c.k d->d<z.heap.size from O.o.lt);generalize z.alloc (.cells #[ι y.t,ι y.k,ι y.d,ι y.n] 80)=b8 at *
  generalize br:z.heap.size=R at *
  clear br ag J O Z I N ar;obtain⟨g,s⟩:∃g,e.g=some g:=by
   cases hbg:e.g with
   | none=>have G:=k.o.dM;rw[hbg]at G;exact absurd G.1 M.o
   | some g=>exact⟨g,rfl⟩
  have Y:=Aa s;have ae:=Aa (jK.2 M.o);have bx:c.l.length<=900:=by have l:=h.o.cap;have r:=h.o.common;omega
  refine(take_any e.q g c.l b8 (by have G:=k.o.dM;rw[s]at G;exact G) bx ae.o).mono ?_;rintro i q ⟨⟨ce,rfl⟩,bc,E⟩
  have af:=Aa (show ¬(b.s=e.q\/b.s=g) from λa=>by
     rw[<-u.o]at a
     exact a.elim k.o.sq (k.o.sg g s))
  have bm:=Aa (show ¬(R=e.q\/R=g) from λa=>by
     rcases a with a | a
     ·have:=av.o R (.inr (.inl a));omega
     have:=av.o R (.inr (.inr (.inl (by rw[s,a]))));omega)
  have L:=Aa (an.o.keeps E af.o);have a3:=Aa (a2.o.keeps E bm.o);have aw:=Aa bc
  have ao:=Aa (show cB q c.k e.n c.c c.nt from k.o.note.keeps E (λd hi a=>by
       rcases a with a | a
       ·exact(k.o.sn d hi).2.1 a
       exact(k.o.sn d hi).2.2 (by rw[s,a])))
  have au:=Aa (aa.o.trans E (λd hi S=>by
       have ah:e.aQ x.k d:=by
        rcases hi with hi | hi
        ·exact .inr (.inl hi)
        exact .inr (.inr (.inl (by rw[s,hi])))
       rcases j.o.2 d ah with a | a
       ·exact a
       omega))
  clear E bc an a2 aa s;have bt:κ q b.s 34 (ι c.rel):=L.o.cell rfl;have bu:=L.o.frozen;have b1:IntKind.i64.wrap (c.rel+1)=c.rel+1:=by
   have l:=h.o.dJ;have r:=h.o.dE;have b9:=h.o.dH
   exact GY (by omega) (by omega)
  go_wp2_with fail
  have F:aA (λd=>d=b.s) q (q.setCell ⟨b.s,34,none⟩ (ι (c.rel+1))):=(aA.refl (λd=>d=b.s) q).setCell (p:=⟨b.s,34,none⟩) (Or.inl rfl) _;have W:=Aa (show aD (q.setCell ⟨b.s,34,none⟩ (ι (c.rel+1))) b.s (D8 e { c with rel:=c.rel+1 }) 98 from L.o.setCell 34 _);have Q:=Aa (a3.o.keeps F (λa=>by omega));have ax:=Aa (aw.o.keeps F (λa=>af.o (.inl a.symm)) (λbq ai a=>af.o (.inr (by cases ai;exact a.symm))));have ap:=Aa (show cB (q.setCell ⟨b.s,34,none⟩ (ι (c.rel+1))) c.k e.n c.c c.nt from ao.o.keeps F (λd hi a=>(k.o.sn d hi).1 (by rw[a,u.o])));have ab:=Aa (au.o.trans F (λd hi S=>.inl hi));clear F L a3 aw ao au bt bu b1;generalize q.setCell ⟨b.s,34,none⟩ (ι (c.rel+1))=H at *
  have bs:κ H b.s 27 (.func (.func (JO c.k)) (Et e.n.d) #[]):=W.o.cell rfl;have b2:=Q.o.c0;have b3:=Q.o.c1;have b4:=Q.o.c2;have b5:=Q.o.c3
  have bg:=Aa (show relS (x.l.length+1) x m=relS (c.l.length) (BS c m) m by
     rw[X.o]
     conv=>lhs;unfold relS
     rw[ig B.o,ig (by rw[v.o];have:=ay.o;omega)])
  have a0:=Aa (takeL_length c.l);have al:=cM (P:=λy=>0<=y.t/\y.t<=4611686018427387904) (by simp) h.o.times 0;rw[v.o]at al;have bz:=zMk c.k h.o.k1 h.o.k5;have bn:=Aa (show c.rel+1<=4611686018427387904 by have l:=h.o.dE;have r:=h.o.dH;have ca:0<c.l.length:=jK.2 (λi=>B.o (by rw[i];rfl));omega)
  have bl:=Aa (show ¬e.aQ x.k 2 from λa=>by
     rcases j.o.2 2 a with l | l
     ·exact az.o l
     have r:=a1.o.lt;omega)
  have bp:=Aa (show eG H from a1.o.keeps ab.o az.o);have aj:=h.o.fits _ (Gr M.o);rw[v.o]at aj;have bj:=Aa aj;clear aj;go_region_with (refine(zL4 (rel:=c.rel) (last:=c.last) c.k e.n c.c c.nt y m _ _ (by first | rfl | simp) (by exact ap.o.still (aA.refl _ _).drew) h.o.note bn.o h.o.valid h.o.kind h.o.k1 h.o.k5 b6 b7 al.1 al.2 (λa=>M2 bj.o a) (bp.o.keeps (aA.refl (λ_=>False) H).drew id) (λa=>bl.o (.inr (.inr (.inr (by rw[<-C.o];exact a))))) h.o.dR).mono ?_;rintro i V ⟨rfl,am,bb,a6,a8,ba⟩)
  all_goals
   have ad:=Aa (((aA.refl (BK c.k e.n) H).drew).then ba);have bk:=Aa bb;have bf:=Aa a6;have aq:=Aa a8;clear ba bb a6 a8 b2 b3 b4 b5 bs bz;go_wp2;go_roundg (c.l.length-1)
   case measure=>have l:=bh.o;have r:=ae.o;omega
   case rel =>
    have T:=k.o.sn;have ak:∀d,e.aQ c.k d->d<H.heap.size:=by
     have l:=W.o.lt;have r:=ax.o.lt;rintro d (hi | hi | hi | hi)
     ·rw[hi,u.o];exact l
     ·rw[hi];exact r.1
     ·rw[Y.o]at hi;exact(r.2 d hi).1
     exact ap.o.lt d hi
    have bv:∀d,BK c.k am d->d≠e.s/\d≠e.q/\e.g≠some d:=by
     intro d hi;rcases aq.o d hi with a | a
     ·exact T d a
     rw[kY]at a;refine⟨λi=>?_,λi=>?_,λi=>?_⟩
     ·have:=ak d (.inl i);omega
     ·have:=ak d (.inr (.inl i));omega
     have:=ak d (.inr (.inr (.inl i)));omega
    have b0:bJ V ⟨e.s,e.q,e.g,am⟩ (BS c m):=by
     refine Vm k.o Y.o ?_ (ax.o.keeps ad.o (λa=>(T _ a).2.1 rfl) (λbq ai a=>(T _ a).2.2 (by rw[Y.o];exact ai))) (by rw[v.o];exact bk.o) bf.o bv;rw[u.o];exact W.o.keeps ad.o (λa=>(T _ a).1 u.o.symm)
    refine⟨⟨e.s,e.q,e.g,am⟩,BS c m,b0,Ig h.o M.o m (by rw[v.o];have:=ay.o;omega),⟨j.o.1,λd hi=>?_⟩,ab.o.trans ad.o (λd hi S=>?_),C.o,a0.o,?_⟩
    ·rcases hi with hi | hi | hi | hi
     ·exact j.o.2 d (.inl hi)
     ·exact j.o.2 d (.inr (.inl hi))
     ·exact j.o.2 d (.inr (.inr (.inl hi)))
     rw[<-C.o]at hi;rcases aq.o d hi with a | a
     ·exact j.o.2 d (.inr (.inr (.inr (by rw[<-C.o];exact a))))
     rw[kY]at a;have:=ab.o.size;exact .inr (by omega)
    ·have ah:e.aQ x.k d:=.inr (.inr (.inr (by rw[<-C.o];exact hi)));rcases j.o.2 d ah with a | a
     ·exact a
     omega
    show _=relS ((takeL c.l).length+1) (BS c m) m;rw[bg.o,a0.o,show c.l.length-1+1=c.l.length by have:=ae.o;omega]
def Ac(l:List Int)(j:Nat): Int:=l.getD j 0
theorem Ea(b:SB)(x:aJ)(h:x.ref.length=12)(j:Nat)(e:j<12): (D8 b x)[35+j]?=some (ι (Ac x.ref j)):=by
 have a:(D8 b x)[35+j]?=(x.ref.map (λd=>Value.int .i64 d))[j]?:=by
  rw[k6];rfl
 rw[a,iS];have c:j<x.ref.length:=by omega
 simp[Ac,c]
def ints(l:List Int): List Value:=l.map (λv=>Value.int .i64 v)
def AE: List Nat:=[5,6,7,8,10,9,11]
def BM(x:aJ): List Int:=x.acc::x.rel::AE.map (Ac x.ref)
theorem Ey: (prog.info? 3).map (λa=>(a.zero,a.size,a.bytes))=some (some (ι 0),1,8):=by kernel_rfl
theorem Ll(w:World): (Instr.index 127 (.agg #[ι 5,ι 6,ι 7,ι 8,ι 10,ι 9,ι 11]) (ι 0)).run prog w=.ok (ι 5) w:=by kernel_rfl
theorem Lm(w:World): (Instr.index 127 (.agg #[ι 5,ι 6,ι 7,ι 8,ι 10,ι 9,ι 11]) (ι 1)).run prog w=.ok (ι 6) w:=by kernel_rfl
theorem Ln(w:World): (Instr.index 127 (.agg #[ι 5,ι 6,ι 7,ι 8,ι 10,ι 9,ι 11]) (ι 2)).run prog w=.ok (ι 7) w:=by kernel_rfl
theorem Lo(w:World): (Instr.index 127 (.agg #[ι 5,ι 6,ι 7,ι 8,ι 10,ι 9,ι 11]) (ι 3)).run prog w=.ok (ι 8) w:=by kernel_rfl
theorem Lp(w:World): (Instr.index 127 (.agg #[ι 5,ι 6,ι 7,ι 8,ι 10,ι 9,ι 11]) (ι 4)).run prog w=.ok (ι 10) w:=by kernel_rfl
theorem Lq(w:World): (Instr.index 127 (.agg #[ι 5,ι 6,ι 7,ι 8,ι 10,ι 9,ι 11]) (ι 5)).run prog w=.ok (ι 9) w:=by kernel_rfl
theorem Lr(w:World): (Instr.index 127 (.agg #[ι 5,ι 6,ι 7,ι 8,ι 10,ι 9,ι 11]) (ι 6)).run prog w=.ok (ι 11) w:=by kernel_rfl
theorem U4{w w':World}{base:Nat}{t size:Nat}{v:Value}{n:Nat}{d:List Value}(a:w.ownsRow base t size v n d)(k:lX w w'): w'.ownsRow base t size v n d:=by
 refine⟨a.1,?_⟩;rcases a.2 with i | ⟨g,e,h,rfl,j,c,l⟩
 ·exact .inl i
 exact .inr ⟨g,e,h,rfl,j,by rw[k.block g (js.1 c).1 id];exact c,l⟩
theorem ML(w:World):
  Calls prog 71 #[] w λa c=>a=.returned (.agg #[ι 5,ι 6,ι 7,ι 8,ι 10,ι 9,ι 11])/\lX w c:=by
 go_enter func71,ntmps71;go_wp2;refine iV (v:=.agg #[ι 5,ι 6,ι 7,ι 8,ι 10,ι 9,ι 11]) (by simp[results,results71,go_sem]) rfl ⟨rfl,?_⟩
 repeat (first | exact aA.refl _ _ | apply aA.alloc)
attribute [local go_sem] Ll Lm Ln Lo Lp Lq Lr
theorem TQ(n:Int)(b:SB)(x:aJ)(w:World)(G:bJ w b x)(hi:aT n x):
  Calls prog 45 #[π b.s] w λM P=>∃l,M=.returned l/\P.ownsRow w.heap.size 3 1 l 9 (ints (BM x))/\lX w P:=by
 have Q:=Aa G.aF;have q:=Aa hi;have V:κ w b.s 33 (ι x.acc):=G.aF.cell rfl;have W:κ w b.s 34 (ι x.rel):=G.aF.cell rfl;clear G hi;obtain⟨z,r,s,u,v⟩:=jg Ey;go_enter func45,ntmps45;go_wp2_with fail
 go_region
 go_wp2_with fail
 have O:lX w (w.alloc (.cells #[ι x.acc,ι x.rel] 3)).drew:=((aA.refl _ w).alloc _).drew;have N:(w.alloc (.cells #[ι x.acc,ι x.rel] 3)).drew.ownsRow w.heap.size 3 1 (σ w.heap.size 2 2) 2 (ints ((BM x).take 2)) :=
  ⟨rfl,.inr ⟨w.heap.size,2,#[ι x.acc,ι x.rel],rfl,by omega,iH w (.cells #[ι x.acc,ι x.rel] 3),by omega,by unfold maxLen;omega,rfl,rfl⟩⟩
 have J:=Aa O;have L:=Aa N;clear O N V W;generalize(w.alloc (.cells #[ι x.acc,ι x.rel] 3)).drew=T at *
 refine(ML T).mono ?_;rintro M X ⟨rfl,H⟩;have R:=Aa (J.o.then H);have S:=Aa (U4 L.o H);clear H J L;go_wp2_with fail
 go_loopw [3,16] (λl I wr=>∃e:Nat,e<=7/\I=ι e/\Hid (wr.ownsRow w.heap.size 3 1 l (2+e) (ints ((BM x).take (2+e))))/\Hid (lX w wr)) (λ_ I _=>7-(intOf I).toNat)
 case atStart=>exact⟨0,by omega,rfl,S,R⟩
 case round =>
  obtain⟨e,Y,rfl,d,c⟩:=hrel;have o:=Aa (Q.o.keeps c.o (λU=>U));generalize u3=l at *
  by_cases Z:e<7
  ·have m:e=0\/e=1\/e=2\/e=3\/e=4\/e=5\/e=6:=by omega
   rcases m with m | m | m | m | m | m | m;all_goals subst m
   ·have D:κ wr b.s 40 (ι (Ac x.ref 5)):=o.o.cell (Ea b x q.o.bS 5 (by omega));have h:=Aa (show ints ((BM x).take (2+0))++[ι (Ac x.ref 5)]=ints ((BM x).take (2+1)) from rfl);go_wp2_with (at_builtin;refine jf _ rfl _ _ _ rfl w.heap.size 3 z _ 1 8 underlying37 r s u v rfl (by omega) l (2+0) (ints ((BM x).take (2+0))) rfl (d.o.alloc _) ⟨wr.heap.size,0,none⟩ 1 1 [ι (Ac x.ref 5)] rfl rfl (iJ (cs:=#[ι (Ac x.ref 5)]) (t:=3) (fr:=(0,0)) (iH wr _)) (by simp[Value.oneCell']) (by omega) (by unfold maxLen;omega) (by omega) (by have:=c.o.size;simp;omega) (wr.heap.size+1) (by simp) ?_;intro B A F a i C E)
    rw[h.o]at a;go_roundw;case rel =>
     refine⟨1,by omega,rfl,a,(c.o.alloc _).grown i (λk j=>Or.inr (d.o.lt k j).1)⟩
    case measure=>simp[intOf]
   ·have D:κ wr b.s 41 (ι (Ac x.ref 6)):=o.o.cell (Ea b x q.o.bS 6 (by omega));have h:=Aa (show ints ((BM x).take (2+1))++[ι (Ac x.ref 6)]=ints ((BM x).take (2+2)) from rfl);go_wp2_with (at_builtin;refine jf _ rfl _ _ _ rfl w.heap.size 3 z _ 1 8 underlying37 r s u v rfl (by omega) l (2+1) (ints ((BM x).take (2+1))) rfl (d.o.alloc _) ⟨wr.heap.size,0,none⟩ 1 1 [ι (Ac x.ref 6)] rfl rfl (iJ (cs:=#[ι (Ac x.ref 6)]) (t:=3) (fr:=(0,0)) (iH wr _)) (by simp[Value.oneCell']) (by omega) (by unfold maxLen;omega) (by omega) (by have:=c.o.size;simp;omega) (wr.heap.size+1) (by simp) ?_;intro B A F a i C E)
    rw[h.o]at a;go_roundw;case rel =>
     refine⟨2,by omega,rfl,a,(c.o.alloc _).grown i (λk j=>Or.inr (d.o.lt k j).1)⟩
    case measure=>simp[intOf]
   ·have D:κ wr b.s 42 (ι (Ac x.ref 7)):=o.o.cell (Ea b x q.o.bS 7 (by omega));have h:=Aa (show ints ((BM x).take (2+2))++[ι (Ac x.ref 7)]=ints ((BM x).take (2+3)) from rfl);go_wp2_with (at_builtin;refine jf _ rfl _ _ _ rfl w.heap.size 3 z _ 1 8 underlying37 r s u v rfl (by omega) l (2+2) (ints ((BM x).take (2+2))) rfl (d.o.alloc _) ⟨wr.heap.size,0,none⟩ 1 1 [ι (Ac x.ref 7)] rfl rfl (iJ (cs:=#[ι (Ac x.ref 7)]) (t:=3) (fr:=(0,0)) (iH wr _)) (by simp[Value.oneCell']) (by omega) (by unfold maxLen;omega) (by omega) (by have:=c.o.size;simp;omega) (wr.heap.size+1) (by simp) ?_;intro B A F a i C E)
    rw[h.o]at a;go_roundw;case rel =>
     refine⟨3,by omega,rfl,a,(c.o.alloc _).grown i (λk j=>Or.inr (d.o.lt k j).1)⟩
    case measure=>simp[intOf]
   ·have D:κ wr b.s 43 (ι (Ac x.ref 8)):=o.o.cell (Ea b x q.o.bS 8 (by omega));have h:=Aa (show ints ((BM x).take (2+3))++[ι (Ac x.ref 8)]=ints ((BM x).take (2+4)) from rfl);go_wp2_with (at_builtin;refine jf _ rfl _ _ _ rfl w.heap.size 3 z _ 1 8 underlying37 r s u v rfl (by omega) l (2+3) (ints ((BM x).take (2+3))) rfl (d.o.alloc _) ⟨wr.heap.size,0,none⟩ 1 1 [ι (Ac x.ref 8)] rfl rfl (iJ (cs:=#[ι (Ac x.ref 8)]) (t:=3) (fr:=(0,0)) (iH wr _)) (by simp[Value.oneCell']) (by omega) (by unfold maxLen;omega) (by omega) (by have:=c.o.size;simp;omega) (wr.heap.size+1) (by simp) ?_;intro B A F a i C E)
    rw[h.o]at a;go_roundw;case rel =>
     refine⟨4,by omega,rfl,a,(c.o.alloc _).grown i (λk j=>Or.inr (d.o.lt k j).1)⟩
    case measure=>simp[intOf]
   ·have D:κ wr b.s 45 (ι (Ac x.ref 10)):=o.o.cell (Ea b x q.o.bS 10 (by omega));have h:=Aa (show ints ((BM x).take (2+4))++[ι (Ac x.ref 10)]=ints ((BM x).take (2+5)) from rfl);go_wp2_with (at_builtin;refine jf _ rfl _ _ _ rfl w.heap.size 3 z _ 1 8 underlying37 r s u v rfl (by omega) l (2+4) (ints ((BM x).take (2+4))) rfl (d.o.alloc _) ⟨wr.heap.size,0,none⟩ 1 1 [ι (Ac x.ref 10)] rfl rfl (iJ (cs:=#[ι (Ac x.ref 10)]) (t:=3) (fr:=(0,0)) (iH wr _)) (by simp[Value.oneCell']) (by omega) (by unfold maxLen;omega) (by omega) (by have:=c.o.size;simp;omega) (wr.heap.size+1) (by simp) ?_;intro B A F a i C E)
    rw[h.o]at a;go_roundw;case rel =>
     refine⟨5,by omega,rfl,a,(c.o.alloc _).grown i (λk j=>Or.inr (d.o.lt k j).1)⟩
    case measure=>simp[intOf]
   ·have D:κ wr b.s 44 (ι (Ac x.ref 9)):=o.o.cell (Ea b x q.o.bS 9 (by omega));have h:=Aa (show ints ((BM x).take (2+5))++[ι (Ac x.ref 9)]=ints ((BM x).take (2+6)) from rfl);go_wp2_with (at_builtin;refine jf _ rfl _ _ _ rfl w.heap.size 3 z _ 1 8 underlying37 r s u v rfl (by omega) l (2+5) (ints ((BM x).take (2+5))) rfl (d.o.alloc _) ⟨wr.heap.size,0,none⟩ 1 1 [ι (Ac x.ref 9)] rfl rfl (iJ (cs:=#[ι (Ac x.ref 9)]) (t:=3) (fr:=(0,0)) (iH wr _)) (by simp[Value.oneCell']) (by omega) (by unfold maxLen;omega) (by omega) (by have:=c.o.size;simp;omega) (wr.heap.size+1) (by simp) ?_;intro B A F a i C E)
    rw[h.o]at a;go_roundw;case rel =>
     refine⟨6,by omega,rfl,a,(c.o.alloc _).grown i (λk j=>Or.inr (d.o.lt k j).1)⟩
    case measure=>simp[intOf]
   have D:κ wr b.s 46 (ι (Ac x.ref 11)):=o.o.cell (Ea b x q.o.bS 11 (by omega));have h:=Aa (show ints ((BM x).take (2+6))++[ι (Ac x.ref 11)]=ints ((BM x).take (2+7)) from rfl);go_wp2_with (at_builtin;refine jf _ rfl _ _ _ rfl w.heap.size 3 z _ 1 8 underlying37 r s u v rfl (by omega) l (2+6) (ints ((BM x).take (2+6))) rfl (d.o.alloc _) ⟨wr.heap.size,0,none⟩ 1 1 [ι (Ac x.ref 11)] rfl rfl (iJ (cs:=#[ι (Ac x.ref 11)]) (t:=3) (fr:=(0,0)) (iH wr _)) (by simp[Value.oneCell']) (by omega) (by unfold maxLen;omega) (by omega) (by have:=c.o.size;simp;omega) (wr.heap.size+1) (by simp) ?_;intro B A F a i C E)
   rw[h.o]at a;go_roundw;case rel =>
    refine⟨7,by omega,rfl,a,(c.o.alloc _).grown i (λk j=>Or.inr (d.o.lt k j).1)⟩
   case measure=>simp[intOf]
  have m:e=7:=by omega
  subst m;go_wp2;go_ret;exact⟨_,rfl,d.o,c.o⟩
end
section
attribute [local go_sem ↓] AH Bs
attribute [local go_sem] AI Bt A3 A4 AJ AL B8 B9 Bd B2
def AT(id:Int)(c:Cfg)(k:Nat): aJ:=⟨id,c,k,0,0,[0,0,0,0,0,0,0,0,0,0,0,0],[],CH,0⟩
theorem zLz(id:Int)(c:Cfg)(f n p h k s a d i v l:Value)(e:Nat)(w:World):
  (Instr.build 98 #[(0,ι id),(1,c.val),(2,.agg #[f,n,p,h,k,s]),(3,.agg #[a,d,i,v,l]),(4,π e)]).run prog w =
  .ok (.agg (ι id::c.eC [f,n,p,h,k,s,a,d,i,v,l,π e,ι 0,ι 0,ι 0,ι 0,ι 0,ι 0,ι 0,ι 0,ι 0,ι 0,ι 0,ι 0,ι 0,ι 0]).toArray) w:=by kernel_rfl
def GT(ty:TypeId)(ps:Array (Nat×Value)): Sem Next:=do pure (.value (<-Instr.build ty ps))
theorem Su(ρ:Operand->Value)(dst:Option Tmp)(x:Array (Nat×Operand))(c:TypeId)(pos:String)(after:Array Edge)(guard:Option (Nat×Bool)):
  execOp ρ { dst,op:=.build 98 x,type:=c,pos,after,guard }=GT 98 (x.map λ(a,y)=>(a,ρ y)):=rfl
theorem Ut(id:Int)(c:Cfg)(f n p h k s a d i v l:Value)(e:Nat)(w:World):
  (GT 98 #[(0,ι id),(1,.agg c.cells.toArray),(2,.agg #[f,n,p,h,k,s]),(3,.agg #[a,d,i,v,l]),(4,π e)]).run prog w =
  .ok (.value (.agg (ι id::c.eC [f,n,p,h,k,s,a,d,i,v,l,π e,ι 0,ι 0,ι 0,ι 0,ι 0,ι 0,ι 0,ι 0,ι 0,ι 0,ι 0,ι 0,ι 0,ι 0]).toArray)) w:=by
 unfold GT;rw[jq];have:=zLz id c f n p h k s a d i v l e w;unfold Cfg.val at this;unfold Cfg.cells;rw[this];rfl
attribute [local go_sem ↓] Su
attribute [local go_sem] Ut
theorem NC(id:Int)(c:Cfg)(k:Nat)(w:World)(q:1<=k)(E:k<=5)(J:Ak c=true)(G:c.kind=k):
  Calls prog 37 #[ι id,c.val,.agg (B6 k).toArray] w λu m=>∃b,u=.returned (π b.s)/\bJ m b (AT id c k)/\(∀l,b.aQ k l->w.heap.size<=l)/\lX w m:=by
 have U:=Xy k q E;have N:=Aa G;have O:=Aa J;clear G J;have s:=Aa (show aD ((w.alloc (.cells c.cells.toArray 46)).alloc (.cells (B6 k).toArray 75)) w.heap.size c.cells 46 from(aD.new w c.cells 46).alloc _);have o:=Aa (show aD ((w.alloc (.cells c.cells.toArray 46)).alloc (.cells (B6 k).toArray 75)) (w.heap.size+1) (B6 k) 75 from aD.newAt (by simp) _ _);have C:=Aa (((aA.refl (λ_=>False) w).alloc (.cells c.cells.toArray 46)).alloc (.cells (B6 k).toArray 75));have Q:∃i,i=((w.alloc (.cells c.cells.toArray 46)).alloc (.cells (B6 k).toArray 75)):=⟨_,rfl⟩;unfold Cfg.val B6 fn;go_enter func37,ntmps37;go_wp2_with fail
 obtain⟨i,v⟩:=Q;have D:(w.alloc (.cells #[ι c.kind,ι c.aL,ι c.bF,ι c.cap,ι c.k,ι c.aB,ι c.bits,ι c.rows,ι c.width,ι c.aM,ι c.size,ι c.degree,ι c.half,ι c.mark,ι c.bV,ι c.bW,ι c.cI,ι c.cJ,ι c.cS,ι c.cT] 46)).alloc (.cells #[.func (.func (Bi k)) #[] #[],.func (.func (AU k)) #[] #[],.func (.func (AV k)) #[] #[],.func (.func (AO k)) #[] #[],.func (.func (AR k)) #[] #[],.func (.func (Be k)) #[] #[]] 75)=i:=v.symm;rw[D];rw[<-v]at s o C;clear D v;generalize x:w.heap.size=d at *
 have M:=Aa x;clear x;have W:d+1<i.heap.size:=o.o.lt;have I:d<i.heap.size:=s.o.lt;obtain⟨X,T⟩:=CM s.o 20 rfl;have Y:κ i (d+1) 0 (.func (.func (Bi k)) #[] #[]):=o.o.cell rfl;have Z:κ i (d+1) 1 (.func (.func (AU k)) #[] #[]):=o.o.cell rfl;have aa:κ i (d+1) 2 (.func (.func (AV k)) #[] #[]):=o.o.cell rfl;have ab:κ i (d+1) 3 (.func (.func (AO k)) #[] #[]):=o.o.cell rfl;have ad:κ i (d+1) 4 (.func (.func (AR k)) #[] #[]):=o.o.cell rfl;have ae:κ i (d+1) 5 (.func (.func (Be k)) #[] #[]):=o.o.cell rfl;go_region_held3 (λm=>Ap m d 0 20=.agg c.cells.toArray/\Az m d 0 20=true/\m.cell? ⟨d+1,0,none⟩=some (.func (.func (Bi k)) #[] #[])/\m.cell? ⟨d+1,1,none⟩=some (.func (.func (AU k)) #[] #[])/\m.cell? ⟨d+1,2,none⟩=some (.func (.func (AV k)) #[] #[])/\m.cell? ⟨d+1,3,none⟩=some (.func (.func (AO k)) #[] #[])/\m.cell? ⟨d+1,4,none⟩=some (.func (.func (AR k)) #[] #[])/\m.cell? ⟨d+1,5,none⟩=some (.func (.func (Be k)) #[] #[]))
  (first | (simp[*,A3,A4,B8,B9,World.cell?_alloc_some];done) | (go_split_ands;exact⟨(Cf n (λa=>a) (by have:=j.size;simp at this;omega)).1.trans (by assumption),(Cf n (λa=>a) (by have:=j.size;simp at this;omega)).2.trans (by assumption),n.cell (by assumption) (λa=>a),n.cell (by assumption) (λa=>a),n.cell (by assumption) (λa=>a),n.cell (by assumption) (λa=>a),n.cell (by assumption) (λa=>a),n.cell (by assumption) (λa=>a)⟩) | (go_split_ands;exact⟨(Cf j (λa=>a) (by simpa using I)).1.trans (by assumption),(Cf j (λa=>a) (by simpa using I)).2.trans (by assumption),j.cell (by assumption) (λa=>a),j.cell (by assumption) (λa=>a),j.cell (by assumption) (λa=>a),j.cell (by assumption) (λa=>a),j.cell (by assumption) (λa=>a),j.cell (by assumption) (λa=>a)⟩))
  (first | (go_at_call 65;refine(new_any _).mono ?_;rintro u r ⟨rfl,S,n,B⟩) | (refine(XS c k _ q E O.o N.o).mono ?_;rintro u h ⟨L,rfl,P,A,j⟩))
 go_wp2;go_ret;have H:lX w h:=(C.o.drew).then j;have V:=H.size;have F:∀t,lX r (r.alloc t):=λt=>(aA.refl (λ_=>False) r).alloc t;have x:=M.o;have R:=A.still n;have B:r.heap.size=h.heap.size+1:=B;refine⟨⟨h.heap.size+1,h.heap.size,none,L⟩,rfl,⟨aD.newAt B (D8 ⟨h.heap.size+1,h.heap.size,none,L⟩ (AT id c k)) 98,S.keeps (F _) (λa=>a) (λ_ _ a=>a),R.still (F _),?_,?_,λl e=>⟨?_,?_,?_⟩⟩,?_,(H.then n).alloc _⟩
 ·show h.heap.size+1≠h.heap.size;omega
 ·intro g z;cases z
 ·have:=A.lt l e;show l≠h.heap.size+1;omega
 ·have:=A.lt l e;show l≠h.heap.size;omega
 ·intro z;cases z
 intro l e;rcases e with e | e | e | e
 ·have:l=h.heap.size+1:=e;omega
 ·have:l=h.heap.size:=e;omega
 ·cases e
 have q:=P l e;rw[kY]at q;omega
end
section
attribute [local go_sem ↓] AH Bs
attribute [local go_sem] AI Bt A3 A4 AJ AL B8 B9 Bd B2
structure aO where
 kind:Int
 id:Int
 a:Int
 b:Int
 c:Int
 cfg:Cfg
 bytes:ByteArray
def aO.cells(o:aO): List Value:=ι o.kind::ι o.id::ι o.a::ι o.b::ι o.c::o.cfg.eC [.string o.bytes]
def aO.val(o:aO): Value:=.agg o.cells.toArray
def Ai: ByteArray:=⟨#[]⟩
def Aw(code:Int)(v:Value): Value:=.agg #[ι code,v,.string Ai]
def Hq(code:Int)(v:Value)(bs:ByteArray): Value:=.agg #[ι code,v,.string bs]
theorem I0(w:World)(b:Nat)(x y c:Value): aA (λa=>a=b) w (((w.setCell ⟨b,0,none⟩ x).setCell ⟨b,1,none⟩ y).setCell ⟨b,2,none⟩ c):=(((aA.refl (λa=>a=b) w).setCell (p:=⟨b,0,none⟩) (Or.inl rfl) _).setCell (p:=⟨b,1,none⟩) (Or.inl rfl) _).setCell (p:=⟨b,2,none⟩) (Or.inl rfl) _
theorem CC(w:World)(cs:List Value): ∃a,a=(w.alloc (.cells cs.toArray 48)).alloc (.cells #[ι 0,.slice none 0 0,.string ⟨#[]⟩] 39)/\Hid (lX w a)/\Hid (aD a w.heap.size cs 48)/\Hid (aD a (w.heap.size+1) [ι 0,.slice none 0 0,.string Ai] 39) :=
 ⟨_,rfl,((aA.refl (λ_=>False) w).alloc _).alloc _,(aD.new w cs 48).alloc _,aD.newAt (by simp) [_,_,_] 39⟩
theorem Qo{fn:Func}{R:Ending->World->Prop}{a:Act}{e:World}{c:Nat}{x y m nv:Value}{code:Int}{bs:ByteArray}{T:TypeId}(h:aD e c [x,y,m] T)(k:∀d,aD d c [ι code,nv,.string bs] T->(results fn a.tmps).run prog d=.ok (Hq code nv bs) d)(j:a.defers=[])(i:∀d,aA (λl=>l=c) e d->R (.returned (Hq code nv bs)) d):
  bodyPost prog fn R .ret a (((e.setCell ⟨c,0,none⟩ (ι code)).setCell ⟨c,1,none⟩ nv).setCell ⟨c,2,none⟩ (.string bs)) :=
 iV (k _ (((h.setCell 0 _).setCell 1 _).setCell 2 _)) j (i _ (I0 _ _ _ _ _))
theorem Dj{fn:Func}{R:Ending->World->Prop}{a:Act}{e:World}{c:Nat}{x y m nv:Value}{code:Int}{T:TypeId}(h:aD e c [x,y,m] T)(k:∀d,aD d c [ι code,nv,.string Ai] T->(results fn a.tmps).run prog d=.ok (Aw code nv) d)(j:a.defers=[])(i:∀d,aA (λl=>l=c) e d->R (.returned (Aw code nv)) d):
  bodyPost prog fn R .ret a (((e.setCell ⟨c,0,none⟩ (ι code)).setCell ⟨c,1,none⟩ nv).setCell ⟨c,2,none⟩ (.string Ai)):=Qo h k j i
theorem EE(code:Int)(w:World):
  Calls prog 27 #[ι code] w λa c=>a=.returned (Aw code (.slice none 0 0))/\lX w c:=by
 go_enter func27,ntmps27;go_wp2;refine iV (v:=Aw code (.slice none 0 0)) (by simp[results,results27,go_sem,Aw];rfl) rfl ⟨rfl,?_⟩
 repeat (first | exact aA.refl _ _ | apply aA.alloc)
def Ba(ps:List (SB×aJ)): List Value:=ps.map λp=>π p.1.s
structure aX (w:World) (e:Nat) (v:Value) (clock:Int) (ps:List (SB×aJ)):Prop where
 aF:aD w e [ι clock,v] 53
 row:w.ownsRow 0 66 1 v ps.length (Ba ps)
 bM:∀p,p∈ps->bJ w p.1 p.2
 apart:ps.Pairwise (λp q=>∀i,p.1.aQ p.2.k i->¬q.1.aQ q.2.k i)
 ev:v.ownBlock≠some e
 ef:∀p,p∈ps->∀i,p.1.aQ p.2.k i->i≠e/\v.ownBlock≠some i
def aN(e:Nat)(v:Value)(ps:List (SB×aJ))(i:Nat): Prop:=i=e\/v.ownBlock=some i\/∃p,p∈ps/\p.1.aQ p.2.k i
theorem M1{w:World}{v:Value}{n:Nat}{j:List Value}(i:w.ownsRow 0 66 1 v n j): (n=0/\(v=.slice none 0 0\/∃g a,v=σ g 0 a))\/∃g a,v=σ g n a/\∀d e,j[d]?=some e->w.cell? ⟨g,d,none⟩=some e:=by
 rcases i.2 with ⟨h,l⟩ | ⟨g,a,k,h,_,m,q,r,s,o⟩
 ·exact .inl ⟨l,.inl h⟩
 refine .inr ⟨g,a,h,λd e c=>?_⟩;have t:d<n:=by have:=(iq.1 c).1;have:=i.1;omega
 have:k[d]?=some e:=by
  rw[<-o]at c;rw[iW]at c;rw[ij (by omega)]at c;simpa using c
 simp[World.cell?,m,this]
def Cj(ps:List (SB×aJ))(id:Int): Option (SB×aJ):=ps.find? (λp=>p.2.id==id)
def EH: Option (SB×aJ)->Value
 | some p=>π p.1.s
 | none=>.pointer none
theorem ET(e:Nat)(v:Value)(clock id:Int)(ps:List (SB×aJ))(w:World)(i:aX w e v clock ps)(I:ps.length<=1000):
  Calls prog 35 #[π e,ι id] w λA B=>A=.returned (EH (Cj ps id))/\B=w:=by
 have C:=i.aF.c1;rcases M1 i.row with ⟨q,d⟩ | ⟨g,x,d,r⟩
 ·have z:ps=[]:=iR.1 q;subst z;clear i q;rcases d with d | ⟨g,x,d⟩;all_goals
   subst d;go_enter func35,ntmps35;go_wp2;go_loop [12] (λj=>j=ι 0) (λ_=>0)
   case atStart=>rfl
   case round =>
    subst hrel;go_wp2;go_ret;exact⟨rfl,rfl⟩
 subst d;have t:=Aa r;have u:=Aa (show ∀p,p∈ps->κ w p.1.s 0 (ι p.2.id) from λp c=>(i.bM p c).aF.cell rfl);clear i r;generalize s:ps.length=m at *
 have k:=Aa s;clear s;go_enter func35,ntmps35;go_wp2;go_loop [12] (λj=>∃a:Nat,a<=m/\j=ι a/\Hid (Cj ps id=Cj (ps.drop a) id)) (λj=>m-(intOf j).toNat)
 case atStart=>exact⟨0,iT _,rfl,rfl⟩
 case round =>
  obtain⟨a,F,rfl,n⟩:=hrel;by_cases o:a<m
  ·obtain⟨p,c⟩:∃p,ps[a]?=some p:=⟨ps[a]'(by rw[k.o];exact o),h9 _⟩;have l:ps.drop a=p::ps.drop (a+1):=by
    rw[δ (by rw[k.o];exact o)];rw[h9 (by rw[k.o];exact o)]at c;cases c;rfl
   have D:κ w g a (π p.1.s):=t.o a _ (by unfold Ba;rw[iS,c];rfl);have E:=u.o p (iz c);have G:(0:Int)<=(a:Int):=by omega
   have H:(a:Int)<(m:Int):=by omega
   cases hb:(p.2.id==id)
   ·have h:=Aa (show Cj ps id=Cj (ps.drop (a+1)) id by rw[n.o,l];unfold Cj;rw[kP];rw[hb]);clear l c;go_wp2;go_round;case rel=>exact⟨a+1,by omega,by go_num,h⟩
    case measure=>simp[intOf];omega
   have h:=Aa (show Cj ps id=some p by rw[n.o,l];unfold Cj;rw[kP];rw[hb]);clear l c;go_wp2;go_ret;exact⟨by rw[h.o];rfl,rfl⟩
  have h:=Aa (show Cj ps id=none by rw[n.o,iX (by rw[k.o];omega)];rfl);go_wp2;go_ret;exact⟨by rw[h.o];rfl,rfl⟩
theorem aX.lt{w:World}{e:Nat}{v:Value}{clock:Int}{ps:List (SB×aJ)}(a:aX w e v clock ps)(i:Nat)(hi:aN e v ps i): i<w.heap.size:=by
 rcases hi with hi | hi | ⟨p,c,hi⟩
 ·subst hi;exact a.aF.lt
 ·exact(a.row.lt i hi).2
 exact(a.bM p c).lt i hi
theorem An{M:Nat->Prop}{w w':World}{base:Nat}{t size:Nat}{v:Value}{n:Nat}{e:List Value}(a:w.ownsRow base t size v n e)(l:aA M w w')(m:∀d,v.ownBlock=some d->¬M d): w'.ownsRow base t size v n e:=by
 refine⟨a.1,?_⟩;rcases a.2 with j | ⟨g,h,i,rfl,k,c,o⟩
 ·exact .inl j
 exact .inr ⟨g,h,i,rfl,k,by rw[l.block g (js.1 c).1 (m g rfl)];exact c,o⟩
theorem EQ{w:World}{base a:Nat}{t size:Nat}{v:Value}{n:Nat}{d:List Value}(c:w.ownsRow base t size v n d)(j:a<=base): w.ownsRow a t size v n d:=by
 refine⟨c.1,?_⟩;rcases c.2 with i | ⟨g,e,h,rfl,k,l⟩
 ·exact .inl i
 exact .inr ⟨g,e,h,rfl,jN j k,l⟩
theorem aX.keeps{M:Nat->Prop}{w w':World}{e:Nat}{v:Value}{clock:Int}{ps:List (SB×aJ)}(a:aX w e v clock ps)(h:aA M w w')(i:∀c,aN e v ps c->¬M c): aX w' e v clock ps :=
 ⟨a.aF.keeps h (i _ (.inl rfl)),An a.row h (λc d=>i c (.inr (.inl d))),λp j=>(a.bM p j).keeps h (λc d=>i c (.inr (.inr ⟨p,j,d⟩))),a.apart,a.ev,a.ef⟩
theorem aX.still{w w':World}{e:Nat}{v:Value}{clock:Int}{ps:List (SB×aJ)}(a:aX w e v clock ps)(c:lX w w'): aX w' e v clock ps:=a.keeps c (λ_ _ a=>a)
def aS(w:World)(e:Nat)(v:Value)(ps:List (SB×aJ))(aV:Int)(xs':List aJ)(code:Int)(aI:List Int)(r:Ending)(w':World): Prop :=
 ∃nv v' ps',r=.returned (Aw code nv)/\aX w' e v' aV ps'/\ps'.map (·.2)=xs'/\w'.ownsRow w.heap.size 3 1 nv aI.length (ints aI)/\aA (aN e v ps) w w' /\
  (∀i,aN e v' ps' i->aN e v ps i\/w.heap.size<=i)/\(∀i,nv.ownBlock=some i->¬aN e v' ps' i)
def Kx(w:World)(e:Nat)(v:Value)(ps:List (SB×aJ))(aV:Int)(xs':List aJ)(code:Int)(aI:List Int)(bs:ByteArray)(r:Ending)(w':World): Prop :=
 ∃nv v' ps',r=.returned (Hq code nv bs)/\aX w' e v' aV ps'/\ps'.map (·.2)=xs'/\w'.ownsRow w.heap.size 3 1 nv aI.length (ints aI)/\aA (aN e v ps) w w' /\
  (∀i,aN e v' ps' i->aN e v ps i\/w.heap.size<=i)/\(∀i,nv.ownBlock=some i->¬aN e v' ps' i)
theorem aS.b{w:World}{e:Nat}{v:Value}{ps:List (SB×aJ)}{aV:Int}{c:List aJ}{code:Int}{aI:List Int}{a:Ending}{w':World}(d:aS w e v ps aV c code aI a w'): Kx w e v ps aV c code aI Ai a w':=d
theorem Ez{w w':World}{e:Nat}{v:Value}{clock:Int}{ps:List (SB×aJ)}{code:Int}{aI:List Int}{nv:Value}(a:aX w e v clock ps)(h:lX w w')(i:w'.ownsRow w.heap.size 3 1 nv aI.length (ints aI)):
  aS w e v ps clock (ps.map (·.2)) code aI (.returned (Aw code nv)) w':=by
 refine⟨nv,v,ps,rfl,a.still h,rfl,i,h.mono (λ_ _ a=>a.elim),λd c=>.inl c,λd c j=>?_⟩;have k:=a.lt d j;have l:=(i.lt d c).1;omega
structure bQ (n:Int) (clock:Int) (xs:List aJ):Prop where
 c0:0<=clock
 c1:clock<=4611686018427387904
 bX:xs.length<=6
 bD:∀x,x∈xs->aT n x
 marks:∀x,x∈xs->x.last=0\/x.last<=clock-x.c.aL
theorem ZM(n:Int)(e:Nat)(v:Value)(clock:Int)(ps:List (SB×aJ))(o:aO)(w:World)(a:aX w e v clock ps)(hi:bQ n clock (ps.map (·.2)))(q:Cj ps o.id=none):
  Calls prog 24 #[π e,o.val] w λj H=>aS w e v ps clock (ps.map (·.2)) 2 [] j H:=by
 have J:o.cells[1]?=some (ι o.id):=rfl;have k:=Aa a;have G:ps.length<=1000:=by have:=hi.bX;rw[iu]at this;omega
 have A:=Aa q;clear a hi q;unfold aO.val;go_enter func24,ntmps24;go_wp2_with fail
 obtain⟨t,r,l,I,E⟩:=CC w o.cells;have z:=Aa (k.o.still l.o);rw[<-r];clear r;generalize h:w.heap.size=N at *
 have D:=Aa h;clear h;refine(ET e v clock o.id ps t z.o G).mono ?_;rintro j u ⟨rfl,s⟩;rw[s];clear s u;rw[A.o];unfold EH;go_wp2_with fail
 refine(EE 2 t).mono ?_;rintro j u ⟨rfl,c⟩;unfold Aw;have m:=Aa (E.o.keeps c id);have B:=Aa (l.o.then c);clear c;obtain⟨O,P,Q,R⟩:=m.o.three;go_wp2;refine Dj m.o (λx i=>by simp[results,results24,go_sem,i.c0,i.c1,i.c2,Aw]) rfl (λx d=>?_);have C:=Aa d;have d:=C.o;have h:=D.o;have F:lX w x:=B.o.trans d (λM hi L=>by omega);exact Ez k.o F (iy _ _ _ _)
theorem XT(n:Int)(e:Nat)(v:Value)(clock:Int)(ps:List (SB×aJ))(o:aO)(w:World)(a:aX w e v clock ps)(hi:bQ n clock (ps.map (·.2)))(p:SB×aJ)(i:Cj ps o.id=some p):
  Calls prog 24 #[π e,o.val] w λm R=>aS w e v ps clock (ps.map (·.2)) 0 (BM p.2) m R:=by
 have z:p∈ps:=jc i;have t:=Aa z;clear z;have U:o.cells[1]?=some (ι o.id):=rfl;have r:=Aa a;have H:=Aa hi;have P:ps.length<=1000:=by have:=hi.bX;rw[iu]at this;omega
 have G:=Aa i;clear a hi i;unfold aO.val;go_enter func24,ntmps24;go_wp2_with fail
 obtain⟨q,B,h,S,u⟩:=CC w o.cells;have s:=Aa (r.o.still h.o);rw[<-B];clear B;generalize k:w.heap.size=Q at *
 have L:=Aa k;clear k;have Y:Q+1<q.heap.size:=u.o.lt;refine(ET e v clock o.id ps q s.o P).mono ?_;rintro m E ⟨rfl,C⟩;rw[C];clear C E;rw[G.o];unfold EH;go_wp2_with fail
 refine(TQ n p.1 p.2 q (s.o.bM p t.o) (H.o.bD p.2 (iK t.o))).mono ?_;rintro m E ⟨Z,rfl,d,j⟩;obtain⟨g,T,A,V,W⟩:=d.form (by omega);rw[A]at d ⊢;have M:=Aa d;have x:=Aa (u.o.keeps j id);have I:=Aa (h.o.then j);have N:=Aa (h.o.size);clear j d A;obtain⟨aa,ab,ad,ae⟩:=x.o.three;go_wp2;refine Dj x.o (λF l=>by simp[results,results24,go_sem,l.c0,l.c1,l.c2,Aw]) rfl (λF c=>?_);have J:=Aa c;have c:=J.o;have k:=L.o;have O:lX w F:=I.o.trans c (λD hi X=>by omega);exact Ez r.o O (An (EQ M.o N.o) c (λD hi a=>(by have:g=D:=(by simpa[Value.ownBlock] using hi);omega)))
theorem VP(n:Int)(e:Nat)(v:Value)(clock:Int)(ps:List (SB×aJ))(o:aO)(w:World)(a:aX w e v clock ps)(hi:bQ n clock (ps.map (·.2)))(q:Cj ps o.id=none):
  Calls prog 23 #[π e,o.val] w λj H=>aS w e v ps clock (ps.map (·.2)) 2 [] j H:=by
 have J:o.cells[1]?=some (ι o.id):=rfl;have k:=Aa a;have G:ps.length<=1000:=by have:=hi.bX;rw[iu]at this;omega
 have A:=Aa q;clear a hi q;unfold aO.val;go_enter func23,ntmps23;go_wp2_with fail
 obtain⟨t,r,l,I,E⟩:=CC w o.cells;have z:=Aa (k.o.still l.o);rw[<-r];clear r;generalize h:w.heap.size=N at *
 have D:=Aa h;clear h;refine(ET e v clock o.id ps t z.o G).mono ?_;rintro j u ⟨rfl,s⟩;rw[s];clear s u;rw[A.o];unfold EH;go_wp2_with fail
 refine(EE 2 t).mono ?_;rintro j u ⟨rfl,c⟩;unfold Aw;have m:=Aa (E.o.keeps c id);have B:=Aa (l.o.then c);clear c;obtain⟨O,P,Q,R⟩:=m.o.three;go_wp2;refine Dj m.o (λx i=>by simp[results,results23,go_sem,i.c0,i.c1,i.c2,Aw]) rfl (λx d=>?_);have C:=Aa d;have d:=C.o;have h:=D.o;have F:lX w x:=B.o.trans d (λM hi L=>by omega);exact Ez k.o F (iy _ _ _ _)
theorem YF(k:Nat)(c:Cfg)(d:aU)(a m:Int): (Bc k c d a m).1=0\/(Bc k c d a m).2=[]:=by
 unfold Bc Gb
 repeat (first | exact .inl rfl | exact .inr rfl | split)
theorem VW(n:Int)(e:Nat)(v:Value)(clock:Int)(ps:List (SB×aJ))(o:aO)(w:World)(a:aX w e v clock ps)(hi:bQ n clock (ps.map (·.2)))(a2:n<=4611686018427387904)(p:SB×aJ)(F:Cj ps o.id=some p):
  Calls prog 23 #[π e,o.val] w λL i=>aS w e v ps clock (ps.map (·.2)) (Bc p.2.k p.2.c p.2.nt o.a (clock-p.2.c.aL)).1 (Bc p.2.k p.2.c p.2.nt o.a (clock-p.2.c.aL)).2 L i:=by
 have V:p∈ps:=jc F;have N:=Aa V;clear V;have l:o.cells[1]?=some (ι o.id):=rfl;have A:=Aa a;have B:=Aa hi;have ao:ps.length<=1000:=by have:=hi.bX;rw[iu]at this;omega
 have ad:=Aa F;clear a hi F;unfold aO.val;go_enter func23,ntmps23;go_wp2_with fail
 obtain⟨k,Y,s,Q,E⟩:=CC w o.cells;have r:=Aa (A.o.still s.o);rw[<-Y];clear Y;generalize z:w.heap.size=aa at *
 have R:=Aa z;clear z;have a4:aa+1<k.heap.size:=E.o.lt;refine(ET e v clock o.id ps k r.o ao).mono ?_;rintro L m ⟨rfl,Z⟩;rw[Z];clear Z m;rw[ad.o];unfold EH;have u:=Aa (r.o.bM p N.o);have c:=Aa (B.o.bD p.2 (iK N.o));obtain⟨au,av,a7,a8,a5,a6⟩:=c.o.common;have ah:=B.o.c0;have ai:=B.o.c1;have am:κ k p.1.s 28 (.func (.func (I3 p.2.k)) (Et p.1.n.d) #[]):=u.o.aF.cell rfl;have al:=u.o.aF.c2;have an:=r.o.aF.c0;have aq:=Q.o.c2;have ar:=zL6 p.2.k c.o.k1 c.o.k5;have ag:=Aa (show p.2.rel<=4611686018427387904 by have l:=c.o.dE;have ak:=c.o.dH;omega);go_wp2_with fail
 go_region_held3 (λi=>i.cell? ⟨p.1.s,28,none⟩=some (.func (.func (I3 p.2.k)) (Et p.1.n.d) #[])/\i.cell? ⟨p.1.s,2,none⟩=some (ι p.2.c.aL)/\i.cell? ⟨e,0,none⟩=some (ι clock)/\i.cell? ⟨aa,2,none⟩=some (ι o.a))
  (first | (simp[*];done) | (go_split_ands;exact⟨j.cell (by assumption) id,j.cell (by assumption) id,j.cell (by assumption) id,j.cell (by assumption) id⟩))
  (first | (go_at_call 43;refine(G3 p.1.s p.2.c.aL clock _ (by go_keep) au av ah ai).mono ?_;rintro e i ⟨rfl,rfl⟩) | (refine(zN0 (rel:=p.2.rel) (last:=p.2.last) p.2.k p.1.n p.2.c p.2.nt o.a (clock-p.2.c.aL) _ _ (by first | rfl | simp) (by exact u.o.note.still (aA.refl _ _).drew) c.o.note ag.o c.o.dR c.o.valid c.o.kind c.o.k1 c.o.k5 (by omega) (by omega)).mono ?_;rintro e m ⟨ax,aw,aj,rfl,X,j⟩))
 have G:lX k m:=((aA.refl (λ_=>False) k).drew).then j;have t:=Aa (E.o.keeps G id);have C:=Aa (s.o.then G);have T:=Aa (s.o.size);have P:=Aa (show La m k.heap.size (.slice ax aw aj) (Bc p.2.k p.2.c p.2.nt o.a (clock-p.2.c.aL)).2 from X);have ab:=Aa (YF p.2.k p.2.c p.2.nt o.a (clock-p.2.c.aL));clear am al an aq E s r Q u j X G ar;generalize W:(Bc p.2.k p.2.c p.2.nt o.a (clock-p.2.c.aL)).2=aI at *
 generalize U:(Bc p.2.k p.2.c p.2.nt o.a (clock-p.2.c.aL)).1=code at *
 have O:=Aa W;have M:=Aa U;clear W U;by_cases x:code=0
 ·subst x;obtain⟨ay,az,a0,a1⟩:=t.o.three;go_wp2;refine Dj t.o (λq h=>by simp[results,results23,go_sem,h.c0,h.c1,h.c2,Aw]) rfl (λq d=>?_);have D:=Aa d;have d:=D.o;have z:=R.o;have I:lX w q:=C.o.trans d (λJ hi ap=>by omega);rw[O.o,M.o]
  exact Ez A.o I (EQ (An P.o d (λJ hi a=>by
         rcases P.o.2 with ⟨l,_⟩ | ⟨g,_,_,l,ak,_⟩
         ·rw[l]at hi;cases hi
         rw[l]at hi;have:g=J:=by simpa[Value.ownBlock] using hi
         have:=T.o
         omega)) (by have:=T.o;omega))
 have a3:(code !=0)=true:=by simpa using x
 have af:=Aa (show aI=[] from ab.o.resolve_left x);clear x;go_wp2_with fail
 refine(EE code m).mono ?_;rintro L a9 ⟨rfl,H⟩;unfold Aw;have S:=Aa (t.o.keeps H id);have ae:=Aa (C.o.then H);clear H t C;obtain⟨ay,az,a0,a1⟩:=S.o.three;go_wp2;refine Dj S.o (λq h=>by simp[results,results23,go_sem,h.c0,h.c1,h.c2,Aw]) rfl (λq d=>?_);have D:=Aa d;have d:=D.o;have z:=R.o;have I:lX w q:=ae.o.trans d (λJ hi ap=>by omega);rw[O.o,M.o,af.o];exact Ez A.o I (iy _ _ _ _)
end
section
theorem Od(a b:List (SB×aJ)): Ba (a++b)=Ba a++Ba b:=by simp[Ba]
theorem aX.one{w w':World}{e:Nat}{v:Value}{clock:Int}{j k:List (SB×aJ)}{p:SB×aJ}{m:SB}{x':aJ}(i:aX w e v clock (j++p::k))(r:aA (p.1.aQ p.2.k) w w')(H:bJ w' m x')(B:x'.k=p.2.k)(t:p.1.next m p.2.k w.heap.size): aX w' e v clock (j++(m,x')::k):=by
 have s:p∈j++p::k:=by simp
 have q:=jb.1 i.apart;have x:=jn.1 q.2.1;have n:∀c,c∈j\/c∈k->c∈j++p::k/\∀d,c.1.aQ c.2.k d->¬p.1.aQ p.2.k d:=by
  intro c a;rcases a with a | a
  ·exact⟨by simp[a],λd h u=>q.2.2 c a p (by simp) d h u⟩
  exact⟨by simp[a],λd h u=>x.1 c a d u h⟩
 have z:∀c,c∈j\/c∈k->∀d,m.aQ x'.k d->¬c.1.aQ c.2.k d:=by
  intro c a d h A;obtain⟨E,C⟩:=n c a;rw[B]at h;rcases t.2 d h with l | l
  ·exact C d A l
  have:=(i.bM c E).lt d A;omega
 have G:w'.ownsRow 0 66 1 v (j++p::k).length (Ba (j++p::k)):=An i.row r (λd h l=>(i.ef p s d l).2 h);have F:Ba (j++(m,x')::k)=Ba (j++p::k):=by
  simp only[Ba,iB,iF];rw[t.1]
 refine⟨i.aF.keeps r (λl=>(i.ef p s e l).1 rfl),?_,?_,?_,i.ev,?_⟩
 ·rw[F,show(j++(m,x')::k).length=(j++p::k).length by simp];exact G
 ·intro c a;rcases ik.1 a with a | a
  ·exact(i.bM c (n c (.inl a)).1).keeps r (n c (.inl a)).2
  rcases iA.1 a with a | a
  ·subst a;exact H
  exact(i.bM c (n c (.inr a)).1).keeps r (n c (.inr a)).2
 ·refine jb.2 ⟨q.1,jn.2 ⟨λc a d h=>z c (.inr a) d h,x.2⟩,?_⟩;intro c a J o d h;rcases iA.1 o with o | o
  ·subst o;exact λl=>z c (.inl a) d l h
  exact q.2.2 c a J (by simp[o]) d h
 intro c a d h;rcases ik.1 a with a | a
 ·exact i.ef c (n c (.inl a)).1 d h
 rcases iA.1 a with a | a
 ·subst a;have D:m.aQ p.2.k d:=by rw[<-B];exact h
  rcases t.2 d D with l | l
  ·exact i.ef p s d l
  have L:=i.lt e (.inl rfl);refine⟨by omega,λI=>?_⟩;have:=i.lt d (.inr (.inl I));omega
 exact i.ef c (n c (.inr a)).1 d h
theorem aN.one{w:World}{e:Nat}{v:Value}{h j:List (SB×aJ)}{p:SB×aJ}{c:SB}{x':aJ}(n:x'.k=p.2.k)(m:p.1.next c p.2.k w.heap.size)(i:Nat)(hi:aN e v (h++(c,x')::j) i):
  aN e v (h++p::j) i\/w.heap.size<=i:=by
 rcases hi with hi | hi | ⟨k,a,hi⟩
 ·exact .inl (.inl hi)
 ·exact .inl (.inr (.inl hi))
 rcases ik.1 a with a | a
 ·exact .inl (.inr (.inr ⟨k,by simp[a],hi⟩))
 rcases iA.1 a with a | a
 ·subst a;have l:c.aQ p.2.k i:=by rw[<-n];exact hi
  rcases m.2 i l with d | d
  ·exact .inl (.inr (.inr ⟨p,by simp,d⟩))
  exact .inr d
 exact .inl (.inr (.inr ⟨k,by simp[a],hi⟩))
def BD: List aJ->Int->aJ->List aJ
 | [],_,_=>[]
 | x::r,id,y=>if x.id==id then y::r else x::BD r id y
def Ca(xs:List aJ)(id:Int): Option aJ:=xs.find? (λx=>x.id==id)
theorem OC{ps:List (SB×aJ)}{id:Int}{p:SB×aJ}(e:Cj ps id=some p): ∃a c,ps=a++p::c/\∀y:aJ,BD (ps.map (·.2)) id y=a.map (·.2)++y::c.map (·.2):=by
 obtain⟨l,a,c,h,i⟩:=List.find?_eq_some_iff_append.1 e;refine⟨a,c,h,λy=>?_⟩;subst h;clear e;induction a with
 | nil=>simp[BD,l]
 | cons d n m =>
  have j:(d.2.id==id)=false:=by simpa using i d (by simp)
  simp only[θ,iF,BD,j];rw[m (λb k=>i b (by simp[k]))];rfl
theorem Uq(ps:List (SB×aJ))(id:Int): Ca (ps.map (·.2)) id=(Cj ps id).map (·.2):=by
 unfold Ca Cj;induction ps with
 | nil=>rfl
 | cons a d c =>
  simp only[iF,kP];cases (a.2.id==id) with
  | true=>rfl
  | false=>exact c
def FG(a b:Int): Int:=if a<b then a else b
def cG(x:aJ)(c:Nat): aJ:={ x with ref:=x.ref.set c (FG (Ac x.ref c+1) 4611686018427387904) }
theorem OY(b:SB)(x:aJ)(c:Nat)(u:Int): (D8 b x).set (35+c) (ι u)=D8 b { x with ref:=x.ref.set c u }:=by
 have a:(D8 b x).set (35+c) (ι u)=ι x.id::x.c.eC (fn (Bi x.k)::fn (AU x.k)::fn (AV x.k)::fn (AO x.k)::fn (AR x.k)::fn (Be x.k)::Hn x.k b.n.d::Hm x.k b.n.d::Hp x.k b.n.d::Ho x.k b.n.d::GA x.k b.n.d::π b.q::ι x.acc::ι x.rel::(x.ref.map (ι ·)).set c (ι u)):=by
  rw[k6];rfl
 rw[a];unfold D8;simp only;rw[kO]
theorem ZD{n:Int}{x:aJ}(a:aT n x)(c:Nat)(e:(∀h,h∈x.ref->h<n)\/4611686018427387904<=n)(m:c<12): aT n (cG x c):=by
 have j:=a.bS;have i:Ac x.ref c∈x.ref:=by unfold Ac;rw[γ,h9 (by omega)];exact jk _
 refine⟨a.valid,a.kind,a.k1,a.k5,a.eL,a.dH,a.dJ,a.dE,by simp[cG,j],?_,a.cap,a.times,a.note,a.heap,a.eB,a.dR,a.dX,a.fits⟩;intro h d;rcases jx d with d | d
 ·exact a.cN h d
 subst d;have k:=a.cN _ i;unfold FG;rcases e with e | e
 ·have l:=e _ i;split <;> omega
 split <;> omega
theorem Jo(x:aJ)(clock:Int)(y:It): 0<=bO x clock y/\bO x clock y<=11:=by
 have a:0<=AP x.c x.k y/\AP x.c x.k y<=11:=by
  unfold AP Dx E1 EF
  repeat (first | omega | split)
 unfold bO
 repeat (first | omega | split)
end
section
attribute [local go_sem ↓] AH Bs
attribute [local go_sem] AI Bt A3 A4 AJ AL B8 B9 Bd B2
def aO.item(o:aO): It:=⟨o.a,o.b,o.c,0⟩
theorem ZA(n:Int)(e:Nat)(v:Value)(clock:Int)(ps:List (SB×aJ))(o:aO)(w:World)(a:aX w e v clock ps)(hi:bQ n clock (ps.map (·.2)))(q:Cj ps o.id=none):
  Calls prog 21 #[π e,o.val] w λj H=>aS w e v ps clock (ps.map (·.2)) 2 [] j H:=by
 have J:o.cells[1]?=some (ι o.id):=rfl;have k:=Aa a;have G:ps.length<=1000:=by have:=hi.bX;rw[iu]at this;omega
 have A:=Aa q;clear a hi q;unfold aO.val;go_enter func21,ntmps21;go_wp2_with fail
 obtain⟨t,r,l,I,E⟩:=CC w o.cells;have z:=Aa (k.o.still l.o);rw[<-r];clear r;generalize h:w.heap.size=N at *
 have D:=Aa h;clear h;refine(ET e v clock o.id ps t z.o G).mono ?_;rintro j u ⟨rfl,s⟩;rw[s];clear s u;rw[A.o];unfold EH;go_wp2_with fail
 refine(EE 2 t).mono ?_;rintro j u ⟨rfl,c⟩;unfold Aw;have m:=Aa (E.o.keeps c id);have B:=Aa (l.o.then c);clear c;obtain⟨O,P,Q,R⟩:=m.o.three;go_wp2;refine Dj m.o (λx i=>by simp[results,results21,go_sem,i.c0,i.c1,i.c2,Aw]) rfl (λx d=>?_);have C:=Aa d;have d:=C.o;have h:=D.o;have F:lX w x:=B.o.trans d (λM hi L=>by omega);exact Ez k.o F (iy _ _ _ _)
theorem zM1(n:Int)(e:Nat)(v:Value)(clock:Int)(ps:List (SB×aJ))(o:aO)(w:World)(c:aX w e v clock ps)(hi:bQ n clock (ps.map (·.2)))(p:SB×aJ)(t:Cj ps o.id=some p)(aj:bO p.2 clock o.item=0)(bi:n<=4611686018427387904):
  Calls prog 21 #[π e,o.val] w λE k=>aS w e v ps clock (BD (ps.map (·.2)) o.id (cD p.2 o.item)) 0 [p.2.acc+1] E k:=by
 have al:p∈ps:=jc t;have J:=Aa al;have ar:=Aa (show bO p.2 clock ⟨o.a,o.b,o.c,0⟩=0 from aj);clear al aj;have i:o.cells[1]?=some (ι o.id):=rfl;have U:=Aa c;have H:=Aa hi;have a6:ps.length<=1000:=by have:=hi.bX;rw[iu]at this;omega
 have V:=Aa t;clear c hi t;unfold aO.val;go_enter func21,ntmps21;go_wp2_with fail
 obtain⟨l,ap,I,D,aa⟩:=CC w o.cells;have C:=Aa (U.o.still I.o);rw[<-ap];clear ap;have Y:=Aa (show ∀a,aN e v ps a->a<w.heap.size from U.o.lt);generalize P:w.heap.size=d at *
 have aw:=Aa P;clear P;refine(ET e v clock o.id ps l C.o a6).mono ?_;rintro E A ⟨rfl,aq⟩;rw[aq];clear aq A;rw[V.o];unfold EH;have ae:=Aa (C.o.bM p J.o);have af:=Aa (H.o.bD p.2 (iK J.o));have az:=H.o.c0;have a0:=H.o.c1;have a7:=D.o.c2;have a8:=D.o.c3;have a9:=D.o.c4;go_wp2_with fail
 have u:lX l (l.alloc (.cells #[ι o.a,ι o.b,ι o.c,ι 0] 80)):=(aA.refl (λ_=>False) l).alloc _;have q:=Aa (aD.new l [ι o.a,ι o.b,ι o.c,ι 0] 80);have G:=Aa (C.o.still u);have L:=Aa (ae.o.still u);have ab:=Aa (aa.o.keeps u id);have W:=Aa (I.o.then u);clear u C ae aa I D a7 a8 a9;generalize l.alloc (.cells #[ι o.a,ι o.b,ι o.c,ι 0] 80)=A at *
 generalize bc:l.heap.size=F at *
 clear bc;have Q:=q.o.c0;have R:=q.o.c1;have S:=q.o.c2;have T:=q.o.c3;have a5:=G.o.aF.c0;go_region_held3 (λk=>k.cell? ⟨e,0,none⟩=some (ι clock)/\k.cell? ⟨F,0,none⟩=some (ι o.a)/\k.cell? ⟨F,1,none⟩=some (ι o.b)/\k.cell? ⟨F,2,none⟩=some (ι o.c)/\k.cell? ⟨F,3,none⟩=some (ι 0))
  (first | (simp[*];done) | (go_split_ands;exact⟨j.cell (by assumption) id,j.cell (by assumption) id,j.cell (by assumption) id,j.cell (by assumption) id,j.cell (by assumption) id⟩))
  (first | (go_at_call 38;refine(Ol n p.1 p.2 ⟨o.a,o.b,o.c,0⟩ clock _ (by exact L.o.still ((aA.refl (λ_=>False) A).drew)) af.o az a0).mono ?_;rintro E B ⟨rfl,j⟩))
 have r:lX A B:=((aA.refl (λ_=>False) A).drew).then j;have s:=Aa (q.o.keeps r id);have au:=Aa (G.o.still r);have ax:=Aa (L.o.still r);have ad:=Aa (ab.o.keeps r id);have av:=Aa (W.o.then r);clear j r q G L ab W Q R S T a5;rw[ar.o];have Q:=s.o.c0;have R:=s.o.c1;have S:=s.o.c2;have T:=s.o.c3;go_wp2_with fail
 refine(Wu n p.1 p.2 ⟨o.a,o.b,o.c,0⟩ B ax.o af.o (by omega)).mono ?_;rintro E h ⟨rfl,M,ao,am,O⟩;have an:∀a,p.1.aQ p.2.k a->a<d:=λa hi=>Y.o a (.inr (.inr ⟨p,J.o,hi⟩));have m:=Aa (ad.o.keeps O (λc=>by have:=an _ c;omega));have ay:=Aa ao;have Z:=Aa am;have X:=Aa O;have bk:d+1<B.heap.size:=ad.o.lt;have bj:d+1<h.heap.size:=m.o.lt;have bl:=m.o.c0;have bm:=m.o.c1;have bn:=m.o.c2;have bo:=m.o.frozen;clear ao am O an Q R S T s;go_wp2;have N:=(((m.o.setCell 0 (ι 0)).setCell 1 (σ h.heap.size 1 1)).setCell 2 (.string Ai)).alloc (.cells #[ι (p.2.acc+1)] 3);have ak:aA (λa=>a=d+1) h ((((h.setCell ⟨d+1,0,none⟩ (ι 0)).setCell ⟨d+1,1,none⟩ (σ h.heap.size 1 1)).setCell ⟨d+1,2,none⟩ (.string Ai)).alloc (.cells #[ι (p.2.acc+1)] 3)) :=
  ((((aA.refl (λa=>a=d+1) h).setCell (p:=⟨d+1,0,none⟩) (Or.inl rfl) _).setCell (p:=⟨d+1,1,none⟩) (Or.inl rfl) _).setCell (p:=⟨d+1,2,none⟩) (Or.inl rfl) _).alloc _
 have a4:aD ((((h.setCell ⟨d+1,0,none⟩ (ι 0)).setCell ⟨d+1,1,none⟩ (σ h.heap.size 1 1)).setCell ⟨d+1,2,none⟩ (.string Ai)).alloc (.cells #[ι (p.2.acc+1)] 3)) h.heap.size [ι (p.2.acc+1)] 3:=aD.newAt (by simp) [_] 3;have ag:((((h.setCell ⟨d+1,0,none⟩ (ι 0)).setCell ⟨d+1,1,none⟩ (σ h.heap.size 1 1)).setCell ⟨d+1,2,none⟩ (.string ⟨#[]⟩)).alloc (.cells #[ι (p.2.acc+1)] 3))=((((h.setCell ⟨d+1,0,none⟩ (ι 0)).setCell ⟨d+1,1,none⟩ (σ h.heap.size 1 1)).setCell ⟨d+1,2,none⟩ (.string Ai)).alloc (.cells #[ι (p.2.acc+1)] 3)):=rfl;rw[ag];clear ag;generalize((((h.setCell ⟨d+1,0,none⟩ (ι 0)).setCell ⟨d+1,1,none⟩ (σ h.heap.size 1 1)).setCell ⟨d+1,2,none⟩ (.string Ai)).alloc (.cells #[ι (p.2.acc+1)] 3))=bp at *
 have bd:=N.c0;have be:=N.c1;have bf:=N.c2;refine iV (v:=Aw 0 (σ h.heap.size 1 1)) (by simp[results,results21,go_sem,bd,be,bf,Aw]) rfl ?_;obtain⟨x,z,ba,bb⟩:=OC V.o;have P:=aw.o;have a1:=au.o;have a3:=Y.o;have a2:=av.o;rw[bb];subst ba;have ah:aX h e v clock (x++(M,cD p.2 ⟨o.a,o.b,o.c,0⟩)::z):=a1.one X.o ay.o rfl Z.o;have ai:∀a,aN e v (x++(M,cD p.2 ⟨o.a,o.b,o.c,0⟩)::z) a->aN e v (x++p::z) a\/B.heap.size<=a:=λa hi=>aN.one (w:=B) (x':=cD p.2 ⟨o.a,o.b,o.c,0⟩) rfl Z.o a hi;refine⟨σ h.heap.size 1 1,v,x++(M,cD p.2 ⟨o.a,o.b,o.c,0⟩)::z,rfl,ah.keeps ak (λa hi c=>?_),?_,⟨rfl,.inr ⟨h.heap.size,1,_,rfl,by omega,a4,by simp,by unfold maxLen;omega,rfl,rfl⟩⟩,?_,?_,?_⟩
 ·rcases ai a hi with i | i
  ·have:=a3 a i;omega
  omega
 ·simp only[iB,iF];rfl
 ·refine((a2.mono (M':=aN e v (x++p::z)) (λ_ _ c=>c.elim)).trans X.o (λa hi _=>.inr (.inr ⟨p,by simp,hi⟩))).trans ak (λa hi bh=>?_);omega
 ·intro a hi;rcases ai a hi with i | i
  ·exact .inl i
  exact .inr (by omega)
 intro a hi t;have i:h.heap.size=a:=by simpa[Value.ownBlock] using hi
 have bg:=ah.lt a t;omega
theorem Sb(n:Int)(b:SB)(x:aJ)(a:Nat)(w:World)(d:bJ w b x)(hi:aT n x)(J:n<=4611686018427387904)(E:a<12):
  Calls prog 39 #[π b.s,ι a] w λD h=>D=.returned (.tuple #[])/\bJ h b (cG x a)/\aA (b.aQ x.k) w h:=by
 have B:=Aa d;have r:=Ea b x hi.bS a E;have s:κ w b.s (35+a) (ι (Ac x.ref a)):=d.aF.cell r;have G:=d.aF.frozen;have u:0<=Ac x.ref a/\Ac x.ref a<=n:=hi.cN _ (by unfold Ac;rw[γ,h9 (by have:=hi.bS;omega)];exact jk _);have A:IntKind.i64.wrap (Ac x.ref a+1)=Ac x.ref a+1:=GY (by omega) (by omega);have H:(0:Int)<=(a:Int):=by omega
 have I:(a:Int)<12:=by omega
 clear d hi r;have e:=Aa (show FG (Ac x.ref a+1) 4611686018427387904=if Ac x.ref a+1<4611686018427387904 then Ac x.ref a+1 else 4611686018427387904 from rfl);generalize v:Ac x.ref a=q at *
 have C:=Aa v;clear v;have t:∀h,h=(w.setCell ⟨b.s,35+a,none⟩ (ι (FG (Ac x.ref a+1) 4611686018427387904))).drew\/h=w.setCell ⟨b.s,35+a,none⟩ (ι (FG (Ac x.ref a+1) 4611686018427387904))->bJ h b (cG x a)/\aA (b.aQ x.k) w h:=by
  intro h z;have d:=B.o;have m:aA (λi=>i=b.s) w h:=by
   rcases z with c | c
   ·rw[c];exact((aA.refl (λi=>i=b.s) w).setCell (p:=⟨b.s,35+a,none⟩) (Or.inl rfl) _).drew
   rw[c];exact((aA.refl (λi=>i=b.s) w).setCell (p:=⟨b.s,35+a,none⟩) (Or.inl rfl) _)
  refine⟨⟨?_,d.dM.keeps m (λc=>d.sq c.symm) (λg F c=>d.sg g F c.symm),d.note.keeps m (λi hi c=>(d.sn i hi).1 c),d.sq,d.sg,d.sn⟩,m.mono (λi _ c=>.inl c)⟩;have l:=d.aF.setCell (35+a) (ι (FG (Ac x.ref a+1) 4611686018427387904));rw[OY]at l;rcases z with c | c
  ·rw[c];exact l.drew
  rw[c];exact l
 have j:=Aa t;clear t;rw[C.o]at j;rcases Int.lt_trichotomy (q+1) 4611686018427387904 with k | k | k
 ·rw[ij k]at e;rw[e.o]at j;clear e;go_enter func39,ntmps39;go_wp2_with fail
  go_region
  go_wp2;go_end0;exact⟨rfl,j.o _ (by first | exact .inl rfl | exact .inr rfl)⟩
 ·rw[ig (by omega)]at e;rw[e.o]at j;clear e;have o:q=4611686018427387903:=by omega
  rw[o]at s A u k;clear k;go_enter func39,ntmps39;go_wp2_with fail
  go_region
  go_wp2;go_end0;exact⟨rfl,j.o _ (by first | exact .inl rfl | exact .inr rfl)⟩
 rw[ig (by omega)]at e;rw[e.o]at j;clear e;have o:q=4611686018427387904:=by omega
 rw[o]at s A u k;clear k;go_enter func39,ntmps39;go_wp2_with fail
 go_region
 go_wp2;go_end0;exact⟨rfl,j.o _ (by first | exact .inl rfl | exact .inr rfl)⟩
theorem zPz(n:Int)(e:Nat)(v:Value)(clock:Int)(ps:List (SB×aJ))(o:aO)(w:World)(a:aX w e v clock ps)(hi:bQ n clock (ps.map (·.2)))(p:SB×aJ)(d:Nat)(B:Cj ps o.id=some p)(J:bO p.2 clock o.item=d)(bg:d≠0)(bi:n<=4611686018427387904):
  Calls prog 21 #[π e,o.val] w λu i=>aS w e v ps clock (BD (ps.map (·.2)) o.id (cG p.2 d)) d [] u i:=by
 have ae:p∈ps:=jc B;have H:=Aa ae;have al:=Aa (show bO p.2 clock ⟨o.a,o.b,o.c,0⟩=d from J);have a2:d<12:=by have:=(Jo p.2 clock o.item).2;rw[J]at this;omega
 clear ae J;have k:o.cells[1]?=some (ι o.id):=rfl;have P:=Aa a;have F:=Aa hi;have a4:ps.length<=1000:=by have:=hi.bX;rw[iu]at this;omega
 have Q:=Aa B;clear a hi B;unfold aO.val;go_enter func21,ntmps21;go_wp2_with fail
 obtain⟨j,ah,G,A,V⟩:=CC w o.cells;have z:=Aa (P.o.still G.o);rw[<-ah];clear ah;have U:=Aa (show ∀c,aN e v ps c->c<w.heap.size from P.o.lt);generalize N:w.heap.size=aj at *
 have ap:=Aa N;clear N;refine(ET e v clock o.id ps j z.o a4).mono ?_;rintro u x ⟨rfl,ai⟩;rw[ai];clear ai x;rw[Q.o];unfold EH;have Z:=Aa (z.o.bM p H.o);have aa:=Aa (F.o.bD p.2 (iK H.o));have av:=F.o.c0;have aw:=F.o.c1;have a5:=A.o.c2;have a6:=A.o.c3;have a7:=A.o.c4;go_wp2_with fail
 have r:lX j (j.alloc (.cells #[ι o.a,ι o.b,ι o.c,ι 0] 80)):=(aA.refl (λ_=>False) j).alloc _;have m:=Aa (aD.new j [ι o.a,ι o.b,ι o.c,ι 0] 80);have E:=Aa (z.o.still r);have I:=Aa (Z.o.still r);have W:=Aa (V.o.keeps r id);have R:=Aa (G.o.then r);clear r z Z V G A a5 a6 a7;generalize j.alloc (.cells #[ι o.a,ι o.b,ι o.c,ι 0] 80)=x at *
 generalize be:j.heap.size=D at *
 clear be;have ba:=m.o.c0;have bb:=m.o.c1;have bc:=m.o.c2;have bd:=m.o.c3;have a3:=E.o.aF.c0;go_region_held3 (λi=>i.cell? ⟨e,0,none⟩=some (ι clock)/\i.cell? ⟨D,0,none⟩=some (ι o.a)/\i.cell? ⟨D,1,none⟩=some (ι o.b)/\i.cell? ⟨D,2,none⟩=some (ι o.c)/\i.cell? ⟨D,3,none⟩=some (ι 0))
  (first | (simp[*];done) | (go_split_ands;exact⟨h.cell (by assumption) id,h.cell (by assumption) id,h.cell (by assumption) id,h.cell (by assumption) id,h.cell (by assumption) id⟩))
  (first | (go_at_call 38;refine(Ol n p.1 p.2 ⟨o.a,o.b,o.c,0⟩ clock _ (by exact I.o.still ((aA.refl (λ_=>False) x).drew)) aa.o av aw).mono ?_;rintro u l ⟨rfl,h⟩))
 have q:lX x l:=((aA.refl (λ_=>False) x).drew).then h;have am:=Aa (E.o.still q);have ar:=Aa (I.o.still q);have X:=Aa (W.o.keeps q id);have an:=Aa (R.o.then q);clear h q m E I W R ba bb bc bd a3;rw[al.o];have bj:((d:Int) !=0)=true:=by simp;omega
 have bk:aj+1<l.heap.size:=X.o.lt;go_wp2_with fail
 refine(Sb n p.1 p.2 d l ar.o aa.o (by omega) a2).mono ?_;rintro u ak ⟨rfl,ag,M⟩;have af:∀c,p.1.aQ p.2.k c->c<aj:=λc hi=>U.o c (.inr (.inr ⟨p,H.o,hi⟩));have aq:=Aa (X.o.keeps M (λa=>by have:=af _ a;omega));have au:=Aa ag;have T:=Aa M;clear M af ag;go_wp2_with fail
 refine(EE d ak).mono ?_;rintro u bp ⟨rfl,L⟩;unfold Aw;have Y:=Aa (aq.o.keeps L id);have S:=Aa L;clear L;obtain⟨bl,bm,bn,bo⟩:=Y.o.three;go_wp2;refine Dj Y.o (λbf O=>by simp[results,results21,go_sem,O.c0,O.c1,O.c2,Aw]) rfl (λbf C=>?_);have ao:=Aa C;have C:=ao.o;have N:=ap.o;obtain⟨s,t,a8,a9⟩:=OC Q.o;have ax:=am.o;have a1:=U.o;have a0:=an.o;rw[a9];subst a8;have ad:p.1.next p.1 p.2.k l.heap.size:=⟨rfl,λ_ a=>.inl a⟩;have ay:aX ak e v clock (s++(p.1,cG p.2 d)::t):=ax.one T.o au.o rfl ad;have az:=ay.still S.o;have ab:∀c,aN e v (s++(p.1,cG p.2 d)::t) c->aN e v (s++p::t) c\/l.heap.size<=c:=λc hi=>aN.one (w:=l) (x':=cG p.2 d) rfl ad c hi;refine⟨.slice none 0 0,v,s++(p.1,cG p.2 d)::t,rfl,az.keeps C (λc hi a=>?_),?_,iy _ _ _ _,?_,?_,?_⟩
 ·rcases ab c hi with k | k
  ·have:=a1 c k;omega
  omega
 ·simp only[iB,iF]
 ·refine(((a0.mono (M':=aN e v (s++p::t)) (λ_ _ a=>a.elim)).trans T.o (λc hi _=>.inr (.inr ⟨p,by simp,hi⟩))).trans S.o (λ_ a _=>a.elim)).trans C (λc hi bh=>?_);omega
 ·intro c hi;rcases ab c hi with k | k
  ·exact .inl k
  exact .inr (by omega)
 intro c hi B;simp[Value.ownBlock]at hi
theorem Rq{w:World}{g n cap:Nat}{d:List Value}(a:w.ownsRow 0 66 1 (σ g n cap) n d)(i:Nat)(u:Value)(c:d[i]?=some u): w.cell? ⟨g,i,none⟩=some u:=by
 rcases M1 a with ⟨l,_⟩ | ⟨k,j,h,e⟩
 ·have:=(iq.1 c).1;have:=a.1;omega
 cases h;exact e i u c
theorem Q3(a:List (SB×aJ))(k:Nat)(d:k<a.length): ∃c p e,a=c++p::e/\c.length=k:=by
 refine⟨a.take k,a[k],a.drop (k+1),?_,by simp;omega⟩;rw[<-δ d,τ]
def Dz(clock b:Int)(x:aJ): aJ:={ x with nt:=(Bj x.k x.c x.nt (clock-x.c.aL) b).1 }
def Ev(clock b:Int)(x:aJ): Int:=(Bj x.k x.c x.nt (clock-x.c.aL) b).2.1
def EJ(clock b:Int)(x:aJ): Int:=(Bj x.k x.c x.nt (clock-x.c.aL) b).2.2
def Bw(clock:Int): Int->List aJ->List aJ×Int
 | _,[]=>([],0)
 | b,x::xs=>(Dz clock b x::(Bw clock (b-Ev clock b x) xs).1,EJ clock b x+(Bw clock (b-Ev clock b x) xs).2)
theorem zM5{n:Int}{x:aJ}(clock b:Int)(a:aT n x)(h:n<=4611686018427387904)(e:0<=b): 0<=Ev clock b x/\Ev clock b x<=b/\0<=EJ clock b x/\EJ clock b x<=4398046511104:=by
 unfold Ev EJ Bj;split
 ·have c:=pastN_le x.nt.bs (clock-x.c.aL-x.c.aB);have d:=(a.note.fZ (by have c:=a.dE;have d:=a.dH;omega)).len;show 0<=DO _ _ _ _/\DO _ _ _ _<=b/\0<=_-DO _ _ _ _/\_-DO _ _ _ _<=_;unfold DO;omega
 show 0<=(0:Int)/\(0:Int)<=b/\0<=(0:Int)/\(0:Int)<=_;omega
theorem MO{n:Int}{x:aJ}(clock b:Int)(a:aT n x): aT n (Dz clock b x) :=
 ⟨a.valid,a.kind,a.k1,a.k5,a.eL,a.dH,a.dJ,a.dE,a.bS,a.cN,a.cap,a.times,zKw a.note _ _,a.heap,a.eB,a.dR,a.dX,a.fits⟩
theorem ZB{w w':World}{b:SB}{x:aJ}(clock d:Int)(a:bJ w b x)(i:cB w' x.k b.n x.c (Bj x.k x.c x.nt (clock-x.c.aL) d).1)(e:aA (BK x.k b.n) w w'): bJ w' b (Dz clock d x) :=
 ⟨a.aF.keeps e (λc=>(a.sn _ c).1 rfl),a.dM.keeps e (λc=>(a.sn _ c).2.1 rfl) (λ_ h c=>(a.sn _ c).2.2 h),i,a.sq,a.sg,a.sn⟩
theorem UJ(a:List aJ)(clock d:Int)(done:List aJ)(c j:List (SB×aJ))(p:SB×aJ)(k:Nat)(r:c.length=k)(q:done.length=k)(i:k<a.length)(e:(c++p::j).map (·.2)=done++a.drop k):
  (c++(p.1,Dz clock d p.2)::j).map (·.2)=(done++[Dz clock d p.2])++a.drop (k+1)/\a.drop k=p.2::a.drop (k+1):=by
 have o:(c.map (·.2)).length=done.length:=by simp;omega
 rw[iB]at e;obtain⟨l,h⟩:=List.append_inj e o;rw[δ i,iF]at h;injection h with m n;refine⟨?_,?_⟩
 ·rw[iB,iF,l,n];simp
 rw[δ i,m]
theorem Yb(n:Int)(e:Nat)(v:Value)(c x:Int)(ps:List (SB×aJ))(w:World)(j:aX w e v c ps)(an:∀l,l∈ps.map (·.2)->aT n l)(b5:ps.length<=6)(bn:n<=4611686018427387904)(bx:0<=c)(bz:c<=4611686018427387904)(a5:0<=x)(a6:x<=100):
  Calls prog 44 #[π e,ι x] w λb0 z=>b0=.returned (ι (Bw c x (ps.map (·.2))).2)/\∃M,aX z e v c M/\M.map (·.2)=(Bw c x (ps.map (·.2))).1/\aA (aN e v ps) w z/\(∀i,aN e v M i->aN e v ps i)/\(∀l,l∈M.map (·.2)->aT n l):=by
 have au:=Aa j;have a3:=Aa an;have bf:=j.aF.c1;have bm:∃R I,v=.slice R ps.length I:=by
  rcases j.row.2 with ⟨o,A⟩ | ⟨g,I,a7,o,_⟩
  ·exact⟨none,0,by rw[o,A]⟩
  exact⟨some ⟨g,0,none⟩,I,o⟩
 obtain⟨G,N,br⟩:=bm;generalize aj:ps.length=k at *
 have Q:=Aa (show(ps.map (·.2)).length=k by rw[iu];exact aj);clear aj j an;subst br;go_enter func44,ntmps44;go_wp2_with fail
 go_loopg [1,5,7,8,9,15] (k) (λa9 R b _ _ _ i wr=>∃(h:Nat) (t:List (SB×aJ)) (d all:Int) (done:List aJ),h<=k/\k-h=a9/\R=ι d/\b=ι all/\i=ι h/\0<=d/\d<=100/\0<=all/\all<=h*4398046511104/\Hid (aX wr e (.slice G k N) c t)/\Hid (done.length=h)/\Hid (t.map (·.2)=done++(ps.map (·.2)).drop h)/\Hid (Bw c x (ps.map (·.2))=(done++(Bw c d ((ps.map (·.2)).drop h)).1,all+(Bw c d ((ps.map (·.2)).drop h)).2))/\Hid (aA (aN e (.slice G k N) ps) w wr)/\Hid (∀i,aN e (.slice G k N) t i->aN e (.slice G k N) ps i)/\Hid (∀l,l∈t.map (·.2)->aT n l))
 case atStart=>exact⟨0,ps,x,0,[],by omega,rfl,rfl,rfl,rfl,a5,a6,by omega,by omega,au,rfl,rfl,by show _=_;simp,aA.refl _ _,λ_ j=>j,a3⟩
 case round =>
  obtain⟨h,t,d,all,done,b6,ae,rfl,rfl,rfl,ab,a8,b3,b4,u,O,P,aa,X,V,H⟩:=hrel;have av:=Aa ae;clear bf ae;have al:t.length=k:=by
   have o:=congrArg List.length P.o;have A:=Q.o;have ba:=O.o;rw[ic,iu,iU,A,ba]at o;omega
  have Z:=Aa al;clear al;by_cases ai:h<k
  ·obtain⟨aq,a,ar,L,J⟩:=Q3 t h (by rw[Z.o];exact ai);have a1:=Aa L;have ax:=Aa J;have F:a∈t:=by rw[L];simp
   have b2:=Aa F;have C:=Aa (u.o.bM a F);have m:=Aa (H.o a.2 (iK F));obtain⟨bu,bv,_,_,_,_⟩:=m.o.common;obtain⟨cc,cd,ce,cf⟩:=zM5 c d m.o bn ab;obtain⟨g,bl⟩:∃g,G=some ⟨g,0,none⟩:=by
    rcases u.o.row.2 with ⟨o,_⟩ | ⟨g,I,a7,o,_⟩
    ·have b9:k=0:=by injection o
     omega
    injection o with A _ _;exact⟨g,A⟩
   subst bl;have bj:κ wr g h (π a.1.s):=by
    have am:=u.o.row;rw[Z.o]at am;refine Rq am h _ ?_;unfold Ba;rw[L,iB,iO (by simp[J])];simp[J]
   have a0:=Aa (show ¬BK a.2.k a.1.n e from λj=>(u.o.ef a F e (.inr (.inr (.inr j)))).1 rfl);have Y:=Aa (show ¬BK a.2.k a.1.n a.1.s from λj=>(C.o.sn _ j).1 rfl);clear L J F;have bi:=u.o.aF.c0;have bg:=C.o.aF.c2;have bh:κ wr a.1.s 29 (.func (.func (I4 a.2.k)) (Le a.2.k a.1.n.d) #[]):=C.o.aF.cell rfl;have bp:=zNj a.2.k m.o.k1 m.o.k5;have a2:=Aa (show a.2.rel<=4611686018427387904 by have o:=m.o.dE;have A:=m.o.dH;omega);have b7:(0:Int)<=(h:Int):=by omega
   have b8:(h:Int)<(k:Int):=by omega
   go_wp2_with fail
   go_region_held3 (λz=>z.cell? ⟨a.1.s,29,none⟩=some (.func (.func (I4 a.2.k)) (Le a.2.k a.1.n.d) #[])/\z.cell? ⟨a.1.s,2,none⟩=some (ι a.2.c.aL)/\z.cell? ⟨e,0,none⟩=some (ι c))
    (first | (simp[*];done) | (go_split_ands;exact⟨E.cell (by assumption) Y.o,E.cell (by assumption) Y.o,E.cell (by assumption) a0.o⟩))
    (first | (go_at_call 43;refine(G3 a.1.s a.2.c.aL c _ (by go_keep) bu bv bx bz).mono ?_;rintro e z ⟨rfl,rfl⟩) | (refine(zM3 (rel:=a.2.rel) a.2.k a.1.n a.2.c a.2.nt (c-a.2.c.aL) d _ _ (by first | rfl | simp) (by exact C.o.note.still (aA.refl _ _).drew) m.o.note a2.o m.o.valid m.o.kind m.o.k1 m.o.k5 (by omega) (by omega) ab a8).mono ?_;rintro e b1 ⟨rfl,ak,E⟩))
   have W:=Aa (((aA.refl (BK a.2.k a.1.n) wr).drew).then E);have az:=Aa ak;clear ak E bj bi bg bh bp;have ao:(Bj a.2.k a.2.c a.2.nt (c-a.2.c.aL) d).2.1=Ev c d a.2:=rfl;have ah:(Bj a.2.k a.2.c a.2.nt (c-a.2.c.aL) d).2.2=EJ c d a.2:=rfl;rw[ao,ah];clear ao ah;generalize ap:Ev c d a.2=U at *
   generalize ag:EJ c d a.2=T at *
   have a4:=Aa ap;have ay:=Aa ag;clear ap ag;have ca:IntKind.i64.wrap (d-U)=d-U:=by rw[il];omega
   have cb:IntKind.i64.wrap (all+T)=all+T:=by rw[il];omega
   go_wp2;go_roundg (k-(h+1))
   case measure=>have:=av.o;omega
   case rel =>
    have bc:=u.o;have B:=V.o;have D:=P.o;have ad:=H.o;have bd:=a1.o;subst bd;obtain⟨bs,bt⟩:=UJ (ps.map (·.2)) c d done aq ar a h ax.o O.o (by rw[Q.o];exact ai) D;have bq:=ZB c d C.o az.o W.o;have bo:a.1.next a.1 a.2.k wr.heap.size:=⟨rfl,λ_ j=>.inl j⟩;have af:aA (a.1.aQ a.2.k) wr b1:=W.o.mono (λi _ j=>.inr (.inr (.inr j)));have bb:=bc.one af bq rfl bo;refine⟨h+1,aq++(a.1,Dz c d a.2)::ar,d-U,all+T,done++[Dz c d a.2],by omega,rfl,rfl,rfl,by go_num,by omega,by omega,by omega,by omega,bb,by show _=_;rw[ic,O.o];rfl,bs,?_,?_,?_,?_⟩
    ·show _=_;rw[aa.o,bt];simp only[Bw];rw[a4.o,ay.o,ε,kz,Int.add_assoc]
    ·exact X.o.trans af (λi r _=>B i (.inr (.inr ⟨a,by simp,r⟩)))
    ·rintro i (r | r | ⟨p,s,r⟩)
     ·exact B i (.inl r)
     ·exact B i (.inr (.inl r))
     rcases ik.1 s with s | s
     ·exact B i (.inr (.inr ⟨p,by simp[s],r⟩))
     rcases iA.1 s with s | s
     ·subst s;exact B i (.inr (.inr ⟨a,by simp,r⟩))
     exact B i (.inr (.inr ⟨p,by simp[s],r⟩))
    intro l q;rw[iB,iF]at q;rcases ik.1 q with q | q
    ·exact ad l (by rw[iB];exact ik.2 (.inl q))
    rcases iA.1 q with q | q
    ·rw[q];exact MO _ _ m.o
    exact ad l (by rw[iB,iF];exact ik.2 (.inr (iA.2 (.inr q))))
  have aw:=Aa (show h=k by omega);go_wp2;go_ret;have bk:(ps.map (·.2)).drop h=[]:=iX (by rw[Q.o,aw.o];exact ir _);have S:=aa.o;have D:=P.o;rw[bk]at S D;simp only[Bw,iC,kW]at S D;rw[S];exact⟨rfl,t,u.o,D,X.o,V.o,by first | exact H.o | (intro l b be;exact H.o l (iK (f:=(·.2)) be))⟩
theorem Fx(f:Nat)(x:aJ)(m:Int): (relS f x m).k=x.k/\(relS f x m).c=x.c/\(relS f x m).id=x.id:=by
 induction f generalizing x with
 | zero=>exact⟨rfl,rfl,rfl⟩
 | succ f a =>
  unfold relS;split
  ·exact⟨rfl,rfl,rfl⟩
  split
  ·exact⟨rfl,rfl,rfl⟩
  exact a (BS x m)
theorem J6{n:Int}(f:Nat){x:aJ}(a:aT n x)(m:Int): aT n (relS f x m):=by
 induction f generalizing x with
 | zero=>exact a
 | succ f h =>
  unfold relS;split
  ·exact a
  split
  ·exact a
  rename_i c e;exact h (Ig a (by intro d;rw[d]at c;exact c rfl) m e)
theorem Xo(f:Nat)(x:aJ)(m:Int): (relS f x m).last=x.last\/(relS f x m).last<=m:=by
 induction f generalizing x with
 | zero=>exact .inl rfl
 | succ f c =>
  unfold relS;split
  ·exact .inl rfl
  split
  ·exact .inl rfl
  rename_i d e;rcases c (BS x m) with a | a
  ·refine .inr ?_;rw[a];show(itAt x.l 0).t<=m;omega
  exact .inr a
def Av(c a:Int): Int:=if c<a then a else c
theorem Vy(f:aJ->aJ)(a:List aJ)(c i:List (SB×aJ))(p:SB×aJ)(k:Nat)(q:c.length=k)(h:k<a.length)(d:(c++p::i).map (·.2)=(a.take k).map f++a.drop k)(j:SB):
  (c++(j,f p.2)::i).map (·.2)=(a.take (k+1)).map f++a.drop (k+1):=by
 have o:(c.map (·.2)).length=((a.take k).map f).length:=by simp;omega
 rw[iB]at d;obtain⟨l,e⟩:=List.append_inj d o;rw[δ h,iF]at e;injection e with m n;rw[iB,iF,l,n];simp only;rw[m,jm h];simp only[iB,iF,kq,ε,kz]
def AS(clock:Int)(x:aJ): aJ:=relS (x.l.length+1) x (clock-x.c.aL)
theorem Y8(n:Int)(e:Nat)(v:Value)(clock:Int)(ps:List (SB×aJ))(o:aO)(w:World)(a:aX w e v clock ps)(_:bQ n clock (ps.map (·.2)))(C:Ab o.a 0 4611686018427387904=false):
  Calls prog 22 #[π e,o.val] w λj E=>aS w e v ps clock (ps.map (·.2)) 5 [] j E:=by
 have G:o.cells[2]?=some (ι o.a):=rfl;have t:=Aa a;clear a;unfold aO.val;go_enter func22,ntmps22;go_wp2_with fail
 obtain⟨q,l,u,F,B⟩:=CC w o.cells;rw[<-l];clear l;generalize h:w.heap.size=L at *
 have A:=Aa h;clear h;refine(Gv _ q).mono ?_;rintro j r ⟨rfl,m⟩;rw[m,C];clear m r;go_wp2_with fail
 refine(EE 5 q).mono ?_;rintro j r ⟨rfl,c⟩;unfold Aw;have k:=Aa (B.o.keeps c id);have x:=Aa (u.o.then c);clear c;obtain⟨M,N,O,P⟩:=k.o.three;go_wp2;refine Dj k.o (λs i=>by simp[results,results22,go_sem,i.c0,i.c1,i.c2,Aw]) rfl (λs d=>?_);have z:=Aa d;have d:=z.o;have h:=A.o;have D:lX w s:=x.o.trans d (λJ H I=>by omega);exact Ez t.o D (iy _ _ _ _)
theorem Vg(n:Int)(e:Nat)(v:Value)(clock:Int)(ps:List (SB×aJ))(o:aO)(w:World)(c:aX w e v clock ps)(_:bQ n clock (ps.map (·.2)))(D:Ab o.a 0 4611686018427387904=true)(E:Ab o.b 0 100=false):
  Calls prog 22 #[π e,o.val] w λd G=>aS w e v ps clock (ps.map (·.2)) 12 [] d G:=by
 have H:o.cells[2]?=some (ι o.a):=rfl;have t:=Aa c;clear c;unfold aO.val;go_enter func22,ntmps22;go_wp2_with fail
 obtain⟨m,r,u,A,C⟩:=CC w o.cells;rw[<-r];clear r;generalize k:w.heap.size=N at *
 have B:=Aa k;clear k;refine(Gv _ m).mono ?_;rintro d h ⟨rfl,a⟩;rw[a,D];clear a h;have L:=A.o.c3;go_wp2_with fail
 refine(AN _ _ _ m).mono ?_;rintro d h ⟨rfl,a⟩;rw[a,E];clear a h;go_wp2_with fail
 refine(EE 12 m).mono ?_;rintro d h ⟨rfl,i⟩;unfold Aw;have q:=Aa (C.o.keeps i id);have x:=Aa (u.o.then i);clear i;obtain⟨O,P,Q,R⟩:=q.o.three;go_wp2;refine Dj q.o (λs l=>by simp[results,results22,go_sem,l.c0,l.c1,l.c2,Aw]) rfl (λs j=>?_);have z:=Aa j;have j:=z.o;have k:=B.o;have F:lX w s:=x.o.trans j (λM I J=>by omega);exact Ez t.o F (iy _ _ _ _)
theorem zKn(n:Int)(e:Nat)(v:Value)(clock:Int)(ps:List (SB×aJ))(o:aO)(w:World)(h:aX w e v clock ps)(hi:bQ n clock (ps.map (·.2)))(V:Ab o.a 0 4611686018427387904=true)(bb:Ab o.b 0 100=true)(cn:n<=4611686018427387904)(a8:eG w)(a9:¬aN e v ps 2):
  Calls prog 22 #[π e,o.val] w λF cx=>aS w e v ps (Av clock o.a) (Bw (Av clock o.a) o.b ((ps.map (·.2)).map (AS (Av clock o.a)))).1 0 [(Bw (Av clock o.a) o.b ((ps.map (·.2)).map (AS (Av clock o.a)))).2] F cx:=by
 have c:o.cells[2]?=some (ι o.a):=rfl;have av:=Aa h;have P:=Aa hi;have b7:=Aa a8;have a1:=Aa a9;clear a8 a9;have di:ps.length<=1000:=by have:=hi.bX;rw[iu]at this;omega
 clear h hi;unfold aO.val;go_enter func22,ntmps22;go_wp2_with fail
 obtain⟨A,bo,ae,R,az⟩:=CC w o.cells;have N:=Aa (av.o.still ae.o);rw[<-bo];clear bo;have G:=Aa (show ∀a,aN e v ps a->a<w.heap.size from av.o.lt);generalize ao:w.heap.size=d at *
 have ax:=Aa ao;clear ao;refine(Gv _ A).mono ?_;rintro F aa ⟨rfl,L⟩;rw[L,V];clear L aa;have ap:=R.o.c3;have cp:=R.o.c2;have an:=N.o.aF.c0;have ck:=N.o.aF.frozen;go_wp2_with fail
 refine(AN _ _ _ A).mono ?_;rintro F aa ⟨rfl,L⟩;rw[L,bb];clear L aa;go_wp2_with fail
 go_region
 have Q:=Aa (show Av clock o.a=if clock<o.a then o.a else clock from rfl);rw[<-Q.o];clear Q;obtain⟨de,df⟩:=Bu V;have co:0<=Av clock o.a/\Av clock o.a<=4611686018427387904:=by
  have c:=P.o.c0;have x:=P.o.c1;unfold Av;split <;> omega
 obtain⟨bq,br⟩:=co;generalize bg:Av clock o.a=l at *
 have Q:=Aa bg;clear bg;have E:aA (λa=>a=e) A (A.setCell ⟨e,0,none⟩ (ι l)).drew:=((aA.refl (λa=>a=e) A).setCell (p:=⟨e,0,none⟩) (Or.inl rfl) _).drew;have t:=N.o
 have ab:=Aa (show aX (A.setCell ⟨e,0,none⟩ (ι l)).drew e v l ps from
    ⟨(t.aF.setCell 0 (ι l)).drew,An t.row E (λa hi h=>t.ev (by rw[<-h];exact hi)),λi bh=>(t.bM i bh).keeps E (λa hi h=>(t.ef i bh a hi).1 h),t.apart,t.ev,t.ef⟩)
 have dj:e<d:=G.o e (.inl rfl);have b4:=Aa (az.o.keeps E (λh=>by omega));have b1:=Aa (R.o.keeps E (λh=>by omega));have bv:=Aa ((ae.o.mono (M':=aN e v ps) (λ_ _ h=>h.elim)).trans E (λa hi _=>.inl hi));clear t E N az ae R ap cp an ck;generalize(A.setCell ⟨e,0,none⟩ (ι l)).drew=aa at *
 have ci:=ab.o.aF.c1;have cm:∃a2 T,v=.slice a2 ps.length T/\∀g,a2=some g->g=⟨g.block,0,none⟩:=by
  rcases ab.o.row.2 with ⟨c,x⟩ | ⟨g,T,cb,c,_⟩
  ·exact⟨none,0,by rw[c,x],λg J=>by cases J⟩
  exact⟨some ⟨g,0,none⟩,T,c,λda J=>by cases J;rfl⟩
 obtain⟨u,s,cr,bn⟩:=cm;generalize be:ps.length=k at *
 have cy:=Aa bn;have S:=Aa (show(ps.map (·.2)).length=k by rw[iu];exact be);clear be bn;subst cr;go_wp2_with fail
 go_loopw [32] (λa wr=>∃(m:Nat) (q:List (SB×aJ)),m<=k/\a=ι m/\Hid (aX wr e (.slice u k s) l q)/\Hid (q.map (·.2)=((ps.map (·.2)).take m).map (AS l)++(ps.map (·.2)).drop m)/\Hid (aA (aN e (.slice u k s) ps) w wr)/\Hid (∀a,aN e (.slice u k s) q a->aN e (.slice u k s) ps a\/d+1<a)/\Hid (∀M,M∈q.map (·.2)->aT n M)/\Hid (aD wr (d+1) [ι 0,.slice none 0 0,.string Ai] 39)/\Hid (aD wr d o.cells 48)) (λa _=>k-(intOf a).toNat)
 case atStart=>exact⟨0,ps,by omega,rfl,ab,rfl,bv,λa hi=>.inl hi,P.o.bD,b4,b1⟩
 case round =>
  obtain⟨m,q,dg,rfl,B,aj,af,O,ai,ah,ay⟩:=hrel;clear ci;have bi:q.length=k:=by
   have c:=congrArg List.length aj.o;have x:=S.o;rw[ic,iu,iu,iG,iU,x]at c;omega
  have ag:=Aa bi;clear bi;by_cases X:m<k
  ·obtain⟨ar,i,au,Z,W⟩:=Q3 q m (by rw[ag.o];exact X);have b3:=Aa Z;have bz:=Aa W;have Y:i∈q:=by rw[Z];simp
   have b2:=Aa Y;have a0:=Aa (B.o.bM i Y);have ad:=Aa (ai.o i.2 (iK Y));obtain⟨cs,ct,_,_,_,_⟩:=ad.o.common;obtain⟨g,J⟩:∃g,u=some ⟨g,0,none⟩:=by
    rcases B.o.row.2 with ⟨c,_⟩ | ⟨g,T,cb,c,_⟩
    ·have dl:k=0:=by injection c
     omega
    injection c with x _ _;exact⟨g,x⟩
   subst J;have cj:κ wr g m (π i.1.s):=by
    have bk:=B.o.row;rw[ag.o]at bk;refine Rq bk m _ ?_;unfold Ba;rw[Z,iB,iO (by simp[W])];simp[W]
   clear Z W Y;have an:=B.o.aF.c0;have ba:=a0.o.aF.c2;have dh:(0:Int)<=(m:Int):=by omega
   have cl:(m:Int)<(k:Int):=by omega
   go_wp2_with fail
   refine(G3 i.1.s i.2.c.aL l wr ba cs ct bq br).mono ?_;rintro F j ⟨rfl,bp⟩;rw[bp];clear bp j;go_wp2_with fail
   refine(UP n i.1 i.2 (l-i.2.c.aL) wr a0.o ad.o cn (b7.o.keeps af.o a1.o) (λh=>by
        rcases O.o 2 (.inr (.inr ⟨i,b2.o,h⟩)) with c | c
        ·exact a1.o c
        omega) (by omega) (by omega)).mono ?_
   rintro F j ⟨rfl,ak,bl,bf,bc⟩;have b5:=Aa bl;have aw:=Aa bf;have C:=Aa bc;clear bl bf bc cj an ba;go_wp2;go_roundw;case rel =>
    have cc:=B.o;have H:=O.o;have cd:=af.o;have U:=aj.o;have a7:=ai.o;have cf:=b3.o;subst cf;have bj:=Fx (i.2.l.length+1) i.2 (l-i.2.c.aL);have z:aX j e (σ g k s) l (ar++(ak,AS l i.2)::au):=cc.one C.o b5.o bj.1 aw.o;have cq:d+1<wr.heap.size:=ah.o.lt;have aq:∀a,i.1.aQ i.2.k a->aN e (σ g k s) ps a\/d+1<a:=λa hi=>H a (.inr (.inr ⟨i,by simp,hi⟩));refine⟨m+1,ar++(ak,AS l i.2)::au,by omega,by go_num,z,Vy (AS l) _ ar au i m bz.o (by rw[S.o];exact X) U ak,?_,?_,?_,?_,?_⟩
    ·refine cd.trans C.o (λa hi dk=>?_);rcases aq a hi with h | h
     ·exact h
     have:=ax.o;omega
    ·intro a hi;rcases aN.one (w:=wr) (x':=AS l i.2) bj.1 aw.o a hi with h | h
     ·exact H a h
     exact .inr (by omega)
    ·intro M r;rw[iB,iF]at r;rcases ik.1 r with r | r
     ·exact a7 M (by rw[iB];exact ik.2 (.inl r))
     rcases iA.1 r with r | r
     ·subst r;exact J6 _ ad.o _
     exact a7 M (by rw[iB,iF];exact ik.2 (.inr (iA.2 (.inr r))))
    ·refine ah.o.keeps C.o (λh=>?_);rcases aq _ h with c | c
     ·have:=G.o _ c;omega
     omega
    refine ay.o.keeps C.o (λh=>?_);rcases aq _ h with c | c
    ·have:=G.o _ c;omega
    omega
   case measure=>simp[intOf];omega
  have bx:=Aa (show m=k by omega);have ap:=ay.o.c3;obtain⟨b9,ca⟩:=Bu bb;go_wp2_with fail
  refine(Yb n e _ l o.b q wr B.o ai.o (by have c:=ag.o;have x:=P.o.bX;have db:=S.o;omega) (by omega) bq br b9 ca).mono ?_;rintro F j ⟨rfl,bs,z,I,al,a4,cg⟩;have bt:=Aa z;have b8:=Aa I;have C:=Aa al;have bu:=Aa a4
  have b0:=Aa (show ¬aN e (.slice u k s) q (d+1) from λh=>by
     rcases O.o _ h with c | c
     ·have:=G.o _ c;omega
     omega)
  have D:=Aa (ah.o.keeps al b0.o);clear z I al a4 cg ap;generalize bm:(Bw l o.b (q.map (·.2))).2=left at *
  have b6:=Aa bm;clear bm;have dm:=D.o.c0;have dn:=D.o.c1;have dp:=D.o.c2;have dq:=D.o.frozen;have cq:d+1<j.heap.size:=D.o.lt;go_wp2;have am:=(((D.o.setCell 0 (ι 0)).setCell 1 (σ j.heap.size 1 1)).setCell 2 (.string Ai)).alloc (.cells #[ι left] 3);have bd:aA (λa=>a=d+1) j ((((j.setCell ⟨d+1,0,none⟩ (ι 0)).setCell ⟨d+1,1,none⟩ (σ j.heap.size 1 1)).setCell ⟨d+1,2,none⟩ (.string Ai)).alloc (.cells #[ι left] 3)) :=
   ((((aA.refl (λa=>a=d+1) j).setCell (p:=⟨d+1,0,none⟩) (Or.inl rfl) _).setCell (p:=⟨d+1,1,none⟩) (Or.inl rfl) _).setCell (p:=⟨d+1,2,none⟩) (Or.inl rfl) _).alloc _
  have ch:aD ((((j.setCell ⟨d+1,0,none⟩ (ι 0)).setCell ⟨d+1,1,none⟩ (σ j.heap.size 1 1)).setCell ⟨d+1,2,none⟩ (.string Ai)).alloc (.cells #[ι left] 3)) j.heap.size [ι left] 3:=aD.newAt (by simp) [_] 3;have a3:((((j.setCell ⟨d+1,0,none⟩ (ι 0)).setCell ⟨d+1,1,none⟩ (σ j.heap.size 1 1)).setCell ⟨d+1,2,none⟩ (.string ⟨#[]⟩)).alloc (.cells #[ι left] 3))=((((j.setCell ⟨d+1,0,none⟩ (ι 0)).setCell ⟨d+1,1,none⟩ (σ j.heap.size 1 1)).setCell ⟨d+1,2,none⟩ (.string Ai)).alloc (.cells #[ι left] 3)):=rfl;rw[a3];clear a3;generalize((((j.setCell ⟨d+1,0,none⟩ (ι 0)).setCell ⟨d+1,1,none⟩ (σ j.heap.size 1 1)).setCell ⟨d+1,2,none⟩ (.string Ai)).alloc (.cells #[ι left] 3))=dr at *
  have cu:=am.c0;have cv:=am.c1;have cw:=am.c2;refine iV (v:=Aw 0 (σ j.heap.size 1 1)) (by simp[results,results22,go_sem,cu,cv,cw,Aw]) rfl ?_;have ao:=ax.o;have z:=bt.o;have H:=O.o;have ce:=G.o;have U:=aj.o;have dc:=S.o;have cl:=bx.o;rw[iw (by omega),iX (by omega),iC]at U;have I:=b8.o;have a6:=b6.o;rw[U]at I a6;rw[Q.o,a6,<-I];have a5:∀a,aN e (.slice u k s) bs a->aN e (.slice u k s) ps a\/d+1<a:=λa hi=>H a (bu.o a hi);refine⟨σ j.heap.size 1 1,.slice u k s,bs,rfl,z.keeps bd (λa hi h=>?_),rfl,⟨rfl,.inr ⟨j.heap.size,1,_,rfl,by omega,ch,by simp,by unfold maxLen;omega,rfl,rfl⟩⟩,?_,?_,?_⟩
  ·rcases a5 a hi with c | c
   ·have:=ce a c;omega
   omega
  ·refine(af.o.trans C.o (λa hi X=>?_)).trans bd (λa hi X=>by omega);rcases H a hi with c | c
   ·exact c
   omega
  ·intro a hi;rcases a5 a hi with c | c
   ·exact .inl c
   exact .inr (by omega)
  intro a hi V;have c:j.heap.size=a:=by simpa[Value.ownBlock] using hi
  have x:=z.lt a V;omega
