import Derived.Test.YtnokbhcennjanaaGreatDoorXAW
open Go.RowKit Go.Proofs.Tryz
set_option maxRecDepth 100000
set_option maxHeartbeats 16000000
namespace Go.Proofs.YtnokbhcennjanaaGreatDoor
section
attribute [local go_sem ↓] AH Bs
attribute [local go_sem] AI Bt A3 A4 AJ AL B8 B9 Bd B2
theorem TJ{c:Cfg}(a:Ak c=true): 0<=c.aL/\c.aL<=100/\0<=c.bF/\c.bF<=100/\1<=c.cap/\c.cap<=8:=by
 simp only[Ak,B5,Ab,iQ,iP]at a;omega
theorem Yq(b:SB)(x:aJ)(y:It)(clock:Int)(w:World)(L:bJ w b x)(r:Ak x.c=true)(m:x.c.kind=x.k)(S:1<=x.k)(M:x.k<=5)(c0:0<=clock)(c1:clock<=4611686018427387904):
  Calls prog 38 #[π b.s,y.val,ι clock] w λe c=>e=.returned (ι (bO x clock y))/\lX w c:=by
 obtain⟨ai,aj,au,av,aq,ar⟩:=TJ r;have j:=L.aF.lt;have Q:=Aa L;have U:=Aa (show 4<=x.k->x.c.bI from λW=>Ge r m W M);have O:=Aa (show aD (w.alloc (.cells y.cells 80)) w.heap.size [ι y.t,ι y.k,ι y.d,ι y.n] 80 from aD.new w [_,_,_,_] 80);have D:=Aa ((aA.refl (λ_=>False) w).alloc (.cells y.cells 80));have d:=Aa (show bO x clock y=if Ab y.t 0 4611686018427387904 then(if y.t<=clock-x.c.aL then 6 else if clock+x.c.bF<y.t then 7 else if AP x.c x.k y≠0 then AP x.c x.k y else if x.c.cap<=x.l.length then 11 else if 4611686018427387904<=x.acc then 11 else 0) else 5 from rfl);clear L r m;unfold It.val;cases h1:Ab y.t 0 4611686018427387904
 ·go_enter func38,ntmps38;go_wp2_with (go_at_call 41;refine(Gv _ _).mono ?_;rintro e c ⟨rfl,rfl⟩)
  go_ret;exact⟨A9 (by rw[d.o,h1];rfl),D.o⟩
 obtain⟨ak,al⟩:=Bu h1;rw[h1,ij rfl]at d;have ad:=Q.o.aF.c2;go_enter func38,ntmps38;go_wp2_with fail
 refine(Gv _ _).mono ?_;rintro e c ⟨rfl,rfl⟩;rw[h1];go_wp2_with fail
 go_region_held3 (λc=>c.cell? ⟨w.heap.size,0,none⟩=some (ι y.t)/\c.cell? ⟨b.s,2,none⟩=some (ι x.c.aL)) (go_keep)
  (first | (go_at_call 43;refine(G3 b.s x.c.aL clock _ (by go_keep) ai aj c0 c1).mono ?_;rintro e c ⟨rfl,rfl⟩))
 have k:=Aa (O.o.drew);have o:=Aa (D.o.drew);clear O D;have R:(w.alloc (.cells #[ι y.t,ι y.k,ι y.d,ι y.n] 80)).drew=(w.alloc (.cells y.cells 80)).drew:=rfl;rw[R];clear R;generalize(w.alloc (.cells y.cells 80)).drew=C at *
 generalize ab:w.heap.size=u at *
 have t:=Aa (Q.o.still o.o);clear ad j ab;have j:=t.o.aF.lt;have J:=k.o.lt;have E:=k.o.c0;have F:=k.o.c1;have G:=k.o.c2;have H:=k.o.c3;have af:=t.o.aF.c3;by_cases z:y.t<=clock-x.c.aL
 ·rw[ij z]at d;go_wp2;go_ret;exact⟨A9 d.o.symm,o.o⟩
 rw[ig z]at d;have X:decide (y.t<=clock-x.c.aL)=false:=by simpa using z
 go_wp2_with fail
 go_quiet (fail)
 by_cases A:clock+x.c.bF<y.t
 ·rw[ij A]at d;go_wp2;go_ret;exact⟨A9 d.o.symm,o.o.then (aA.drewN _ _ _)⟩
 rw[ig A]at d;have Y:decide (clock+x.c.bF<y.t)=false:=by simpa using A
 go_wp2_with fail
 have m:lX C (C.drewN nq):=aA.drewN (λ_=>False) C nq;have q:=Aa (t.o.still m);have n:=Aa (k.o.keeps m id);have P:=Aa (o.o.then m);clear m;generalize C.drewN nq=N at *
 clear t k o E F G H af j J z X A Y;have j:=q.o.aF.lt;have J:=n.o.lt;have E:=n.o.c0;have F:=n.o.c1;have G:=n.o.c2;have H:=n.o.c3;have ae:κ N b.s 24 (.func (.func (AO x.k)) #[] #[]):=q.o.aF.cell rfl;obtain⟨r,ag⟩:=El q.o.aF 1 20 x.c.cells rfl rfl;have ah:=ON x.k S M
 go_region_held3 (λc=>c.cell? ⟨b.s,24,none⟩=some (.func (.func (AO x.k)) #[] #[])/\Ap c b.s 1 20=.agg x.c.cells.toArray/\Az c b.s 1 20=true /\
     c.cell? ⟨u,0,none⟩=some (ι y.t)/\c.cell? ⟨u,1,none⟩=some (ι y.k)/\c.cell? ⟨u,2,none⟩=some (ι y.d)/\c.cell? ⟨u,3,none⟩=some (ι y.n))
  (first | (simp[*,A3,A4];done) | (go_split_ands;refine⟨h.cell (by assumption) id,(Cf h id (by simpa using j)).1.trans (by assumption),(Cf h id (by simpa using j)).2.trans (by assumption),h.cell (by assumption) id,h.cell (by assumption) id,h.cell (by assumption) id,h.cell (by assumption) id⟩))
  (first | (refine(Ml x.c x.k y _ S M U.o ak al).mono ?_;rintro e c ⟨rfl,h⟩))
 have I:lX N c:=((aA.refl (λ_=>False) N).drew).then h;have l:=Aa (q.o.still I);have s:=Aa (P.o.then I);clear h I q n P E F G H ae r ag ah j J;have j:=l.o.aF.lt;generalize ap:AP x.c x.k y=e at *
 by_cases i:e=0
 ·have Z:(e !=0)=false:=by simp[i]
  rw[ig (by simpa using i)]at d;have T:=Aa i;clear i;have am:κ c b.s 32 (π b.q):=l.o.aF.cell rfl;have ao:=l.o.aF.c4;have an:κ c b.s 33 (ι x.acc):=l.o.aF.cell rfl;by_cases B:x.c.cap<=(x.l.length:Int)
  ·rw[ij B]at d;have aa:decide (x.c.cap<=(x.l.length:Int))=true:=by simpa using B
   go_wp2_with fail
   go_quiet (first | (go_at_call 67;refine jA (len_any b.q b.g x.l _ (by exact l.o.dM.keeps (aA.drewN (λ_=>False) _ _) id (λ_ _ a=>a)))))
   go_wp2;go_ret;exact⟨A9 d.o.symm,s.o.then (aA.drewN _ _ _)⟩
  rw[ig B]at d;have aa:decide (x.c.cap<=(x.l.length:Int))=false:=by simpa using B
  by_cases v:4611686018427387904<=x.acc
  ·rw[ij v]at d;have V:decide (4611686018427387904<=x.acc)=true:=by simpa using v
   go_wp2_with fail
   go_quiet (first | (go_at_call 67;refine jA (len_any b.q b.g x.l _ (by exact l.o.dM.keeps (aA.drewN (λ_=>False) _ _) id (λ_ _ a=>a)))))
   go_wp2;go_ret;exact⟨A9 d.o.symm,s.o.then (aA.drewN _ _ _)⟩
  rw[ig v]at d;have V:decide (4611686018427387904<=x.acc)=false:=by simpa using v
  go_wp2_with fail
  go_quiet (first | (go_at_call 67;refine jA (len_any b.q b.g x.l _ (by exact l.o.dM.keeps (aA.drewN (λ_=>False) _ _) id (λ_ _ a=>a)))))
  go_wp2;go_ret;exact⟨A9 d.o.symm,s.o.then (aA.drewN _ _ _)⟩
 have Z:(e !=0)=true:=by simp[i]
 rw[ij (by simpa using i)]at d;have T:=Aa i;clear i;go_wp2;go_ret;exact⟨A9 d.o.symm,s.o⟩
end
section
def A7(k:Nat)(y:It): It:=match k with
 | 1=>⟨y.t,0,0,y.n⟩
 | 2=>⟨y.t,y.k,0,y.n⟩
 | 3=>⟨y.t,y.k,0,y.n⟩
 | 4=>⟨y.t,0,0,y.n⟩
 | _=>⟨y.t,y.k,y.d,y.n⟩
def RN(y:It): List Value:=[ι y.t,ι y.k,ι y.d,ι y.n]
theorem Yp(k:Nat)(y:It)(c:1<=k)(d:k<=5): DF [ι 0,ι 0,ι 0,ι y.n] (CW k) ((CW k).map (λe=>[y.t,y.k,y.d].getD e 0))=RN (A7 k y):=by
 rcases Au c d with a | a | a | a | a <;> subst a <;> rfl
def G7(l:List It)(y:It): List It:=riseL (l.length+1) (l++[y]) l.length
def Cs(k:Nat)(bC:List It): List It:=bC.foldl (λl y=>G7 l (A7 k y)) []
theorem XR(k:Nat)(bC:List It)(y:It): Cs k (bC++[y])=G7 (Cs k bC) (A7 k y):=by
 unfold Cs;rw[jV];rfl
theorem Oi(k:Nat)(bC:List It): (Cs k bC).length=bC.length:=by
 have:∀(c:List It) (a:List It),(c.foldl (λa y=>G7 a (A7 k y)) a).length=a.length+c.length:=by
  intro c;induction c with
  | nil=>intro a;rfl
  | cons y c e=>intro a;rw[jZ,e];unfold G7;rw[riseL_length];simp;omega
 have d:=this bC [];simpa[Cs] using d
def I2(x:aJ)(ck:Cfg)(bC:List It): aJ:=⟨x.id,ck,x.k,0,x.rel,CN x.ref 7,Cs x.k bC,CH,0⟩
def IC(k:Nat): List Value:=[.func (.func (Bi k)) #[] #[],.func (.func (AU k)) #[] #[],.func (.func (AV k)) #[] #[],.func (.func (AO k)) #[] #[],.func (.func (AR k)) #[] #[],.func (.func (Be k)) #[] #[]]
structure eJ (w:World) (r:Nat) (sb:SB) (x:aJ) (ck:Cfg) (clock A:Int) (kn cb:Nat) (l:List It) (tl:List Nat) (ns:List Int) (og:Option Nat) (nv:Value) (wr:World):Prop where
 ls:eK w r { sb with g:=og } (I2 x ck l) tl wr
 kr:dB wr kn (clock-ck.aL) A x.rel nv ns
 kd:aD wr (cb+1) (IC x.k) 75
 ap:∀j,({ sb with g:=og }:SB).aQ x.k j->cb+1<j/\j≠kn/\nv.ownBlock≠some j
 rc:r<cb
 kc:cb+1<kn
 wk:w.heap.size<=kn
theorem eJ.eP{w:World}{j:Nat}{k:SB}{x:aJ}{ck:Cfg}{clock c:Int}{a d:Nat}{l:List It}{tl:List Nat}{ns:List Int}{h:Option Nat}{nv:Value}{wr:World}(e:eJ w j k x ck clock c a d l tl ns h nv wr)(i:Nat)(hi:nv.ownBlock=some i): a+1<=i:=(e.kr.row.lt i hi).1
theorem eJ.still{w:World}{j:Nat}{k:SB}{x:aJ}{ck:Cfg}{clock d:Int}{h e:Nat}{l:List It}{tl:List Nat}{ns:List Int}{i:Option Nat}{nv:Value}{wr m:World}(a:eJ w j k x ck clock d h e l tl ns i nv wr)(c:lX wr m): eJ w j k x ck clock d h e l tl ns i nv m :=
 ⟨a.ls.still c,a.kr.keeps c id (λ_ _ a=>a),a.kd.keeps c id,a.ap,a.rc,a.kc,a.wk⟩
theorem eJ.rd{w:World}{i:Nat}{n:SB}{x:aJ}{ck:Cfg}{clock q:Int}{k j:Nat}{l:List It}{tl s:List Nat}{ns:List Int}{m:Option Nat}{nv:Value}{wr o:World}{bx:Nat}(c:eJ w i n x ck clock q k j l tl ns m nv wr)(h:aA (λd=>d=i\/d=bx) wr o)(A:aR o i s)(t:∀r,({ n with g:=m }:SB).aQ x.k r->r≠bx)(v:k≠bx)(z:nv.ownBlock≠some bx)(u:j+1≠bx)(G:w.heap.size<=bx): eJ w i n x ck clock q k j l s ns m nv o:=by
 have F:=c.ls.rl;have B:=c.rc;have C:=c.kc;have D:=c.wk;refine⟨⟨c.ls.cY.keeps h (λd e a=>?_),A,c.ls.kp.trans h (λd e E=>?_),c.ls.new,c.ls.rl⟩,c.kr.keeps h (λa=>?_) (λd e a=>?_),c.kd.keeps h (λa=>?_),c.ap,c.rc,c.kc,c.wk⟩
 ·rcases a with a | a
  ·exact c.ls.apart d e a
  exact t d e a
 ·rcases e with a | a
  ·exact a
  omega
 ·rcases a with a | a
  ·omega
  exact v a
 ·rcases a with a | a
  ·have:=c.eP d e;omega
  exact z (by rw[<-a];exact e)
 rcases a with a | a
 ·omega
 exact u a
theorem eJ.num{w:World}{m:Nat}{t:SB}{x:aJ}{ck:Cfg}{clock d n:Int}{k r:Nat}{l:List It}{tl:List Nat}{ns:List Int}{s:Option Nat}{nv:Value}{wr:World}(c:eJ w m t x ck clock d k r l (enc n++tl) ns s nv wr)(n1:1<=n)(D:n<=d)(u:d<=4611686018427387904)(A:n ∉ ns)(z:ns.length<=900):
  Calls prog 127 #[π k,π m] wr λa E=>a=.returned (ι n)/\∃q,eJ w m t x ck clock d k r l tl (ns++[n]) s q E:=by
 have H:=c.rc;have F:=c.kc;have I:=c.wk;refine(NT m k _ d x.rel n nv ns tl wr c.ls.rd c.kr (by omega) n1 D u A z).mono ?_;rintro a J ⟨rfl,C,⟨q,v,B⟩,o⟩;refine⟨rfl,q,⟨⟨c.ls.cY.keeps o (λh e a=>?_),C,c.ls.kp.trans o (λh e G=>?_),c.ls.new,c.ls.rl⟩,v,c.kd.keeps o (λa=>?_),λi j=>⟨(c.ap i j).1,(c.ap i j).2.1,λa=>?_⟩,c.rc,c.kc,c.wk⟩⟩
 ·rcases a with a | a | a
  ·exact c.ls.apart h e a
  ·exact(c.ap h e).2.1 a
  exact(c.ap h e).2.2 a
 ·rcases e with a | a | a
  ·exact a
  ·omega
  have:=c.eP h a;omega
 ·rcases a with a | a | a
  ·omega
  ·omega
  have:=c.eP _ a;omega
 rcases B i a with a | a
 ·exact(c.ap i j).2.2 a
 have:=c.ls.cY.lt i j;omega
theorem eJ.put{w:World}{t:Nat}{j:SB}{x:aJ}{ck:Cfg}{clock A:Int}{s B:Nat}{l:List It}{tl:List Nat}{ns:List Int}{q m:Option Nat}{nv:Value}{wr u:World}{y:It}(d:eJ w t j x ck clock A s B l tl ns q nv wr)(H:bB u j.q m (G7 (Cs x.k l) (A7 x.k y)))(o:aA (λn=>n=j.q\/q=some n) wr u)(z:m=q\/∃n,m=some n/\wr.heap.size<=n): eJ w t j x ck clock A s B (l++[y]) tl ns m nv u:=by
 have F:=d.ls.new;have h:=d.ls.cY;have L:=d.ls.kp.size;have r:∀c,(c=j.q\/q=some c)->({ j with g:=q }:SB).aQ x.k c:=λc e=>e.elim (λa=>.inr (.inl a)) (λa=>.inr (.inr (.inl a)));have D:∀k,({ j with g:=m }:SB).aQ x.k k->({ j with g:=q }:SB).aQ x.k k\/wr.heap.size<=k:=λk v=>by
  rcases v with a | a | a | a
  ·exact .inl (.inl a)
  ·exact .inl (.inr (.inl a))
  ·rcases z with g | ⟨n,g,G⟩
   ·exact .inl (.inr (.inr (.inl (g ▸ a))))
   have i:m=some k:=a;rw[g]at i;have:=jD i;exact .inr (by omega)
  exact .inl (.inr (.inr (.inr a)))
 refine⟨⟨⟨?_,?_,?_,h.sq,λg E=>?_,λc e=>⟨(h.sn c e).1,(h.sn c e).2.1,λa=>?_⟩⟩,d.ls.rd.keeps o (λa=>d.ls.apart t (r t a) rfl),d.ls.kp.trans o (λc e J=>?_),λc e=>?_,d.ls.rl⟩,d.kr.keeps o (λa=>(d.ap s (r s a)).2.1 rfl) (λc e a=>(d.ap c (r c a)).2.2 e),d.kd.keeps o (λa=>by have:=(d.ap _ (r _ a)).1;omega),λk v=>?_,d.rc,d.kc,d.wk⟩
 ·exact h.aF.keeps o (λa=>by
     rcases a with a | a
     ·exact h.sq a
     exact h.sg _ a rfl)
 ·show bB u j.q m (Cs x.k (l++[y]));rw[XR];exact H
 ·exact h.note.keeps o (λc e a=>by
     rcases a with a | a
     ·exact(h.sn c e).2.1 a
     exact(h.sn c e).2.2 a)
 ·rcases z with a | ⟨n,a,G⟩
  ·exact h.sg g (a ▸ E)
  have i:m=some g:=E;rw[a]at i;have:=jD i;have C:=h.lt j.s (.inl rfl);show j.s≠g;omega
 ·have i:m=some c:=a;rcases z with g | ⟨n,g,G⟩
  ·exact(h.sn c e).2.2 (g ▸ i)
  rw[g]at i;have:=jD i;have C:=h.lt c (.inr (.inr (.inr e)));omega
 ·have:=F c (r c e);omega
 ·rcases D c e with a | a
  ·exact F c a
  omega
 rcases D k v with a | a
 ·exact d.ap k a
 have I:=d.kr.aF.lt;have C:=d.kc;refine⟨by omega,by omega,λi=>?_⟩;have:=(d.kr.row.lt k i).2;omega
theorem LV{c:Cfg}{k:Nat}(a:Ak c=true)(h:c.kind=k)(e:k=3): (c.rows=1\/c.rows=2\/c.rows=3)/\1<=c.width/\c.width<=16/\1<=c.aM/\c.aM<=8/\1<=c.aB/\c.aB<=1000/\c.aB%c.aM=0:=by
 subst e;simp only[Ak,h,iQ]at a;have d:EY c=true:=a.2.2;simp only[EY,Cg,Ab,iQ,iP,beq_iff_eq]at d;omega
theorem I6{c:Cfg}{j:Nat}(e:j<c.rows.toNat): De (Al 3 c) j=De c j/\Df (Al 3 c) j=Df c j:=by
 have d:∀p:Nat,j<p->De (Ew p (Dq 3 c) c) j=De c j/\Df (Ew p (Dq 3 c) c) j=Df c j:=λp a=>by
  match j with
  | 0=>exact⟨ij a,ij a⟩
  | 1=>exact⟨ij a,ij a⟩
  | n+2=>exact⟨ij (by omega),ij (by omega)⟩
 exact d _ e
theorem Ng{c:Cfg}{j:Nat}(key:Int)(a:j<c.rows.toNat): AA (Al 3 c) key j=AA c key j:=by
 unfold AA;rw[(I6 a).1,(I6 a).2];rfl
theorem Rn(c:Cfg)(key:Int): ∀(n:Nat) (cs:List Int),n<=c.rows.toNat->BO (Al 3 c) key n cs=BO c key n cs
 | 0,_,_=>rfl
 | n+1,cs,h=>by
  unfold BO;rw[Rn c key n _ (by omega),Ng key (by omega)]
theorem QX(c:Cfg)(bL:List Int)(key:Int)(d:1<=c.rows.toNat): ∀a:Nat,a<=c.rows.toNat->Ec (Al 3 c) bL key a=Ec c bL key a
 | 0,_=>by unfold Ec DR;rw[Ng key (by omega)]
 | a+1,h=>by
  unfold Ec DR;rw[QX c bL key d a (by omega),Ng key (by omega)]
theorem F7(k:Nat)(c:Cfg)(d:1<=k)(e:k<=5): (Al k c).kind=c.kind/\(Al k c).aL=c.aL/\(Al k c).bF=c.bF/\(Al k c).cap=c.cap:=by
 rcases Au d e with a | a | a | a | a <;> subst a <;> exact⟨rfl,rfl,rfl,rfl⟩
theorem Nh(k:Nat)(c:Cfg)(y:It)(d:1<=k)(e:k<=5): AP (Al k c) k (A7 k y)=AP c k y:=by
 rcases Au d e with a | a | a | a | a <;> subst a <;> rfl
theorem Qy(k:Nat)(c:Cfg)(y:It)(d:1<=k)(e:k<=5): AP (Al k c) k y=AP c k y:=by
 rcases Au d e with a | a | a | a | a <;> subst a <;> rfl
theorem RD(k:Nat)(c:Cfg)(a:aU)(y:It)(m:Int)(e:1<=k)(j:k<=5): BE k (Al k c) a (A7 k y) m=BE k c a y m:=by
 rcases Au e j with d | d | d | d | d <;> subst d
 ·rfl
 ·rfl
 ·have l:=Rn c y.k c.rows.toNat (A8 a.op a.cl (y.t/Ag c)).1.cs (ir _);have h:(Cl (Al 3 c) a.op a.cl (A7 3 y) m).1=(Cl c a.op a.cl y m).1:=by
   show(⟨_,BO (Al 3 c) y.k c.rows.toNat (A8 a.op a.cl (y.t/Ag c)).1.cs,_⟩:Pa.Pn)=⟨_,BO c y.k c.rows.toNat (A8 a.op a.cl (y.t/Ag c)).1.cs,_⟩;congr 1
  have i:(Cl (Al 3 c) a.op a.cl (A7 3 y) m).2=(Cl c a.op a.cl y m).2:=rfl;show({ a with op:=_,cl:=_ }:aU)={ a with op:=_,cl:=_ };rw[h,i]
 ·rfl
 rfl
theorem R9(k:Nat)(c:Cfg)(d:aU)(a m:Int)(h:1<=k)(i:k<=5)(l:Ak c=true)(j:c.kind=k): Bc k (Al k c) d a m=Bc k c d a m:=by
 rcases Au h i with e | e | e | e | e <;> subst e
 ·rfl
 ·rfl
 ·have n:=LV l j rfl;show(if Ab a 0 2147483648=true then((0:Int),[Ec (Al 3 c) (D7 c d.op d.cl (m-c.aB)) a c.rows.toNat]) else(10,[]))=(if Ab a 0 2147483648=true then((0:Int),[Ec c (D7 c d.op d.cl (m-c.aB)) a c.rows.toNat]) else(10,[]));rw[QX c _ a (by omega) _ (ir _)]
 ·rfl
 rfl
theorem RL(k:Nat)(c:Cfg)(d:aU)(m b:Int)(e:1<=k)(h:k<=5): Bj k (Al k c) d m b=Bj k c d m b:=by
 rcases Au e h with a | a | a | a | a <;> subst a <;> rfl
theorem RJ(k:Nat)(c:Cfg)(d:aU)(m:Int)(e:1<=k)(h:k<=5): DX k (Al k c) d m=DX k c d m:=by
 rcases Au e h with a | a | a | a | a <;> subst a <;> rfl
theorem R8(k:Nat)(c:Cfg)(e:1<=k)(i:k<=5)(l:Ak c=true)(j:c.kind=k): BV k (Al k c)=BV k c:=by
 rcases Au e i with a | a | a | a | a <;> subst a
 ·rfl
 ·rfl
 ·have m:=LV l j rfl;have d:∀p:Nat,p<=3->(Bg p).map (Ew p (Dq 3 c) c).num=(Bg p).map c.num:=λp d=>by
   have:p=0\/p=1\/p=2\/p=3:=by omega
   rcases this with a | a | a | a <;> subst a <;> rfl
  have h:=d c.rows.toNat (by omega);show c.kind::([1,2,3].map c.num++([7,8,9,5].map c.num++(Bg c.rows.toNat).map (Ew c.rows.toNat (Dq 3 c) c).num))=_;rw[h];rfl
 ·rfl
 rfl
theorem zP6(k:Nat)(c:Cfg)(e:1<=k)(h:k<=5): Al k (Al k c)=Al k c:=by
 rcases Au e h with a | a | a | a | a <;> subst a
 ·rfl
 ·rfl
 ·have d:∀p:Nat,Ew p (Dq 3 (Ew p (Dq 3 c) c)) (Ew p (Dq 3 c) c)=Ew p (Dq 3 c) c:=λp=>by
   unfold Ew;simp only[Cfg.mk.injEq,Dq,Gd];refine⟨trivial,trivial,trivial,trivial,trivial,trivial,trivial,trivial,trivial,trivial,trivial,trivial,trivial,trivial,?_,?_,?_,?_,?_,?_⟩ <;> split <;> rfl
  exact d c.rows.toNat
 ·rfl
 rfl
theorem KE(k:Nat)(c:Cfg)(j:1<=k)(l:k<=5)(d:Ak c=true)(i:c.kind=k): Ak (Al k c)=true:=by
 have h:=F7 k c j l;unfold Ak at d ⊢;rw[h.1];rw[i]at d ⊢;have o:B5 (Al k c)=B5 c:=by unfold B5;rw[h.2.1,h.2.2.1,h.2.2.2]
 rw[o];simp only[iQ]at d ⊢;refine⟨d.1,d.2.1,?_⟩;have e:=d.2.2;rw[iM]at e ⊢;rcases Au j l with a | a | a | a | a <;> subst a
 ·exact e
 ·exact e
 ·have r:Ak c=true:=by unfold Ak;simp only[iQ];rw[i];exact⟨d.1,d.2.1,e⟩
  have s:=LV r i rfl;have m:∀p:Nat,p=1\/p=2\/p=3->Fb (Ew p (Dq 3 c) c) p=Fb c p:=λp q=>by
   rcases q with a | a | a <;> subst a <;> rfl
  have n:EY (Al 3 c)=EY c:=by
   show(Ab c.rows 1 3&&(Ab c.width 1 16&&(Ab c.aM 1 8&&(Cg c&&((c.aB%c.aM==0)&&Fb (Ew c.rows.toNat (Dq 3 c) c) c.rows.toNat)))))=_;rw[m c.rows.toNat (by omega)];rfl
  show EY (Al 3 c)=true;rw[n];exact e
 ·exact e
 exact e
theorem F0(k:Nat)(y:It): (A7 k y).t=y.t:=by unfold A7;split <;> rfl
theorem Gz(k:Nat)(y:It): (A7 k y).n=y.n:=by unfold A7;split <;> rfl
theorem Zt(k:Nat)(y:It): A7 k (A7 k y)=A7 k y:=by unfold A7;split <;> simp_all
theorem zMp(k:Nat)(y:It)(c:1<=k)(d:k<=5): Fc k (A7 k y)=Fc k y:=by
 rcases Au c d with a | a | a | a | a <;> subst a <;> rfl
theorem Rw(k:Nat)(l:List It)(a:1<=k)(c:k<=5): Bq k (l.map (A7 k))=Bq k l:=by
 unfold Bq;rw[List.flatMap_map];congr 1;funext y;exact zMp k y a c
theorem QS{α:Type}(f:α->Int){l:List α}(h:(l.map f).Nodup){a b:α}(d:a∈l)(c:b∈l)(e:f a=f b): a=b:=by
 induction l with
 | nil=>cases d
 | cons j l i =>
  rw[iF,kA]at h;rcases iA.1 d with d | d
  ·rcases iA.1 c with c | c
   ·rw[d,c]
   exact absurd (iK (f:=f) c) (by rw[<-e,d];exact h.1)
  rcases iA.1 c with c | c
  ·exact absurd (iK (f:=f) d) (by rw[e,c];exact h.1)
  exact i h.2 d c
theorem Jc{α β:Type}{f:α->β}{l c:List α}(d:(l.map f).Perm (c.map f)): l=[]↔c=[]:=by
 have:=d.length_eq;rw[iu,iu]at this;constructor <;> intro a
 ·subst a;exact iR.1 this.symm
 subst a;exact iR.1 this
theorem Qr{l:List It}(d:bE l){y:It}(e:y∈l): dI (itAt l 0) y:=by
 obtain⟨c,a,rfl⟩:=jX.1 e;rw[<-itAt_get l c a];exact d.first c a
theorem P8{k:Nat}{l a:List It}(o:bE l)(q:bE a)(w:(l.map (·.n)).Nodup)(m:l≠[])(e:(l.map (A7 k)).Perm (a.map (A7 k))):
  A7 k (itAt l 0)=A7 k (itAt a 0)/\((takeL l).map (A7 k)).Perm ((takeL a).map (A7 k)):=by
 have s:a≠[]:=λd=>m ((Jc e).2 d);have r:=Gr m;have v:=Gr s;obtain⟨h,z,n⟩:=iI.1 (e.subset (iK r));obtain⟨c,t,j⟩:=iI.1 (e.symm.subset (iK v));have d:A7 k (itAt l 0)=A7 k (itAt a 0):=by
  have i:=Qr o t;have b:=Qr q z;have C:c.t=(itAt a 0).t:=by rw[<-F0 k c,j,F0]
  have A:c.n=(itAt a 0).n:=by rw[<-Gz k c,j,Gz]
  have D:h.t=(itAt l 0).t:=by rw[<-F0 k h,n,F0]
  have B:h.n=(itAt l 0).n:=by rw[<-Gz k h,n,Gz]
  have x:(itAt l 0).n=c.n:=by
   rcases i with i | i <;> rcases b with b | b <;> omega
  rw[QS (·.n) w r t x,j]
 refine⟨d,?_⟩;have u:=((take_heap l o m).2.map (A7 k)).trans (e.trans ((take_heap a q s).2.map (A7 k)).symm);rw[iF,iF,d]at u;exact u.cons_inv
theorem zKm{k:Nat}(f:Nat): ∀ {l d:List It},bE l->bE d->(l.map (·.n)).Nodup->(l.map (A7 k)).Perm (d.map (A7 k))->(Qi.allL f l).map (A7 k)=(Qi.allL f d).map (A7 k):=by
 induction f with
 | zero=>intros;rfl
 | succ f q =>
  intro l d h j m i;by_cases c:l=[]
  ·have e:=(Jc i).1 c;rw[c,e]
  have e:d≠[]:=λa=>c ((Jc i).2 a);obtain⟨a,p⟩:=P8 h j m c i;have n:l.length≠0:=λa=>c (iR.1 a);have o:d.length≠0:=λa=>e (iR.1 a);unfold Qi.allL;rw[ig n,ig o,iF,iF,a];congr 1;refine q (take_heap l h c).1 (take_heap d j e).1 ?_ p;have:=((take_heap l h c).2.map (·.n)).nodup_iff.2 m;rw[iF,kA]at this;exact this.2
theorem Ip(f:Nat): ∀a:List It,a.length<f->bE a->(Qi.allL f a).Perm a:=by
 induction f with
 | zero=>intro a d;omega
 | succ f i =>
  intro a j d;unfold Qi.allL;split
  ·rename_i c;rw[iR.1 c]
  rename_i c;have e:a≠[]:=λh=>c (by rw[h];rfl);exact(List.Perm.cons _ (i (takeL a) (by rw[takeL_length];omega) (take_heap a d e).1)).trans (take_heap a d e).2
theorem Mt(k:Nat)(bC:List It): bE (Cs k bC)/\(Cs k bC).Perm (bC.map (A7 k)):=by
 have:∀(d:List It) (a:List It),bE a->bE (d.foldl (λa y=>G7 a (A7 k y)) a)/\(d.foldl (λa y=>G7 a (A7 k y)) a).Perm (d.map (A7 k)++a):=by
  intro d;induction d with
  | nil=>intro a c;exact⟨c,jj _⟩
  | cons y d j =>
   intro a c;have e:=put_heap a (A7 k y) c;obtain⟨h,i⟩:=j (G7 a (A7 k y)) e.1;refine⟨h,i.trans ?_⟩;refine(lf _ e.2).trans ?_;rw[iF,θ];exact lh
 have c:=this bC [] (λl _ c=>by simp at c);rw[iC]at c;exact c
theorem Pk{l c:List Dr.It}(i:Dr.bK l)(j:Dr.bK c)(t:(l.map (·.n)).Nodup)(h:l≠[])(d:l.Perm c):
  Dr.itAt l 0=Dr.itAt c 0/\(Dr.takeL l).Perm (Dr.takeL c):=by
 have n:c≠[]:=λe=>h (by rw[e]at d;exact d.eq_nil);have o:∀ {a:List Dr.It},a≠[]->Dr.itAt a 0∈a:=fun {a} s=>by
  have r:0<a.length:=by cases a with | nil=>exact absurd rfl s | cons _ _=>simp
  rw[Dr.itAt_get a 0 r];exact jk _
 have k:=o h;have m:=d.symm.subset (o n);have e:Dr.itAt l 0=Dr.itAt c 0:=by
  have a:=i.firstm m;have b:=j.firstm (d.subset k);refine QS (·.n) t k m ?_;unfold Dr.cX at a b;rcases a with a | a <;> rcases b with b | b <;> omega
 refine⟨e,?_⟩;have q:=(Dr.take_heap l i h).2.trans (d.trans (Dr.take_heap c j n).2.symm);rw[e]at q;exact q.cons_inv
theorem P4(f:Nat): ∀ {l c:List Dr.It},Dr.bK l->Dr.bK c->(l.map (·.n)).Nodup->l.Perm c->Dr.allL f l=Dr.allL f c:=by
 induction f with
 | zero=>intros;rfl
 | succ f o =>
  intro l c h i k e;by_cases d:l=[]
  ·subst d;rw[e.nil_eq]
  have j:c≠[]:=λa=>d (by rw[a]at e;exact e.eq_nil);obtain⟨a,p⟩:=Pk h i k d e;have m:l.length≠0:=λa=>d (iR.1 a);have n:c.length≠0:=λa=>j (iR.1 a);unfold Dr.allL;rw[ig m,ig n,a];congr 1;refine o (Dr.take_heap l h d).1 (Dr.take_heap c i j).1 ?_ p;have:=((Dr.take_heap l h d).2.map (·.n)).nodup_iff.2 k;rw[iF,kA]at this;exact this.2
theorem K5(c:Cfg){l:List Dr.It}(y:It)(i:Dr.bK l)(k:Dr.dpos (tick c y)): Dr.bK (AY c l y)/\∃d,(d++AY c l y).Perm (tick c y::l)/\(d.length:Int)=if c.size+1<((l.length+1:Nat):Int) then 1 else 0:=by
 have a:=Dr.put_heap l (tick c y) i k;unfold AY;split
 ·have j:Dr.riseL (l.length+1) (l++[tick c y]) l.length≠[]:=λh=>by
   have:=a.2.length_eq;rw[h]at this;simp at this
  have e:=Dr.take_heap _ a.1 j;exact⟨e.1,[_],e.2.trans a.2,rfl⟩
 exact⟨a.1,[],a.2,rfl⟩
theorem Yj(c:Cfg){l e:List Dr.It}(y:It)(n:Dr.bK l)(o:Dr.bK e)(k:Dr.dpos (tick c y))(q:((tick c y::l).map (·.n)).Nodup)(i:l.Perm e): (AY c l y).Perm (AY c e y):=by
 have a:=Dr.put_heap l (tick c y) n k;have b:=Dr.put_heap e (tick c y) o k;have j:=a.2.trans ((i.cons _).trans b.2.symm);have r:Dr.riseL (l.length+1) (l++[tick c y]) l.length≠[]:=λm=>by
  have:=a.2.length_eq;rw[m]at this;simp at this
 have h:=i.length_eq;unfold AY;by_cases d:c.size+1<((l.length+1:Nat):Int)
 ·rw[ij d,ij (by rw[<-h];exact d)];exact(Pk a.1 b.1 ((a.2.map (·.n)).nodup_iff.2 q) r j).2
 rw[ig d,ig (by rw[<-h];exact d)];exact j
theorem Jt{α:Type}(p:α->Bool): ∀a:List α,a.drop (a.takeWhile p).length=a.dropWhile p
 | []=>rfl
 | x::a=>by
  unfold List.takeWhile List.dropWhile;cases h:p x with
  | true=>exact Jt p a
  | false=>rfl
theorem Hk{α:Type}{p e:α->Bool}(h:∀a,e a=true->p a=true): ∀c:List α,(c.dropWhile e).dropWhile p=c.dropWhile p
 | []=>rfl
 | a::c=>by
  by_cases d:e a=true
  ·rw[kx d,kx (h a d)];exact Hk h c
  rw[ky d]
theorem Nl{α:Type}(p:α->Bool)(d:List α): ∀a:List α,(a++d).dropWhile p=if a.dropWhile p=[] then d.dropWhile p else a.dropWhile p++d
 | []=>by simp
 | x::a=>by
  by_cases c:p x=true
  ·rw[θ,kx c,kx c];exact Nl p d a
  rw[θ,ky c,ky c,ig (by simp)];rfl
def G4(t:Int)(b:Bk): Bool:=decide (b.sz<=t)
def AX(c:Cfg)(m:Int)(l:List Bk): List Bk:=l.drop (Mk.pastN l (m-c.aB))
theorem J7(c:Cfg)(m:Int)(l:List Bk): AX c m l=l.dropWhile (G4 (m-c.aB)):=Jt _ l
theorem Ui{c:Cfg}{m a:Int}(k:m<=a){l d:List Bk}(e:AX c m l=AX c m d): AX c a l=AX c a d:=by
 rw[J7,J7]at e ⊢;have i:∀h,G4 (m-c.aB) h=true->G4 (a-c.aB) h=true:=λh j=>by
  simp only[G4,iP]at j ⊢;omega
 rw[<-Hk i l,<-Hk i d,e]
theorem OU{c:Cfg}{m t:Int}(i:m-c.aB<=t)(l:List Bk): DD l t=(Ad ((AX c m l).dropWhile (G4 t)) 0).t:=by
 have e:∀a,G4 (m-c.aB) a=true->G4 t a=true:=λa h=>by
  simp only[G4,iP]at h ⊢;omega
 rw[J7,Hk e,<-Jt];show DD l t=(Ad (l.drop (Mk.pastN l t)) 0).t;unfold DD;split
 ·rename_i d;rw[d,kK];rfl
 simp[Ad,List.getD_eq_getElem?_getD]
theorem U7{c:Cfg}{m t:Int}(d:m-c.aB<=t){h i:Nat->List Bk}(n:Nat)(e:∀a,a<n->AX c m (h a)=AX c m (i a)): Cw h n t=Cw i n t:=by
 unfold Cw;refine jT (λk j=>?_);rw[OU d,OU d,e k (lA.1 j)]
theorem Yf{c:Cfg}{m:Int}{k l:Nat->List Bk}(n:Nat)(e:∀a,a<n->AX c m (k a)=AX c m (l a)): DI k n (m-c.aB)=DI l n (m-c.aB):=by
 have o:∀h:List Bk,EM h (m-c.aB)=((AX c m h).length:Int)::CE (AX c m h):=λh=>by
  unfold EM AX;rw[iU]
 unfold DI;have:∀d:List Nat,(∀a∈d,a<n)->d.flatMap (λj=>EM (k j) (m-c.aB))=d.flatMap (λj=>EM (l j) (m-c.aB)):=by
  intro d;induction d with
  | nil=>intro _;rfl
  | cons r d s =>
   intro q;rw[jz,jz,s (λa i=>q a (by simp[i])),o,o,e r (q r (by simp))]
 exact this _ (λa i=>lA.1 i)
theorem XF{c:Cfg}{m:Int}{n:Nat}{i j:Nat->List Bk}(y:It)(e:∀a,a<n->AX c m (i a)=AX c m (j a)): ∀a,a<n->AX c m (BU c n i y m a)=AX c m (BU c n j y m a):=by
 intro a h;unfold BU;split
 ·have d:=e a h;unfold AX at d;rw[d]
 exact e a h
def BC(c:Cfg)(t:Int)(p:Pa.Pn): Bool:=decide (AW c p<=t)
theorem Gq(c:Cfg)(o:Pa.Pn)(cl:List Pa.Pn)(t:Int): A6 c o cl t=cl.dropWhile (BC c t)++(if t<AW c o/\o.cs≠Ay then[o] else[]):=by
 unfold A6 B7;rw[Jt];rfl
theorem Zm{c:Cfg}(d:0<=Ag c){a b:Pa.Pn}(e:a.no<=b.no): AW c a<=AW c b:=by
 unfold AW;have:=j1 (show a.no+1<=b.no+1 by omega) d;omega
structure fO (c:Cfg) (o:Pa.Pn) (cl:List Pa.Pn):Prop where
 eH:cl.Pairwise (λa b=>a.no<b.no)
 lt:∀p∈cl,p.no<o.no
 hD:0<=Ag c
theorem fO.live{c:Cfg}{o:Pa.Pn}{cl:List Pa.Pn}(a:fO c o cl){t:Int}(d:cl.dropWhile (BC c t)≠[]): t<AW c o:=by
 cases hd:cl.dropWhile (BC c t) with
 | nil=>exact absurd hd d
 | cons p k =>
  have h:p∈cl:=(List.dropWhile_sublist (BC c t)).subset (by rw[hd];simp);have e:¬BC c t p=true:=by
   have:=List.head_dropWhile_not (BC c t) d;simp only[hd,List.head_cons]at this;rw[this];simp
  have i:=a.lt p h;have j:=Zm (c:=c) a.hD (show p.no<=o.no by omega);simp only[BC,iP]at e;omega
theorem UE{c:Cfg}{o l:Pa.Pn}{cl i:List Pa.Pn}(d:fO c o cl)(s:fO c l i){t a:Int}(w:t<=a)(e:A6 c o cl t=A6 c l i t): A6 c o cl a=A6 c l i a:=by
 have q:∀ {o:Pa.Pn} {cl:List Pa.Pn},fO c o cl->A6 c o cl a=(A6 c o cl t).dropWhile (BC c a):=by
  intro o cl d;have u:∀m,BC c t m=true->BC c a m=true:=λm v=>by
   simp only[BC,iP]at v ⊢;omega
  rw[Gq,Gq,Nl,Hk u];by_cases k:o.cs=Ay
  ·have n:∀t:Int,(if t<AW c o/\o.cs≠Ay then[o] else[])=[]:=λt=>ig (λd=>d.2 k);rw[n,n];split
   ·rename_i e;rw[e];rfl
   rfl
  by_cases j:a<AW c o
  ·have h:(if a<AW c o/\o.cs≠Ay then[o] else[])=[o]:=ij ⟨j,k⟩;have r:(if t<AW c o/\o.cs≠Ay then[o] else[])=[o]:=ij ⟨by omega,k⟩;rw[h,r];have:¬BC c a o=true:=by simp only[BC,iP];omega
   split
   ·rename_i e;rw[e,ky this];rfl
   rfl
  have h:(if a<AW c o/\o.cs≠Ay then[o] else[])=[]:=ig (λd=>j d.1);rw[h];have e:cl.dropWhile (BC c a)=[]:=by
   cases he:cl.dropWhile (BC c a) with
   | nil=>rfl
   | cons p x=>exact absurd (d.live (t:=a) (by rw[he];simp)) j
  rw[e,ij rfl];split
  ·rw[kx (by simp only[BC,iP];omega)];rfl
  rfl
 rw[q d,q s,e]
def RI(n:Int)(P:List Pa.Pn): Pa.Pn:=(P.find? (λp=>p.no==n)).getD (Cy n)
theorem zPd{a b:Pa.Pn}(c:a.no=b.no)(d:a.cs=b.cs): a=b:=by
 cases a;cases b;simp at c d;subst c;subst d;rfl
theorem Xp{n:Int}(l a:List Pa.Pn)(c:∀p∈l,p.no<n): (l++a).find? (λp=>p.no==n)=a.find? (λp=>p.no==n):=by
 rw[List.find?_append,lB.2 (λp d=>by have:=c p d;simp;omega)];rfl
theorem Pm{c:Cfg}{o:Pa.Pn}{cl:List Pa.Pn}(d:fO c o cl){n t:Int}(m:o.no<=n)(l:t<(n+1)*Ag c-1): (A8 o cl n).1=RI n (A6 c o cl t):=by
 have i:∀p∈cl.dropWhile (BC c t),p.no<n:=λp k=>by
  have:=d.lt p ((List.dropWhile_sublist (BC c t)).subset k);omega
 unfold RI A8;rw[Gq,Xp _ _ i];by_cases a:o.no=n
 ·rw[ij a];have j:t<AW c o:=by unfold AW;rw[a];exact l
  by_cases e:o.cs=Ay
  ·rw[ig (λd=>d.2 e)];exact zPd a e
  rw[ij ⟨j,e⟩];simp[a]
 rw[ig a];show Cy n=_;by_cases h:t<AW c o/\o.cs≠Ay
 ·rw[ij h];simp[a]
 rw[ig h];rfl
theorem XD{c:Cfg}{o:Pa.Pn}{cl:List Pa.Pn}(a:fO c o cl){n t:Int}(r:o.no<=n): (A8 o cl n).2.dropWhile (BC c t)=(A6 c o cl t).filter (λp=>p.no !=n):=by
 have q:∀p∈cl.dropWhile (BC c t),p.no<o.no:=λp k=>a.lt p ((List.dropWhile_sublist (BC c t)).subset k);have m:(cl.dropWhile (BC c t)).filter (λp=>p.no !=n)=cl.dropWhile (BC c t):=kf.2 (λp k=>by have:=q p k;simp;omega);unfold A8;rw[Gq,jo,m];by_cases d:o.no=n
 ·rw[ij d];show cl.dropWhile (BC c t)=_;split
  ·simp[d]
  simp
 rw[ig d];show(if o.cs=Ay then cl else cl++[o]).dropWhile (BC c t)=_;by_cases e:o.cs=Ay
 ·rw[ij e,ig (λa=>a.2 e)];simp
 rw[ig e,Nl];by_cases j:t<AW c o
 ·have h:(if t<AW c o/\o.cs≠Ay then[o] else[])=[o]:=ij ⟨j,e⟩;rw[h];have l:¬BC c t o=true:=by simp only[BC,iP];omega
  have:[o].filter (λp=>p.no !=n)=[o]:=by simp[d]
  rw[this];split
  ·rename_i i;rw[i,ky l];rfl
  rfl
 have h:(if t<AW c o/\o.cs≠Ay then[o] else[])=[]:=ig (λa=>j a.1);rw[h];have i:cl.dropWhile (BC c t)=[]:=by
  cases he:cl.dropWhile (BC c t) with
  | nil=>rfl
  | cons p s=>exact absurd (a.live (t:=t) (by rw[he];simp)) j
 rw[i,ij rfl,kx (by simp only[BC,iP];omega)];rfl
theorem X8{c:Cfg}{o d:Pa.Pn}{cl h:List Pa.Pn}(a:fO c o cl)(l:fO c d h)(y:It)(m:Int)(i:o.no<=y.t/Ag c)(q:d.no<=y.t/Ag c)(e:A6 c o cl (m-c.aB)=A6 c d h (m-c.aB)):
  A6 c (Cl c o cl y m).1 (Cl c o cl y m).2 (m-c.aB)=A6 c (Cl c d h y m).1 (Cl c d h y m).2 (m-c.aB):=by
 have s:∀(o:Pa.Pn) (cl:List Pa.Pn) (k:Int),(A8 o cl k).1.no=k:=λo cl k=>by
  unfold A8;split
  ·assumption
  rfl
 have r:∀ {o:Pa.Pn} {cl:List Pa.Pn},fO c o cl->o.no<=y.t/Ag c->(Cl c o cl y m).2.dropWhile (BC c (m-c.aB))=(A6 c o cl (m-c.aB)).filter (λp=>p.no !=y.t/Ag c):=by
  intro o cl a i;show((A8 o cl (y.t/Ag c)).2.drop (B7 c (A8 o cl (y.t/Ag c)).2 (m-c.aB))).dropWhile _=_;unfold B7;rw[Jt];show((A8 o cl (y.t/Ag c)).2.dropWhile (BC c (m-c.aB))).dropWhile _=_;rw[Hk (λ_ a=>a),XD a i]
 rw[Gq,Gq,r a i,r l q,e];congr 1;have n:∀(o:Pa.Pn) (cl:List Pa.Pn),AW c (Cl c o cl y m).1=(y.t/Ag c+1)*Ag c-1:=λo cl=>by
  show((A8 o cl (y.t/Ag c)).1.no+1)*Ag c-1=_;rw[s]
 rw[n,n];by_cases j:m-c.aB<(y.t/Ag c+1)*Ag c-1
 ·have t:(Cl c o cl y m).1=(Cl c d h y m).1:=by
   show E5 c y.k c.rows.toNat (A8 o cl (y.t/Ag c)).1=E5 c y.k c.rows.toNat (A8 d h (y.t/Ag c)).1;rw[Pm a i j,Pm l q j,e]
  rw[t]
 rw[ig (λa=>j a.1),ig (λa=>j a.1)]
structure eT (R W:Nat) (s:Int) (cs:List Int):Prop where
 nn:∀i,0<=cs.getD i 0
 ze:∀i,(R<=i/16\/W<=i%16)->cs.getD i 0=0
 row:∀j,j<R->Bp (CQ W cs j)=s
theorem eT.f{R W:Nat}{s:Int}{cs:List Int}(a:eT R W s cs)(c:0<s): fI R W s s cs:=⟨a.nn,a.ze,a.row,c,iL _⟩
theorem fI.p{R W:Nat}{a s:Int}{cs:List Int}(c:fI R W a s cs): eT R W s cs:=⟨c.nn,c.ze,c.row⟩
theorem Gu(a b:List Int): Bp (a++b)=Bp a+Bp b:=by
 induction a with
 | nil=>simp[Bp]
 | cons d a c=>rw[θ,Gl,Gl,c];omega
theorem J3(a:Int): Bp [a]=a:=by rw[Gl];exact kW a
theorem Mg(i:Nat): Ay.getD i 0=0:=by
 unfold Ay;rw[γ,k0];split <;> rfl
theorem OK(W j:Nat): Bp (CQ W Ay j)=0:=by
 induction W with
 | zero=>rfl
 | succ W a=>rw[Kw,Gu,a,Gl,Mg];rfl
theorem eT.zero(R W:Nat): eT R W 0 Ay:=⟨λa=>by rw[Mg];omega,λa _=>Mg a,λc _=>OK W c⟩
theorem X7(cs a:List Int)(j W:Nat)(p:Int)(h:0<=p)(c:∀i,i<W->a.getD (j*16+i) 0=cs.getD (j*16+i) 0+if p=(i:Int) then 1 else 0): Bp (CQ W a j)=Bp (CQ W cs j)+if p<(W:Int) then 1 else 0:=by
 induction W with
 | zero=>rw[ig (by omega)];rfl
 | succ W d =>
  rw[Kw,Kw,Gu,Gu,d (λi e=>c i (by omega)),c W (by omega)];rw[J3,J3];split <;> split <;> split <;> omega
theorem eT.bump{c:Cfg}(k:c.rowed){R W:Nat}(u:c.rows=(R:Int))(r:c.width=(W:Int)){s:Int}{cs:List Int}(t:cs.length=48)(h:eT R W s cs)(key:Int): eT R W (s+1) (BO c key R cs):=by
 have w:=k.r1;have x:=k.w1;have z:=k.w0;have l:∀d,0<=AA c key d/\AA c key d<(W:Int):=λd=>by
  unfold AA;rw[r];exact⟨ki _ (by omega),j6 _ (by omega)⟩
 have n:∀d e:Nat,e<16->(BO c key R cs).getD (d*16+e) 0=cs.getD (d*16+e) 0+if d<R/\AA c key d=(e:Int) then 1 else 0:=λd e q=>Qf c k key cs t d e q R (by omega)
 have o:∀a,(BO c key R cs).getD a 0=cs.getD a 0+if a/16<R/\AA c key (a/16)=((a%16:Nat):Int) then 1 else 0:=λa=>by
  have:=n (a/16) (a%16) (by omega);rw[show a/16*16+a%16=a by omega]at this;exact this
 refine⟨λa=>?_,λa i=>?_,λd m=>?_⟩
 ·rw[o];have:=h.nn a;split <;> omega
 ·rw[o,h.ze a i,ig (λv=>?_)]
  ·rfl
  have:=l (a/16);rcases i with i | i <;> omega
 rw[X7 cs _ d W (AA c key d) (l d).1 (λa i=>by
      rw[n d a (by omega)];congr 1;by_cases j:AA c key d=(a:Int)
      ·rw[ij ⟨m,j⟩,ij j]
      rw[ig (λh=>j h.2),ig j]),ij (l d).2,h.row d m]
structure OZ (c:Cfg) (R W:Nat) (rel:Int) (o:Pa.Pn) (cl:List Pa.Pn):Prop where
 cls:∀p∈cl,fI R W (sP W p) (sP W p) p.cs
 gR:eT R W (sP W o) o.cs
 pos:o.cs=Ay\/0<sP W o
 sum:Bp (cl.map (sP W))+sP W o<=rel
theorem KT(l:List Int)(c:∀a∈l,0<=a): 0<=Bp l:=by
 induction l with
 | nil=>exact iL _
 | cons a l e=>rw[Gl];have:=c a (by simp);have:=e (λy d=>c y (by simp[d]));omega
theorem Qt(l:List Int)(n:Nat)(c:∀a∈l,0<=a): Bp (l.drop n)<=Bp l:=by
 have d:=Gu (l.take n) (l.drop n);rw[τ]at d;have:=KT (l.take n) (λa e=>c a (iZ e));omega
theorem GU{W:Nat}{p:Pa.Pn}(a:p.cs=Ay): sP W p=0:=by unfold sP;rw[a];exact OK W 0
theorem OZ.zero(c:Cfg)(R W:Nat): OZ c R W 0 Pa.pn0 []:=by
 have a:sP W Pa.pn0=0:=GU rfl;refine⟨λp d=>by simp at d,?_,.inl rfl,?_⟩
 ·rw[a];exact eT.zero R W
 rw[a];exact iL _
theorem OZ.turn{c:Cfg}{R W:Nat}{rel:Int}{o:Pa.Pn}{cl:List Pa.Pn}(a:OZ c R W rel o cl)(n:Int): OZ c R W rel (A8 o cl n).1 (A8 o cl n).2:=by
 unfold A8;split
 ·exact a
 have h:sP W (Cy n)=0:=GU rfl;have i:=a.sum;by_cases d:o.cs=Ay
 ·refine⟨?_,?_,.inl rfl,?_⟩
  ·show ∀p∈(if o.cs=Ay then cl else cl++[o]),_;rw[ij d];exact a.cls
  ·show eT R W (sP W (Cy n)) Ay;rw[h];exact eT.zero R W
  show Bp ((if o.cs=Ay then cl else cl++[o]).map (sP W))+sP W (Cy n)<=rel;rw[ij d,h];rw[GU d]at i;exact i
 have j:=a.pos.resolve_left d;refine⟨?_,?_,.inl rfl,?_⟩
 ·show ∀p∈(if o.cs=Ay then cl else cl++[o]),_;rw[ig d];intro p k;rcases ik.1 k with e | e
  ·exact a.cls p e
  rw[im]at e;subst e;exact a.gR.f j
 ·show eT R W (sP W (Cy n)) Ay;rw[h];exact eT.zero R W
 show Bp ((if o.cs=Ay then cl else cl++[o]).map (sP W))+sP W (Cy n)<=rel;rw[ig d,h,iB,Gu];rw[iF,kq,J3];omega
theorem OZ.rel{c:Cfg}(k:c.rowed){R W:Nat}(q:c.rows=(R:Int))(r:c.width=(W:Int)){rel:Int}{o:Pa.Pn}{cl:List Pa.Pn}(l:OZ c R W rel o cl)(y:It)(m:Int): OZ c R W (rel+1) (Cl c o cl y m).1 (Cl c o cl y m).2:=by
 have a:=l.turn (y.t/Ag c);have w:=k.r0;have i:c.rows.toNat=R:=by omega
 have j:=a.gR.bump k q r (A8 o cl (y.t/Ag c)).1.len y.k;have e:sP W (Cl c o cl y m).1=sP W (A8 o cl (y.t/Ag c)).1+1:=by
  have:=j.row 0 (by omega);show Bp (CQ W (BO c y.k c.rows.toNat _) 0)=_;rw[i];exact this
 have v:0<=sP W (A8 o cl (y.t/Ag c)).1:=by
  rcases a.pos with h | h
  ·rw[GU h];exact iL _
  omega
 refine⟨λp d=>a.cls p (iE d),?_,.inr (by rw[e];omega),?_⟩
 ·rw[e];show eT R W _ (BO c y.k c.rows.toNat _);rw[i];exact j
 rw[e];have t:=a.sum;have u:Bp (((A8 o cl (y.t/Ag c)).2.drop (B7 c (A8 o cl (y.t/Ag c)).2 (m-c.aB))).map (sP W))<=Bp ((A8 o cl (y.t/Ag c)).2.map (sP W)):=by
  rw[List.map_drop];refine Qt _ _ (λx s=>?_);obtain⟨p,d,rfl⟩:=iI.1 s;have:=(a.cls p d).s0;omega
 have n:(Cl c o cl y m).2=(A8 o cl (y.t/Ag c)).2.drop (B7 c (A8 o cl (y.t/Ag c)).2 (m-c.aB)):=rfl;rw[n];omega
theorem Qb(ps:List Pa.Pn)(p:Pa.Pn)(h:(ps++[p]).Pairwise (λk b=>k.no<b.no))(i:∀a∈ps,a.cs≠Ay): Ef (ps++[p])=(p,ps):=by
 have m:∀j:Nat,∀(ps:List Pa.Pn) (p:Pa.Pn),ps.length=j->(ps++[p]).Pairwise (λk b=>k.no<b.no)->(∀a∈ps,a.cs≠Ay)->Ef (ps++[p])=(p,ps):=by
  intro j;induction j with
  | zero =>
   intro ps p c _ _;rw[iR.1 c];show(p,(A8 Pa.pn0 [] p.no).2)=(p,[]);congr 1;unfold A8;split
   ·rfl
   show(if Pa.pn0.cs=Ay then[] else[]++[Pa.pn0])=[];rw[ij (show Pa.pn0.cs=Ay from rfl)]
  | succ j o =>
   intro ps p c h i;rcases lK ps with e | ⟨d,a,e⟩
   ·rw[e]at c;simp at c
   rw[lL]at e;subst e;have l:=o d a (by simpa using c) (h.sublist (List.sublist_append_left _ _)) (λq n=>i q (by simp[n]));unfold Ef at l ⊢;rw[jV,l];show(p,(A8 a d p.no).2)=(p,d++[a]);have r:a.no<p.no:=(jb.1 h).2.2 a (by simp) p (by simp);congr 1;unfold A8;rw[ig (by omega)];show(if a.cs=Ay then d else d++[a])=_;rw[ig (i a (by simp))]
 exact m _ ps p rfl h i
theorem Wj{c:Cfg}{t:Int}(ps:List Pa.Pn)(m:ps.Pairwise (λk b=>k.no<b.no))(j:∀a∈ps,a.cs≠Ay)(i:∀a∈ps,t<AW c a): A6 c (Ef ps).1 (Ef ps).2 t=ps:=by
 rcases lK ps with d | ⟨e,a,d⟩
 ·rw[d,Gq];show[].dropWhile (BC c t)++(if t<AW c Pa.pn0/\Pa.pn0.cs≠Ay then[Pa.pn0] else[])=[];rw[ig (λl=>l.2 rfl)];rfl
 rw[lL]at d;subst d;rw[Qb e a m (λh n=>j h (by simp[n])),Gq];show e.dropWhile (BC c t)++(if t<AW c a/\a.cs≠Ay then[a] else[])=e++[a];rw[ij ⟨i a (by simp),j a (by simp)⟩];congr 1;cases e with
 | nil=>rfl
 | cons h o=>rw[ky (by have:=i h (by simp);simp only[BC,iP];omega)]
theorem LO{c:Cfg}{R W:Nat}{rel last t:Int}{o:Pa.Pn}{cl:List Pa.Pn}(h:OZ c R W rel o cl)(hi:cU c rel last o cl)(m:0<=Ag c):
  (A6 c o cl t).Pairwise (λi b=>i.no<b.no)/\(∀a∈A6 c o cl t,a.cs≠Ay/\t<AW c a/\fI R W (sP W a) (sP W a) a.cs/\(a∈cl\/a=o))/\Bp ((A6 c o cl t).map (sP W))<=rel:=by
 have s:∀a∈cl,a.cs≠Ay:=λa e d=>by
  have:=(h.cls a e).s0;rw[GU d]at this;omega
 have w:=h.sum;have u:Bp ((cl.drop (B7 c cl t)).map (sP W))<=Bp (cl.map (sP W)):=by
  rw[List.map_drop];refine Qt _ _ (λx r=>?_);obtain⟨p,q,rfl⟩:=iI.1 r;have:=(h.cls p q).s0;omega
 have v:0<=sP W o:=by
  rcases h.pos with d | d
  ·rw[GU d];exact iL _
  omega
 have l:∀a∈cl.drop (B7 c cl t),a.cs≠Ay/\t<AW c a/\fI R W (sP W a) (sP W a) a.cs/\(a∈cl\/a=o):=λa e =>
  ⟨s a (iE e),Kt c m t cl hi.eH a e,h.cls a (iE e),.inl (iE e)⟩
 unfold A6;split
 ·rename_i j;refine⟨?_,λa e=>?_,?_⟩
  ·refine jb.2 ⟨hi.eH.sublist (j2 _ _),j7 _ _,λi n b k=>?_⟩;rw[im]at k;subst k;exact(hi.lt i (iE n)).2
  ·rcases ik.1 e with d | d
   ·exact l a d
   rw[im]at d;subst d;exact⟨j.2,j.1,h.gR.f (h.pos.resolve_left j.2),.inr rfl⟩
  rw[iB,Gu];rw[iF,kq,J3];omega
 rw[iC];exact⟨hi.eH.sublist (j2 _ _),l,by omega⟩
theorem Zl{c:Cfg}{R W:Nat}{rel last t:Int}{o:Pa.Pn}{cl:List Pa.Pn}(k:OZ c R W rel o cl)(hi:cU c rel last o cl)(w:0<=Ag c)(D:0<=last)(E:1<=c.aM):
  cU c rel last (Ef (A6 c o cl t)).1 (Ef (A6 c o cl t)).2/\OZ c R W rel (Ef (A6 c o cl t)).1 (Ef (A6 c o cl t)).2:=by
 obtain⟨q,j,r⟩:=LO (t:=t) k hi w;have hlen:((A6 c o cl t).length:Int)<=c.aM+1:=by
  have:=hi.len;unfold A6;rw[ic,iU];split
  ·simp;omega
  simp;omega
 have F:0<=rel:=by
  have h:=k.sum;have B:=KT (cl.map (sP W)) (λm v=>by obtain⟨p,d,rfl⟩:=iI.1 v;have:=(k.cls p d).s0;omega);have C:0<=sP W o:=by
   rcases k.pos with a | a
   ·rw[GU a];exact iL _
   omega
  omega
 have A:BH (A6 c o cl t)<=rel:=by
  have h:=Mr cl (B7 c cl t);have B:0<=Cq o:=Hd _;have C:=hi.fB;unfold A6;rw[GR];split
  ·simp only[BH];omega
  simp only[BH];omega
 generalize A6 c o cl t=z at *
 rcases lK z with a | ⟨l,i,a⟩
 ·rw[a];have e:=cU.zero c E;refine⟨⟨e.gI,by have:=e.fU;show Pa.pn0.no*Ag c<=last;simp[Pa.pn0];exact D,e.eH,e.lt,e.gH,λp d=>by simp[Ef]at d,by have:=e.fB;show BH []+Cq Pa.pn0<=rel;omega,e.len⟩,?_⟩
  ·have n:=OZ.zero c R W;exact⟨n.cls,n.gR,n.pos,by have:=n.sum;show Bp ([].map (sP W))+sP W Pa.pn0<=rel;simp only[kq]at this ⊢;omega⟩
 rw[lL]at a;subst a;rw[Qb l i q (λm v=>(j m (by simp[v])).1)];have s:∀p∈l++[i],0<=p.no/\p.no*Ag c<=last/\∀m∈p.cs,0<=m:=λp d=>by
  rcases(j p d).2.2.2 with a | a
  ·have h:=hi.lt p a;refine⟨h.1,?_,hi.gF p a⟩;have:=j1 (show p.no<=o.no by omega) w;have:=hi.fU;omega
  rw[a];exact⟨hi.gI,hi.fU,hi.gH⟩
 have u:=s i (by simp);refine⟨⟨u.1,u.2.1,q.sublist (List.sublist_append_left _ _),λp d=>⟨(s p (by simp[d])).1,(jb.1 q).2.2 p d i (by simp)⟩,u.2.2,λp d=>(s p (by simp[d])).2.2,?_,?_⟩,?_⟩
 ·have h:=A;rw[GR]at h;simp only[BH]at h;show BH l+Cq i<=rel;omega
 ·rw[ic,jh]at hlen;show(l.length:Int)<=c.aM;omega
 have x:=(j i (by simp)).2.2.1;refine⟨λp d=>(j p (by simp[d])).2.2.1,x.p,.inr x.s0,?_⟩;rw[iB,Gu]at r;rw[iF,kq,J3]at r;exact r
def AB: List (List Int)->List Bk
 | []=>[]
 | g::gs=>g.map (λt=>⟨2 ^ gs.length,t⟩)++AB gs
def Ee: List (List Int)->List Int
 | []=>[]
 | g::gs=>(g.length:Int)::(g++Ee gs)
structure gU (K m rel:Int) (gs:List (List Int)):Prop where
 len:gs.length<=62
 bL:∀g,g∈gs->(g.length:Int)<=K+1
 fst:∀g,gs.head?=some g->1<=g.length
 hW:∀g,g∈gs.tail->K<=(g.length:Int)
 tm:∀b,b∈AB gs->0<=b.t/\b.t<=m
 gD:(AB gs).Pairwise (λa b=>a.t<=b.t)
 sum:Ao (AB gs)<=rel
 hV:(AB gs).length<=1000
structure CL (w:World) (d rr r:Nat) (og:Option Nat) (c:Cfg) (l:List Bk) (tl:List Nat) (og2:Option Nat) (wr:World):Prop where
 cr:bU wr d rr og2 c l
 rd:aR wr r tl
 kp:aA (λi=>i=r\/i=rr\/og=some i) w wr
 fo:og2=og\/∃k,og2=some k/\w.heap.size<=k
 ap:d≠r/\rr≠r/\og≠some r/\r<w.heap.size
theorem CL.g{w:World}{i m h:Nat}{k:Option Nat}{c:Cfg}{l:List Bk}{tl:List Nat}{e:Option Nat}{wr:World}(a:CL w i m h k c l tl e wr)(g:Nat)(d:e=some g): g≠h:=λj=>by
 rcases a.fo with f | ⟨o,f,n⟩
 ·exact a.ap.2.2.1 (by rw[<-f,d,j])
 rw[d]at f;have:=jD f;have:=a.ap.2.2.2;omega
theorem CL.still{w:World}{e k j:Nat}{h:Option Nat}{c:Cfg}{l:List Bk}{tl:List Nat}{i:Option Nat}{wr m:World}(a:CL w e k j h c l tl i wr)(d:lX wr m): CL w e k j h c l tl i m :=
 ⟨a.cr.still d,a.rd.keeps d id,a.kp.trans d (λ_ a _=>a.elim),a.fo,a.ap⟩
theorem CL.number{w:World}{e m d:Nat}{j:Option Nat}{c:Cfg}{l:List Bk}{n lo hi:Int}{tl:List Nat}{k:Option Nat}{wr:World}(a:CL w e m d j c l (enc n++tl) k wr)(u:0<=n)(n1:n<=9223372036854775807)(q:lo<=n)(r:n<=hi):
  Calls prog 77 #[π d,ι lo,ι hi] wr λh o=>h=.returned (ι n)/\CL w e m d j c l tl k o:=by
 refine(EP d n lo hi tl wr a.rd u n1 q r).mono ?_;rintro h o ⟨rfl,t,i⟩;exact⟨rfl,⟨a.cr.keeps i a.ap.1 a.ap.2.1 (λg s=>a.g g s),t,a.kp.trans i (λ_ a _=>.inl a),a.fo,a.ap⟩⟩
theorem CL.put{w:World}{k j n:Nat}{u:Option Nat}{c:Cfg}{l:List Bk}{tl:List Nat}{h i:Option Nat}{wr o:World}{x:Bk}(d:CL w k j n u c l tl h wr)(z:aH o j i (l++[x]))(m:aA (λe=>e=j\/h=some e) wr o)(s:i=h\/∃e,i=some e/\wr.heap.size<=e): CL w k j n u c (l++[x]) tl i o:=by
 have C:=d.kp.size;refine⟨⟨d.cr.aF.keeps m (λa=>a.elim d.cr.dr (λa=>d.cr.dg k a rfl)),z,d.cr.dr,λg r=>?_⟩,d.rd.keeps m (λa=>a.elim (λa=>d.ap.2.1 a.symm) (λa=>d.g n a rfl)),d.kp.trans m (λA v B=>?_),?_,d.ap⟩
 ·rcases s with f | ⟨e,f,t⟩
  ·exact d.cr.dg g (by rw[<-f,r])
  rw[r]at f;have:=jD f;have:=d.cr.aF.lt;omega
 ·rcases v with a | a
  ·exact .inr (.inl a)
  rcases d.fo with f | ⟨e,f,t⟩
  ·exact .inr (.inr (by rw[<-f];exact a))
  have q:h=some A:=a;rw[f]at q;have:=jD q;omega
 rcases s with f | ⟨e,f,t⟩
 ·rw[f];exact d.fo
 exact .inr ⟨e,f,by omega⟩
theorem Qw(c:List (List Int)): ∀b,b∈AB c->1<=b.sz:=by
 induction c with
 | nil=>intro b a;simp[AB]at a
 | cons g c d =>
  intro b a;rw[AB,ik]at a;rcases a with a | a
  ·obtain⟨e,_,rfl⟩:=iI.1 a;show(1:Int)<=2 ^ c.length;exact Int.add_one_le_iff.2 (Int.pow_pos (by omega))
  exact d b a
theorem U5(r o k x:Nat)(n:Option Nat)(c:Cfg)(m acc rel:Int)(nv:Value)(j:List (List Int))(tl:List Nat)(w:World)(av:bU w r o n c [])(S:aR w k (Ae ((j.length:Int)::Ee j)++tl))(af:aD w x (Jq m acc rel nv) 177)(P:r≠k/\o≠k/\n≠some k)(Q:x≠k/\x≠o/\n≠some x)(ad:gU c.k m rel j)(bc:1<=c.k)(bz:c.k<=10)(cd:m<=4611686018427387904)(cg:rel<=4611686018427387904):
  Calls prog 138 #[π r,π k,π x] w λv F=>v=.returned (.tuple #[])/\∃s,CL w r o k n c (AB j) tl s F:=by
 have bs:=S.aF.lt
 have ag:=Aa (show ∀F,aA (λD=>D=k\/D=o\/n=some D) w F->κ F x 0 (ι m)/\κ F x 2 (ι rel) from λF a2=>by
    have a7:¬(x=k\/x=o\/n=some x):=λv=>v.elim Q.1 (λv=>v.elim Q.2.1 Q.2.2)
    exact⟨(af.keeps a2 a7).cell rfl,(af.keeps a2 a7).cell rfl⟩)
 have ah:=Aa (show CL w r o k n c [] (enc (j.length:Int)++(Ae (Ee j)++tl)) n w by
    rw[BQ,ε]at S
    exact⟨av,S,aA.refl _ _,.inl rfl,⟨P.1,P.2.1,P.2.2,bs⟩⟩)
 have z:=Aa ad;have az:=ad.len;obtain⟨K,aa⟩:∃K,c.k=K:=⟨_,rfl⟩;have L:=Aa aa;rw[aa]at bc bz;obtain⟨G,ab⟩:∃G,j.length=G:=⟨_,rfl⟩;have Y:=Aa ab;rw[ab]at az;clear av S af ad P Q aa ab;have ca:IntKind.i64.wrap ((G:Int)-1)=(G:Int)-1:=by rw[il];omega
 go_enter func138,ntmps138;go_wp2_with fail
 refine((show CL w r o k n c [] (enc (G:Int)++(Ae (Ee j)++tl)) n w by rw[<-Y.o];exact ah.o).number (by omega) (by omega) (by omega) (by omega)).mono ?_;rintro v ch ⟨rfl,a3⟩;have bh:=Aa a3;clear a3 ah;go_wp2_with fail
 go_loopw [6,7,8,9] (λbl b a f wr=>∃(V i t:Int) (d:List (List Int)) (e:List Bk) (s:Option Nat),bl=ι V/\b=ι i/\a=ι t/\f=ι ((d.length:Int)-1)/\1<=V/\0<=i/\i<=rel/\0<=t/\d.length<=62/\Hid (e++AB d=AB j)/\Hid (Ao e=i)/\Hid (∀b,b∈AB d->t<=b.t)/\Hid (∀g,d.head?=some g->V<=(g.length:Int))/\Hid (∀g,g∈d.tail->K<=(g.length:Int))/\Hid (∀g,g∈d->(g.length:Int)<=K+1)/\Hid (CL w r o k n c e (Ae (Ee d)++tl) s wr)) (λ_ _ _ f _=>(intOf f+1).toNat)
 case atStart =>
  refine⟨1,0,0,j,[],_,rfl,rfl,rfl,by rw[Y.o],by omega,by omega,?_,by omega,by rw[Y.o];exact az,rfl,rfl,λb H=>(z.o.tm b H).1,λg I=>by have:=z.o.fst g I;omega,λg I=>?_,λg I=>?_,bh⟩
  ·have N:=z.o.sum;have Z:=Ej (Qw j);omega
  ·have:=z.o.hW g I;rw[L.o]at this;exact this
  have:=z.o.bL g I;rw[L.o]at this;exact this
 case round =>
  obtain⟨V,i,t,d,e,s,rfl,rfl,rfl,rfl,cc,T,U,W,bp,l,E,A,bj,ap,ai,q⟩:=hrel;cases d with
  | nil =>
   go_wp2;go_end0;have bm:e=AB j:=by have:=l.o;rw[AB,iC]at this;exact this
   refine⟨rfl,s,?_⟩;rw[<-bm];exact q.o
  | cons g d =>
   obtain⟨f,ae⟩:∃f,d.length=f:=⟨_,rfl⟩;have X:=Aa ae;have bo:f<=61:=by rw[iD]at bp;omega
   have au:(((g::d).length:Nat):Int)-1=(f:Int):=by rw[iD,ae];omega
   rw[au];have ay:=ai.o g (by simp);have a0:=bj.o g rfl;obtain⟨B,R⟩:∃B,g.length=B:=⟨_,rfl⟩;rw[R]at ay a0;have ao:=Aa R
   have an:=Aa (show CL w r o k n c e (enc (B:Int)++(Ae g++(Ae (Ee d)++tl))) s wr by
      have:=q.o;rw[Ee,BQ,B3,R]at this
      simpa only[ε] using this)
   have ax:κ wr r 4 (ι K):=by rw[<-L.o];exact q.o.cr.aF.cell rfl
   have bx:IntKind.i64.wrap (K+1)=K+1:=by rw[il];omega
   clear q ae R au;have b8:(0:Int)<=(f:Int):=by omega
   go_wp2_with fail
   refine(an.o.number (by omega) (by omega) a0 ay).mono ?_;rintro v ci ⟨rfl,a4⟩;have al:=Aa a4;clear a4 an ax bx;go_wp2_with fail
   have bd:=G0 f bo;obtain⟨u,O⟩:∃u,(2:Int) ^ f=u:=⟨_,rfl⟩;rw[O]at bd;obtain⟨ce,cf⟩:=bd;have b9:IntKind.i64.wrap u=u:=by rw[il];omega
   go_loopw [7,8,26] (λb a D wr=>∃(i t:Int) (h:Nat) (e:List Bk) (s:Option Nat),b=ι i/\a=ι t/\D=ι (h:Int)/\h<=B/\0<=i/\i<=rel/\0<=t/\Hid (e++((g.drop h).map (λa=>(⟨2 ^ f,a⟩:Bk))++AB d)=AB j)/\Hid (Ao e=i)/\Hid (∀b,b∈(g.drop h).map (λa=>(⟨2 ^ f,a⟩:Bk))++AB d->t<=b.t)/\Hid (CL w r o k n c e (Ae (g.drop h)++(Ae (Ee d)++tl)) s wr)) (λ_ _ D _=>B-(intOf D).toNat)
   case atStart =>
    have bi:=Aa (show AB (g::d)=g.map (λa=>(⟨2 ^ f,a⟩:Bk))++AB d by rw[AB,X.o]);rw[bi.o]at l A;exact⟨i,t,0,e,s,rfl,rfl,rfl,iT _,T,U,W,l,E,A,al⟩
   case round =>
    clear al l E A T U W;obtain⟨i,t,h,e,s,rfl,rfl,rfl,b6,T,U,W,l,E,A,q⟩:=hrel;by_cases br:h<B
    ·obtain⟨a,bu⟩:∃a,g[h]?=some a:=⟨_,h9 (by rw[ao.o];exact br)⟩
     have aj:=Aa (show g.drop h=a::g.drop (h+1) by
        have a6:=iq.1 bu
        rw[δ a6.1,a6.2])
     rw[aj.o,iF,θ]at l A;rw[aj.o,BQ,ε]at q;have ba:=A.o ⟨2 ^ f,a⟩ (by simp);have aw:(⟨2 ^ f,a⟩:Bk)∈AB j:=by rw[<-l.o];simp
     obtain⟨be,bg⟩:=z.o.tm _ aw
     have bk:=Aa (show ∀b,b∈(g.drop (h+1)).map (λa=>(⟨2 ^ f,a⟩:Bk))++AB d->a<=b.t by
        have:=z.o.gD;rw[<-l.o]at this;have Z:=(jb.1 this).2.1;intro b H
        exact(jn.1 Z).1 b H)
     have bt:i+u<=rel:=by
      have N:=z.o.sum;rw[<-l.o,show e++((⟨2 ^ f,a⟩:Bk)::((g.drop (h+1)).map (λa=>(⟨2 ^ f,a⟩:Bk))++AB d))=(e++[⟨2 ^ f,a⟩])++((g.drop (h+1)).map (λa=>(⟨2 ^ f,a⟩:Bk))++AB d) by simp,F3,F3,E.o]at N;have Z:0<=Ao ((g.drop (h+1)).map (λa=>(⟨2 ^ f,a⟩:Bk))++AB d):=Ej (λb H=>Qw j b (by rw[<-l.o];exact k8 _ (j8 _ H)));have b5:Ao [(⟨2 ^ f,a⟩:Bk)]=u:=by rw[<-O];simp[Ao]
      omega
     have hlen:e.length<=4398046511104:=by
      have N:=z.o.hV;rw[<-l.o,ic]at N;omega
     have bf:0<=a:=be;have b1:a<=m:=bg;have bv:t<=a:=ba;clear be bg ba aw;obtain⟨aq,ar⟩:=ag.o wr q.o.kp;have b7:(h:Int)<(B:Int):=by omega
     go_wp2_with fail
     refine(q.o.number bf (by omega) bv b1).mono ?_;rintro v b2 ⟨rfl,a5⟩;have M:=Aa a5;clear a5 q aq ar;have bn:κ b2 r 20 (π o):=M.o.cr.aF.cell rfl;have C:=show(⟨2 ^ f,a⟩:Bk).val=.agg #[ι u,ι a] by rw[<-O];rfl
     go_wp2_with fail
     go_region_with (go_at_call 173;rw[<-C];refine(rowPut_any o s e ⟨2 ^ f,a⟩ _ (by exact M.o.cr.row.still (aA.refl _ _).drew) hlen).mono ?_;rintro v b3 ⟨rfl,b0,a9,a1,a8⟩)
     have am:=Aa ((M.o.still ((aA.refl _ _).drew)).put a9 a1 a8);clear a9 a1 a8 M bn;obtain⟨aq,ar⟩:=ag.o b3 am.o.kp;have cb:IntKind.i64.wrap (i+u)=i+u:=by rw[il];omega
     go_wp2_with fail
     refine(Gk k _).mono ?_;rintro v b4 ⟨rfl,bb⟩;rw[bb];clear bb b4;go_wp2;go_roundw;case rel=>exact⟨i+u,a,h+1,e++[⟨2 ^ f,a⟩],b0,rfl,rfl,by go_num,by omega,by omega,bt,bf,by show _=_;rw[<-l.o];simp,by show Ao (e++[_])=_;rw[F3,E.o,<-O];simp[Ao],bk,am⟩
     case measure=>simp[intOf];omega
    have bq:h=B:=by omega
    subst bq;have ak:=Aa (show g.drop h=[] by rw[<-ao.o];exact kK);rw[ak.o,kq,jv]at l A;rw[ak.o,Dv,jv]at q;have ax:κ wr r 4 (ι K):=by rw[<-L.o];exact q.o.cr.aF.cell rfl
    go_wp2;go_roundw;case rel=>exact⟨K,i,t,d,e,s,rfl,rfl,rfl,by rw[X.o],bc,T,U,W,by rw[X.o];omega,l,E,A,λJ C=>ap.o J (List.mem_of_mem_head? C),λJ C=>ap.o J (List.mem_of_mem_tail C),λJ C=>ai.o J (j8 _ C),q⟩
    case measure=>simp[intOf]
theorem PR: ∀a,Dn 0 a=AB a
 | []=>rfl
 | x::xs=>by unfold Dn AB;rw[PR xs,ja]
theorem WG{α:Type}{p:α->Bool}(a d:List α)(e:∀c∈a,p c=true)(h:∀c,d.head?=some c->p c=false): (a++d).takeWhile p=a:=by
 induction a with
 | nil =>
  cases d with
  | nil=>rfl
  | cons c d=>rw[jv,List.takeWhile_cons_of_neg (by rw[h c rfl];simp)]
 | cons c a j=>rw[θ,List.takeWhile_cons_of_pos (e c (by simp)),j (λy i=>e y (by simp[i]))]
theorem zMq(j:List (List Int)): ∀(pre:List Bk),EN (pre++AB j) j.length pre.length=Ee j:=by
 induction j with
 | nil=>intro pre;rfl
 | cons a c m =>
  intro pre;have l:(pre++AB (a::c)).drop pre.length=AB (a::c):=List.drop_left;have n:CI (pre++AB (a::c)) (2 ^ c.length) pre.length=pre.length+a.length:=by
   unfold CI;rw[l];unfold AB
   rw[WG _ _ (λb k=>by obtain⟨h,_,rfl⟩:=iI.1 k;simp) (λb k=>by
        have d:b∈AB c:=List.mem_of_head? k;have:∃e,e<c.length/\b.sz=2 ^ e:=by
         clear m l k;induction c with
         | nil=>cases d
         | cons z v u =>
          unfold AB at d;rcases ik.1 d with d | d
          ·obtain⟨h,_,rfl⟩:=iI.1 d;exact⟨v.length,by simp,rfl⟩
          obtain⟨e,w,s⟩:=u d;exact⟨e,by simp;omega,s⟩
        obtain⟨e,x,t⟩:=this;simp only[decide_eq_false_iff_not];rw[t]
        exact λr=>R4 (g:=e) (i:=c.length) (by omega) r.symm),iu]
  rw[iD,Mx,n,show pre.length+a.length-pre.length=a.length by omega,l];have o:(AB (a::c)).take a.length=a.map (λh=>(⟨2 ^ c.length,h⟩:Bk)):=by
   unfold AB;rw[je (by simp),iw (by simp)]
  have q:EN (pre++AB (a::c)) c.length (pre.length+a.length)=Ee c:=by
   have:=m (pre++a.map (λh=>(⟨2 ^ c.length,h⟩:Bk)));rw[ε,ic,iu]at this;exact this
  rw[o,q,kk];show(a.length:Int)::(a.map id++Ee c)=(a.length:Int)::(a++Ee c);rw[List.map_id]
theorem zOa{K:Nat}{a:List (List Int)}(e:eS K a): Ga (AB a)=(a.length:Int)::Ee a:=by
 have h:Ed (AB a)=a.length:=by
  unfold Ed;cases a with
  | nil=>rfl
  | cons d c =>
   cases d with
   | nil=>exact absurd e.1 (by simp)
   | cons i d =>
    rw[ig (by simp[AB])];show bitLen ((2:Int) ^ c.length).toNat=_;have:((2:Int) ^ c.length).toNat=2 ^ c.length:=by
     rw[show(2:Int) ^ c.length=((2 ^ c.length:Nat):Int) by simp];rfl
    rw[this,VM];rfl
 unfold Ga;rw[h];congr 1;exact zMq a []
theorem Zr{K:Nat}: ∀e,eS K e->(AB e).length<=e.length*(K+1)
 | [],_=>by simp[AB]
 | l::xs,a=>by
  have:∀c:List (List Int),(∀a,a∈c->a.length<=K+1)->(AB c).length<=c.length*(K+1):=by
   intro c;induction c with
   | nil=>intro _;simp[AB]
   | cons y c k =>
    intro h;have m:=k (λa j=>h a (by simp[j]));have n:=h y (by simp);unfold AB;rw[ic,iu,iD,Nat.succ_mul];omega
  exact this (l::xs) (λg i=>by
     rcases iA.1 i with d | d
     ·subst d;exact a.2.1
     exact(a.2.2 g d).2)
def EK(lv:Nat->List Bk): Nat->Nat->List Int
 | 0,_=>[]
 | k+1,s=>((lv s).length:Int)::(CE (lv s)++EK lv k (s+1))
def D2(lv:Nat->List Bk): Nat->Nat->Nat
 | 0,_=>0
 | k+1,s=>(lv s).length+D2 lv k (s+1)
structure gV (m rel:Int) (n:Nat) (lv:Nat->List Bk):Prop where
 len:∀i,(lv i).length<=40
 tm:∀i b,b∈lv i->0<=b.sz/\b.sz<=m/\1<=b.t/\b.t<=40
 gD:∀i,(lv i).Pairwise (λa b=>a.sz<b.sz/\b.t<a.t)
 sum:(D2 lv n 0:Int)<=rel
structure DL (w:World) (d rg r:Nat) (qs0:List (Nat×Option Nat)) (c:Cfg) (ls:Nat->List Bk) (tl:List Nat) (qs:List (Nat×Option Nat)) (wr:World):Prop where
 dr:dA wr d rg qs c ls
 rd:aR wr r tl
 ln:qs.length=qs0.length
 fo:∀i a,i<qs.length->qf (Ar qs i) a->(∃j,j<qs0.length/\qf (Ar qs0 j) a)\/w.heap.size<=a
 kp:aA (λa=>a=r\/∃j,j<qs0.length/\qf (Ar qs0 j) a) w wr
 ap:d≠r/\rg≠r/\(∀j,j<qs0.length->¬qf (Ar qs0 j) r)/\r<w.heap.size
theorem DL.apart{w:World}{j r h:Nat}{q:List (Nat×Option Nat)}{c:Cfg}{o:Nat->List Bk}{tl:List Nat}{e:List (Nat×Option Nat)}{wr:World}(d:DL w j r h q c o tl e wr)(i a:Nat)(hi:i<e.length)(m:qf (Ar e i) a): a≠h:=λk=>by
 rcases d.fo i a hi m with ⟨n,l,f⟩ | f
 ·exact d.ap.2.2.1 n l (by rw[<-k];exact f)
 have:=d.ap.2.2.2;omega
theorem DL.still{w:World}{e l k:Nat}{j:List (Nat×Option Nat)}{c:Cfg}{h:Nat->List Bk}{tl:List Nat}{i:List (Nat×Option Nat)}{wr m:World}(a:DL w e l k j c h tl i wr)(d:lX wr m): DL w e l k j c h tl i m :=
 ⟨a.dr.still d,a.rd.keeps d id,a.ln,a.fo,a.kp.trans d (λ_ a _=>a.elim),a.ap⟩
theorem DL.new{w:World}{i n m:Nat}{q:List (Nat×Option Nat)}{c:Cfg}{o:Nat->List Bk}{tl:List Nat}{h:List (Nat×Option Nat)}{wr r:World}{bx:Nat}(e:DL w i n m q c o tl h wr)(l:aA (λa=>a=bx) wr r)(j:bx≠i/\bx≠n/\bx≠m/\w.heap.size<=bx)(u:∀a,a<h.length->¬qf (Ar h a) bx): DL w i n m q c o tl h r :=
 ⟨e.dr.keeps l (λd=>j.1 d.symm) (λd=>j.2.1 d.symm) (λa s k t d=>u a k (by rw[<-show s=bx from d];exact t)),e.rd.keeps l (λd=>j.2.2.1 d.symm),e.ln,e.fo,e.kp.trans l (λa k x=>by have v:a=bx:=k;omega),e.ap⟩
theorem DL.number{w:World}{j q d:Nat}{o:List (Nat×Option Nat)}{c:Cfg}{l:Nat->List Bk}{n lo hi:Int}{tl:List Nat}{m:List (Nat×Option Nat)}{wr:World}(a:DL w j q d o c l (enc n++tl) m wr)(x:0<=n)(n1:n<=9223372036854775807)(s:lo<=n)(t:n<=hi):
  Calls prog 77 #[π d,ι lo,ι hi] wr λk i=>k=.returned (ι n)/\DL w j q d o c l tl m i/\aA (λh=>h=d) wr i:=by
 refine(EP d n lo hi tl wr a.rd x n1 s t).mono ?_;rintro k i ⟨rfl,v,e⟩;exact⟨rfl,⟨a.dr.keeps e a.ap.1 a.ap.2.1 (λh r hi u=>a.apart h r hi u),v,a.ln,a.fo,a.kp.trans e (λ_ a _=>.inl a),a.ap⟩,e⟩
def JN(ls:Nat->List Bk)(i:Nat)(x:Bk): Nat->List Bk:=λj=>if j=i then ls i++[x] else ls j
theorem DL.put{w:World}{H M L:Nat}{O:List (Nat×Option Nat)}{c:Cfg}{J:Nat->List Bk}{tl:List Nat}{h:List (Nat×Option Nat)}{wr N:World}{i:Nat}{x:Bk}{o:Option Nat}(a:DL w H M L O c J tl h wr)(l:i<h.length)(R:Mk.aH N (Ar h i).1 o (J i++[x]))(t:aA (λu=>u=(Ar h i).1\/(Ar h i).2=some u) wr N)(Q:o=(Ar h i).2\/∃u,o=some u/\wr.heap.size<=u):
  DL w H M L O c (JN J i x) tl (h.set i ((Ar h i).1,o)) N:=by
 have T:=a.kp.size;have C:∀d,d<h.length->Ar (h.set i ((Ar h i).1,o)) d=if d=i then((Ar h i).1,o) else Ar h d:=λd k=>by
  unfold Ar;simp only[γ,jI];by_cases a:i=d
  ·subst a;simp[k]
  simp[a,lE a]
 have j:=a.dr;have A:∀e,qf ((Ar h i).1,o) e->qf (Ar h i) e\/wr.heap.size<=e:=λe n=>by
  rcases n with n | n
  ·exact .inl (.inl n)
  rcases Q with a | ⟨u,a,t⟩
  ·exact .inl (.inr (by rw[<-a];exact n))
  have I:o=some e:=n;rw[a]at I;injection I with I;exact .inr (by omega)
 have G:∀e,wr.heap.size<=e->e≠H/\e≠M/\∀d,d<h.length->¬qf (Ar h d) e:=λe n=>by
  refine⟨λa=>?_,λa=>?_,λd k a=>?_⟩
  ·have:=j.aF.lt;omega
  ·have:=j.fK.lt;omega
  rcases a with a | a
  ·have:=(j.row d k).lt.1;omega
  have:=((j.row d k).lt.2 e a).1;omega
 refine⟨⟨?_,?_,?_,?_,?_,j.dr⟩,a.rd.keeps t (λv=>a.apart i L l v rfl),by rw[jw];exact a.ln,?_,a.kp.trans t (λe n S=>?_),a.ap⟩
 ·rw[jw];exact j.aF.keeps t (λv=>(j.nd i l).1 v)
 ·have:CX (h.set i ((Ar h i).1,o))=CX h:=by
   unfold CX;rw[kO];apply ke;intro d;rw[jI];split
   ·rename_i a;subst a;split
    ·rename_i s;have:=Io l;unfold CX at this;rw[this]
    rename_i s;simp at s;omega
   rfl
  rw[this];exact j.fK.keeps t (λv=>(j.nd i l).2 v)
 ·intro d k;rw[jw]at k;rw[C d k];unfold JN;by_cases B:d=i
  ·subst B;rw[ij rfl,ij rfl];exact R
  rw[ig B,ig B];exact(j.row d k).keeps t (λa=>B (j.dj d i _ k l (.inl rfl) a)) (λg P a=>B (j.dj d i g k l (.inr P) a))
 ·intro D E e z s q r;rw[jw]at z s;rw[C D z]at q;rw[C E s]at r;by_cases m:D=i <;> by_cases F:E=i
  ·omega
  ·rw[ij m]at q;rw[ig F]at r;rcases A e q with a | a
   ·exact m.trans (j.dj i E e l s a r)
   exact((G e a).2.2 E s r).elim
  ·rw[ig m]at q;rw[ij F]at r;rcases A e r with a | a
   ·exact(j.dj D i e z l q a).trans F.symm
   exact((G e a).2.2 D z q).elim
  rw[ig m]at q;rw[ig F]at r;exact j.dj D E e z s q r
 ·intro d k;rw[jw]at k;rw[C d k];by_cases m:d=i
  ·rw[ij m];refine⟨λf=>?_,λf=>?_⟩
   ·rcases A _ f with a | a
    ·exact(j.nd i l).1 a
    exact(G _ a).1 rfl
   rcases A _ f with a | a
   ·exact(j.nd i l).2 a
   exact(G _ a).2.1 rfl
  rw[ig m];exact j.nd d k
 ·intro d e k f;rw[jw]at k;rw[C d k]at f;by_cases m:d=i
  ·rw[ij m]at f;rcases A e f with g | g
   ·exact a.fo i e l g
   exact .inr (by omega)
  rw[ig m]at f;exact a.fo d e k f
 rcases a.fo i e l n with g | g
 ·exact .inr g
 omega
theorem zP5{c:List (Nat×Option Nat)}{wr:World}{i bx:Nat}{e:Option Nat}(m:e=(Ar c i).2\/∃j,e=some j/\wr.heap.size<=j)(n:bx<wr.heap.size)(h:∀a,a<c.length->¬qf (Ar c a) bx): ∀a,a<(c.set i ((Ar c i).1,e)).length->¬qf (Ar (c.set i ((Ar c i).1,e)) a) bx:=by
 intro a d f;rw[jw]at d;unfold Ar at f;simp only[γ,jI]at f;by_cases k:i=a
 ·subst k;simp only[d,ij]at f;rcases f with f | f
  ·exact h i d (.inl f)
  rcases m with g | ⟨j,g,o⟩
  ·exact h i d (.inr (g ▸ f))
  have l:e=some bx:=f;rw[g]at l;have:=jD l;omega
 rw[ig k]at f;exact h a d (by unfold Ar;rw[γ];exact f)
def E7(z:Dr.It): It:=⟨z.t,z.k,z.d,z.n⟩
structure NZ (k:Nat) (c:Cfg) (rel last:Int) (nt:aU):Prop where
 dec:k=4->rel<=nt.q*2305843009213693952+nt.r/\nt.q*2305843009213693952+nt.r<=rel*2305843009213693952
 bL:k=1->Lw c.k.toNat 0 nt.bs/\(nt.bs.map (·.t)).Pairwise (·<=·)/\∀t,t∈nt.bs.map (·.t)->0<=t/\t<=last
 dS:k=2->(∀j,cL (nt.rg j))/\(∀j b,b∈nt.rg j->0<=b.sz/\b.sz<=last)/\(D2 nt.rg (B1 c) 0:Int)<=rel
 dY:k=3->OZ c c.rows.toNat c.width.toNat rel nt.op nt.cl
 cZ:k=5->Dr.bK nt.tk/\(nt.tk.length:Int)=(if c.size+1<rel then c.size+1 else rel)/\∀z,z∈nt.tk->z=tick c (E7 z)/\AP c 5 (E7 z)=0/\0<=z.t/\z.t<=last
theorem NZ.zero(k:Nat)(c:Cfg)(hs:k=5->1<=c.size): NZ k c 0 0 CH where
 dec:=λ_=>⟨iL _,iL _⟩
 bL:=λ_=>⟨Lw.nil _ _,ν,λt ht=>by cases ht⟩
 dS:=λ_=>⟨λ_=>ν,λ_ b hb=>(by cases hb),by
    have:∀n s,D2 (λ_=>[]) n s=0:=by
     intro n;induction n with
     | zero=>intro s;rfl
     | succ n ih=>intro s;unfold D2;rw[ih];rfl
    show((D2 (λ_=>[]) _ 0:Nat):Int)<=0
    rw[this];exact iL _⟩
 dY:=λ_=>OZ.zero c _ _
 cZ:=λh=>⟨⟨λj hj=>by simp[CH]at hj,λi _ hi=>by simp[CH]at hi⟩,by rw[ig (by have:=hs h;omega)];rfl,λz hz=>by cases hz⟩
theorem YC(b:Int)(e:1<=b)(n:Nat): ∀p,1<=p->(Bo b n p).isSome=true->1<=As (Bo b n p):=by
 induction n with
 | zero=>intro p c _;exact c
 | succ n h =>
  intro p c a;unfold Bo at a ⊢;split at a
  ·cases a
  rename_i d;rw[ig d];exact h _ (Lb p b c e d).1 a
theorem V5{c:Cfg}{t:Int}(a:(Am c t).isSome=true): 1<=As (Am c t):=by
 unfold Am at a ⊢;split at a
 ·cases a
 rename_i e;rw[ig e];split at a
 ·rename_i d;rw[ij d];exact YC _ (by omega) _ 1 (by omega) a
 rename_i d;rw[ig d];split at a
 ·cases a
 rename_i h;rw[ig h];exact Gt _
theorem V6{c:Cfg}{y:It}(d:AP c 4 y=0): (Am c y.t).isSome=true:=by
 have a:E1 c y=0:=d;unfold E1 at a;split at a
 ·assumption
 omega
theorem OW{c:Cfg}{y:It}(d:AP c 5 y=0): (0<=y.k/\y.k<=2147483648)/\1<=y.d/\y.d<=2147483648:=by
 have a:EF c y=0:=d;unfold EF at a;split at a
 ·split at a
  ·rename_i h;split at a
   ·rename_i e;exact⟨by simpa[Ab] using h,by simpa[Ab] using e⟩
   omega
  omega
 omega
theorem J8{c:Cfg}{y:It}(a:AP c 5 y=0): Dr.dpos (tick c y):=by
 have:=(OW a).2;show 0<y.d%18446744073709551616;omega
theorem zL9{a b:Nat->List Bk}(i:Nat)(l:∀h,h≠i->(a h).length=(b h).length)(hi:(a i).length<=(b i).length+1): ∀d c,D2 a d c<=D2 b d c+(if c<=i/\i<c+d then 1 else 0):=by
 intro d;induction d with
 | zero=>intro c;simp[D2]
 | succ d m =>
  intro c;unfold D2;have e:=m (c+1);by_cases j:c=i
  ·subst j;rw[ig (by omega)]at e;rw[ij (by omega)];omega
  have n:=l c j;by_cases k:c+1<=i/\i<c+1+d
  ·rw[ij k]at e;rw[ij (by omega)];omega
  rw[ig k]at e;omega
theorem Pr{a b:Nat->List Bk}(h:∀e,(a e).length<=(b e).length): ∀d c,D2 a d c<=D2 b d c:=by
 intro d;induction d with
 | zero=>intro c;exact ir _
 | succ d i=>intro c;have:=i (c+1);have:=h c;unfold D2;omega
theorem cL.drop{l:List Bk}(a:cL l)(n:Nat): cL (l.drop n):=kR (j2 _ _) a
theorem NZ.rel{k:Nat}{c:Cfg}{rel last:Int}{e:aU}(n:NZ k c rel last e)(hi:bT k c rel last e)(u:Ak c=true)(r:c.kind=k)(y:It)(m:Int)(z:0<=y.t)(U:last<=y.t)(q:AP c k y=0): NZ k c (rel+1) y.t (BE k c e y m):=by
 refine⟨λd=>?_,λd=>?_,λd=>?_,λd=>?_,λd=>?_⟩
 ·subst d;obtain⟨l,j⟩:=n.dec rfl;have S:=V5 (V6 q);have T:=(Gn c y.t).2;show rel+1<=(e.q+(e.r+As (Am c y.t))/2305843009213693952)*2305843009213693952+(e.r+As (Am c y.t))%2305843009213693952/\(e.q+(e.r+As (Am c y.t))/2305843009213693952)*2305843009213693952+(e.r+As (Am c y.t))%2305843009213693952<=(rel+1)*2305843009213693952;omega
 ·subst d;obtain⟨l,j,o⟩:=n.bL rfl;have O:=Ek u r rfl;have s:=Rh (c:=c) (K:=c.k.toNat) (by omega) (by omega) e.bs y.t m l
  have x:(e.bs.map (·.t)++[y.t]).Pairwise (·<=·):=jb.2 ⟨j,j7 _ _,λv D b i=>by
     rw[im]at i;subst i;have:=(o v D).2;omega⟩
  refine⟨s.1,x.sublist s.2,λI G=>?_⟩;rcases ik.1 (s.2.subset G) with d | d
  ·have:=o I d;omega
  rw[im]at d;subst d;omega
 ·subst d;obtain⟨l,j,o⟩:=n.dS rfl;show(∀h,cL (BU c (B1 c) e.rg y m h))/\(∀h b,b∈BU c (B1 c) e.rg y m h->0<=b.sz/\b.sz<=y.t)/\(D2 (BU c (B1 c) e.rg y m) (B1 c) 0:Int)<=rel+1;refine⟨λh=>?_,λh b i=>?_,?_⟩
  ·unfold BU;split
   ·exact M7 ((l h).drop _) (λb i=>by have:=j h b (iE i);show b.sz<=y.t;omega)
   exact l h
  ·unfold BU at i;split at i
   ·rcases Jy i with d | d
    ·have:=j h b (iE d);omega
    subst d;exact⟨z,iL _⟩
   have:=j h b i;omega
  have:=zL9 (a:=BU c (B1 c) e.rg y m) (b:=e.rg) (Cd c (B1 c) y.k) (λh E=>by unfold BU;rw[ig E]) (Oy c (B1 c) e.rg y m _) (B1 c) 0;split at this <;> omega
 ·subst d;obtain⟨P,t,M,N,Q⟩:=D5 u r rfl;have F:=t.r0;have R:=t.w0;exact(n.dY rfl).rel t (by omega) (by omega) y m
 subst d;obtain⟨l,j,o⟩:=n.cZ rfl;have x:=EA u r rfl;obtain⟨A,L,w,B⟩:=K5 c y l (J8 q);refine⟨A,?_,λJ H=>?_⟩
 ·show((AY c e.tk y).length:Int)=_;have C:=w.length_eq;rw[ic,iD]at C;have F:=hi.dJ;split at B <;> split at j <;> split <;> omega
 rcases iA.1 (w.subset (k8 _ H)) with d | d
 ·subst d;exact⟨rfl,q,z,iL _⟩
 have:=o J d;exact⟨this.1,this.2.1,this.2.2.1,by have:=this.2.2.2;omega⟩
theorem NZ.fL{k:Nat}{c:Cfg}{rel last:Int}{d:aU}(a:NZ k c rel last d)(q:Ak c=true)(n:c.kind=k)(m b:Int): NZ k c rel last (Bj k c d m b).1:=by
 unfold Bj;split
 ·rename_i e;refine⟨a.dec,λ_=>?_,a.dS,a.dY,a.cZ⟩;obtain⟨i,j,l⟩:=a.bL e;have s:=Ek q n e;have h:((d.bs.drop (DO c d.bs m b).toNat).map (·.t)).Sublist (d.bs.map (·.t)):=(j2 _ _).map _;exact⟨i.drop (by omega) _,j.sublist h,λr o=>l r (h.subset o)⟩
 exact a
structure cQ (k:Nat) (c:Cfg) (m:Int) (a b:aU):Prop where
 dec:k=4->a.q=b.q/\a.r=b.r
 bL:k=1->a.bs=b.bs
 dS:k=2->∀j,j<B1 c->AX c m (a.rg j)=AX c m (b.rg j)
 dY:k=3->A6 c a.op a.cl (m-c.aB)=A6 c b.op b.cl (m-c.aB)
 cZ:k=5->a.tk.Perm b.tk
theorem cQ.refl(k:Nat)(c:Cfg)(m:Int)(a:aU): cQ k c m a a:=⟨λ_=>⟨rfl,rfl⟩,λ_=>rfl,λ_ _ _=>rfl,λ_=>rfl,λ_=>jj _⟩
theorem bT.K{k:Nat}{c:Cfg}{rel last:Int}{e:aU}(a:bT k c rel last e): bT k (Al k c) rel last e:=by
 refine⟨a.q0,a.qn,a.r0,a.r1,a.one,a.sum,a.rk,a.rl,λd=>?_,λd=>?_,λd=>?_,a.nb,a.rf⟩
 ·subst d;have:=a.oi rfl;exact⟨this.gI,this.fU,this.eH,this.lt,this.gH,this.gF,this.fB,this.len⟩
 ·subst d;exact a.tl rfl
 subst d;exact a.lw rfl
theorem NZ.K{k:Nat}{c:Cfg}{rel last:Int}{e:aU}(d:NZ k c rel last e): NZ k (Al k c) rel last e:=by
 refine⟨d.dec,λa=>?_,λa=>?_,λa=>?_,λa=>?_⟩
 ·subst a;exact d.bL rfl
 ·subst a;exact d.dS rfl
 ·subst a;have:=d.dY rfl;exact⟨this.cls,this.gR,this.pos,this.sum⟩
 subst a;exact d.cZ rfl
theorem cU.at'{c:Cfg}{rel last:Int}{o:Pa.Pn}{cl:List Pa.Pn}(a:cU c rel last o cl)(d:0<=Ag c): fO c o cl:=⟨a.eH,λp e=>(a.lt p e).2,d⟩
theorem cQ.later{k:Nat}{c:Cfg}{m h u s v t:Int}{a b:aU}(e:cQ k c m a b)(o:m<=h)(i:bT k c u s a)(j:bT k c v t b)(q:Ak c=true)(n:c.kind=k): cQ k c h a b:=by
 refine⟨e.dec,e.bL,λd r l=>Ui o (e.dS d r l),λd=>?_,e.cZ⟩;have w:=(D5 q n d).2.2.1;exact UE ((i.oi d).at' (by omega)) ((j.oi d).at' (by omega)) (by omega) (e.dY d)
theorem cQ.rel{k:Nat}{c:Cfg}{m rel last:Int}{a b:aU}(e:cQ k c m a b)(l:bT k c rel last a)(n:bT k c rel last b)(s:NZ k c rel last a)(t:NZ k c rel last b)(r:Ak c=true)(o:c.kind=k)(y:It)(v:last<=y.t)(j:AP c k y=0)(q:(y.n::a.tk.map (·.n)).Nodup): cQ k c m (BE k c a y m) (BE k c b y m):=by
 refine⟨λd=>?_,λd=>?_,λd=>?_,λd=>?_,λd=>?_⟩
 ·subst d;obtain⟨h,i⟩:=e.dec rfl;show a.q+(a.r+_)/_=b.q+(b.r+_)/_/\(a.r+_)%_=(b.r+_)%_;rw[h,i];exact⟨rfl,rfl⟩
 ·subst d;show C7 c a.bs y.t m=C7 c b.bs y.t m;rw[e.bL rfl]
 ·subst d;exact XF y (e.dS rfl)
 ·subst d;have u:=(D5 r o rfl).2.2.1;have h:=l.oi rfl;have i:=n.oi rfl;exact X8 (h.at' (by omega)) (i.at' (by omega)) y m (Int.le_ediv_of_mul_le (by omega) (by have:=h.fU;omega)) (Int.le_ediv_of_mul_le (by omega) (by have:=i.fU;omega)) (e.dY rfl)
 subst d;exact Yj c y (s.cZ rfl).1 (t.cZ rfl).1 (J8 j) (by rw[iF];exact q) (e.cZ rfl)
theorem cQ.hJ{k:Nat}{c:Cfg}{m:Int}{a b:aU}(h:cQ k c m a b)(q:1<=k)(r:k<=5){rel last:Int}(s:NZ k c rel last a)(u:NZ k c rel last b)(n:(a.tk.map (·.n)).Nodup)(d:Int): Bc k c a d m=Bc k c b d m:=by
 rcases Au q r with e | e | e | e | e <;> subst e
 ·show(if Ab d 1 c.aB=true then((0:Int),[Fj a.bs (m-d)]) else(13,[]))=(if Ab d 1 c.aB=true then((0:Int),[Fj b.bs (m-d)]) else(13,[]));rw[h.bL rfl]
 ·show Gb c (B1 c) a.rg d m=Gb c (B1 c) b.rg d m;unfold Gb;split
  ·rename_i o;obtain⟨v,w⟩:=Bu o;rw[U7 (m:=m) (t:=m-d) (by omega) (B1 c) (h.dS rfl)]
  rfl
 ·show(if Ab d 0 2147483648=true then((0:Int),[Gc c a.op a.cl d m]) else(10,[]))=(if Ab d 0 2147483648=true then((0:Int),[Gc c b.op b.cl d m]) else(10,[]));unfold Gc;rw[<-LY,<-LY,h.dY rfl]
 ·obtain⟨j,l⟩:=h.dec rfl;show((0:Int),[a.q,a.r,_])=(0,[b.q,b.r,_]);rw[j,l]
 have i:=h.cZ rfl;show((0:Int),DK c a.tk)=(0,DK c b.tk);unfold DK;rw[i.length_eq,P4 _ (s.cZ rfl).1 (u.cZ rfl).1 n i]
theorem cQ.hY{k:Nat}{c:Cfg}{m:Int}{a b:aU}(e:cQ k c m a b)(n:1<=k)(o:k<=5){rel last:Int}(q:NZ k c rel last a)(r:NZ k c rel last b)(l:(a.tk.map (·.n)).Nodup): DX k c a m=DX k c b m:=by
 rcases Au n o with d | d | d | d | d <;> subst d
 ·show Ga a.bs=Ga b.bs;rw[e.bL rfl]
 ·exact Yf (B1 c) (e.dS rfl)
 ·show Hr c a.op a.cl (m-c.aB)=Hr c b.op b.cl (m-c.aB);unfold Hr;rw[e.dY rfl]
 ·obtain⟨i,j⟩:=e.dec rfl;show[a.q,a.r]=[b.q,b.r];rw[i,j]
 have h:=e.cZ rfl;show Cz (Dr.allL (a.tk.length+1) a.tk)=Cz (Dr.allL (b.tk.length+1) b.tk);rw[h.length_eq,P4 _ (q.cZ rfl).1 (r.cZ rfl).1 l h]
theorem cQ.fL{k:Nat}{c:Cfg}{m:Int}{a b:aU}(d:cQ k c m a b)(h:Int): cQ k c m (Bj k c a m h).1 (Bj k c b m h).1/\(Bj k c a m h).2=(Bj k c b m h).2:=by
 unfold Bj;by_cases e:k=1
 ·rw[ij e,ij e,d.bL e];exact⟨⟨d.dec,λ_=>rfl,d.dS,d.dY,d.cZ⟩,rfl⟩
 rw[ig e,ig e];exact⟨d,rfl⟩
structure SZ (clock:Int) (x:aJ):Prop where
 eF:∀j,j<5->Ac x.ref j=0
 due:∀y,y∈x.l->clock-x.c.aL<y.t/\y.t<=clock+x.c.bF
 num:∀y,y∈x.l->1<=y.n/\y.n<=x.acc
 fM:∀z,z∈x.nt.tk->1<=z.n/\z.n<=x.acc
 eE:(x.l.map (·.n)++x.nt.tk.map (·.n)).Nodup
 most:x.rel<=Dw x.c clock
 mark:0<x.rel->x.last<=clock-x.c.aL
 note:NZ x.k x.c x.rel x.last x.nt
theorem ZH{c:Cfg}(clock:Int)(h:1<=c.cap): 0<=Dw c clock:=by
 have d:∀a:Int,0<=a->0<=(if 4611686018427387904/c.cap<a then 4611686018427387904 else c.cap*a):=λa e=>by
  split
  ·omega
  exact kL (by omega) e
 unfold Dw;refine d _ ?_;split <;> omega
theorem Y1{c:Cfg}{clock d rel h:Int}(A:1<=c.cap)(c0:0<=clock)(i:rel<=Dw c clock)(B:clock<=d)(r:h=rel\/(h<=rel+c.cap/\clock<d/\c.aL<=d))(q:h<=4611686018427387904): h<=Dw c d:=by
 have s:∀a:Int,Dw c a=(if 4611686018427387904/c.cap<(if 0<(if a-c.aL+1<a then a-c.aL+1 else a) then(if a-c.aL+1<a then a-c.aL+1 else a) else 0) then 4611686018427387904 else c.cap*(if 0<(if a-c.aL+1<a then a-c.aL+1 else a) then(if a-c.aL+1<a then a-c.aL+1 else a) else 0)):=λ_=>rfl;rw[s]at i ⊢;obtain⟨e,j,z⟩:∃e:Int,(if 0<(if clock-c.aL+1<clock then clock-c.aL+1 else clock) then(if clock-c.aL+1<clock then clock-c.aL+1 else clock) else 0)=e/\0<=e:=⟨_,rfl,by split <;> omega⟩;obtain⟨b,o,m,n⟩:∃b:Int,(if 0<(if d-c.aL+1<d then d-c.aL+1 else d) then(if d-c.aL+1<d then d-c.aL+1 else d) else 0)=b/\e<=b/\(clock<d/\c.aL<=d->e+1<=b):=by
  refine⟨_,rfl,?_,?_⟩ <;> rw[<-j] <;> (repeat' split) <;> omega
 rw[j]at i;rw[o];split
 ·exact q
 rename_i w;split at i
 ·rename_i x;omega
 have C:=jt m (show 0<=c.cap by omega);rcases r with u | ⟨v,k,l⟩
 ·omega
 have t:=jt (n ⟨k,l⟩) (show 0<=c.cap by omega);rw[lP,Int.mul_one]at t;omega
theorem SZ.new{clock id:Int}{c:Cfg}(h:Ak c=true): SZ clock (AT id c c.kind.toNat):=by
 obtain⟨i,l,o,q,k,_⟩:=F2 h;have m:c.kind.toNat=i:=by omega
 simp only[B5,Ab,iQ,iP]at k;refine⟨λd r=>?_,λy e=>(by cases e),λy e=>(by cases e),λs n=>(by cases n),ν,ZH clock (by show 1<=c.cap;omega),λj=>absurd j (Int.lt_irrefl 0),?_⟩
 ·have:d=0\/d=1\/d=2\/d=3\/d=4:=by omega
  rcases this with a | a | a | a | a <;> subst a <;> rfl
 rw[m];exact NZ.zero i c (λa=>(EA h l a).1)
theorem Yt(l:List Int)(i j:Nat)(v:Int)(a:j≠i): Ac (l.set i v) j=Ac l j:=by
 unfold Ac;rw[γ,γ,lp (lE a)]
theorem SZ.ref{clock:Int}{x:aJ}(a:SZ clock x)(code:Nat)(e:5<=code): SZ clock (cG x code) :=
 ⟨λc d=>by show Ac (x.ref.set code _) c=0;rw[Yt _ _ _ _ (by omega)];exact a.eF c d,a.due,a.num,a.fM,a.eE,a.most,a.mark,a.note⟩
theorem SZ.acc{n clock:Int}{x:aJ}(d:SZ clock x)(hi:aT n x)(y:It)(m:bO x clock y=0): SZ clock (cD x y):=by
 obtain⟨t,u,r,l,o,s,_⟩:=K3 m;have j:=(put_heap x.l (Ah y (x.acc+1)) hi.heap).2;have i:∀a,a∈(cD x y).l->a=Ah y (x.acc+1)\/a∈x.l:=λa c=>iA.1 (j.subset c);have q:=hi.eL;refine⟨d.eF,λa c=>?_,λa c=>?_,λa c=>?_,?_,d.most,d.mark,d.note⟩
 ·rcases i a c with e | e
  ·subst e;exact⟨l,o⟩
  exact d.due a e
 ·show 1<=a.n/\a.n<=x.acc+1;rcases i a c with e | e
  ·subst e;show 1<=x.acc+1/\x.acc+1<=x.acc+1;omega
  have:=d.num a e;omega
 ·have:=d.fM a c;show 1<=a.n/\a.n<=x.acc+1;omega
 have k:((cD x y).l.map (·.n)++x.nt.tk.map (·.n)).Perm ((x.acc+1)::(x.l.map (·.n)++x.nt.tk.map (·.n))):=List.Perm.append_right _ (j.map (·.n));refine k.nodup_iff.2 (kA.2 ⟨λh=>?_,d.eE⟩);rcases ik.1 h with h | h
 ·obtain⟨a,c,e⟩:=iI.1 h;have:=d.num a c;omega
 obtain⟨a,c,e⟩:=iI.1 h;have:=d.fM a c;omega
theorem SZ.fL{n clock:Int}{x:aJ}(a:SZ clock x)(hi:aT n x)(b:Int): SZ clock (Dz clock b x):=by
 have c:(Bj x.k x.c x.nt (clock-x.c.aL) b).1.tk=x.nt.tk:=by unfold Bj;split <;> rfl
 refine⟨a.eF,a.due,a.num,λe d=>?_,?_,a.most,a.mark,a.note.fL hi.valid hi.kind _ _⟩
 ·exact a.fM e (by rw[<-c];exact d)
 show(x.l.map (·.n)++(Bj x.k x.c x.nt (clock-x.c.aL) b).1.tk.map (·.n)).Nodup;rw[c];exact a.eE
structure SY (m:Int) (x:aJ):Prop where
 eF:∀j,j<5->Ac x.ref j=0
 num:∀y,y∈x.l->1<=y.n/\y.n<=x.acc
 fM:∀z,z∈x.nt.tk->1<=z.n/\z.n<=x.acc
 eE:(x.l.map (·.n)++x.nt.tk.map (·.n)).Nodup
 mark:0<x.rel->x.last<=m
 note:NZ x.k x.c x.rel x.last x.nt
theorem Rs(k:Nat)(c:Cfg)(a:aU)(y:It)(m:Int)(d:k≠5): (BE k c a y m).tk=a.tk:=by
 unfold BE;split
 ·rfl
 split
 ·rfl
 split
 ·rfl
 split
 ·rfl
 first | rfl | rw[ig d]
theorem SY.one{n m:Int}{x:aJ}(c:SY m x)(hi:aT n x)(r:x.l≠[])(C:¬m<(itAt x.l 0).t): SY m (BS x m):=by
 have t:=(take_heap x.l hi.heap r).2;have h:=Gr r;have d:=hi.fits _ h;have w:=c.note.rel hi.note hi.valid hi.kind (itAt x.l 0) m (hi.times _ h).1 (hi.dX _ h) d;have z:((itAt x.l 0).n::((takeL x.l).map (·.n)++x.nt.tk.map (·.n))).Perm (x.l.map (·.n)++x.nt.tk.map (·.n)):=List.Perm.append_right _ (t.map (·.n));have s:=z.nodup_iff.2 c.eE;refine⟨c.eF,λy A=>c.num y (t.subset (j8 _ A)),λe B=>?_,?_,λ_=>by show(itAt x.l 0).t<=m;omega,w⟩
 ·show 1<=e.n/\e.n<=x.acc;have i:e∈(BE x.k x.c x.nt (itAt x.l 0) m).tk:=B;by_cases a:x.k=5
  ·have j:(BE x.k x.c x.nt (itAt x.l 0) m).tk=AY x.c x.nt.tk (itAt x.l 0):=by rw[a];rfl
   rw[j]at i;obtain⟨_,o,l,_⟩:=K5 x.c (itAt x.l 0) (c.note.cZ a).1 (J8 (by rw[a]at d;exact d));rcases iA.1 (l.subset (k8 _ i)) with k | k
   ·subst k;exact c.num _ h
   exact c.fM e k
  rw[Rs _ _ _ _ _ a]at i;exact c.fM e i
 show((takeL x.l).map (·.n)++(BE x.k x.c x.nt (itAt x.l 0) m).tk.map (·.n)).Nodup;by_cases a:x.k=5
 ·have j:(BE x.k x.c x.nt (itAt x.l 0) m).tk=AY x.c x.nt.tk (itAt x.l 0):=by rw[a];rfl
  rw[j];obtain⟨_,o,l,_⟩:=K5 x.c (itAt x.l 0) (c.note.cZ a).1 (J8 (by rw[a]at d;exact d));have u:((takeL x.l).map (·.n)++(o.map (·.n)++(AY x.c x.nt.tk (itAt x.l 0)).map (·.n))).Perm ((itAt x.l 0).n::((takeL x.l).map (·.n)++x.nt.tk.map (·.n))):=by
   have q:=l.map (·.n);rw[iB,iF]at q;refine(lf _ q).trans ?_;exact lh
  have v:=u.nodup_iff.2 s;refine v.sublist ?_;exact List.Sublist.append_left (List.sublist_append_right _ _) _
 rw[Rs _ _ _ _ _ a];exact(kA.1 s).2
theorem zNb{n m:Int}(f:Nat): ∀ {x:aJ},SY m x->aT n x->SY m (relS f x m):=by
 induction f with
 | zero=>intro x a _;exact a
 | succ f j =>
  intro x a c;unfold relS;split
  ·exact a
  rename_i i;have d:x.l≠[]:=λh=>i (by rw[h];rfl);split
  ·exact a
  rename_i e;exact j (a.one c d e) (Ig c d m e)
theorem Y4{m:Int}(f:Nat): ∀ {x:aJ},x.l.length<f->bE x.l->∀y,y∈(relS f x m).l->m<y.t/\y∈x.l:=by
 induction f with
 | zero=>intro x k;omega
 | succ f j =>
  intro x l d y a;unfold relS at a;split at a
  ·rename_i c;rw[kV.1 c]at a;cases a
  rename_i c;have e:x.l≠[]:=λi=>c (by rw[i];rfl);split at a
  ·rename_i n;have:=d.cE a;exact⟨by omega,a⟩
  have h:=take_heap x.l d e;have:=j (x:=BS x m) (by have:=jK.2 e;show(takeL x.l).length<f;rw[takeL_length];omega) h.1 y a;exact⟨this.1,h.2.subset (j8 _ this.2)⟩
theorem Yi(f:Nat)(x:aJ)(m:Int): (relS f x m).rel=x.rel\/∃y,y∈x.l/\y.t<=m:=by
 cases f with
 | zero=>exact .inl rfl
 | succ f =>
  unfold relS;split
  ·exact .inl rfl
  rename_i c;have d:x.l≠[]:=λa=>c (by rw[a];rfl);split
  ·exact .inl rfl
  exact .inr ⟨_,Gr d,by omega⟩
theorem X3(f:Nat): ∀(x:aJ) (m:Int),(relS f x m).acc=x.acc/\(relS f x m).ref=x.ref:=by
 induction f with
 | zero=>intro x m;exact⟨rfl,rfl⟩
 | succ f a =>
  intro x m;unfold relS;split
  ·exact⟨rfl,rfl⟩
  split
  ·exact⟨rfl,rfl⟩
  exact a (BS x m) m
theorem SZ.tick{n clock a:Int}{x:aJ}(c:SZ clock x)(hi:aT n x)(r:clock<=a)(c0:0<=clock)(B:n<=4611686018427387904): SZ a (AS a x):=by
 have h:=Fx (x.l.length+1) x (a-x.c.aL);have d:=zNb (x.l.length+1) (x:=x) (m:=a-x.c.aL) ⟨c.eF,c.num,c.fM,c.eE,λu=>by have:=c.mark u;omega,c.note⟩ hi;have s:=Y4 (m:=a-x.c.aL) (x.l.length+1) (x:=x) (by omega) hi.heap;have i:=J6 (x.l.length+1) hi (a-x.c.aL);have q:=(X3 (x.l.length+1) x (a-x.c.aL)).1;have A:=hi.common;refine⟨d.eF,λy t=>?_,d.num,d.fM,d.eE,?_,?_,d.note⟩
 ·have e:=s y t;have l:=c.due y e.2;show a-(relS _ x _).c.aL<y.t/\y.t<=a+(relS _ x _).c.bF;rw[h.2.1];exact⟨e.1,by omega⟩
 ·show(relS _ x _).rel<=Dw (relS _ x _).c a;rw[h.2.1];have e:=i.dE;have l:=hi.dE;have v:=hi.cap;have o:=i.dH;rw[q]at e o;refine Y1 (by omega) c0 c.most r ?_ (by omega);rcases Yi (x.l.length+1) x (a-x.c.aL) with k | ⟨y,j,C⟩
  ·exact .inl k
  have w:=c.due y j;have z:=hi.times y j;exact .inr ⟨by omega,by omega,by omega⟩
 show 0<(relS _ x _).rel->(relS _ x _).last<=a-(relS _ x _).c.aL;rw[h.2.1];exact d.mark
def EZ(s:WS): Prop:=∀x,x∈s.xs->SZ s.clock x
theorem ZE{n:Int}{s:WS}(o:aO)(c:EZ s)(hi:bQ n s.clock s.xs)(q:n<=4611686018427387904)(v:o.kind≠7): EZ (Ax s o).1:=by
 unfold Ax;split
 ·unfold Dk;split
  ·split
   ·split
    ·rename_i j _;intro e a;rcases ik.1 a with a | a
     ·exact c e a
     rw[im]at a;subst a;exact SZ.new j
    exact c
   exact c
  exact c
 split
 ·unfold C6;split
  ·exact c
  rename_i e l;have a:e∈s.xs:=jc l;split
  ·rename_i i;intro h d;rcases F4 d with d | d
   ·exact c h d
   subst d;exact(c e a).acc (hi.bD e a) o.item i
  rename_i i;intro h d;rcases F4 d with d | d
  ·exact c h d
  subst d;refine(c e a).ref _ ?_;have:bO e s.clock o.item=0\/5<=bO e s.clock o.item:=by
   unfold bO
   (repeat' split) <;> first | omega | skip
   rename_i w _;unfold AP Dx E1 EF
   (repeat' split) <;> omega
  omega
 split
 ·unfold DT;split
  ·rename_i k;obtain⟨t,u⟩:=Bu k;have m:s.clock<=Av s.clock o.a:=by unfold Av;split <;> omega
   split
   ·have r:=Jk (P:=λh=>SZ (Av s.clock o.a) h/\aT n h) (Av s.clock o.a) (λb e a=>⟨a.1.fL a.2 b,MO _ b a.2⟩) o.b (s.xs.map (AS (Av s.clock o.a))) (λh d=>by
       obtain⟨e,a,rfl⟩:=iI.1 d
       exact⟨(c e a).tick (hi.bD e a) m hi.c0 q,J6 _ (hi.bD e a) _⟩)
    exact λh d=>(r h d).1
   exact c
  exact c
 split
 ·unfold Eb;split <;> exact c
 split
 ·unfold E2;split <;> exact c
 split
 ·exact c
 exact c
structure cF (clock:Int) (x y:aJ):Prop where
 id:y.id=x.id
 k:y.k=x.k
 c:Al x.k y.c=Al x.k x.c
 acc:y.acc=x.acc
 rel:y.rel=x.rel
 ref:y.ref=x.ref
 last:y.last=x.last
 buf:(x.l.map (A7 x.k)).Perm (y.l.map (A7 x.k))
 note:cQ x.k (Al x.k x.c) (clock-x.c.aL) x.nt y.nt
theorem cF.refl(clock:Int)(x:aJ): cF clock x x:=⟨rfl,rfl,rfl,rfl,rfl,rfl,rfl,jj _,cQ.refl _ _ _ _⟩
theorem cF.head{n clock:Int}{x y:aJ}(c:cF clock x y)(hi:aT n x): y.c.aL=x.c.aL/\y.c.bF=x.c.bF/\y.c.cap=x.c.cap:=by
 have a:=F7 x.k x.c hi.k1 hi.k5;have b:=F7 x.k y.c hi.k1 hi.k5;rw[c.c]at b;exact⟨by rw[<-b.2.1,a.2.1],by rw[<-b.2.2.1,a.2.2.1],by rw[<-b.2.2.2,a.2.2.2]⟩
theorem cF.len{clock:Int}{x y:aJ}(a:cF clock x y): y.l.length=x.l.length:=by
 have:=a.buf.length_eq;rw[iu,iu]at this;exact this.symm
theorem cF.bO{n clock:Int}{x y:aJ}(c:cF clock x y)(hi:aT n x)(a:It): bO y clock a=bO x clock a:=by
 have d:=c.head hi;have e:AP y.c y.k a=AP x.c x.k a:=by
  rw[c.k,<-Qy x.k y.c a hi.k1 hi.k5,c.c,Qy x.k x.c a hi.k1 hi.k5]
 unfold Go.Proofs.YtnokbhcennjanaaGreatDoor.bO;rw[e,d.1,d.2.1,d.2.2,c.len,c.acc]
theorem cF.cD{n1 h clock:Int}{x y:aJ}(a:cF clock x y)(hi:aT n1 x)(e:aT h y)(c:It): cF clock (cD x c) (cD y c):=by
 have d:=(put_heap x.l (Ah c (x.acc+1)) hi.heap).2;have b:=(put_heap y.l (Ah c (y.acc+1)) e.heap).2;refine⟨a.id,a.k,a.c,by show y.acc+1=x.acc+1;rw[a.acc],a.rel,a.ref,a.last,?_,a.note⟩;refine(d.map _).trans (List.Perm.trans ?_ (b.map _).symm);rw[iF,iF,a.acc];exact List.Perm.cons _ a.buf
theorem cF.cG{clock:Int}{x y:aJ}(a:cF clock x y)(c:Nat): cF clock (cG x c) (cG y c) :=
 ⟨a.id,a.k,a.c,a.acc,a.rel,by show y.ref.set c _=x.ref.set c _;rw[a.ref],a.last,a.buf,a.note⟩
structure gT (k:Nat) (ck:Cfg) (rel last:Int) (a b:aU):Prop where
 ia:bT k ck rel last a
 ib:bT k ck rel last b
 za:NZ k ck rel last a
 zb:NZ k ck rel last b
 v:Ak ck=true
 kd:ck.kind=k
theorem cF.both{n1 e clock:Int}{x y:aJ}(a:cF clock x y)(hi:aT n1 x)(d:aT e y)(h:NZ x.k x.c x.rel x.last x.nt)(i:NZ y.k y.c y.rel y.last y.nt): gT x.k (Al x.k x.c) x.rel x.last x.nt y.nt:=by
 have c:=d.note.K;have b:=i.K;rw[a.k,a.c,a.rel,a.last]at c b;exact⟨hi.note.K,c,h.K,b,KE x.k x.c hi.k1 hi.k5 hi.valid hi.kind,by rw[(F7 x.k x.c hi.k1 hi.k5).1];exact hi.kind⟩
theorem cF.later{n1 h clock d:Int}{x y:aJ}(a:cF clock x y)(hi:aT n1 x)(e:aT h y)(i:SZ clock x)(j:SZ clock y)(k:clock<=d): cF d x y:=by
 have c:=a.both hi e i.note j.note;exact⟨a.id,a.k,a.c,a.acc,a.rel,a.ref,a.last,a.buf,a.note.later (by omega) c.ia c.ib c.v c.kd⟩
theorem cF.one{n1 u d m:Int}{x y:aJ}(a:cF d x y)(s:m=d-x.c.aL)(hi:aT n1 x)(k:aT u y)(o:SY m x)(v:SY m y)(l:x.l≠[]): cF d (BS x m) (BS y m)/\(itAt y.l 0).t=(itAt x.l 0).t:=by
 have c:=a.both hi k o.note v.note;have h:=jH.1 o.eE;obtain⟨i,p⟩:=P8 hi.heap k.heap h.1 l a.buf;have n:(itAt y.l 0).t=(itAt x.l 0).t:=by rw[<-F0 x.k (itAt y.l 0),<-i,F0]
 have e:=Gr l;refine⟨⟨a.id,a.k,a.c,a.acc,by show y.rel+1=x.rel+1;rw[a.rel],a.ref,n,p,?_⟩,n⟩;show cQ x.k (Al x.k x.c) (d-x.c.aL) (BE x.k x.c x.nt (itAt x.l 0) m) (BE y.k y.c y.nt (itAt y.l 0) m);have j:=a.note;rw[<-s]at j ⊢;have q:BE x.k x.c x.nt (itAt x.l 0) m=BE x.k (Al x.k x.c) x.nt (A7 x.k (itAt x.l 0)) m:=(RD x.k x.c x.nt _ m hi.k1 hi.k5).symm;have r:BE y.k y.c y.nt (itAt y.l 0) m=BE x.k (Al x.k x.c) y.nt (A7 x.k (itAt x.l 0)) m:=by
  rw[a.k,i,<-a.c];exact(RD x.k y.c y.nt _ m hi.k1 hi.k5).symm
 rw[q,r];refine j.rel c.ia c.ib c.za c.zb c.v c.kd (A7 x.k (itAt x.l 0)) (by rw[F0];exact hi.dX _ e) (by rw[Nh x.k x.c _ hi.k1 hi.k5];exact hi.fits _ e) ?_;rw[Gz];refine kA.2 ⟨λt=>h.2.2 (itAt x.l 0).n (iK e) _ t rfl,h.2.1⟩
theorem cF.relS{n1 u k m:Int}(f:Nat): ∀ {x y:aJ},cF k x y->m=k-x.c.aL->aT n1 x->aT u y->SY m x->SY m y->cF k (relS f x m) (relS f y m):=by
 induction f with
 | zero=>intro x y c _ _ _ _ _;exact c
 | succ f t =>
  intro x y c l i j n o;unfold Go.Proofs.YtnokbhcennjanaaGreatDoor.relS;by_cases d:x.l=[]
  ·have e:y.l=[]:=(Jc c.buf).1 d;rw[ij (by rw[d];rfl),ij (by rw[e];rfl)];exact c
  have e:y.l≠[]:=λs=>d ((Jc c.buf).2 s);have h:=c.one l i j n o d;have q:¬x.l.isEmpty=true:=by rw[kV];exact d
  have r:¬y.l.isEmpty=true:=by rw[kV];exact e
  rw[ig q,ig r,h.2];by_cases a:m<(itAt x.l 0).t
  ·rw[ij a,ij a];exact c
  rw[ig a,ig a];exact t h.1 l (Ig i d m a) (Ig j e m (by rw[h.2];exact a)) (n.one i d a) (o.one j e (by rw[h.2];exact a))
theorem SZ.y{clock c:Int}{x:aJ}(a:SZ clock x)(e:clock<=c): SY (c-x.c.aL) x:=⟨a.eF,a.num,a.fM,a.eE,λd=>by have:=a.mark d;omega,a.note⟩
theorem cF.tick{n1 l clock a:Int}{x y:aJ}(c:cF clock x y)(hi:aT n1 x)(e:aT l y)(i:SZ clock x)(j:SZ clock y)(d:clock<=a): cF a (AS a x) (AS a y):=by
 have k:=c.head hi;have h:=j.y d;unfold AS;rw[k.1]at h ⊢;rw[c.len];exact(c.later hi e i j d).relS _ rfl hi e (i.y d) h
theorem cF.fL{n1 clock:Int}{x y:aJ}(a:cF clock x y)(hi:aT n1 x)(b:Int): cF clock (Dz clock b x) (Dz clock b y)/\Ev clock b y=Ev clock b x/\EJ clock b y=EJ clock b x:=by
 have h:=a.head hi;have d:Bj x.k x.c x.nt (clock-x.c.aL) b=Bj x.k (Al x.k x.c) x.nt (clock-x.c.aL) b:=(RL x.k x.c x.nt _ b hi.k1 hi.k5).symm;have e:Bj y.k y.c y.nt (clock-y.c.aL) b=Bj x.k (Al x.k x.c) y.nt (clock-x.c.aL) b:=by
  rw[a.k,h.1,<-a.c];exact(RL x.k y.c y.nt _ b hi.k1 hi.k5).symm
 obtain⟨i,c⟩:=a.note.fL b;unfold Dz Ev EJ;rw[d,e];refine⟨⟨a.id,a.k,a.c,a.acc,a.rel,a.ref,a.last,a.buf,i⟩,?_,?_⟩
 ·rw[c]
 rw[c]
theorem cF.hJ{n1 j clock:Int}{x y:aJ}(c:cF clock x y)(hi:aT n1 x)(d:aT j y)(h:SZ clock x)(k:SZ clock y)(a:Int): Bc y.k y.c y.nt a (clock-y.c.aL)=Bc x.k x.c x.nt a (clock-x.c.aL):=by
 have i:=c.head hi;have e:=c.both hi d h.note k.note;rw[i.1,<-R9 x.k x.c x.nt a _ hi.k1 hi.k5 hi.valid hi.kind,c.k];rw[<-R9 x.k y.c y.nt a _ hi.k1 hi.k5 d.valid (by rw[d.kind,c.k]),c.c];exact(c.note.hJ hi.k1 hi.k5 e.za e.zb (jH.1 h.eE).2.1 a).symm
theorem cF.aI{n1 l clock:Int}{x y:aJ}(a:cF clock x y)(hi:aT n1 x)(c:aT l y)(d:SZ clock x)(m:SZ clock y): D9 clock y=D9 clock x:=by
 have k:=a.head hi;have e:=a.both hi c d.note m.note;have h:BV y.k y.c=BV x.k x.c:=by
  rw[a.k,<-R8 x.k x.c hi.k1 hi.k5 hi.valid hi.kind,<-a.c,R8 x.k y.c hi.k1 hi.k5 c.valid (by rw[c.kind,a.k])]
 have i:DX y.k y.c y.nt (clock-y.c.aL)=DX x.k x.c x.nt (clock-x.c.aL):=by
  rw[k.1,a.k,<-RJ x.k x.c x.nt _ hi.k1 hi.k5,<-RJ x.k y.c y.nt _ hi.k1 hi.k5,a.c];exact(a.note.hY hi.k1 hi.k5 e.za e.zb (jH.1 d.eE).2.1).symm
 have j:Bq y.k (Qi.allL (y.l.length+1) y.l)=Bq x.k (Qi.allL (x.l.length+1) x.l):=by
  rw[a.k,a.len,<-Rw x.k _ hi.k1 hi.k5,<-zKm (x.l.length+1) hi.heap c.heap (jH.1 d.eE).1 a.buf,Rw x.k _ hi.k1 hi.k5]
 unfold D9 Ha;rw[h,i,j,a.id,a.ref,a.rel,a.len]
inductive bY (clock:Int):List aJ->List aJ->Prop
 | nil:bY clock [] []
 | cons {x y:aJ} {xs ys:List aJ} (h:cF clock x y) (r:bY clock xs ys):bY clock (x::xs) (y::ys)
structure Ok (n:Int) (s:WS):Prop where
 i:bQ n s.clock s.xs
 z:EZ s
structure eN (s t:WS):Prop where
 clock:t.clock=s.clock
 xs:bY s.clock s.xs t.xs
theorem bY.len{clock:Int}{a c:List aJ}(d:bY clock a c): c.length=a.length:=by
 induction d with
 | nil=>rfl
 | cons _ _ e=>rw[iD,iD,e]
theorem bY.find{clock id:Int}{a c:List aJ}(w:bY clock a c): (Ca a id=none/\Ca c id=none)\/∃d y,Ca a id=some d/\Ca c id=some y/\cF clock d y/\d∈a/\y∈c/\∀j k,cF clock j k->bY clock (BD a id j) (BD c id k):=by
 induction w with
 | nil=>exact .inl ⟨rfl,rfl⟩
 | cons l z x =>
  rename_i d y a c;by_cases h:(d.id==id)=true
  ·have i:(y.id==id)=true:=by rw[l.id];exact h
   refine .inr ⟨d,y,?_,?_,l,by simp,by simp,λj k o=>?_⟩
   ·unfold Ca;rw[List.find?_cons_of_pos (p:=λe:aJ=>e.id==id) h]
   ·unfold Ca;rw[List.find?_cons_of_pos (p:=λe:aJ=>e.id==id) i]
   unfold BD;rw[ij h,ij i];exact .cons o z
  have i:¬(y.id==id)=true:=by rw[l.id];exact h
  have q:Ca (d::a) id=Ca a id:=by unfold Ca;rw[List.find?_cons_of_neg (p:=λe:aJ=>e.id==id) h]
  have r:Ca (y::c) id=Ca c id:=by unfold Ca;rw[List.find?_cons_of_neg (p:=λe:aJ=>e.id==id) i]
  rcases x with ⟨m,n⟩ | ⟨A,B,m,n,s,t,u,v⟩
  ·exact .inl ⟨by rw[q];exact m,by rw[r];exact n⟩
  refine .inr ⟨A,B,by rw[q];exact m,by rw[r];exact n,s,by simp[t],by simp[u],λj k o=>?_⟩;unfold BD;rw[ig h,ig i];exact .cons l (v j k o)
theorem bY.app{clock:Int}{a c:List aJ}(d:bY clock a c)(x:aJ): bY clock (a++[x]) (c++[x]):=by
 induction d with
 | nil=>exact .cons (cF.refl clock x) .nil
 | cons e _ h=>exact .cons e h
theorem bY.tick{n1 r clock c:Int}(n:clock<=c){d e:List aJ}(m:bY clock d e): (∀a,a∈d->aT n1 a/\SZ clock a)->(∀y,y∈e->aT r y/\SZ clock y)->bY c (d.map (AS c)) (e.map (AS c)):=by
 induction m with
 | nil=>intros;exact .nil
 | cons o _ q =>
  rename_i a y d e _;intro k l;have j:=k a (by simp);have b:=l y (by simp);exact .cons (o.tick j.1 b.1 j.2 b.2 n) (q (λi h=>k i (by simp[h])) (λi h=>l i (by simp[h])))
theorem bY.gS{n1 a:Int}{d e:List aJ}(i:bY a d e): ∀b,(∀c,c∈d->aT n1 c)->bY a (Bw a b d).1 (Bw a b e).1/\(Bw a b e).2=(Bw a b d).2:=by
 induction i with
 | nil=>intro b _;exact⟨.nil,rfl⟩
 | cons j _ n =>
  rename_i c y d e _;intro b h;obtain⟨o,q,r⟩:=j.fL (h c (by simp)) b;obtain⟨l,m⟩:=n (b-Ev a b c) (λs k=>h s (by simp[k]));unfold Bw;rw[q,r,m];exact⟨.cons o l,rfl⟩
theorem bY.aI{n1 o clock:Int}{c d:List aJ}(l:bY clock c d): (∀a,a∈c->aT n1 a/\SZ clock a)->(∀y,y∈d->aT o y/\SZ clock y)->By clock d=By clock c:=by
 induction l with
 | nil=>intros;rfl
 | cons m _ n =>
  rename_i a y c d _;intro j k;have i:=j a (by simp);have b:=k y (by simp);have:=n (λh e=>j h (by simp[e])) (λh e=>k h (by simp[e]));unfold By at this ⊢;rw[jz,jz,this,m.aI i.1 b.1 i.2 b.2]
theorem eN.saved{n1 i:Int}{s t:WS}(a:eN s t)(c:Ok n1 s)(d:Ok i t): Cx t=Cx s:=by
 have k:∀y,y∈t.xs->aT i y/\SZ s.clock y:=λy h=>⟨d.i.bD y h,by rw[<-a.clock];exact d.z y h⟩;have:=a.xs.aI (λj e=>⟨c.i.bD j e,c.z j e⟩) k;unfold Cx DC FS Er FN;rw[a.clock,this,a.xs.len]
theorem eN.step{n1 v:Int}{s t:WS}(a:eN s t)(n:Ok n1 s)(q:Ok v t)(o:aO)(D:o.kind≠7): eN (Ax s o).1 (Ax t o).1/\(Ax t o).2=(Ax s o).2/\E3 t o=E3 s o:=by
 have x:E3 t o=E3 s o:=by
  unfold E3;split
  ·exact a.saved n q
  rfl
 have i:∀c,c∈s.xs->aT n1 c/\SZ s.clock c:=λc i=>⟨n.i.bD c i,n.z c i⟩;have j:∀y,y∈t.xs->aT v y/\SZ s.clock y:=λy j=>⟨q.i.bD y j,by rw[<-a.clock];exact q.z y j⟩;have u:eN (Ax s o).1 (Ax t o).1/\(Ax t o).2=(Ax s o).2:=by
  unfold Ax;split
  ·unfold Dk;have z:(Ca t.xs o.id).isNone=(Ca s.xs o.id).isNone:=by
    rcases a.xs.find (id:=o.id) with ⟨d,e⟩ | ⟨c,y,d,e,_⟩ <;> rw[d,e] <;> rfl
   rw[z,a.xs.len];split
   ·split
    ·split
     ·refine⟨⟨a.clock,?_⟩,rfl⟩;show bY s.clock (s.xs++[_]) (t.xs++[_]);exact a.xs.app _
     exact⟨a,rfl⟩
    exact⟨a,rfl⟩
   exact⟨a,rfl⟩
  split
  ·unfold C6;rcases a.xs.find (id:=o.id) with ⟨d,e⟩ | ⟨c,y,d,e,h,k,l,m⟩
   ·rw[d,e];exact⟨a,rfl⟩
   rw[d,e];simp only;rw[a.clock,h.bO (i c k).1,h.acc];split
   ·refine⟨⟨rfl,?_⟩,rfl⟩;exact m _ _ (h.cD (i c k).1 (j y l).1 o.item)
   refine⟨⟨rfl,?_⟩,rfl⟩;exact m _ _ (h.cG _)
  split
  ·unfold DT;rw[a.clock];split
   ·split
    ·have A:s.clock<=Av s.clock o.a:=by unfold Av;split <;> omega
     have w:=a.xs.tick A i j
     have r:=w.gS o.b (n1:=n1) (λE C=>by
        obtain⟨c,B,rfl⟩:=iI.1 C
        exact J6 _ (i c B).1 _)
     exact⟨⟨rfl,r.1⟩,by rw[r.2]⟩
    exact⟨a,rfl⟩
   exact⟨a,rfl⟩
  split
  ·unfold Eb;rcases a.xs.find (id:=o.id) with ⟨d,e⟩ | ⟨c,y,d,e,h,k,l,m⟩
   ·rw[d,e];exact⟨a,rfl⟩
   rw[d,e];refine⟨a,?_⟩;show Bc y.k y.c y.nt o.a (t.clock-y.c.aL)=Bc c.k c.c c.nt o.a (s.clock-c.c.aL);rw[a.clock];exact h.hJ (i c k).1 (j y l).1 (i c k).2 (j y l).2 o.a
  split
  ·unfold E2;rcases a.xs.find (id:=o.id) with ⟨d,e⟩ | ⟨c,y,d,e,h,k,l,m⟩
   ·rw[d,e];exact⟨a,rfl⟩
   rw[d,e];refine⟨a,?_⟩;show((0:Int),BM y)=(0,BM c);unfold BM;rw[h.acc,h.rel,h.ref]
  split
  ·exact⟨a,rfl⟩
  exact⟨a,rfl⟩
 exact⟨u.1,u.2,x⟩
def G8(k:Nat)(c:Cfg)(m:Int)(nt:aU): aU :=
 if k=1 then { CH with bs:=nt.bs }
 else if k=2 then { CH with rg:=λj=>AX c m (nt.rg j) }
 else if k=3 then { CH with op:=(Ef (A6 c nt.op nt.cl (m-c.aB))).1,cl:=(Ef (A6 c nt.op nt.cl (m-c.aB))).2 }
 else if k=4 then { CH with q:=nt.q,r:=nt.r }
 else { CH with tk:=((Dr.allL (nt.tk.length+1) nt.tk).map E7).foldl (AY c) [] }
def Dd(clock:Int)(x:aJ): aJ:=⟨x.id,Al x.k x.c,x.k,x.rel+(x.l.length:Int),x.rel,CN x.ref 7,Cs x.k (Qi.allL (x.l.length+1) x.l),G8 x.k (Al x.k x.c) (clock-x.c.aL) x.nt,x.last⟩
theorem I9(c:Cfg): ∀(a:List It) (l:List Dr.It),Dr.bK l->(∀y,y∈a->Dr.dpos (tick c y))->(l.length:Int)+a.length<=c.size+1->Dr.bK (a.foldl (AY c) l)/\(a.foldl (AY c) l).Perm (a.map (tick c)++l):=by
 intro a;induction a with
 | nil=>intro l d _ _;exact⟨d,jj _⟩
 | cons y a s =>
  intro l d h n;rw[iD]at n;obtain⟨j,i,e,k⟩:=K5 c y d (h y (by simp));rw[ig (by omega)]at k;have m:i=[]:=iR.1 (by omega);subst m;have hlen:=e.length_eq;rw[jv,iD]at hlen;obtain⟨q,r⟩:=s (AY c l y) j (λt o=>h t (by simp[o])) (by omega);refine⟨q,r.trans ?_⟩;refine(lf _ e).trans ?_;rw[iF,θ];exact lh
theorem Qk{c:Cfg}{rel last:Int}{a:aU}(k:NZ 5 c rel last a):
  Dr.bK (((Dr.allL (a.tk.length+1) a.tk).map E7).foldl (AY c) [])/\(((Dr.allL (a.tk.length+1) a.tk).map E7).foldl (AY c) []).Perm a.tk:=by
 obtain⟨l,m,i⟩:=k.cZ rfl;have d:=(Dr.dV (a.tk.length+1) a.tk (by omega) l).1
 have:=I9 c ((Dr.allL (a.tk.length+1) a.tk).map E7) [] ⟨λs o=>by simp at o,λr _ n=>by simp at n⟩ (λy q=>by
    obtain⟨h,e,rfl⟩:=iI.1 q
    exact J8 (i h (d.subset e)).2.1) (by
    rw[iu,d.length_eq];show((0:Nat):Int)+_<=_
    split at m <;> omega)
 refine⟨this.1,this.2.trans ?_⟩;rw[iC,kk];have j:(Dr.allL (a.tk.length+1) a.tk).map (tick c ∘ E7)=Dr.allL (a.tk.length+1) a.tk:=by
  conv=>rhs;rw[<-List.map_id (Dr.allL (a.tk.length+1) a.tk)]
  exact jT (λh e=>(i h (d.subset e)).1.symm)
 rw[j];exact d
theorem zNo{k:Nat}{c:Cfg}{rel last:Int}{i:aU}(m:Int)(hi:bT k c rel last i)(n:NZ k c rel last i)(H:1<=k)(I:k<=5)(z:Ak c=true)(w:c.kind=k)(F:0<=last):
  bT k c rel last (G8 k c m i)/\NZ k c rel last (G8 k c m i)/\cQ k c m i (G8 k c m i):=by
 have j:=hi.dJ;rcases Au H I with d | d | d | d | d <;> subst d
 ·refine⟨⟨iL _,j,iL _,(show(0:Int)<2305843009213693952 by decide),hi.one,hi.sum,λe b h=>(by cases h),λe=>j,λd=>by omega,λd=>by omega,λ_=>hi.lw rfl,λd=>absurd rfl d,λ_=>ν⟩,⟨λd=>by omega,λ_=>n.bL rfl,λd=>by omega,λd=>by omega,λd=>by omega⟩,⟨λd=>by omega,λ_=>rfl,λd=>by omega,λd=>by omega,λd=>by omega⟩⟩
 ·obtain⟨A,s,B⟩:=n.dS rfl;have x:∀e b,b∈AX c m (i.rg e)->b∈i.rg e:=λe b h=>iE h;have hlen:∀e,(AX c m (i.rg e)).length<=(i.rg e).length:=λe=>by unfold AX;rw[iU];omega
  refine⟨⟨iL _,j,iL _,(show(0:Int)<2305843009213693952 by decide),λb h=>(by cases h),j,λe b h=>hi.rk e b (x e b h),λe=>by have:=hi.rl e;have:=hlen e;show((AX c m (i.rg e)).length:Int)<=rel;omega,λd=>by omega,λd=>by omega,λd=>by omega,λ_=>rfl,λe=>(hi.rf e).drop _⟩,⟨λd=>by omega,λd=>by omega,λ_=>⟨λl=>(A l).drop _,λl b h=>s l b (x l b h),?_⟩,λd=>by omega,λd=>by omega⟩,⟨λd=>by omega,λd=>by omega,λ_ l _=>?_,λd=>by omega,λd=>by omega⟩⟩
  ·have:=Pr (a:=λl=>AX c m (i.rg l)) (b:=i.rg) hlen (B1 c) 0;show((D2 (λl=>AX c m (i.rg l)) (B1 c) 0:Nat):Int)<=rel;omega
  show AX c m (i.rg l)=AX c m (AX c m (i.rg l));rw[J7 c m (AX c m (i.rg l)),J7,Hk (λ_ E=>E)]
 ·have L:=(D5 z w rfl).2.2.1;have G:=(D5 z w rfl).1.p0;have v:=Zl (t:=m-c.aB) (n.dY rfl) (hi.oi rfl) (by omega) F G;obtain⟨C,u,_⟩:=LO (t:=m-c.aB) (n.dY rfl) (hi.oi rfl) (by omega);refine⟨⟨iL _,j,iL _,(show(0:Int)<2305843009213693952 by decide),λb h=>(by cases h),j,λe b h=>(by cases h),λe=>j,λ_=>v.1,λd=>by omega,λd=>by omega,λ_=>rfl,λ_=>ν⟩,⟨λd=>by omega,λd=>by omega,λd=>by omega,λ_=>v.2,λd=>by omega⟩,⟨λd=>by omega,λd=>by omega,λd=>by omega,λ_=>?_,λd=>by omega⟩⟩;exact(Wj _ C (λr q=>(u r q).1) (λr q=>(u r q).2.1)).symm
 ·refine⟨⟨hi.q0,hi.qn,hi.r0,hi.r1,λb h=>(by cases h),j,λe b h=>(by cases h),λe=>j,λd=>by omega,λd=>by omega,λd=>by omega,λ_=>rfl,λ_=>ν⟩,⟨λ_=>n.dec rfl,λd=>by omega,λd=>by omega,λd=>by omega,λd=>by omega⟩,⟨λ_=>⟨rfl,rfl⟩,λd=>by omega,λd=>by omega,λd=>by omega,λd=>by omega⟩⟩
 obtain⟨D,o⟩:=Qk n;obtain⟨A,s,B⟩:=n.cZ rfl;refine⟨⟨iL _,j,iL _,(show(0:Int)<2305843009213693952 by decide),λb h=>(by cases h),j,λe b h=>(by cases h),λe=>j,λd=>by omega,λ_=>?_,λd=>by omega,λ_=>rfl,λ_=>ν⟩,⟨λd=>by omega,λd=>by omega,λd=>by omega,λd=>by omega,λ_=>⟨D,?_,λJ n=>B J (o.subset n)⟩⟩,⟨λd=>by omega,λd=>by omega,λd=>by omega,λd=>by omega,λ_=>o.symm⟩⟩
 ·show((((Dr.allL (i.tk.length+1) i.tk).map E7).foldl (AY c) []).length:Int)<=_;rw[o.length_eq];exact hi.tl rfl
 show((((Dr.allL (i.tk.length+1) i.tk).map E7).foldl (AY c) []).length:Int)=_;rw[o.length_eq];exact s
theorem zP1{k:Nat}{c:Cfg}{rel last:Int}{i:aU}(m:Int)(h:NX k i)(j:NZ k c rel last i)(n:1<=k)(o:k<=5): NX k (G8 k c m i):=by
 rcases Au n o with e | e | e | e | e <;> subst e
 ·exact⟨h.bt,λd b a=>(by cases a),λd=>ν,λe=>by omega⟩
 ·exact⟨λb a=>(by cases a),λd b a=>h.rt d b (iE a),λd=>(h.rf d).drop _,λe=>by omega⟩
 ·exact⟨λb a=>(by cases a),λd b a=>(by cases a),λd=>ν,λe=>by omega⟩
 ·exact⟨λb a=>(by cases a),λd b a=>(by cases a),λd=>ν,λe=>by omega⟩
 exact⟨λb a=>(by cases a),λd b a=>(by cases a),λd=>ν,λ_ q l=>h.tt rfl q ((Qk j).2.subset l)⟩
theorem Wd{l:List Int}(k:l.length=12)(a:∀c,c<5->Ac l c=0): CN l 7=l:=by
 match l,k with
 | [a0,a1,a2,a3,a4,a5,a6,a7,a8,a9,a10,a11],_ =>
  have d:a0=0:=a 0 (by omega);have e:a1=0:=a 1 (by omega);have h:a2=0:=a 2 (by omega);have i:a3=0:=a 3 (by omega);have j:a4=0:=a 4 (by omega);subst d;subst e;subst h;subst i;subst j;rfl
theorem zNn{x:aJ}(a:bE x.l): (Cs x.k (Qi.allL (x.l.length+1) x.l)).Perm (x.l.map (A7 x.k)):=(Mt x.k _).2.trans ((Ip _ x.l (by omega) a).map _)
theorem Rk{k:Nat}{c:Cfg}{m:Int}{i:aU}(e:1<=k)(h:k<=5)(d:k≠5): (G8 k c m i).tk=[]:=by
 rcases Au e h with a | a | a | a | a <;> subst a
 ·rfl
 ·rfl
 ·rfl
 ·rfl
 exact absurd rfl d
theorem KB{n clock:Int}{x:aJ}(hi:aT n x)(q:SX x)(i:SZ clock x): aT n (Dd clock x)/\SX (Dd clock x)/\SZ clock (Dd clock x)/\cF clock x (Dd clock x):=by
 have s:=zNn hi.heap;have k:=F7 x.k x.c hi.k1 hi.k5;have z:=KE x.k x.c hi.k1 hi.k5 hi.valid hi.kind;have v:(Al x.k x.c).kind=x.k:=by rw[k.1];exact hi.kind
 obtain⟨c1,c2,c3⟩:=zNo (clock-x.c.aL) hi.note.K i.note.K hi.k1 hi.k5 z v hi.eB;have C:=zP1 (c:=Al x.k x.c) (clock-x.c.aL) q.note i.note.K hi.k1 hi.k5;have r:CN x.ref 7=x.ref:=Wd hi.bS i.eF;have hlen:(Cs x.k (Qi.allL (x.l.length+1) x.l)).length=x.l.length:=by rw[s.length_eq,iu]
 have m:x.rel+(x.l.length:Int)=x.acc:=hi.dE;have l:∀y,y∈(Dd clock x).l->∃a,a∈x.l/\A7 x.k a=y:=λy d=>iI.1 (s.subset d);have w:((Dd clock x).l.map (·.n)).Perm (x.l.map (·.n)):=by
  have:=s.map (·.n);rw[kk]at this;have j:x.l.map ((·.n) ∘ A7 x.k)=x.l.map (·.n):=jT (λy _=>Gz x.k y);rw[j]at this;exact this
 have D:(x.nt.tk.map (·.n)).Perm ((Dd clock x).nt.tk.map (·.n))\/(Dd clock x).nt.tk=[]:=by
  by_cases j:x.k=5
  ·exact .inl ((c3.cZ j).map _)
  exact .inr (Rk hi.k1 hi.k5 j)
 refine⟨⟨z,v,hi.k1,hi.k5,?_,?_,hi.dJ,?_,NU _ _,?_,?_,?_,c1,(Mt x.k _).1,hi.eB,hi.dR,?_,?_⟩,⟨q.fS,?_,?_,?_,C⟩,⟨?_,?_,?_,?_,?_,?_,?_,c2⟩,⟨rfl,rfl,zP6 x.k x.c hi.k1 hi.k5,m,rfl,r,rfl,?_,c3⟩⟩
 ·show 0<=x.rel+_;rw[m];exact hi.eL
 ·show x.rel+_<=n;rw[m];exact hi.dH
 ·show x.rel+((Cs x.k (Qi.allL (x.l.length+1) x.l)).length:Int)=x.rel+_;rw[hlen]
 ·show ∀u,u∈CN x.ref 7->_;rw[r];exact hi.cN
 ·show((Cs x.k (Qi.allL (x.l.length+1) x.l)).length:Int)<=(Al x.k x.c).cap;rw[hlen,k.2.2.2];exact hi.cap
 ·intro y d;obtain⟨a,h,e⟩:=l y d;rw[<-e,F0];exact hi.times a h
 ·intro y d;obtain⟨a,h,e⟩:=l y d;rw[<-e,F0];exact hi.dX a h
 ·intro y d;obtain⟨a,h,e⟩:=l y d;rw[<-e];show AP (Al x.k x.c) x.k (A7 x.k a)=0;rw[Nh x.k x.c a hi.k1 hi.k5];exact hi.fits a h
 ·show x.rel+_<=_;rw[m];exact q.fQ
 ·intro y d;obtain⟨a,h,e⟩:=l y d;rw[<-e,Gz];exact q.aI a h
 ·show ∀u,u∈CN x.ref 7->_;rw[r];exact q.fA
 ·show ∀A,A<5->Ac (CN x.ref 7) A=0;rw[r];exact i.eF
 ·intro y d;obtain⟨a,h,e⟩:=l y d;rw[<-e,F0];show clock-(Al x.k x.c).aL<a.t/\a.t<=clock+(Al x.k x.c).bF;rw[k.2.1,k.2.2.1];exact i.due a h
 ·intro y d;obtain⟨a,h,e⟩:=l y d;rw[<-e,Gz];show 1<=a.n/\a.n<=x.rel+_;rw[m];exact i.num a h
 ·intro a t;show 1<=a.n/\a.n<=x.rel+_;rw[m];by_cases j:x.k=5
  ·exact i.fM a ((c3.cZ j).symm.subset t)
  have B:(Dd clock x).nt.tk=[]:=Rk hi.k1 hi.k5 j;rw[B]at t;cases t
 ·rcases D with o | o
  ·exact(w.append o.symm).nodup_iff.2 i.eE
  rw[o,kq,iC];exact w.nodup_iff.2 (jH.1 i.eE).1
 ·show x.rel<=Dw (Al x.k x.c) clock;have:Dw (Al x.k x.c) clock=Dw x.c clock:=by unfold Dw;rw[k.2.1,k.2.2.2]
  rw[this];exact i.most
 ·intro o;show x.last<=clock-(Al x.k x.c).aL;rw[k.2.1];exact i.mark o
 exact((Mt x.k _).2.trans (by
      refine List.Perm.trans ?_ ((Ip (x.l.length+1) x.l (by omega) hi.heap).map _)
      exact jj _)).symm.trans (by
    have j:(Cs x.k (Qi.allL (x.l.length+1) x.l)).map (A7 x.k)=Cs x.k (Qi.allL (x.l.length+1) x.l):=by
     conv=>rhs;rw[<-List.map_id (Cs x.k (Qi.allL (x.l.length+1) x.l))]
     refine jT (λy d=>?_);obtain⟨a,_,e⟩:=l y d;rw[<-e,Zt];rfl
    show(Cs x.k _).Perm ((Cs x.k _).map (A7 x.k))
    rw[j])
