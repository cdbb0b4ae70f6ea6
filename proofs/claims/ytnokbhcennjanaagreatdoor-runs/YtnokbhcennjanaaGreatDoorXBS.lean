import Derived.Test.YtnokbhcennjanaaGreatDoorXBR
open Go.RowKit Go.Proofs.Tryz
set_option maxRecDepth 100000
set_option maxHeartbeats 16000000
namespace Go.Proofs.YtnokbhcennjanaaGreatDoor
section
def E2(z:Dr.It): It:=⟨z.t,z.k,z.d,z.n⟩
structure NZ (k:Nat) (c:Cfg) (rel last:Int) (nt:aU):Prop where
 dec:k=4->rel<=nt.q*2305843009213693952+nt.r/\nt.q*2305843009213693952+nt.r<=rel*2305843009213693952
 bL:k=1->Lw c.k.toNat 0 nt.bs/\(nt.bs.map (·.t)).Pairwise (·<=·)/\∀t,t∈nt.bs.map (·.t)->0<=t/\t<=last
 dQ:k=2->(∀j,cJ (nt.rg j))/\(∀j b,b∈nt.rg j->0<=b.sz/\b.sz<=last)/\(Dt nt.rg (Bw c) 0:Int)<=rel
 dW:k=3->OZ c c.rows.toNat c.width.toNat rel nt.op nt.cl
 cX:k=5->Dr.bK nt.tk/\(nt.tk.length:Int)=(if c.size+1<rel then c.size+1 else rel)/\∀z,z∈nt.tk->z=tick c (E2 z)/\AL c 5 (E2 z)=0/\0<=z.t/\z.t<=last
theorem NZ.zero(k:Nat)(c:Cfg)(hs:k=5->1<=c.size): NZ k c 0 0 C8 where
 dec:=λ_=>⟨iG _,iG _⟩
 bL:=λ_=>⟨Lw.nil _ _,List.Pairwise.nil,λt ht=>by cases ht⟩
 dQ:=λ_=>⟨λ_=>List.Pairwise.nil,λ_ b hb=>(by cases hb),by
    have:∀n s,Dt (λ_=>[]) n s=0:=by
     intro n;induction n with
     | zero=>intro s;rfl
     | succ n ih=>intro s;unfold Dt;rw[ih];rfl
    show((Dt (λ_=>[]) _ 0:Nat):Int)<=0
    rw[this];exact iG _⟩
 dW:=λ_=>OZ.zero c _ _
 cX:=λh=>⟨⟨λj hj=>by simp[C8]at hj,λi _ hi=>by simp[C8]at hi⟩,by rw[hZ (by have:=hs h;omega)];rfl,λz hz=>by cases hz⟩
theorem Yj(b:Int)(e:1<=b)(n:Nat): ∀p,1<=p->(Bj b n p).isSome=true->1<=Ar (Bj b n p):=by
 induction n with
 | zero=>intro p c _;exact c
 | succ n h =>
  intro p c a;unfold Bj at a ⊢;split at a
  ·cases a
  rename_i d;rw[hZ d];exact h _ (KI p b c e d).1 a
theorem UH{c:Cfg}{t:Int}(a:(Am c t).isSome=true): 1<=Ar (Am c t):=by
 unfold Am at a ⊢;split at a
 ·cases a
 rename_i e;rw[hZ e];split at a
 ·rename_i d;rw[h9 d];exact Yj _ (by omega) _ 1 (by omega) a
 rename_i d;rw[hZ d];split at a
 ·cases a
 rename_i h;rw[hZ h];exact Gk _
theorem UI{c:Cfg}{y:It}(d:AL c 4 y=0): (Am c y.t).isSome=true:=by
 have a:Ev c y=0:=d;unfold Ev at a;split at a
 ·assumption
 omega
theorem Oz{c:Cfg}{y:It}(d:AL c 5 y=0): (0<=y.k/\y.k<=2147483648)/\1<=y.d/\y.d<=2147483648:=by
 have a:E8 c y=0:=d;unfold E8 at a;split at a
 ·split at a
  ·rename_i h;split at a
   ·rename_i e;exact⟨by simpa[Ab] using h,by simpa[Ab] using e⟩
   omega
  omega
 omega
theorem Jn{c:Cfg}{y:It}(a:AL c 5 y=0): Dr.dpos (tick c y):=by
 have:=(Oz a).2;show 0<y.d%18446744073709551616;omega
theorem zLl{a b:Nat->List Bk}(i:Nat)(l:∀h,h≠i->(a h).length=(b h).length)(hi:(a i).length<=(b i).length+1): ∀d c,Dt a d c<=Dt b d c+(if c<=i/\i<c+d then 1 else 0):=by
 intro d;induction d with
 | zero=>intro c;simp[Dt]
 | succ d m =>
  intro c;unfold Dt;have e:=m (c+1);by_cases j:c=i
  ·subst j;rw[hZ (by omega)]at e;rw[h9 (by omega)];omega
  have n:=l c j;by_cases k:c+1<=i/\i<c+1+d
  ·rw[h9 k]at e;rw[h9 (by omega)];omega
  rw[hZ k]at e;omega
theorem ON{a b:Nat->List Bk}(h:∀e,(a e).length<=(b e).length): ∀d c,Dt a d c<=Dt b d c:=by
 intro d;induction d with
 | zero=>intro c;exact il _
 | succ d i=>intro c;have:=i (c+1);have:=h c;unfold Dt;omega
theorem cJ.drop{l:List Bk}(a:cJ l)(n:Nat): cJ (l.drop n):=kL (jW _ _) a
theorem NZ.rel{k:Nat}{c:Cfg}{rel last:Int}{e:aU}(n:NZ k c rel last e)(hi:bT k c rel last e)(u:Ak c=true)(r:c.kind=k)(y:It)(m:Int)(z:0<=y.t)(U:last<=y.t)(q:AL c k y=0): NZ k c (rel+1) y.t (B9 k c e y m):=by
 refine⟨λd=>?_,λd=>?_,λd=>?_,λd=>?_,λd=>?_⟩
 ·subst d;obtain⟨l,j⟩:=n.dec rfl;have S:=UH (UI q);have T:=(Gf c y.t).2;show rel+1<=(e.q+(e.r+Ar (Am c y.t))/2305843009213693952)*2305843009213693952+(e.r+Ar (Am c y.t))%2305843009213693952/\(e.q+(e.r+Ar (Am c y.t))/2305843009213693952)*2305843009213693952+(e.r+Ar (Am c y.t))%2305843009213693952<=(rel+1)*2305843009213693952;omega
 ·subst d;obtain⟨l,j,o⟩:=n.bL rfl;have O:=Ef u r rfl;have s:=QG (c:=c) (K:=c.k.toNat) (by omega) (by omega) e.bs y.t m l
  have x:(e.bs.map (·.t)++[y.t]).Pairwise (·<=·):=iY.2 ⟨j,ka _ _,λv D b i=>by
     rw[ij]at i;subst i;have:=(o v D).2;omega⟩
  refine⟨s.1,x.sublist s.2,λI G=>?_⟩;rcases ig.1 (s.2.subset G) with d | d
  ·have:=o I d;omega
  rw[ij]at d;subst d;omega
 ·subst d;obtain⟨l,j,o⟩:=n.dQ rfl;show(∀h,cJ (BQ c (Bw c) e.rg y m h))/\(∀h b,b∈BQ c (Bw c) e.rg y m h->0<=b.sz/\b.sz<=y.t)/\(Dt (BQ c (Bw c) e.rg y m) (Bw c) 0:Int)<=rel+1;refine⟨λh=>?_,λh b i=>?_,?_⟩
  ·unfold BQ;split
   ·exact Mg ((l h).drop _) (λb i=>by have:=j h b (iB i);show b.sz<=y.t;omega)
   exact l h
  ·unfold BQ at i;split at i
   ·rcases Jf i with d | d
    ·have:=j h b (iB d);omega
    subst d;exact⟨z,iG _⟩
   have:=j h b i;omega
  have:=zLl (a:=BQ c (Bw c) e.rg y m) (b:=e.rg) (BZ c (Bw c) y.k) (λh E=>by unfold BQ;rw[hZ E]) (Oa c (Bw c) e.rg y m _) (Bw c) 0;split at this <;> omega
 ·subst d;obtain⟨P,t,M,N,Q⟩:=Dw u r rfl;have F:=t.r0;have R:=t.w0;exact(n.dW rfl).rel t (by omega) (by omega) y m
 subst d;obtain⟨l,j,o⟩:=n.cX rfl;have x:=E4 u r rfl;obtain⟨A,L,w,B⟩:=Kf c y l (Jn q);refine⟨A,?_,λJ H=>?_⟩
 ·show((AU c e.tk y).length:Int)=_;have C:=w.length_eq;rw[hY,iA]at C;have F:=hi.dI;split at B <;> split at j <;> split <;> omega
 rcases iw.1 (w.subset (kW _ H)) with d | d
 ·subst d;exact⟨rfl,q,z,iG _⟩
 have:=o J d;exact⟨this.1,this.2.1,this.2.2.1,by have:=this.2.2.2;omega⟩
theorem NZ.fJ{k:Nat}{c:Cfg}{rel last:Int}{d:aU}(a:NZ k c rel last d)(q:Ak c=true)(n:c.kind=k)(m b:Int): NZ k c rel last (Bc k c d m b).1:=by
 unfold Bc;split
 ·rename_i e;refine⟨a.dec,λ_=>?_,a.dQ,a.dW,a.cX⟩;obtain⟨i,j,l⟩:=a.bL e;have s:=Ef q n e;have h:((d.bs.drop (DF c d.bs m b).toNat).map (·.t)).Sublist (d.bs.map (·.t)):=(jW _ _).map _;exact⟨i.drop (by omega) _,j.sublist h,λr o=>l r (h.subset o)⟩
 exact a
structure cO (k:Nat) (c:Cfg) (m:Int) (a b:aU):Prop where
 dec:k=4->a.q=b.q/\a.r=b.r
 bL:k=1->a.bs=b.bs
 dQ:k=2->∀j,j<Bw c->AT c m (a.rg j)=AT c m (b.rg j)
 dW:k=3->A4 c a.op a.cl (m-c.aB)=A4 c b.op b.cl (m-c.aB)
 cX:k=5->a.tk.Perm b.tk
theorem cO.refl(k:Nat)(c:Cfg)(m:Int)(a:aU): cO k c m a a:=⟨λ_=>⟨rfl,rfl⟩,λ_=>rfl,λ_ _ _=>rfl,λ_=>rfl,λ_=>jb _⟩
theorem bT.K{k:Nat}{c:Cfg}{rel last:Int}{e:aU}(a:bT k c rel last e): bT k (Al k c) rel last e:=by
 refine⟨a.q0,a.qn,a.r0,a.r1,a.one,a.sum,a.rk,a.rl,λd=>?_,λd=>?_,λd=>?_,a.nb,a.rf⟩
 ·subst d;have:=a.oi rfl;exact⟨this.gG,this.fS,this.eF,this.lt,this.gF,this.gD,this.eZ,this.len⟩
 ·subst d;exact a.tl rfl
 subst d;exact a.lw rfl
theorem NZ.K{k:Nat}{c:Cfg}{rel last:Int}{e:aU}(d:NZ k c rel last e): NZ k (Al k c) rel last e:=by
 refine⟨d.dec,λa=>?_,λa=>?_,λa=>?_,λa=>?_⟩
 ·subst a;exact d.bL rfl
 ·subst a;exact d.dQ rfl
 ·subst a;have:=d.dW rfl;exact⟨this.cls,this.gP,this.pos,this.sum⟩
 subst a;exact d.cX rfl
theorem cS.at'{c:Cfg}{rel last:Int}{o:Pa.Pn}{cl:List Pa.Pn}(a:cS c rel last o cl)(d:0<=Ag c): fM c o cl:=⟨a.eF,λp e=>(a.lt p e).2,d⟩
theorem cO.later{k:Nat}{c:Cfg}{m h u s v t:Int}{a b:aU}(e:cO k c m a b)(o:m<=h)(i:bT k c u s a)(j:bT k c v t b)(q:Ak c=true)(n:c.kind=k): cO k c h a b:=by
 refine⟨e.dec,e.bL,λd r l=>Ty o (e.dQ d r l),λd=>?_,e.cX⟩;have w:=(Dw q n d).2.2.1;exact Uh ((i.oi d).at' (by omega)) ((j.oi d).at' (by omega)) (by omega) (e.dW d)
theorem cO.rel{k:Nat}{c:Cfg}{m rel last:Int}{a b:aU}(e:cO k c m a b)(l:bT k c rel last a)(n:bT k c rel last b)(s:NZ k c rel last a)(t:NZ k c rel last b)(r:Ak c=true)(o:c.kind=k)(y:It)(v:last<=y.t)(j:AL c k y=0)(q:(y.n::a.tk.map (·.n)).Nodup): cO k c m (B9 k c a y m) (B9 k c b y m):=by
 refine⟨λd=>?_,λd=>?_,λd=>?_,λd=>?_,λd=>?_⟩
 ·subst d;obtain⟨h,i⟩:=e.dec rfl;show a.q+(a.r+_)/_=b.q+(b.r+_)/_/\(a.r+_)%_=(b.r+_)%_;rw[h,i];exact⟨rfl,rfl⟩
 ·subst d;show C1 c a.bs y.t m=C1 c b.bs y.t m;rw[e.bL rfl]
 ·subst d;exact Xm y (e.dQ rfl)
 ·subst d;have u:=(Dw r o rfl).2.2.1;have h:=l.oi rfl;have i:=n.oi rfl;exact XB (h.at' (by omega)) (i.at' (by omega)) y m (Int.le_ediv_of_mul_le (by omega) (by have:=h.fS;omega)) (Int.le_ediv_of_mul_le (by omega) (by have:=i.fS;omega)) (e.dW rfl)
 subst d;exact XJ c y (s.cX rfl).1 (t.cX rfl).1 (Jn j) (by rw[iC];exact q) (e.cX rfl)
theorem cO.hG{k:Nat}{c:Cfg}{m:Int}{a b:aU}(h:cO k c m a b)(q:1<=k)(r:k<=5){rel last:Int}(s:NZ k c rel last a)(u:NZ k c rel last b)(n:(a.tk.map (·.n)).Nodup)(d:Int): AY k c a d m=AY k c b d m:=by
 rcases As q r with e | e | e | e | e <;> subst e
 ·show(if Ab d 1 c.aB=true then((0:Int),[Fb a.bs (m-d)]) else(13,[]))=(if Ab d 1 c.aB=true then((0:Int),[Fb b.bs (m-d)]) else(13,[]));rw[h.bL rfl]
 ·show FT c (Bw c) a.rg d m=FT c (Bw c) b.rg d m;unfold FT;split
  ·rename_i o;obtain⟨v,w⟩:=Bp o;rw[T6 (m:=m) (t:=m-d) (by omega) (Bw c) (h.dQ rfl)]
  rfl
 ·show(if Ab d 0 2147483648=true then((0:Int),[FX c a.op a.cl d m]) else(10,[]))=(if Ab d 0 2147483648=true then((0:Int),[FX c b.op b.cl d m]) else(10,[]));unfold FX;rw[<-L8,<-L8,h.dW rfl]
 ·obtain⟨j,l⟩:=h.dec rfl;show((0:Int),[a.q,a.r,_])=(0,[b.q,b.r,_]);rw[j,l]
 have i:=h.cX rfl;show((0:Int),D9 c a.tk)=(0,D9 c b.tk);unfold D9;rw[i.length_eq,OH _ (s.cX rfl).1 (u.cX rfl).1 n i]
theorem cO.hV{k:Nat}{c:Cfg}{m:Int}{a b:aU}(e:cO k c m a b)(n:1<=k)(o:k<=5){rel last:Int}(q:NZ k c rel last a)(r:NZ k c rel last b)(l:(a.tk.map (·.n)).Nodup): DO k c a m=DO k c b m:=by
 rcases As n o with d | d | d | d | d <;> subst d
 ·show FU a.bs=FU b.bs;rw[e.bL rfl]
 ·exact Yc (Bw c) (e.dQ rfl)
 ·show Hi c a.op a.cl (m-c.aB)=Hi c b.op b.cl (m-c.aB);unfold Hi;rw[e.dW rfl]
 ·obtain⟨i,j⟩:=e.dec rfl;show[a.q,a.r]=[b.q,b.r];rw[i,j]
 have h:=e.cX rfl;show Cu (Dr.allL (a.tk.length+1) a.tk)=Cu (Dr.allL (b.tk.length+1) b.tk);rw[h.length_eq,OH _ (q.cX rfl).1 (r.cX rfl).1 l h]
theorem cO.fJ{k:Nat}{c:Cfg}{m:Int}{a b:aU}(d:cO k c m a b)(h:Int): cO k c m (Bc k c a m h).1 (Bc k c b m h).1/\(Bc k c a m h).2=(Bc k c b m h).2:=by
 unfold Bc;by_cases e:k=1
 ·rw[h9 e,h9 e,d.bL e];exact⟨⟨d.dec,λ_=>rfl,d.dQ,d.dW,d.cX⟩,rfl⟩
 rw[hZ e,hZ e];exact⟨d,rfl⟩
structure SZ (clock:Int) (x:aI):Prop where
 eC:∀j,j<5->Ac x.ref j=0
 due:∀y,y∈x.l->clock-x.c.aK<y.t/\y.t<=clock+x.c.bF
 num:∀y,y∈x.l->1<=y.n/\y.n<=x.acc
 fK:∀z,z∈x.nt.tk->1<=z.n/\z.n<=x.acc
 eB:(x.l.map (·.n)++x.nt.tk.map (·.n)).Nodup
 most:x.rel<=Dn x.c clock
 mark:0<x.rel->x.last<=clock-x.c.aK
 note:NZ x.k x.c x.rel x.last x.nt
theorem YF{c:Cfg}(clock:Int)(h:1<=c.cap): 0<=Dn c clock:=by
 have d:∀a:Int,0<=a->0<=(if 4611686018427387904/c.cap<a then 4611686018427387904 else c.cap*a):=λa e=>by
  split
  ·omega
  exact kF (by omega) e
 unfold Dn;refine d _ ?_;split <;> omega
theorem Yw{c:Cfg}{clock d rel h:Int}(A:1<=c.cap)(c0:0<=clock)(i:rel<=Dn c clock)(B:clock<=d)(r:h=rel\/(h<=rel+c.cap/\clock<d/\c.aK<=d))(q:h<=4611686018427387904): h<=Dn c d:=by
 have s:∀a:Int,Dn c a=(if 4611686018427387904/c.cap<(if 0<(if a-c.aK+1<a then a-c.aK+1 else a) then(if a-c.aK+1<a then a-c.aK+1 else a) else 0) then 4611686018427387904 else c.cap*(if 0<(if a-c.aK+1<a then a-c.aK+1 else a) then(if a-c.aK+1<a then a-c.aK+1 else a) else 0)):=λ_=>rfl;rw[s]at i ⊢;obtain⟨e,j,z⟩:∃e:Int,(if 0<(if clock-c.aK+1<clock then clock-c.aK+1 else clock) then(if clock-c.aK+1<clock then clock-c.aK+1 else clock) else 0)=e/\0<=e:=⟨_,rfl,by split <;> omega⟩;obtain⟨b,o,m,n⟩:∃b:Int,(if 0<(if d-c.aK+1<d then d-c.aK+1 else d) then(if d-c.aK+1<d then d-c.aK+1 else d) else 0)=b/\e<=b/\(clock<d/\c.aK<=d->e+1<=b):=by
  refine⟨_,rfl,?_,?_⟩ <;> rw[<-j] <;> (repeat' split) <;> omega
 rw[j]at i;rw[o];split
 ·exact q
 rename_i w;split at i
 ·rename_i x;omega
 have C:=jo m (show 0<=c.cap by omega);rcases r with u | ⟨v,k,l⟩
 ·omega
 have t:=jo (n ⟨k,l⟩) (show 0<=c.cap by omega);rw[lG,Int.mul_one]at t;omega
theorem SZ.new{clock id:Int}{c:Cfg}(h:Ak c=true): SZ clock (AQ id c c.kind.toNat):=by
 obtain⟨i,l,o,q,k,_⟩:=Fw h;have m:c.kind.toNat=i:=by omega
 simp only[B0,Ab,iK,iI]at k;refine⟨λd r=>?_,λy e=>(by cases e),λy e=>(by cases e),λs n=>(by cases n),List.Pairwise.nil,YF clock (by show 1<=c.cap;omega),λj=>absurd j (Int.lt_irrefl 0),?_⟩
 ·have:d=0\/d=1\/d=2\/d=3\/d=4:=by omega
  rcases this with a | a | a | a | a <;> subst a <;> rfl
 rw[m];exact NZ.zero i c (λa=>(E4 h l a).1)
theorem Xx(l:List Int)(i j:Nat)(v:Int)(a:j≠i): Ac (l.set i v) j=Ac l j:=by
 unfold Ac;rw[List.getD_eq_getElem?_getD,List.getD_eq_getElem?_getD,List.getElem?_set_ne (lx a)]
theorem SZ.ref{clock:Int}{x:aI}(a:SZ clock x)(code:Nat)(e:5<=code): SZ clock (cF x code) :=
 ⟨λc d=>by show Ac (x.ref.set code _) c=0;rw[Xx _ _ _ _ (by omega)];exact a.eC c d,a.due,a.num,a.fK,a.eB,a.most,a.mark,a.note⟩
theorem SZ.acc{n clock:Int}{x:aI}(d:SZ clock x)(hi:aT n x)(y:It)(m:bO x clock y=0): SZ clock (cC x y):=by
 obtain⟨t,u,r,l,o,s,_⟩:=Kl m;have j:=(put_heap x.l (Ah y (x.acc+1)) hi.heap).2;have i:∀a,a∈(cC x y).l->a=Ah y (x.acc+1)\/a∈x.l:=λa c=>iw.1 (j.subset c);have q:=hi.eJ;refine⟨d.eC,λa c=>?_,λa c=>?_,λa c=>?_,?_,d.most,d.mark,d.note⟩
 ·rcases i a c with e | e
  ·subst e;exact⟨l,o⟩
  exact d.due a e
 ·show 1<=a.n/\a.n<=x.acc+1;rcases i a c with e | e
  ·subst e;show 1<=x.acc+1/\x.acc+1<=x.acc+1;omega
  have:=d.num a e;omega
 ·have:=d.fK a c;show 1<=a.n/\a.n<=x.acc+1;omega
 have k:((cC x y).l.map (·.n)++x.nt.tk.map (·.n)).Perm ((x.acc+1)::(x.l.map (·.n)++x.nt.tk.map (·.n))):=List.Perm.append_right _ (j.map (·.n));refine k.nodup_iff.2 (kq.2 ⟨λh=>?_,d.eB⟩);rcases ig.1 h with h | h
 ·obtain⟨a,c,e⟩:=iE.1 h;have:=d.num a c;omega
 obtain⟨a,c,e⟩:=iE.1 h;have:=d.fK a c;omega
theorem SZ.fJ{n clock:Int}{x:aI}(a:SZ clock x)(hi:aT n x)(b:Int): SZ clock (Do clock b x):=by
 have c:(Bc x.k x.c x.nt (clock-x.c.aK) b).1.tk=x.nt.tk:=by unfold Bc;split <;> rfl
 refine⟨a.eC,a.due,a.num,λe d=>?_,?_,a.most,a.mark,a.note.fJ hi.valid hi.kind _ _⟩
 ·exact a.fK e (by rw[<-c];exact d)
 show(x.l.map (·.n)++(Bc x.k x.c x.nt (clock-x.c.aK) b).1.tk.map (·.n)).Nodup;rw[c];exact a.eB
structure SY (m:Int) (x:aI):Prop where
 eC:∀j,j<5->Ac x.ref j=0
 num:∀y,y∈x.l->1<=y.n/\y.n<=x.acc
 fK:∀z,z∈x.nt.tk->1<=z.n/\z.n<=x.acc
 eB:(x.l.map (·.n)++x.nt.tk.map (·.n)).Nodup
 mark:0<x.rel->x.last<=m
 note:NZ x.k x.c x.rel x.last x.nt
theorem QU(k:Nat)(c:Cfg)(a:aU)(y:It)(m:Int)(d:k≠5): (B9 k c a y m).tk=a.tk:=by
 unfold B9;split
 ·rfl
 split
 ·rfl
 split
 ·rfl
 split
 ·rfl
 first | rfl | rw[hZ d]
theorem SY.one{n m:Int}{x:aI}(c:SY m x)(hi:aT n x)(r:x.l≠[])(C:¬m<(itAt x.l 0).t): SY m (BP x m):=by
 have t:=(take_heap x.l hi.heap r).2;have h:=Gi r;have d:=hi.fits _ h;have w:=c.note.rel hi.note hi.valid hi.kind (itAt x.l 0) m (hi.times _ h).1 (hi.dV _ h) d;have z:((itAt x.l 0).n::((takeL x.l).map (·.n)++x.nt.tk.map (·.n))).Perm (x.l.map (·.n)++x.nt.tk.map (·.n)):=List.Perm.append_right _ (t.map (·.n));have s:=z.nodup_iff.2 c.eB;refine⟨c.eC,λy A=>c.num y (t.subset (j2 _ A)),λe B=>?_,?_,λ_=>by show(itAt x.l 0).t<=m;omega,w⟩
 ·show 1<=e.n/\e.n<=x.acc;have i:e∈(B9 x.k x.c x.nt (itAt x.l 0) m).tk:=B;by_cases a:x.k=5
  ·have j:(B9 x.k x.c x.nt (itAt x.l 0) m).tk=AU x.c x.nt.tk (itAt x.l 0):=by rw[a];rfl
   rw[j]at i;obtain⟨_,o,l,_⟩:=Kf x.c (itAt x.l 0) (c.note.cX a).1 (Jn (by rw[a]at d;exact d));rcases iw.1 (l.subset (kW _ i)) with k | k
   ·subst k;exact c.num _ h
   exact c.fK e k
  rw[QU _ _ _ _ _ a]at i;exact c.fK e i
 show((takeL x.l).map (·.n)++(B9 x.k x.c x.nt (itAt x.l 0) m).tk.map (·.n)).Nodup;by_cases a:x.k=5
 ·have j:(B9 x.k x.c x.nt (itAt x.l 0) m).tk=AU x.c x.nt.tk (itAt x.l 0):=by rw[a];rfl
  rw[j];obtain⟨_,o,l,_⟩:=Kf x.c (itAt x.l 0) (c.note.cX a).1 (Jn (by rw[a]at d;exact d));have u:((takeL x.l).map (·.n)++(o.map (·.n)++(AU x.c x.nt.tk (itAt x.l 0)).map (·.n))).Perm ((itAt x.l 0).n::((takeL x.l).map (·.n)++x.nt.tk.map (·.n))):=by
   have q:=l.map (·.n);rw[iy,iC]at q;refine(kY _ q).trans ?_;exact k0
  have v:=u.nodup_iff.2 s;refine v.sublist ?_;exact List.Sublist.append_left (List.sublist_append_right _ _) _
 rw[QU _ _ _ _ _ a];exact(kq.1 s).2
theorem zMk{n m:Int}(f:Nat): ∀ {x:aI},SY m x->aT n x->SY m (relS f x m):=by
 induction f with
 | zero=>intro x a _;exact a
 | succ f j =>
  intro x a c;unfold relS;split
  ·exact a
  rename_i i;have d:x.l≠[]:=λh=>i (by rw[h];rfl);split
  ·exact a
  rename_i e;exact j (a.one c d e) (Hz c d m e)
theorem Yz{m:Int}(f:Nat): ∀ {x:aI},x.l.length<f->bE x.l->∀y,y∈(relS f x m).l->m<y.t/\y∈x.l:=by
 induction f with
 | zero=>intro x k;omega
 | succ f j =>
  intro x l d y a;unfold relS at a;split at a
  ·rename_i c;rw[kN.1 c]at a;cases a
  rename_i c;have e:x.l≠[]:=λi=>c (by rw[i];rfl);split at a
  ·rename_i n;have:=d.cD a;exact⟨by omega,a⟩
  have h:=take_heap x.l d e;have:=j (x:=BP x m) (by have:=jG.2 e;show(takeL x.l).length<f;rw[takeL_length];omega) h.1 y a;exact⟨this.1,h.2.subset (j2 _ this.2)⟩
theorem XI(f:Nat)(x:aI)(m:Int): (relS f x m).rel=x.rel\/∃y,y∈x.l/\y.t<=m:=by
 cases f with
 | zero=>exact .inl rfl
 | succ f =>
  unfold relS;split
  ·exact .inl rfl
  rename_i c;have d:x.l≠[]:=λa=>c (by rw[a];rfl);split
  ·exact .inl rfl
  exact .inr ⟨_,Gi d,by omega⟩
theorem Xc(f:Nat): ∀(x:aI) (m:Int),(relS f x m).acc=x.acc/\(relS f x m).ref=x.ref:=by
 induction f with
 | zero=>intro x m;exact⟨rfl,rfl⟩
 | succ f a =>
  intro x m;unfold relS;split
  ·exact⟨rfl,rfl⟩
  split
  ·exact⟨rfl,rfl⟩
  exact a (BP x m) m
theorem SZ.tick{n clock a:Int}{x:aI}(c:SZ clock x)(hi:aT n x)(r:clock<=a)(c0:0<=clock)(B:n<=4611686018427387904): SZ a (AP a x):=by
 have h:=Fp (x.l.length+1) x (a-x.c.aK);have d:=zMk (x.l.length+1) (x:=x) (m:=a-x.c.aK) ⟨c.eC,c.num,c.fK,c.eB,λu=>by have:=c.mark u;omega,c.note⟩ hi;have s:=Yz (m:=a-x.c.aK) (x.l.length+1) (x:=x) (by omega) hi.heap;have i:=Jq (x.l.length+1) hi (a-x.c.aK);have q:=(Xc (x.l.length+1) x (a-x.c.aK)).1;have A:=hi.common;refine⟨d.eC,λy t=>?_,d.num,d.fK,d.eB,?_,?_,d.note⟩
 ·have e:=s y t;have l:=c.due y e.2;show a-(relS _ x _).c.aK<y.t/\y.t<=a+(relS _ x _).c.bF;rw[h.2.1];exact⟨e.1,by omega⟩
 ·show(relS _ x _).rel<=Dn (relS _ x _).c a;rw[h.2.1];have e:=i.dD;have l:=hi.dD;have v:=hi.cap;have o:=i.dG;rw[q]at e o;refine Yw (by omega) c0 c.most r ?_ (by omega);rcases XI (x.l.length+1) x (a-x.c.aK) with k | ⟨y,j,C⟩
  ·exact .inl k
  have w:=c.due y j;have z:=hi.times y j;exact .inr ⟨by omega,by omega,by omega⟩
 show 0<(relS _ x _).rel->(relS _ x _).last<=a-(relS _ x _).c.aK;rw[h.2.1];exact d.mark
def EZ(s:WS): Prop:=∀x,x∈s.xs->SZ s.clock x
theorem Zj{n:Int}{s:WS}(o:aO)(c:EZ s)(hi:bQ n s.clock s.xs)(q:n<=4611686018427387904)(v:o.kind≠7): EZ (Aw s o).1:=by
 unfold Aw;split
 ·unfold Da;split
  ·split
   ·split
    ·rename_i j _;intro e a;rcases ig.1 a with a | a
     ·exact c e a
     rw[ij]at a;subst a;exact SZ.new j
    exact c
   exact c
  exact c
 split
 ·unfold C0;split
  ·exact c
  rename_i e l;have a:e∈s.xs:=iW l;split
  ·rename_i i;intro h d;rcases F0 d with d | d
   ·exact c h d
   subst d;exact(c e a).acc (hi.bD e a) o.item i
  rename_i i;intro h d;rcases F0 d with d | d
  ·exact c h d
  subst d;refine(c e a).ref _ ?_;have:bO e s.clock o.item=0\/5<=bO e s.clock o.item:=by
   unfold bO
   (repeat' split) <;> first | omega | skip
   rename_i w _;unfold AL Dp Ev E8
   (repeat' split) <;> omega
  omega
 split
 ·unfold DJ;split
  ·rename_i k;obtain⟨t,u⟩:=Bp k;have m:s.clock<=Au s.clock o.a:=by unfold Au;split <;> omega
   split
   ·have r:=Ja (P:=λh=>SZ (Au s.clock o.a) h/\aT n h) (Au s.clock o.a) (λb e a=>⟨a.1.fJ a.2 b,Mx _ b a.2⟩) o.b (s.xs.map (AP (Au s.clock o.a))) (λh d=>by
       obtain⟨e,a,rfl⟩:=iE.1 d
       exact⟨(c e a).tick (hi.bD e a) m hi.c0 q,Jq _ (hi.bD e a) _⟩)
    exact λh d=>(r h d).1
   exact c
  exact c
 split
 ·unfold DW;split <;> exact c
 split
 ·unfold Ew;split <;> exact c
 split
 ·exact c
 exact c
structure cE (clock:Int) (x y:aI):Prop where
 id:y.id=x.id
 k:y.k=x.k
 c:Al x.k y.c=Al x.k x.c
 acc:y.acc=x.acc
 rel:y.rel=x.rel
 ref:y.ref=x.ref
 last:y.last=x.last
 buf:(x.l.map (A7 x.k)).Perm (y.l.map (A7 x.k))
 note:cO x.k (Al x.k x.c) (clock-x.c.aK) x.nt y.nt
theorem cE.refl(clock:Int)(x:aI): cE clock x x:=⟨rfl,rfl,rfl,rfl,rfl,rfl,rfl,jb _,cO.refl _ _ _ _⟩
theorem cE.head{n clock:Int}{x y:aI}(c:cE clock x y)(hi:aT n x): y.c.aK=x.c.aK/\y.c.bF=x.c.bF/\y.c.cap=x.c.cap:=by
 have a:=F1 x.k x.c hi.k1 hi.k5;have b:=F1 x.k y.c hi.k1 hi.k5;rw[c.c]at b;exact⟨by rw[<-b.2.1,a.2.1],by rw[<-b.2.2.1,a.2.2.1],by rw[<-b.2.2.2,a.2.2.2]⟩
theorem cE.len{clock:Int}{x y:aI}(a:cE clock x y): y.l.length=x.l.length:=by
 have:=a.buf.length_eq;rw[im,im]at this;exact this.symm
theorem cE.bO{n clock:Int}{x y:aI}(c:cE clock x y)(hi:aT n x)(a:It): bO y clock a=bO x clock a:=by
 have d:=c.head hi;have e:AL y.c y.k a=AL x.c x.k a:=by
  rw[c.k,<-PW x.k y.c a hi.k1 hi.k5,c.c,PW x.k x.c a hi.k1 hi.k5]
 unfold Go.Proofs.YtnokbhcennjanaaGreatDoor.bO;rw[e,d.1,d.2.1,d.2.2,c.len,c.acc]
theorem cE.cC{n1 h clock:Int}{x y:aI}(a:cE clock x y)(hi:aT n1 x)(e:aT h y)(c:It): cE clock (cC x c) (cC y c):=by
 have d:=(put_heap x.l (Ah c (x.acc+1)) hi.heap).2;have b:=(put_heap y.l (Ah c (y.acc+1)) e.heap).2;refine⟨a.id,a.k,a.c,by show y.acc+1=x.acc+1;rw[a.acc],a.rel,a.ref,a.last,?_,a.note⟩;refine(d.map _).trans (List.Perm.trans ?_ (b.map _).symm);rw[iC,iC,a.acc];exact List.Perm.cons _ a.buf
theorem cE.cF{clock:Int}{x y:aI}(a:cE clock x y)(c:Nat): cE clock (cF x c) (cF y c) :=
 ⟨a.id,a.k,a.c,a.acc,a.rel,by show y.ref.set c _=x.ref.set c _;rw[a.ref],a.last,a.buf,a.note⟩
structure gR (k:Nat) (ck:Cfg) (rel last:Int) (a b:aU):Prop where
 ia:bT k ck rel last a
 ib:bT k ck rel last b
 za:NZ k ck rel last a
 zb:NZ k ck rel last b
 v:Ak ck=true
 kd:ck.kind=k
theorem cE.both{n1 e clock:Int}{x y:aI}(a:cE clock x y)(hi:aT n1 x)(d:aT e y)(h:NZ x.k x.c x.rel x.last x.nt)(i:NZ y.k y.c y.rel y.last y.nt): gR x.k (Al x.k x.c) x.rel x.last x.nt y.nt:=by
 have c:=d.note.K;have b:=i.K;rw[a.k,a.c,a.rel,a.last]at c b;exact⟨hi.note.K,c,h.K,b,K2 x.k x.c hi.k1 hi.k5 hi.valid hi.kind,by rw[(F1 x.k x.c hi.k1 hi.k5).1];exact hi.kind⟩
theorem cE.later{n1 h clock d:Int}{x y:aI}(a:cE clock x y)(hi:aT n1 x)(e:aT h y)(i:SZ clock x)(j:SZ clock y)(k:clock<=d): cE d x y:=by
 have c:=a.both hi e i.note j.note;exact⟨a.id,a.k,a.c,a.acc,a.rel,a.ref,a.last,a.buf,a.note.later (by omega) c.ia c.ib c.v c.kd⟩
theorem cE.one{n1 u d m:Int}{x y:aI}(a:cE d x y)(s:m=d-x.c.aK)(hi:aT n1 x)(k:aT u y)(o:SY m x)(v:SY m y)(l:x.l≠[]): cE d (BP x m) (BP y m)/\(itAt y.l 0).t=(itAt x.l 0).t:=by
 have c:=a.both hi k o.note v.note;have h:=jD.1 o.eB;obtain⟨i,p⟩:=Pf hi.heap k.heap h.1 l a.buf;have n:(itAt y.l 0).t=(itAt x.l 0).t:=by rw[<-Fu x.k (itAt y.l 0),<-i,Fu]
 have e:=Gi l;refine⟨⟨a.id,a.k,a.c,a.acc,by show y.rel+1=x.rel+1;rw[a.rel],a.ref,n,p,?_⟩,n⟩;show cO x.k (Al x.k x.c) (d-x.c.aK) (B9 x.k x.c x.nt (itAt x.l 0) m) (B9 y.k y.c y.nt (itAt y.l 0) m);have j:=a.note;rw[<-s]at j ⊢;have q:B9 x.k x.c x.nt (itAt x.l 0) m=B9 x.k (Al x.k x.c) x.nt (A7 x.k (itAt x.l 0)) m:=(Rj x.k x.c x.nt _ m hi.k1 hi.k5).symm;have r:B9 y.k y.c y.nt (itAt y.l 0) m=B9 x.k (Al x.k x.c) y.nt (A7 x.k (itAt x.l 0)) m:=by
  rw[a.k,i,<-a.c];exact(Rj x.k y.c y.nt _ m hi.k1 hi.k5).symm
 rw[q,r];refine j.rel c.ia c.ib c.za c.zb c.v c.kd (A7 x.k (itAt x.l 0)) (by rw[Fu];exact hi.dV _ e) (by rw[MJ x.k x.c _ hi.k1 hi.k5];exact hi.fits _ e) ?_;rw[Gn];refine kq.2 ⟨λt=>h.2.2 (itAt x.l 0).n (iF e) _ t rfl,h.2.1⟩
theorem cE.relS{n1 u k m:Int}(f:Nat): ∀ {x y:aI},cE k x y->m=k-x.c.aK->aT n1 x->aT u y->SY m x->SY m y->cE k (relS f x m) (relS f y m):=by
 induction f with
 | zero=>intro x y c _ _ _ _ _;exact c
 | succ f t =>
  intro x y c l i j n o;unfold Go.Proofs.YtnokbhcennjanaaGreatDoor.relS;by_cases d:x.l=[]
  ·have e:y.l=[]:=(IL c.buf).1 d;rw[h9 (by rw[d];rfl),h9 (by rw[e];rfl)];exact c
  have e:y.l≠[]:=λs=>d ((IL c.buf).2 s);have h:=c.one l i j n o d;have q:¬x.l.isEmpty=true:=by rw[kN];exact d
  have r:¬y.l.isEmpty=true:=by rw[kN];exact e
  rw[hZ q,hZ r,h.2];by_cases a:m<(itAt x.l 0).t
  ·rw[h9 a,h9 a];exact c
  rw[hZ a,hZ a];exact t h.1 l (Hz i d m a) (Hz j e m (by rw[h.2];exact a)) (n.one i d a) (o.one j e (by rw[h.2];exact a))
theorem SZ.y{clock c:Int}{x:aI}(a:SZ clock x)(e:clock<=c): SY (c-x.c.aK) x:=⟨a.eC,a.num,a.fK,a.eB,λd=>by have:=a.mark d;omega,a.note⟩
theorem cE.tick{n1 l clock a:Int}{x y:aI}(c:cE clock x y)(hi:aT n1 x)(e:aT l y)(i:SZ clock x)(j:SZ clock y)(d:clock<=a): cE a (AP a x) (AP a y):=by
 have k:=c.head hi;have h:=j.y d;unfold AP;rw[k.1]at h ⊢;rw[c.len];exact(c.later hi e i j d).relS _ rfl hi e (i.y d) h
theorem cE.fJ{n1 clock:Int}{x y:aI}(a:cE clock x y)(hi:aT n1 x)(b:Int): cE clock (Do clock b x) (Do clock b y)/\Ep clock b y=Ep clock b x/\ED clock b y=ED clock b x:=by
 have h:=a.head hi;have d:Bc x.k x.c x.nt (clock-x.c.aK) b=Bc x.k (Al x.k x.c) x.nt (clock-x.c.aK) b:=(Rl x.k x.c x.nt _ b hi.k1 hi.k5).symm;have e:Bc y.k y.c y.nt (clock-y.c.aK) b=Bc x.k (Al x.k x.c) y.nt (clock-x.c.aK) b:=by
  rw[a.k,h.1,<-a.c];exact(Rl x.k y.c y.nt _ b hi.k1 hi.k5).symm
 obtain⟨i,c⟩:=a.note.fJ b;unfold Do Ep ED;rw[d,e];refine⟨⟨a.id,a.k,a.c,a.acc,a.rel,a.ref,a.last,a.buf,i⟩,?_,?_⟩
 ·rw[c]
 rw[c]
theorem cE.hG{n1 j clock:Int}{x y:aI}(c:cE clock x y)(hi:aT n1 x)(d:aT j y)(h:SZ clock x)(k:SZ clock y)(a:Int): AY y.k y.c y.nt a (clock-y.c.aK)=AY x.k x.c x.nt a (clock-x.c.aK):=by
 have i:=c.head hi;have e:=c.both hi d h.note k.note;rw[i.1,<-Ri x.k x.c x.nt a _ hi.k1 hi.k5 hi.valid hi.kind,c.k];rw[<-Ri x.k y.c y.nt a _ hi.k1 hi.k5 d.valid (by rw[d.kind,c.k]),c.c];exact(c.note.hG hi.k1 hi.k5 e.za e.zb (jD.1 h.eB).2.1 a).symm
theorem cE.aL{n1 l clock:Int}{x y:aI}(a:cE clock x y)(hi:aT n1 x)(c:aT l y)(d:SZ clock x)(m:SZ clock y): D2 clock y=D2 clock x:=by
 have k:=a.head hi;have e:=a.both hi c d.note m.note;have h:BR y.k y.c=BR x.k x.c:=by
  rw[a.k,<-QO x.k x.c hi.k1 hi.k5 hi.valid hi.kind,<-a.c,QO x.k y.c hi.k1 hi.k5 c.valid (by rw[c.kind,a.k])]
 have i:DO y.k y.c y.nt (clock-y.c.aK)=DO x.k x.c x.nt (clock-x.c.aK):=by
  rw[k.1,a.k,<-Rk x.k x.c x.nt _ hi.k1 hi.k5,<-Rk x.k y.c y.nt _ hi.k1 hi.k5,a.c];exact(a.note.hV hi.k1 hi.k5 e.za e.zb (jD.1 d.eB).2.1).symm
 have j:Bl y.k (Qi.allL (y.l.length+1) y.l)=Bl x.k (Qi.allL (x.l.length+1) x.l):=by
  rw[a.k,a.len,<-QY x.k _ hi.k1 hi.k5,<-ZG (x.l.length+1) hi.heap c.heap (jD.1 d.eB).1 a.buf,QY x.k _ hi.k1 hi.k5]
 unfold D2 GH;rw[h,i,j,a.id,a.ref,a.rel,a.len]
inductive bY (clock:Int):List aI->List aI->Prop
 | nil:bY clock [] []
 | cons {x y:aI} {xs ys:List aI} (h:cE clock x y) (r:bY clock xs ys):bY clock (x::xs) (y::ys)
structure Ok (n:Int) (s:WS):Prop where
 i:bQ n s.clock s.xs
 z:EZ s
structure eL (s t:WS):Prop where
 clock:t.clock=s.clock
 xs:bY s.clock s.xs t.xs
theorem bY.len{clock:Int}{a c:List aI}(d:bY clock a c): c.length=a.length:=by
 induction d with
 | nil=>rfl
 | cons _ _ e=>rw[iA,iA,e]
theorem bY.find{clock id:Int}{a c:List aI}(w:bY clock a c): (BX a id=none/\BX c id=none)\/∃d y,BX a id=some d/\BX c id=some y/\cE clock d y/\d∈a/\y∈c/\∀j k,cE clock j k->bY clock (BB a id j) (BB c id k):=by
 induction w with
 | nil=>exact .inl ⟨rfl,rfl⟩
 | cons l z x =>
  rename_i d y a c;by_cases h:(d.id==id)=true
  ·have i:(y.id==id)=true:=by rw[l.id];exact h
   refine .inr ⟨d,y,?_,?_,l,by simp,by simp,λj k o=>?_⟩
   ·unfold BX;rw[List.find?_cons_of_pos (p:=λe:aI=>e.id==id) h]
   ·unfold BX;rw[List.find?_cons_of_pos (p:=λe:aI=>e.id==id) i]
   unfold BB;rw[h9 h,h9 i];exact .cons o z
  have i:¬(y.id==id)=true:=by rw[l.id];exact h
  have q:BX (d::a) id=BX a id:=by unfold BX;rw[List.find?_cons_of_neg (p:=λe:aI=>e.id==id) h]
  have r:BX (y::c) id=BX c id:=by unfold BX;rw[List.find?_cons_of_neg (p:=λe:aI=>e.id==id) i]
  rcases x with ⟨m,n⟩ | ⟨A,B,m,n,s,t,u,v⟩
  ·exact .inl ⟨by rw[q];exact m,by rw[r];exact n⟩
  refine .inr ⟨A,B,by rw[q];exact m,by rw[r];exact n,s,by simp[t],by simp[u],λj k o=>?_⟩;unfold BB;rw[hZ h,hZ i];exact .cons l (v j k o)
theorem bY.app{clock:Int}{a c:List aI}(d:bY clock a c)(x:aI): bY clock (a++[x]) (c++[x]):=by
 induction d with
 | nil=>exact .cons (cE.refl clock x) .nil
 | cons e _ h=>exact .cons e h
theorem bY.tick{n1 r clock c:Int}(n:clock<=c){d e:List aI}(m:bY clock d e): (∀a,a∈d->aT n1 a/\SZ clock a)->(∀y,y∈e->aT r y/\SZ clock y)->bY c (d.map (AP c)) (e.map (AP c)):=by
 induction m with
 | nil=>intros;exact .nil
 | cons o _ q =>
  rename_i a y d e _;intro k l;have j:=k a (by simp);have b:=l y (by simp);exact .cons (o.tick j.1 b.1 j.2 b.2 n) (q (λi h=>k i (by simp[h])) (λi h=>l i (by simp[h])))
theorem bY.gQ{n1 a:Int}{d e:List aI}(i:bY a d e): ∀b,(∀c,c∈d->aT n1 c)->bY a (Br a b d).1 (Br a b e).1/\(Br a b e).2=(Br a b d).2:=by
 induction i with
 | nil=>intro b _;exact⟨.nil,rfl⟩
 | cons j _ n =>
  rename_i c y d e _;intro b h;obtain⟨o,q,r⟩:=j.fJ (h c (by simp)) b;obtain⟨l,m⟩:=n (b-Ep a b c) (λs k=>h s (by simp[k]));unfold Br;rw[q,r,m];exact⟨.cons o l,rfl⟩
theorem bY.aL{n1 o clock:Int}{c d:List aI}(l:bY clock c d): (∀a,a∈c->aT n1 a/\SZ clock a)->(∀y,y∈d->aT o y/\SZ clock y)->Bs clock d=Bs clock c:=by
 induction l with
 | nil=>intros;rfl
 | cons m _ n =>
  rename_i a y c d _;intro j k;have i:=j a (by simp);have b:=k y (by simp);have:=n (λh e=>j h (by simp[e])) (λh e=>k h (by simp[e]));unfold Bs at this ⊢;rw[ju,ju,this,m.aL i.1 b.1 i.2 b.2]
theorem eL.saved{n1 i:Int}{s t:WS}(a:eL s t)(c:Ok n1 s)(d:Ok i t): Cs t=Cs s:=by
 have k:∀y,y∈t.xs->aT i y/\SZ s.clock y:=λy h=>⟨d.i.bD y h,by rw[<-a.clock];exact d.z y h⟩;have:=a.xs.aL (λj e=>⟨c.i.bD j e,c.z j e⟩) k;unfold Cs D4 FN Em FH;rw[a.clock,this,a.xs.len]
theorem eL.step{n1 v:Int}{s t:WS}(a:eL s t)(n:Ok n1 s)(q:Ok v t)(o:aO)(D:o.kind≠7): eL (Aw s o).1 (Aw t o).1/\(Aw t o).2=(Aw s o).2/\Ex t o=Ex s o:=by
 have x:Ex t o=Ex s o:=by
  unfold Ex;split
  ·exact a.saved n q
  rfl
 have i:∀c,c∈s.xs->aT n1 c/\SZ s.clock c:=λc i=>⟨n.i.bD c i,n.z c i⟩;have j:∀y,y∈t.xs->aT v y/\SZ s.clock y:=λy j=>⟨q.i.bD y j,by rw[<-a.clock];exact q.z y j⟩;have u:eL (Aw s o).1 (Aw t o).1/\(Aw t o).2=(Aw s o).2:=by
  unfold Aw;split
  ·unfold Da;have z:(BX t.xs o.id).isNone=(BX s.xs o.id).isNone:=by
    rcases a.xs.find (id:=o.id) with ⟨d,e⟩ | ⟨c,y,d,e,_⟩ <;> rw[d,e] <;> rfl
   rw[z,a.xs.len];split
   ·split
    ·split
     ·refine⟨⟨a.clock,?_⟩,rfl⟩;show bY s.clock (s.xs++[_]) (t.xs++[_]);exact a.xs.app _
     exact⟨a,rfl⟩
    exact⟨a,rfl⟩
   exact⟨a,rfl⟩
  split
  ·unfold C0;rcases a.xs.find (id:=o.id) with ⟨d,e⟩ | ⟨c,y,d,e,h,k,l,m⟩
   ·rw[d,e];exact⟨a,rfl⟩
   rw[d,e];simp only;rw[a.clock,h.bO (i c k).1,h.acc];split
   ·refine⟨⟨rfl,?_⟩,rfl⟩;exact m _ _ (h.cC (i c k).1 (j y l).1 o.item)
   refine⟨⟨rfl,?_⟩,rfl⟩;exact m _ _ (h.cF _)
  split
  ·unfold DJ;rw[a.clock];split
   ·split
    ·have A:s.clock<=Au s.clock o.a:=by unfold Au;split <;> omega
     have w:=a.xs.tick A i j
     have r:=w.gQ o.b (n1:=n1) (λE C=>by
        obtain⟨c,B,rfl⟩:=iE.1 C
        exact Jq _ (i c B).1 _)
     exact⟨⟨rfl,r.1⟩,by rw[r.2]⟩
    exact⟨a,rfl⟩
   exact⟨a,rfl⟩
  split
  ·unfold DW;rcases a.xs.find (id:=o.id) with ⟨d,e⟩ | ⟨c,y,d,e,h,k,l,m⟩
   ·rw[d,e];exact⟨a,rfl⟩
   rw[d,e];refine⟨a,?_⟩;show AY y.k y.c y.nt o.a (t.clock-y.c.aK)=AY c.k c.c c.nt o.a (s.clock-c.c.aK);rw[a.clock];exact h.hG (i c k).1 (j y l).1 (i c k).2 (j y l).2 o.a
  split
  ·unfold Ew;rcases a.xs.find (id:=o.id) with ⟨d,e⟩ | ⟨c,y,d,e,h,k,l,m⟩
   ·rw[d,e];exact⟨a,rfl⟩
   rw[d,e];refine⟨a,?_⟩;show((0:Int),BJ y)=(0,BJ c);unfold BJ;rw[h.acc,h.rel,h.ref]
  split
  ·exact⟨a,rfl⟩
  exact⟨a,rfl⟩
 exact⟨u.1,u.2,x⟩
def Gy(k:Nat)(c:Cfg)(m:Int)(nt:aU): aU :=
 if k=1 then { C8 with bs:=nt.bs }
 else if k=2 then { C8 with rg:=λj=>AT c m (nt.rg j) }
 else if k=3 then { C8 with op:=(Ea (A4 c nt.op nt.cl (m-c.aB))).1,cl:=(Ea (A4 c nt.op nt.cl (m-c.aB))).2 }
 else if k=4 then { C8 with q:=nt.q,r:=nt.r }
 else { C8 with tk:=((Dr.allL (nt.tk.length+1) nt.tk).map E2).foldl (AU c) [] }
def CV(clock:Int)(x:aI): aI:=⟨x.id,Al x.k x.c,x.k,x.rel+(x.l.length:Int),x.rel,CF x.ref 7,Cn x.k (Qi.allL (x.l.length+1) x.l),Gy x.k (Al x.k x.c) (clock-x.c.aK) x.nt,x.last⟩
theorem Iv(c:Cfg): ∀(a:List It) (l:List Dr.It),Dr.bK l->(∀y,y∈a->Dr.dpos (tick c y))->(l.length:Int)+a.length<=c.size+1->Dr.bK (a.foldl (AU c) l)/\(a.foldl (AU c) l).Perm (a.map (tick c)++l):=by
 intro a;induction a with
 | nil=>intro l d _ _;exact⟨d,jb _⟩
 | cons y a s =>
  intro l d h n;rw[iA]at n;obtain⟨j,i,e,k⟩:=Kf c y d (h y (by simp));rw[hZ (by omega)]at k;have m:i=[]:=iL.1 (by omega);subst m;have hlen:=e.length_eq;rw[jt,iA]at hlen;obtain⟨q,r⟩:=s (AU c l y) j (λt o=>h t (by simp[o])) (by omega);refine⟨q,r.trans ?_⟩;refine(kY _ e).trans ?_;rw[iC,List.cons_append];exact k0
theorem PQ{c:Cfg}{rel last:Int}{a:aU}(k:NZ 5 c rel last a):
  Dr.bK (((Dr.allL (a.tk.length+1) a.tk).map E2).foldl (AU c) [])/\(((Dr.allL (a.tk.length+1) a.tk).map E2).foldl (AU c) []).Perm a.tk:=by
 obtain⟨l,m,i⟩:=k.cX rfl;have d:=(Dr.dS (a.tk.length+1) a.tk (by omega) l).1
 have:=Iv c ((Dr.allL (a.tk.length+1) a.tk).map E2) [] ⟨λs o=>by simp at o,λr _ n=>by simp at n⟩ (λy q=>by
    obtain⟨h,e,rfl⟩:=iE.1 q
    exact Jn (i h (d.subset e)).2.1) (by
    rw[im,d.length_eq];show((0:Nat):Int)+_<=_
    split at m <;> omega)
 refine⟨this.1,this.2.trans ?_⟩;rw[iz,j9];have j:(Dr.allL (a.tk.length+1) a.tk).map (tick c ∘ E2)=Dr.allL (a.tk.length+1) a.tk:=by
  conv=>rhs;rw[<-List.map_id (Dr.allL (a.tk.length+1) a.tk)]
  exact jO (λh e=>(i h (d.subset e)).1.symm)
 rw[j];exact d
theorem zMx{k:Nat}{c:Cfg}{rel last:Int}{i:aU}(m:Int)(hi:bT k c rel last i)(n:NZ k c rel last i)(H:1<=k)(I:k<=5)(z:Ak c=true)(w:c.kind=k)(F:0<=last):
  bT k c rel last (Gy k c m i)/\NZ k c rel last (Gy k c m i)/\cO k c m i (Gy k c m i):=by
 have j:=hi.dI;rcases As H I with d | d | d | d | d <;> subst d
 ·refine⟨⟨iG _,j,iG _,(show(0:Int)<2305843009213693952 by decide),hi.one,hi.sum,λe b h=>(by cases h),λe=>j,λd=>by omega,λd=>by omega,λ_=>hi.lw rfl,λd=>absurd rfl d,λ_=>List.Pairwise.nil⟩,⟨λd=>by omega,λ_=>n.bL rfl,λd=>by omega,λd=>by omega,λd=>by omega⟩,⟨λd=>by omega,λ_=>rfl,λd=>by omega,λd=>by omega,λd=>by omega⟩⟩
 ·obtain⟨A,s,B⟩:=n.dQ rfl;have x:∀e b,b∈AT c m (i.rg e)->b∈i.rg e:=λe b h=>iB h;have hlen:∀e,(AT c m (i.rg e)).length<=(i.rg e).length:=λe=>by unfold AT;rw[iQ];omega
  refine⟨⟨iG _,j,iG _,(show(0:Int)<2305843009213693952 by decide),λb h=>(by cases h),j,λe b h=>hi.rk e b (x e b h),λe=>by have:=hi.rl e;have:=hlen e;show((AT c m (i.rg e)).length:Int)<=rel;omega,λd=>by omega,λd=>by omega,λd=>by omega,λ_=>rfl,λe=>(hi.rf e).drop _⟩,⟨λd=>by omega,λd=>by omega,λ_=>⟨λl=>(A l).drop _,λl b h=>s l b (x l b h),?_⟩,λd=>by omega,λd=>by omega⟩,⟨λd=>by omega,λd=>by omega,λ_ l _=>?_,λd=>by omega,λd=>by omega⟩⟩
  ·have:=ON (a:=λl=>AT c m (i.rg l)) (b:=i.rg) hlen (Bw c) 0;show((Dt (λl=>AT c m (i.rg l)) (Bw c) 0:Nat):Int)<=rel;omega
  show AT c m (i.rg l)=AT c m (AT c m (i.rg l));rw[Jr c m (AT c m (i.rg l)),Jr,GV (λ_ E=>E)]
 ·have L:=(Dw z w rfl).2.2.1;have G:=(Dw z w rfl).1.p0;have v:=Ym (t:=m-c.aB) (n.dW rfl) (hi.oi rfl) (by omega) F G;obtain⟨C,u,_⟩:=Lv (t:=m-c.aB) (n.dW rfl) (hi.oi rfl) (by omega);refine⟨⟨iG _,j,iG _,(show(0:Int)<2305843009213693952 by decide),λb h=>(by cases h),j,λe b h=>(by cases h),λe=>j,λ_=>v.1,λd=>by omega,λd=>by omega,λ_=>rfl,λ_=>List.Pairwise.nil⟩,⟨λd=>by omega,λd=>by omega,λd=>by omega,λ_=>v.2,λd=>by omega⟩,⟨λd=>by omega,λd=>by omega,λd=>by omega,λ_=>?_,λd=>by omega⟩⟩;exact(UW _ C (λr q=>(u r q).1) (λr q=>(u r q).2.1)).symm
 ·refine⟨⟨hi.q0,hi.qn,hi.r0,hi.r1,λb h=>(by cases h),j,λe b h=>(by cases h),λe=>j,λd=>by omega,λd=>by omega,λd=>by omega,λ_=>rfl,λ_=>List.Pairwise.nil⟩,⟨λ_=>n.dec rfl,λd=>by omega,λd=>by omega,λd=>by omega,λd=>by omega⟩,⟨λ_=>⟨rfl,rfl⟩,λd=>by omega,λd=>by omega,λd=>by omega,λd=>by omega⟩⟩
 obtain⟨D,o⟩:=PQ n;obtain⟨A,s,B⟩:=n.cX rfl;refine⟨⟨iG _,j,iG _,(show(0:Int)<2305843009213693952 by decide),λb h=>(by cases h),j,λe b h=>(by cases h),λe=>j,λd=>by omega,λ_=>?_,λd=>by omega,λ_=>rfl,λ_=>List.Pairwise.nil⟩,⟨λd=>by omega,λd=>by omega,λd=>by omega,λd=>by omega,λ_=>⟨D,?_,λJ n=>B J (o.subset n)⟩⟩,⟨λd=>by omega,λd=>by omega,λd=>by omega,λd=>by omega,λ_=>o.symm⟩⟩
 ·show((((Dr.allL (i.tk.length+1) i.tk).map E2).foldl (AU c) []).length:Int)<=_;rw[o.length_eq];exact hi.tl rfl
 show((((Dr.allL (i.tk.length+1) i.tk).map E2).foldl (AU c) []).length:Int)=_;rw[o.length_eq];exact s
theorem zO7{k:Nat}{c:Cfg}{rel last:Int}{i:aU}(m:Int)(h:NX k i)(j:NZ k c rel last i)(n:1<=k)(o:k<=5): NX k (Gy k c m i):=by
 rcases As n o with e | e | e | e | e <;> subst e
 ·exact⟨h.bt,λd b a=>(by cases a),λd=>List.Pairwise.nil,λe=>by omega⟩
 ·exact⟨λb a=>(by cases a),λd b a=>h.rt d b (iB a),λd=>(h.rf d).drop _,λe=>by omega⟩
 ·exact⟨λb a=>(by cases a),λd b a=>(by cases a),λd=>List.Pairwise.nil,λe=>by omega⟩
 ·exact⟨λb a=>(by cases a),λd b a=>(by cases a),λd=>List.Pairwise.nil,λe=>by omega⟩
 exact⟨λb a=>(by cases a),λd b a=>(by cases a),λd=>List.Pairwise.nil,λ_ q l=>h.tt rfl q ((PQ j).2.subset l)⟩
theorem V4{l:List Int}(k:l.length=12)(a:∀c,c<5->Ac l c=0): CF l 7=l:=by
 match l,k with
 | [a0,a1,a2,a3,a4,a5,a6,a7,a8,a9,a10,a11],_ =>
  have d:a0=0:=a 0 (by omega);have e:a1=0:=a 1 (by omega);have h:a2=0:=a 2 (by omega);have i:a3=0:=a 3 (by omega);have j:a4=0:=a 4 (by omega);subst d;subst e;subst h;subst i;subst j;rfl
theorem zMw{x:aI}(a:bE x.l): (Cn x.k (Qi.allL (x.l.length+1) x.l)).Perm (x.l.map (A7 x.k)):=(Md x.k _).2.trans ((Ia _ x.l (by omega) a).map _)
theorem QK{k:Nat}{c:Cfg}{m:Int}{i:aU}(e:1<=k)(h:k<=5)(d:k≠5): (Gy k c m i).tk=[]:=by
 rcases As e h with a | a | a | a | a <;> subst a
 ·rfl
 ·rfl
 ·rfl
 ·rfl
 exact absurd rfl d
theorem Kq{n clock:Int}{x:aI}(hi:aT n x)(q:SX x)(i:SZ clock x): aT n (CV clock x)/\SX (CV clock x)/\SZ clock (CV clock x)/\cE clock x (CV clock x):=by
 have s:=zMw hi.heap;have k:=F1 x.k x.c hi.k1 hi.k5;have z:=K2 x.k x.c hi.k1 hi.k5 hi.valid hi.kind;have v:(Al x.k x.c).kind=x.k:=by rw[k.1];exact hi.kind
 obtain⟨c1,c2,c3⟩:=zMx (clock-x.c.aK) hi.note.K i.note.K hi.k1 hi.k5 z v hi.dZ;have C:=zO7 (c:=Al x.k x.c) (clock-x.c.aK) q.note i.note.K hi.k1 hi.k5;have r:CF x.ref 7=x.ref:=V4 hi.bS i.eC;have hlen:(Cn x.k (Qi.allL (x.l.length+1) x.l)).length=x.l.length:=by rw[s.length_eq,im]
 have m:x.rel+(x.l.length:Int)=x.acc:=hi.dD;have l:∀y,y∈(CV clock x).l->∃a,a∈x.l/\A7 x.k a=y:=λy d=>iE.1 (s.subset d);have w:((CV clock x).l.map (·.n)).Perm (x.l.map (·.n)):=by
  have:=s.map (·.n);rw[j9]at this;have j:x.l.map ((·.n) ∘ A7 x.k)=x.l.map (·.n):=jO (λy _=>Gn x.k y);rw[j]at this;exact this
 have D:(x.nt.tk.map (·.n)).Perm ((CV clock x).nt.tk.map (·.n))\/(CV clock x).nt.tk=[]:=by
  by_cases j:x.k=5
  ·exact .inl ((c3.cX j).map _)
  exact .inr (QK hi.k1 hi.k5 j)
 refine⟨⟨z,v,hi.k1,hi.k5,?_,?_,hi.dI,?_,N6 _ _,?_,?_,?_,c1,(Md x.k _).1,hi.dZ,hi.dP,?_,?_⟩,⟨q.fQ,?_,?_,?_,C⟩,⟨?_,?_,?_,?_,?_,?_,?_,c2⟩,⟨rfl,rfl,zPc x.k x.c hi.k1 hi.k5,m,rfl,r,rfl,?_,c3⟩⟩
 ·show 0<=x.rel+_;rw[m];exact hi.eJ
 ·show x.rel+_<=n;rw[m];exact hi.dG
 ·show x.rel+((Cn x.k (Qi.allL (x.l.length+1) x.l)).length:Int)=x.rel+_;rw[hlen]
 ·show ∀u,u∈CF x.ref 7->_;rw[r];exact hi.cL
 ·show((Cn x.k (Qi.allL (x.l.length+1) x.l)).length:Int)<=(Al x.k x.c).cap;rw[hlen,k.2.2.2];exact hi.cap
 ·intro y d;obtain⟨a,h,e⟩:=l y d;rw[<-e,Fu];exact hi.times a h
 ·intro y d;obtain⟨a,h,e⟩:=l y d;rw[<-e,Fu];exact hi.dV a h
 ·intro y d;obtain⟨a,h,e⟩:=l y d;rw[<-e];show AL (Al x.k x.c) x.k (A7 x.k a)=0;rw[MJ x.k x.c a hi.k1 hi.k5];exact hi.fits a h
 ·show x.rel+_<=_;rw[m];exact q.fO
 ·intro y d;obtain⟨a,h,e⟩:=l y d;rw[<-e,Gn];exact q.aL a h
 ·show ∀u,u∈CF x.ref 7->_;rw[r];exact q.eY
 ·show ∀A,A<5->Ac (CF x.ref 7) A=0;rw[r];exact i.eC
 ·intro y d;obtain⟨a,h,e⟩:=l y d;rw[<-e,Fu];show clock-(Al x.k x.c).aK<a.t/\a.t<=clock+(Al x.k x.c).bF;rw[k.2.1,k.2.2.1];exact i.due a h
 ·intro y d;obtain⟨a,h,e⟩:=l y d;rw[<-e,Gn];show 1<=a.n/\a.n<=x.rel+_;rw[m];exact i.num a h
 ·intro a t;show 1<=a.n/\a.n<=x.rel+_;rw[m];by_cases j:x.k=5
  ·exact i.fK a ((c3.cX j).symm.subset t)
  have B:(CV clock x).nt.tk=[]:=QK hi.k1 hi.k5 j;rw[B]at t;cases t
 ·rcases D with o | o
  ·exact(w.append o.symm).nodup_iff.2 i.eB
  rw[o,kh,iz];exact w.nodup_iff.2 (jD.1 i.eB).1
 ·show x.rel<=Dn (Al x.k x.c) clock;have:Dn (Al x.k x.c) clock=Dn x.c clock:=by unfold Dn;rw[k.2.1,k.2.2.2]
  rw[this];exact i.most
 ·intro o;show x.last<=clock-(Al x.k x.c).aK;rw[k.2.1];exact i.mark o
 exact((Md x.k _).2.trans (by
      refine List.Perm.trans ?_ ((Ia (x.l.length+1) x.l (by omega) hi.heap).map _)
      exact jb _)).symm.trans (by
    have j:(Cn x.k (Qi.allL (x.l.length+1) x.l)).map (A7 x.k)=Cn x.k (Qi.allL (x.l.length+1) x.l):=by
     conv=>rhs;rw[<-List.map_id (Cn x.k (Qi.allL (x.l.length+1) x.l))]
     refine jO (λy d=>?_);obtain⟨a,_,e⟩:=l y d;rw[<-e,YO];rfl
    show(Cn x.k _).Perm ((Cn x.k _).map (A7 x.k))
    rw[j])
end
section
attribute [local go_sem ↓] AN JC
attribute [local go_sem] AO A5 A6 AI AJ BC BD Bf B3
structure gJ (x:aI) (bC:List It) (clock:Int):Prop where
 len:bC.length=x.l.length
 cap:(bC.length:Int)<=(Al x.k x.c).cap
 num:∀y,y∈bC->1<=y.n/\y.n<=x.rel+(bC.length:Int)
 eB:(bC.map (·.n)).Nodup
 bd:∀n,n∈Bl x.k bC->0<=n/\n<=9223372036854775807
 ref:∀(i:Nat) (y:It),bC[i]?=some y->bO (Im x (Al x.k x.c) (bC.take i)) clock (A7 x.k y)=0
theorem TN(l:Nat)(x:aI)(clock:Int)(bC:List It)(cp:aU)(L:List Nat)(tl:List Nat)(w:World)(c:aR w l (Ae (GH x)++(Ae (Bl x.k bC)++(L++tl))))(hi:gK x clock)(cl:gJ x bC clock)(di:∀(W:NB) (s:Nat) (nv:Value) (X:World),cB X x.k W (Al x.k x.c) C8->aR X l (L++tl)->dA X s (clock-(Al x.k x.c).aK) (x.rel+(bC.length:Int)) x.rel nv (bC.map (·.n))->¬BH x.k W l->¬BH x.k W s->(∀a,nv.ownBlock=some a->¬BH x.k W a)->l<s ->
     Calls prog (Ii x.k) (En W.d++#[.pointer (some ⟨l,0,none⟩),.pointer (some ⟨s,0,none⟩)]) X λk h=>k=.returned (.tuple #[])/\∃ae:NB,ae.d=W.d/\cB h x.k ae (Al x.k x.c) cp/\(∀a,BH x.k ae a->BH x.k W a\/X.heap.size<=a)/\aR h l tl/\aA (λa=>a=l\/a=s\/nv.ownBlock=some a\/BH x.k W a) X h):
  Calls prog 78 #[.pointer (some ⟨l,0,none⟩),.int .i64 clock] w λk o=>∃d:SB,k=.returned (.pointer (some ⟨d.s,0,none⟩))/\bJ o d ⟨x.id,Al x.k x.c,x.k,x.rel+(bC.length:Int),x.rel,CF x.ref 7,Cn x.k bC,cp,0⟩/\aR o l tl/\(∀a,d.aQ x.k a->w.heap.size<=a)/\aA (λa=>a=l) w o:=by
 have A:=Aa hi;have da:=Aa di;obtain⟨e0,f7⟩:=hi.fQ;have v:=hi.k1;have Q:=hi.k5;have f4:=c.aF.lt;obtain⟨u,b4⟩:∃u,bC.length=u:=⟨_,rfl⟩;obtain⟨J,b5⟩:∃J,Ae (Bl x.k bC)++(L++tl)=J:=⟨_,rfl⟩;have ef:Ae (GH x)++(Ae (Bl x.k bC)++(L++tl))=enc x.id++(Ae (BR x.k x.c)++(Ae (AE.map (Ac x.ref))++(enc x.rel++(enc (u:Int)++J)))):=by
  unfold GH;rw[b5,<-b4,cl.len];simp only[BN,By,List.append_assoc,Dm,jt]
 have am:=Aa cl;have aa:=Aa b4;have fd:=Aa b5;rw[ef]at c;have dw:=Aa c;clear c hi di ef cl b4 b5;obtain⟨j,b9⟩:∃j,Al x.k x.c=j:=⟨_,rfl⟩;go_enter func78,ntmps78;go_wp2_with fail
 refine(EJ l x.id 0 99 _ w dw.o e0 (by omega) e0 f7).mono ?_;rintro k X ⟨rfl,eo,eg⟩;have dx:=Aa eo;have df:=Aa eg;clear eo eg dw;go_wp2_with fail
 refine(Sd l x.c x.k _ X dx.o A.o.kind v Q A.o.p0 A.o.p3 A.o.cfg A.o.valid).mono ?_;rintro k h ⟨rfl,er,ei⟩;have dy:=Aa er;have bo:=Aa (df.o.then ei);have g5:=bo.o.size;clear er ei df dx;rw[b9]at da ⊢;have U:=Aa b9;have et:j.val=.agg j.cells.toArray:=rfl;rw[et];unfold B1 fn;clear b9 et;have bj:=Aa (show aD ((h.alloc (.cells #[.int .i64 0,.int .i64 0,.int .i64 0,.int .i64 0,.int .i64 0,.int .i64 0,.int .i64 0,.int .i64 0,.int .i64 0,.int .i64 0,.int .i64 0,.int .i64 0,.int .i64 0,.int .i64 0,.int .i64 0,.int .i64 0,.int .i64 0,.int .i64 0,.int .i64 0,.int .i64 0] 46)).alloc (.cells #[.nilFunc,.nilFunc,.nilFunc,.nilFunc,.nilFunc,.nilFunc] 75)) h.heap.size EF.cells 46 from(aD.new h _ _).alloc _);have dn:=Aa (show aD ((h.alloc (.cells #[.int .i64 0,.int .i64 0,.int .i64 0,.int .i64 0,.int .i64 0,.int .i64 0,.int .i64 0,.int .i64 0,.int .i64 0,.int .i64 0,.int .i64 0,.int .i64 0,.int .i64 0,.int .i64 0,.int .i64 0,.int .i64 0,.int .i64 0,.int .i64 0,.int .i64 0,.int .i64 0] 46)).alloc (.cells #[.nilFunc,.nilFunc,.nilFunc,.nilFunc,.nilFunc,.nilFunc] 75)) (h.heap.size+1) [.nilFunc,.nilFunc,.nilFunc,.nilFunc,.nilFunc,.nilFunc] 75 from aD.newAt (by simp) _ _);have dg:=Aa (show lO h ((h.alloc (.cells #[.int .i64 0,.int .i64 0,.int .i64 0,.int .i64 0,.int .i64 0,.int .i64 0,.int .i64 0,.int .i64 0,.int .i64 0,.int .i64 0,.int .i64 0,.int .i64 0,.int .i64 0,.int .i64 0,.int .i64 0,.int .i64 0,.int .i64 0,.int .i64 0,.int .i64 0,.int .i64 0] 46)).alloc (.cells #[.nilFunc,.nilFunc,.nilFunc,.nilFunc,.nilFunc,.nilFunc] 75)) from((aA.refl _ _).alloc _).alloc _);obtain⟨P,bb⟩:∃P,P=((h.alloc (.cells #[.int .i64 0,.int .i64 0,.int .i64 0,.int .i64 0,.int .i64 0,.int .i64 0,.int .i64 0,.int .i64 0,.int .i64 0,.int .i64 0,.int .i64 0,.int .i64 0,.int .i64 0,.int .i64 0,.int .i64 0,.int .i64 0,.int .i64 0,.int .i64 0,.int .i64 0,.int .i64 0] 46)).alloc (.cells #[.nilFunc,.nilFunc,.nilFunc,.nilFunc,.nilFunc,.nilFunc] 75)).setCells h.heap.size 0 j.cells:=⟨_,rfl⟩;have f5:(Eu 46 (.pointer (some ⟨h.heap.size,0,none⟩)) (.agg j.cells.toArray)).run prog ((h.alloc (.cells #[.int .i64 0,.int .i64 0,.int .i64 0,.int .i64 0,.int .i64 0,.int .i64 0,.int .i64 0,.int .i64 0,.int .i64 0,.int .i64 0,.int .i64 0,.int .i64 0,.int .i64 0,.int .i64 0,.int .i64 0,.int .i64 0,.int .i64 0,.int .i64 0,.int .i64 0,.int .i64 0] 46)).alloc (.cells #[.nilFunc,.nilFunc,.nilFunc,.nilFunc,.nilFunc,.nilFunc] 75))=.ok .skip P:=by
  rw[bb];exact N3 j bj.o rfl
 have cy:=Aa (show aD P h.heap.size j.cells 46 by
    have:=aD.setCells j.cells 0 _ _ bj.o (by show 0+20<=20;omega);rw[Qs _ _ (by rfl),<-bb]at this
    exact this)
 have cg:aA (λa=>a=h.heap.size) ((h.alloc (.cells #[.int .i64 0,.int .i64 0,.int .i64 0,.int .i64 0,.int .i64 0,.int .i64 0,.int .i64 0,.int .i64 0,.int .i64 0,.int .i64 0,.int .i64 0,.int .i64 0,.int .i64 0,.int .i64 0,.int .i64 0,.int .i64 0,.int .i64 0,.int .i64 0,.int .i64 0,.int .i64 0] 46)).alloc (.cells #[.nilFunc,.nilFunc,.nilFunc,.nilFunc,.nilFunc,.nilFunc] 75)) P:=by
  rw[bb];exact aA.setCells (M:=λa=>a=h.heap.size) (b:=h.heap.size) (Or.inl rfl) _ _ _ (aA.refl _ _)
 have N:=Aa (dn.o.keeps cg (show ¬(h.heap.size+1=h.heap.size) by omega));have ds:=Aa (show lO h P from dg.o.trans cg (λa hi E=>by have fw:a=h.heap.size:=hi;omega));have ga:=N.o.cell (i:=0) rfl;have gb:=N.o.cell (i:=1) rfl;have gc:=N.o.cell (i:=2) rfl;have gd:=N.o.cell (i:=3) rfl;have gf:=N.o.cell (i:=4) rfl;have gg:=N.o.cell (i:=5) rfl;have gh:=N.o.frozen;have H:=Aa (show aD _ (h.heap.size+1) [.func (.func (Bu x.k)) #[] #[],.func (.func (Bg x.k)) #[] #[],.func (.func (Bh x.k)) #[] #[],.func (.func (AR x.k)) #[] #[],.func (.func (AW x.k)) #[] #[],.func (.func (Bo x.k)) #[] #[]] 75 from((((((N.o.setCell 0 (.func (.func (Bu x.k)) #[] #[])).setCell 1 (.func (.func (Bg x.k)) #[] #[])).setCell 2 (.func (.func (Bh x.k)) #[] #[])).setCell 3 (.func (.func (AR x.k)) #[] #[])).setCell 4 (.func (.func (AW x.k)) #[] #[])).setCell 5 (.func (.func (Bo x.k)) #[] #[])));have a3:=Aa (show aA (λa=>a=h.heap.size+1) P _ from(((((((aA.refl (λa=>a=h.heap.size+1) P).setCell (p:=⟨h.heap.size+1,0,none⟩) (Or.inl rfl) (.func (.func (Bu x.k)) #[] #[])).setCell (p:=⟨h.heap.size+1,1,none⟩) (Or.inl rfl) (.func (.func (Bg x.k)) #[] #[])).setCell (p:=⟨h.heap.size+1,2,none⟩) (Or.inl rfl) (.func (.func (Bh x.k)) #[] #[])).setCell (p:=⟨h.heap.size+1,3,none⟩) (Or.inl rfl) (.func (.func (AR x.k)) #[] #[])).setCell (p:=⟨h.heap.size+1,4,none⟩) (Or.inl rfl) (.func (.func (AW x.k)) #[] #[])).setCell (p:=⟨h.heap.size+1,5,none⟩) (Or.inl rfl) (.func (.func (Bo x.k)) #[] #[])));clear bb cg bj dn dg;obtain⟨a9,b6⟩:∃a9,a9=((((((P.setCell ⟨h.heap.size+1,0,none⟩ (.func (.func (Bu x.k)) #[] #[])).setCell ⟨h.heap.size+1,1,none⟩ (.func (.func (Bg x.k)) #[] #[])).setCell ⟨h.heap.size+1,2,none⟩ (.func (.func (Bh x.k)) #[] #[])).setCell ⟨h.heap.size+1,3,none⟩ (.func (.func (AR x.k)) #[] #[])).setCell ⟨h.heap.size+1,4,none⟩ (.func (.func (AW x.k)) #[] #[])).setCell ⟨h.heap.size+1,5,none⟩ (.func (.func (Bo x.k)) #[] #[])):=⟨_,rfl⟩;rw[<-b6]at H a3;have ay:=Aa (cy.o.keeps a3.o (show ¬(h.heap.size=h.heap.size+1) by omega));have a4:=Aa (show lO h a9 from ds.o.trans a3.o (λa hi E=>by have fw:a=h.heap.size+1:=hi;omega));have fq:=b6.symm;clear b6 ds a3 cy N;obtain⟨f6,fv⟩:=CE ay.o 20 rfl;have gj:=H.o.cell (i:=0) rfl;have gk:=H.o.cell (i:=1) rfl;have gl:=H.o.cell (i:=2) rfl;have gm:=H.o.cell (i:=3) rfl;have gn:=H.o.cell (i:=4) rfl;have gp:=H.o.cell (i:=5) rfl;have d4:=Aa (show j.kind=x.k by rw[<-U.o];have:=A.o.kind;rcases As v Q with k | k | k | k | k <;> rw[k]at this ⊢ <;> exact this);go_wp2_with fail
 refine(Nn x.id j x.k a9 v Q (by rw[<-U.o];exact A.o.valid) d4.o).mono ?_;rintro k e5 ⟨d,rfl,es,ap,ao⟩
 have dj:=Aa (show eI w l d (AQ x.id j x.k) (Ae (AE.map (Ac x.ref))++(enc x.rel++(enc (u:Int)++J))) e5 from
    ⟨es,dy.o.keeps (a4.o.then ao) id,bo.o.trans (a4.o.then ao) (λ_ c _=>c.elim),λa hi=>by have v:=ap a hi;have ba:=a4.o.size;omega,f4⟩)
 have cw:=Aa (ay.o.keeps ao id);have fj:=Aa (H.o.keeps ao id);have d2:=Aa (show d.s≠h.heap.size+1 by have v:=ap d.s (.inl rfl);have ba:=H.o.lt;omega);have e8:=Aa (show ∀a,d.aQ x.k a->h.heap.size+1<a from λa hi=>by have v:=ap a hi;have ba:=H.o.lt;omega);have a5:=Aa (show l<h.heap.size by omega);have d1:=Aa (show d.s≠h.heap.size by have v:=ap d.s (.inl rfl);have ba:=ay.o.lt;omega);have bk:=Aa (show h.heap.size≠l by omega);clear es ap ao f5 fq ga gb gc gd gf gg gh gj gk gl gm gn gp f6 fv dy a4 ay H bo;generalize ft:h.heap.size=C at *
 clear ft;go_wp2_with fail
 refine(M6 e5).mono ?_;rintro k ha ⟨rfl,bd⟩;have dk:=Aa (dj.o.still bd);have cx:=Aa (cw.o.keeps bd id);have d3:=Aa (fj.o.keeps bd id);clear bd dj cw;go_wp2_with fail
 go_loopw [30] (λad wr=>∃q:Nat,q<=7/\ad=.int .i64 q/\Hid (eI w l d { AQ x.id j x.k with ref:=CF x.ref q } (Ae ((AE.map (Ac x.ref)).drop q)++(enc x.rel++(enc (u:Int)++J))) wr)/\Hid (aD wr C j.cells 46)/\Hid (aD wr (C+1) [.func (.func (Bu x.k)) #[] #[],.func (.func (Bg x.k)) #[] #[],.func (.func (Bh x.k)) #[] #[],.func (.func (AR x.k)) #[] #[],.func (.func (AW x.k)) #[] #[],.func (.func (Bo x.k)) #[] #[]] 75)) (λad _=>7-(intOf ad).toNat)
 case atStart=>exact⟨0,by omega,rfl,dk,cx,d3⟩
 case round =>
  clear dk cx d3;obtain⟨q,D,rfl,a1,bl,bt⟩:=hrel;by_cases ce:q<7
  ·obtain⟨e,z⟩:∃e,AE[q]?=some e:=⟨_,hX (show q<AE.length from ce)⟩;have g1:=Rs q e z;have fz:e<12:=by
    have aj:=iu z;simp[AE]at aj;omega
   have ee:AE.getD q 0=e:=by rw[List.getD_eq_getElem?_getD,z];rfl
   have fg:=Aa (show { AQ x.id j x.k with ref:=CF x.ref (q+1) }={ ({ AQ x.id j x.k with ref:=CF x.ref q }:aI) with ref:=(CF x.ref q).set e (Ac x.ref e) } by show _=_;simp only[CF,ee])
   have az:=Aa (show Ae ((AE.map (Ac x.ref)).drop q)++(enc x.rel++(enc (u:Int)++J))=enc (Ac x.ref e)++(Ae ((AE.map (Ac x.ref)).drop (q+1))++(enc x.rel++(enc (u:Int)++J))) by
      have E:q<(AE.map (Ac x.ref)).length:=by rw[im];exact ce
      rw[List.drop_eq_getElem_cons E,BN,List.append_assoc];congr 2;rw[k4];congr 1;have:=hX (show q<AE.length from ce);rw[z]at this
      exact(jA this).symm)
   obtain⟨e4,gq⟩:=A.o.ref e;have al:=Aa (show eI w l d { AQ x.id j x.k with ref:=CF x.ref q } (enc (Ac x.ref e)++(Ae ((AE.map (Ac x.ref)).drop (q+1))++(enc x.rel++(enc (u:Int)++J)))) wr by rw[<-az.o];exact a1.o);clear a1 az ee;have g4:(q:Int)<7:=by omega
   have g2:(0:Int)<=(e:Int):=by omega
   have g3:(e:Int)<12:=by omega
   go_wp2_with fail
   go_region_with (first | (go_at_call 77;refine((al.o.still ((aA.refl (λ_=>False) wr).drew)).number e4 (by omega) e4 gq).mono ?_;rintro k cr ⟨rfl,R,ab⟩;have b8:=R.cW.aF.cell (DV d _ (N6 x.ref q) e fz);have cb:=R.cW.aF.frozen))
   have Y:=Aa (R.set (x2:={ AQ x.id j x.k with ref:=(CF x.ref q).set e (Ac x.ref e) }) (35+e) (.int .i64 (Ac x.ref e)) (O1 d _ e _) rfl rfl rfl rfl);have e7:=Aa (bl.o.keeps (((aA.refl (λ_=>False) wr).drew.mono (M':=λa=>a=l) (λ_ _ c=>c.elim)).then ab) bk.o);have a8:=Aa ((bt.o.keeps (((aA.refl (λ_=>False) wr).drew.mono (M':=λa=>a=l) (λ_ _ c=>c.elim)).then ab) (show ¬(C+1=l) by have:=a5.o;omega)).aW (p:=⟨d.s,35+e,none⟩) d2.o (.int .i64 (Ac x.ref e)));have ax:=Aa (e7.o.aW (p:=⟨d.s,35+e,none⟩) d1.o (.int .i64 (Ac x.ref e)));clear b8 cb R ab;go_wp2;go_roundw;case rel=>exact⟨q+1,by omega,by go_num,by show eI _ _ _ _ _ _;rw[fg.o];exact Y.o,ax,a8⟩
   case measure=>simp[intOf];omega
  have f0:q=7:=by omega
  subst f0;have al:=Aa (show eI w l d { AQ x.id j x.k with ref:=CF x.ref 7 } (enc x.rel++(enc (u:Int)++J)) wr from a1.o);clear a1;obtain⟨cn,co⟩:=A.o.aK;obtain⟨d7,d8⟩:=A.o.cap;rw[U.o]at cn co d7 d8;have e3:=A.o.dI;have g9:=A.o.hJ;have fc:=Aa (show x.rel<=Dn j clock by rw[<-U.o];exact A.o.hI);have b1:=A.o.c0;have b2:=A.o.c1;have dm:=Aa (WV d { AQ x.id j x.k with ref:=CF x.ref 7 } clock wr al.o.cW cn co d7 d8 b1 b2);go_wp2_with fail
  refine dm.o.mono ?_;rintro k gw ⟨rfl,ev⟩;rw[ev];clear ev gw dm;go_wp2_with fail
  refine(al.o.number e3 (by omega) e3 fc.o).mono ?_;rintro k cr ⟨rfl,R,ab⟩;have b8:cr.cell? ⟨d.s,34,none⟩=some (.int .i64 0):=R.cW.aF.cell rfl;have cb:=R.cW.aF.frozen;have Y:=Aa (R.set (x2:={ AQ x.id j x.k with ref:=CF x.ref 7,rel:=x.rel }) 34 (.int .i64 x.rel) rfl rfl rfl rfl rfl);have a8:=Aa ((bt.o.keeps ab (show ¬(C+1=l) by have:=a5.o;omega)).aW (p:=⟨d.s,34,none⟩) d2.o (.int .i64 x.rel));have ax:=Aa ((bl.o.keeps ab bk.o).aW (p:=⟨d.s,34,none⟩) d1.o (.int .i64 x.rel));clear R ab al bl bt;go_wp2_with fail
  clear b8 cb;generalize cr.setCell ⟨d.s,34,none⟩ (.int .i64 x.rel)=af at *
  have eb:=ax.o.c3;have aq:af.cell? ⟨d.s,34,none⟩=some (.int .i64 x.rel):=Y.o.cW.aF.cell rfl;have be:af.cell? ⟨d.s,2,none⟩=some (.int .i64 j.aK):=Y.o.cW.aF.cell rfl;have gx:IntKind.i64.wrap (4611686018427387904-x.rel)=4611686018427387904-x.rel:=by rw[ic];omega
  have gz:(u:Int)<=j.cap:=by rw[<-U.o,<-aa.o];exact am.o.cap
  have f3:¬(4611686018427387904-x.rel<j.cap):=by omega
  have fi:=Aa (show d.s≠l from Y.o.apart d.s (.inl rfl));have a6:=Aa (show ∀o,aA (λa=>a=l) af o->o.cell? ⟨C,3,none⟩=some (.int .i64 j.cap)/\o.cell? ⟨d.s,34,none⟩=some (.int .i64 x.rel) from λo D=>⟨D.cell eb bk.o,D.cell aq fi.o⟩);go_region_held3 (λo=>o.cell? ⟨C,3,none⟩=some (.int .i64 j.cap)/\o.cell? ⟨d.s,34,none⟩=some (.int .i64 x.rel))
   (first | exact a6.o _ bp.o | exact a6.o _ ((aA.refl (λa=>a=l) af).drew) | exact a6.o _ (aA.refl (λa=>a=l) af) | (simp[*];done))
   (first | (go_at_call 77;refine((Y.o.still ((aA.refl (λ_=>False) af).drew)).number (n:=(u:Int)) (by omega) (by omega) (by omega) (by omega)).mono ?_;rintro k t ⟨rfl,ek,ej⟩;have bp:=Aa (((aA.refl (λa=>a=l) af).drew).then ej)))
  have Z:=Aa ek;have br:=Aa (a8.o.keeps bp.o (show ¬(C+1=l) by have:=a5.o;omega));clear ek ej eb aq be gx f3 Y ax a8 bp a6;have aq:t.cell? ⟨d.s,34,none⟩=some (.int .i64 x.rel):=Z.o.cW.aF.cell rfl;have be:t.cell? ⟨d.s,2,none⟩=some (.int .i64 j.aK):=Z.o.cW.aF.cell rfl;have d5:=Aa (show ∀av,lO t av->Calls prog 43 #[.pointer (some ⟨d.s,0,none⟩),.int .i64 clock] av λk o=>k=.returned (.int .i64 (clock-j.aK))/\o=av from λav D=>Gt d.s j.aK clock av (D.cell be id) cn co b1 b2);have a7:=Aa (show ∀o,lO t o->o.cell? ⟨d.s,34,none⟩=some (.int .i64 x.rel) from λo D=>D.cell aq id);obtain⟨r,b3⟩:∃r,x.rel+(u:Int)=r:=⟨_,rfl⟩;have g7:IntKind.i64.wrap (x.rel+(u:Int))=r:=by rw[b3,ic];omega
  have bh:=Aa b3;have fp:r<=4611686018427387904:=by omega
  clear b3;go_wp2_with fail
  go_region_held3 (λo=>o.cell? ⟨d.s,34,none⟩=some (.int .i64 x.rel))
   (first | exact a7.o _ ((aA.refl (λ_=>False) t).drew) | exact a7.o _ (aA.refl (λ_=>False) t) | exact a7.o _ (((aA.refl (λ_=>False) t).drew).alloc _) | (simp[*];done))
   (first | (go_at_call 43;refine(d5.o _ ((aA.refl (λ_=>False) t).drew)).mono ?_;rintro k e6 ⟨rfl,rfl⟩))
  have cf:lO t ((t.alloc (.cells #[.int .i64 (clock-j.aK),.int .i64 r,.int .i64 x.rel,.slice none 0 0] 177)).drew):=((aA.refl _ _).alloc _).drew;have du:=Aa (show dA ((t.alloc (.cells #[.int .i64 (clock-j.aK),.int .i64 r,.int .i64 x.rel,.slice none 0 0] 177)).drew) t.heap.size (clock-j.aK) r x.rel (.slice none 0 0) [] from⟨aD.new t [_,_,_,_] _,ir _ _ _ _⟩);have dl:=Aa (show eI w l d (Im x j []) (J) ((t.alloc (.cells #[.int .i64 (clock-j.aK),.int .i64 r,.int .i64 x.rel,.slice none 0 0] 177)).drew) from Z.o.still cf);have bs:=Aa (br.o.keeps cf id);have fl:=Aa (show C+1<t.heap.size from br.o.lt);have ez:l<t.heap.size/\(∀a,d.aQ x.k a->a<t.heap.size)/\w.heap.size<=t.heap.size:=⟨Z.o.rd.aF.lt,λa hi=>Z.o.cW.lt a hi,Z.o.kp.size⟩;have d6:=Aa ez;clear cf aq be d5 a7 Z br ez;generalize(t.alloc (.cells #[.int .i64 (clock-j.aK),.int .i64 r,.int .i64 x.rel,.slice none 0 0] 177)).drew=e6 at *
  generalize t.heap.size=s at *
  have db:=Aa (show eH w l d x j clock r s C (bC.take 0) (Ae (Bl x.k (bC.drop 0))++(L++tl)) ((bC.take 0).map (·.n)) d.g (.slice none 0 0) e6 from
     ⟨by rw[kD,fd.o];exact dl.o,du.o,bs.o,λe z=>⟨e8.o e z,by have:=d6.o.2.1 e z;omega,by simp[Value.ownBlock]⟩,a5.o,by have:=bs.o.lt;have:=fl.o;omega,d6.o.2.2⟩)
  clear dl du bs;go_wp2_with fail
  go_loopw [75] (λad wr=>∃a:Nat,a<=u/\ad=.int .i64 a/\∃T nv,Hid (eH w l d x j clock r s C (bC.take a) (Ae (Bl x.k (bC.drop a))++(L++tl)) ((bC.take a).map (·.n)) T nv wr)) (λad _=>u-(intOf ad).toNat)
  case atStart=>exact⟨0,by omega,rfl,_,_,db⟩
  case round =>
   clear db;obtain⟨a,hi,rfl,T,nv,a0⟩:=hrel;by_cases fx:a<u
   ·obtain⟨y,au⟩:∃y,bC[a]?=some y:=⟨_,hX (by rw[aa.o];exact fx)⟩;have g0:(a:Int)<(u:Int):=by omega
    have fk:=Aa (show bC.take (a+1)=bC.take a++[y] by rw[jg,au];rfl)
    have az:=Aa (show Bl x.k (bC.drop a)=[y.n]++((CM x.k).map (λe=>[y.t,y.k,y.d].getD e 0)++Bl x.k (bC.drop (a+1))) by
       have E:=(ik.1 au);rw[List.drop_eq_getElem_cons E.1,E.2]
       simp[Bl,ET])
    have dc:=Aa (show eH w l d x j clock r s C (bC.take a) (enc y.n++(Ae ((CM x.k).map (λe=>[y.t,y.k,y.d].getD e 0))++(Ae (Bl x.k (bC.drop (a+1)))++(L++tl)))) ((bC.take a).map (·.n)) T nv wr by
       have c:=a0.o;rw[az.o]at c
       simpa only[BN,By,List.append_assoc,Dm,jt,ko] using c)
    have ey:=iu au;have cm:=am.o.num y ey;rw[aa.o,bh.o]at cm
    have dp:=Aa (show y.n ∉ (bC.take a).map (·.n) by
       have c:=am.o.eB;rw[show bC=bC.take a++bC.drop a from(List.take_append_drop a bC).symm,iy]at c;have E:=(ik.1 au);rw[List.drop_eq_getElem_cons E.1,E.2]at c;intro aj
       exact(jD.1 c).2.2 _ aj _ (by simp) rfl)
    clear a0;go_wp2_with fail
    refine(dc.o.num cm.1 cm.2 fp dp.o (by simp;omega)).mono ?_;rintro k F ⟨rfl,e1,d9⟩;have I:=Aa d9;clear d9 dc dp;have f8:F.cell? ⟨C+1,4,none⟩=some (.func (.func (AW x.k)) #[] #[]):=I.o.kd.cell rfl;have f9:=I.o.kd.lt;have cj:=P5 x.k v Q;go_wp2_with fail
    have bi:=Aa (show aD (F.alloc (.cells #[.int .i64 0,.int .i64 0,.int .i64 0,.int .i64 y.n] 80)) F.heap.size [.int .i64 0,.int .i64 0,.int .i64 0,.int .i64 y.n] 80 from aD.new F [_,_,_,_] _);have de:=Aa (I.o.still ((aA.refl (λ_=>False) F).alloc (.cells #[.int .i64 0,.int .i64 0,.int .i64 0,.int .i64 y.n] 80)));have O:=Aa (show(∀e,({ d with g:=T }:SB).aQ x.k e->e<F.heap.size)/\s<F.heap.size/\(∀e,e1.ownBlock=some e->e<F.heap.size)/\C+1<F.heap.size/\w.heap.size<=F.heap.size/\l<F.heap.size from⟨λe z=>I.o.ls.cW.lt e z,I.o.kr.aF.lt,λe z=>(I.o.kr.row.lt e z).2,I.o.kd.lt,I.o.ls.kp.size,I.o.ls.rd.aF.lt⟩);clear I f8 f9 cj;generalize(F.alloc (.cells #[.int .i64 0,.int .i64 0,.int .i64 0,.int .i64 y.n] 80))=gr at *
    generalize F.heap.size=G at *
    refine(P7 x.k G gr v Q).mono ?_;rintro k gs ⟨e2,rfl,ck,cc⟩;have dr:=Aa ck;have bm:=Aa (de.o.still cc);have cv:=Aa (bi.o.keeps cc id)
    have dt:=Aa (show ∀a,e2.ownBlock=some a->a≠l/\a≠G from λa hi=>by
       have v:=(ck.lt a hi).1;have ba:=bi.o.lt;have gy:=O.o.2.2.2.2.2
       omega)
    clear ck cc de bi;go_wp2_with fail
    have cu:=Aa (show ∀S,S∈(CM x.k).map (λe=>[y.t,y.k,y.d].getD e 0)->0<=S/\S<=9223372036854775807 from λS ch=>am.o.bd S (by
         unfold Bl
         exact k3.2 ⟨y,ey,j2 _ ch⟩))
    refine(LB l G (CM x.k) _ [.int .i64 0,.int .i64 0,.int .i64 0,.int .i64 y.n] 80 e2 _ _ gs bm.o.ls.rd (by have:=dr.o;unfold at' at this ⊢;rw[im]at this;exact this) cv.o (by rw[im]) (λg8 aj=>by rcases As v Q with k | k | k | k | k <;> rw[k]at aj <;> simp[CM]at aj ⊢ <;> omega) (by have:=O.o.2.2.2.2.2;omega) dt.o cu.o (by have:=LX x.k;omega)).mono ?_;rintro k gu ⟨rfl,ep,b7,eh⟩;rw[Xu x.k y v Q]at b7;have bn:=Aa (bm.o.rd (bx:=G) eh ep (λe z=>by have:=O.o.1 e z;omega) (by have:=O.o.2.1;omega) (λk=>by have:=O.o.2.2.1 _ k;omega) (by have:=O.o.2.2.2.1;omega) O.o.2.2.2.2.1);have ah:=Aa b7;clear ep b7 eh bm cv dr dt cu;have bu:=ah.o.c0;have bv:=ah.o.c1;have bz:=ah.o.c2;have b0:=ah.o.c3;have d0:=Aa (am.o.ref a y au);rw[U.o]at d0;go_wp2_with fail
    refine(Xv _ (Im x j (bC.take a)) (A7 x.k y) clock gu bn.o.ls.cW (by show Ak j=true;rw[<-U.o];exact A.o.valid) d4.o v Q b1 b2).mono ?_;rintro k cq ⟨rfl,cd⟩;rw[d0.o];have ai:=Aa (bn.o.still cd);have ak:=Aa (ah.o.keeps cd id);clear cd bn ah bu bv bz b0;go_wp2_with fail
    refine(Gc l _).mono ?_;rintro k gv ⟨rfl,eu⟩;rw[eu];clear eu gv;have bu:=ak.o.c0;have bv:=ak.o.c1;have bz:=ak.o.c2;have b0:=ak.o.c3;have fr:cq.cell? ⟨d.s,32,none⟩=some (.pointer (some ⟨d.q,0,none⟩)):=ai.o.ls.cW.aF.cell rfl;have fe:=Aa (show ¬(d.s=d.q\/T=some d.s) from λc=>c.elim ai.o.ls.cW.sq (λc=>ai.o.ls.cW.sg d.s c rfl));have a2:=Aa (show ¬(G=d.q\/T=some G) from λc=>c.elim (λc=>by have:=O.o.1 d.q (.inr (.inl rfl));omega) (λc=>by have:=O.o.1 G (.inr (.inr (.inl c)));omega));have f2:(Cn x.k (bC.take a)).length<=900:=by rw[NT];simp;omega
    go_wp2_with fail
    go_region_held3 (λo=>o.cell? ⟨d.s,32,none⟩=some (.pointer (some ⟨d.q,0,none⟩))/\o.cell? ⟨G,0,none⟩=some (.int .i64 (A7 x.k y).t)/\o.cell? ⟨G,1,none⟩=some (.int .i64 (A7 x.k y).k)/\o.cell? ⟨G,2,none⟩=some (.int .i64 (A7 x.k y).d)/\o.cell? ⟨G,3,none⟩=some (.int .i64 (A7 x.k y).n))
     (first | (simp[*];done) | (go_split_ands;exact⟨D.cell (by assumption) fe.o,D.cell (by assumption) a2.o,D.cell (by assumption) a2.o,D.cell (by assumption) a2.o,D.cell (by assumption) a2.o⟩))
     (first | (go_at_call 68;refine(put_any d.q T (Cn x.k (bC.take a)) (A7 x.k y) _ (by exact(ai.o.ls.cW.dL.keeps ((aA.refl (λ_=>False) cq).drew) id (λ_ _ c=>c))) f2).mono ?_;rintro k o ⟨rfl,gi,em,D,el⟩))
    have fa:=Aa (show eH w l d x j clock r s C (bC.take (a+1)) (Ae (Bl x.k (bC.drop (a+1)))++(L++tl)) ((bC.take (a+1)).map (·.n)) gi e1 o by
       rw[fk.o];have:=(ai.o.still ((aA.refl (λ_=>False) cq).drew)).put (y:=y) em D el;rw[iy,List.map_singleton]
       exact this)
    clear em D el bu bv bz b0 fr ai ak;go_wp2;go_roundw;case rel=>exact⟨a+1,by omega,by go_num,_,_,fa⟩
    case measure=>simp[intOf];omega
   have fy:a=u:=by omega
   subst fy
   have V:=Aa (show eH w l d x j clock r s C bC (L++tl) (bC.map (·.n)) T nv wr by
      have c:=a0.o;rw[show bC.take a=bC from by rw[<-aa.o];exact kZ,show bC.drop a=[] from by rw[<-aa.o];exact kE]at c
      exact c)
   clear a0;obtain⟨m,bf⟩:∃m:SB,({ d with g:=T }:SB)=m:=⟨_,rfl⟩;have g6:d.s=m.s:=by rw[<-bf]
   have bq:=Aa (show eI w l m (Im x j bC) (L++tl) wr by rw[<-bf];exact V.o.ls);have dh:=Aa V.o.kr;have ag:=Aa (show ∀e,m.aQ x.k e->e≠s/\nv.ownBlock≠some e by rw[<-bf];exact λe z=>(V.o.ap e z).2);have dq:=Aa (show(∀e,nv.ownBlock=some e->s+1<=e)/\w.heap.size<=s/\l<s from⟨λe z=>V.o.eN e z,V.o.wk,by have:=V.o.rc;have:=V.o.kc;omega⟩);clear V bf;have f1:=dh.o.aF.c1;have fs:wr.cell? ⟨m.s,33,none⟩=some (.int .i64 0):=bq.o.cW.aF.cell rfl;have fu:=bq.o.cW.aF.frozen;have B:=Aa (bq.o.set (x2:={ Im x j bC with acc:=r }) 33 (.int .i64 r) rfl rfl rfl rfl rfl);have ct:=Aa (show dA (wr.setCell ⟨m.s,33,none⟩ (.int .i64 r)) s (clock-j.aK) r x.rel nv (bC.map (·.n)) from dh.o.keeps ((aA.refl (λa=>a=m.s) wr).setCell (p:=⟨m.s,33,none⟩) (Or.inl rfl) _) (λk=>(ag.o m.s (.inl rfl)).1 k.symm) (λa hi k=>(ag.o m.s (.inl rfl)).2 (by rw[<-show a=m.s from k];exact hi)));obtain⟨aw,ew⟩:∃aw,wr.setCell ⟨m.s,33,none⟩ (.int .i64 r)=aw:=⟨_,rfl⟩;rw[ew]at B ct;have fm:aw.cell? ⟨m.s,31,none⟩=some (.func (.func (Ii x.k)) (En m.n.d) #[]):=B.o.cW.aF.cell rfl;have cj:=zNc x.k v Q;go_wp2_with fail
   clear f1 fs fu ew fm cj;have e9:=Aa (da.o m.n s nv aw B.o.cW.note B.o.rd (by rw[aa.o,bh.o];exact ct.o) (λc=>B.o.apart l (.inr (.inr (.inr c))) rfl) (λc=>(ag.o s (.inr (.inr (.inr c)))).1 rfl) (λa hi c=>(ag.o a (.inr (.inr (.inr c)))).2 hi) dq.o.2.2);refine e9.o.mono ?_;rintro k cs ⟨rfl,ae,ec,ea,ca,en,bc⟩;have dz:=Aa en;have ar:=B.o.cW.sn;have bg:=dq.o
   have fh:=Aa (show bJ cs { m with n:=ae } ⟨x.id,j,x.k,r,x.rel,CF x.ref 7,Cn x.k bC,cp,0⟩ from by
      have an:=B.o.cW;have ci:∀a,m.aQ x.k a->¬BH x.k m.n a->¬(a=l\/a=s\/nv.ownBlock=some a\/BH x.k m.n a):=λa hi ch c=>by
       rcases c with c | c | c | c
       ·exact B.o.apart a hi c
       ·exact(ag.o a hi).1 c
       ·exact(ag.o a hi).2 c
       exact ch c
      have E:∀a,m.aQ x.k a->a<aw.heap.size:=λa hi=>an.lt a hi;refine⟨?_,?_,ea,an.sq,an.sg,λa hi=>?_⟩
      ·have v:=an.aF.keeps bc (ci m.s (.inl rfl) (λc=>(ar _ c).1 rfl));unfold D1 at v ⊢;simp only at v ⊢;rw[ec];exact v
      ·exact an.dL.keeps bc (ci m.q (.inr (.inl rfl)) (λc=>(ar _ c).2.1 rfl)) (λg ed=>ci g (.inr (.inr (.inl ed))) (λc=>(ar _ c).2.2 ed))
      rcases ca a hi with c | c
      ·exact ar a c
      refine⟨λk=>?_,λk=>?_,λk=>?_⟩
      ·have fo:a=m.s:=k;have:=E m.s (.inl rfl);omega
      ·have fo:a=m.q:=k;have:=E m.q (.inr (.inl rfl));omega
      have:=E a (.inr (.inr (.inl k)));omega)
   have ff:=Aa (show ∀a,({ m with n:=ae }:SB).aQ x.k a->w.heap.size<=a from λa hi=>by
      rcases hi with c | c | c | c
      ·exact B.o.new a (.inl c)
      ·exact B.o.new a (.inr (.inl c))
      ·exact B.o.new a (.inr (.inr (.inl c)))
      rcases ca a c with c | c
      ·exact B.o.new a (.inr (.inr (.inr c)))
      have:=B.o.kp.size;omega)
   have fb:=Aa (show aA (λa=>a=l) w cs from B.o.kp.trans bc (λa hi E=>by
        rcases hi with c | c | c | c
        ·exact c
        ·have:=bg.2.1;omega
        ·have:=bg.1 a c;have:=bg.2.1;omega
        have:=B.o.new a (.inr (.inr (.inr c)));omega))
   clear ea ca en bc ar bg ec;go_wp2_with fail
   refine(Ma l tl cs dz.o).mono ?_;rintro k wc ⟨rfl,ex⟩;rw[ex];clear ex wc;go_wp2;go_ret;exact⟨{ m with n:=ae },rfl,by rw[U.o,aa.o,bh.o];exact fh.o,dz.o,ff.o,fb.o⟩
