import Derived.Test.YtnokbhcennjanaaGreatDoorXAY
open Go.RowKit Go.Proofs.Tryz
set_option maxRecDepth 100000
set_option maxHeartbeats 16000000
namespace Go.Proofs.YtnokbhcennjanaaGreatDoor
section
attribute [local go_sem ↓] AH
attribute [local go_sem] AI A3 A4 AJ AL B8 B9 Bd B2
theorem Z1(c:Cfg)(l:List Dr.It)(y:It): (AY c l y).length<=l.length+1:=by
 unfold AY;split
 ·rw[Dr.takeL_length,Dr.riseL_length,ic,jh];omega
 rw[Dr.riseL_length,ic,jh];omega
theorem UU(o u q k:Nat)(v:Option Nat)(c:Cfg)(m acc rel:Int)(nv:Value)(ns:List Int)(e:List It)(tl:List Nat)(w:World)(H:TL w o u q k c m acc rel v nv [] (Ae (FA e)++tl) ns v nv w)(Y:gX c m acc rel ns e)(a6:c.bI)(bs:1<=c.size)(bt:c.size<=5)(cc:m<=4611686018427387904)(bi:acc<=4611686018427387904)(b9:ns.length<=800):
  Calls prog 162 #[π o,π q,π k] w λl h=>l=.returned (.tuple #[])/\∃r z,TL w o u q k c m acc rel v nv (e.foldl (AY c) []) tl (ns++e.map (·.n)) r z h:=by
 have be:=Aa H;have E:=Aa Y;have au:=Aa a6;have br:κ w k 2 (ι rel):=H.kr.aF.cell rfl;have bj:κ w o 10 (ι c.size):=H.tr.aF.cell rfl;obtain⟨t,X⟩:∃t,e.length=t:=⟨_,rfl⟩;have hlen:=Y.len;rw[X]at hlen;have R:=Aa X;clear H Y a6 X;have b6:t<=6:=by split at hlen <;> omega
 have cg:IntKind.i64.wrap (c.size+1)=c.size+1:=by rw[il];omega
 have bk:(c.size+1<rel/\c.size+1=(t:Int))\/(¬c.size+1<rel/\rel=(t:Int)):=by
  split at hlen
  ·rename_i a;exact .inl ⟨a,hlen.symm⟩
  rename_i a;exact .inr ⟨a,hlen.symm⟩
 clear hlen;go_enter func162,ntmps162;rcases bk with ⟨av,aw⟩ | ⟨av,aw⟩;all_goals
  go_wp2_with fail
  go_quiet (fail)
  go_wp2_with fail
  have am:=Aa (be.o.still (aA.drewN (λ_=>False) w nq));generalize w.drewN nq=cf at *
  clear br bj;go_loopw [18] (λaf wr=>∃(d:Nat) (r:Option Nat) (z:Value),d<=t/\af=ι (d:Int)/\Hid (TL w o u q k c m acc rel v nv ((e.take d).foldl (AY c) []) (Ae (FA (e.drop d))++tl) (ns++(e.take d).map (·.n)) r z wr)/\Hid (((e.take d).foldl (AY c) []).length<=d)) (λaf _=>t-(intOf af).toNat)
  case atStart=>exact⟨0,v,nv,iT _,rfl,by show TL _ _ _ _ _ _ _ _ _ _ _ _ _ _ _ _ _;rw[jP,kJ,kq,iC];exact am.o,by show _<=_;rw[jP];exact ir _⟩
  case round =>
   clear am;obtain⟨d,r,z,az,rfl,F,an⟩:=hrel;by_cases bm:d<t
   ·obtain⟨y,I⟩:∃y,e[d]?=some y:=⟨_,h9 (by rw[R.o];exact bm)⟩;have b7:(d:Int)<(t:Int):=by omega
    have ar:=Aa (show e.take (d+1)=e.take d++[y] by rw[ji,I];rfl)
    have ak:=Aa (show e.drop d=y::e.drop (d+1) by
       have a1:=iq.1 I
       rw[δ a1.1,a1.2])
    have J:=iz I;obtain⟨b1,b2⟩:=E.o.num y J;obtain⟨ai,bu,ca,cb,b3,b4⟩:=E.o.gJ y J;have bd:=Aa (E.o.ref y J)
    have ao:=Aa (show y.n ∉ ns++(e.take d).map (·.n) by
       have a:=E.o.eE;rw[show e=e.take d++e.drop d from(τ d e).symm,iB,ak.o,<-ε]at a;intro ad
       exact(jH.1 a).2.2 _ ad _ (by simp) rfl)
    have Q:=Aa (show TL w o u q k c m acc rel v nv ((e.take d).foldl (AY c) []) (enc y.n++(Ae [y.t,y.k,y.d]++(Ae (FA (e.drop (d+1)))++tl))) (ns++(e.take d).map (·.n)) r z wr by
       have a:=F.o;rw[ak.o]at a
       simpa only[FA,jz,BQ,B3,Dv,jv,ε,θ] using a)
    have S:=Aa (show(e.take (d+1)).foldl (AY c) []=AY c ((e.take d).foldl (AY c) []) y by rw[ar.o,jV];rfl);obtain⟨D,a5⟩:∃D,(e.take d).foldl (AY c) []=D:=⟨_,rfl⟩;rw[a5]at Q S an;have b8:D.length<=d:=an.o;clear F a5 J I;go_wp2_with fail
    refine(Q.o.num b1 b2 bi ao.o (by simp;omega)).mono ?_;rintro l n ⟨rfl,ah,ax⟩;have O:=Aa ax;clear ax Q ao;go_wp2_with fail
    have N:=Aa (show aD (n.alloc (.cells #[ι 0,ι 0,ι 0,ι y.n] 80)) n.heap.size [ι 0,ι 0,ι 0,ι y.n] 80 from aD.new n [_,_,_,_] _);have al:=Aa (O.o.still ((aA.refl (λ_=>False) n).alloc (.cells #[ι 0,ι 0,ι 0,ι y.n] 80)))
    have s:=Aa (show o≠n.heap.size/\u≠n.heap.size/\r≠some n.heap.size/\k≠n.heap.size/\ah.ownBlock≠some n.heap.size/\w.heap.size<=n.heap.size/\q<n.heap.size from by
       have a:=O.o;have ba:=a.tr.dM.lt
       exact⟨by have:=a.tr.aF.lt;omega,by have:=ba.1;omega,λl=>by have:=(ba.2 _ l).1;omega,by have:=a.kr.aF.lt;omega,λl=>by have:=(a.eP _ l).2;omega,a.kp.size,a.rd.aF.lt⟩)
    clear O;generalize(n.alloc (.cells #[ι 0,ι 0,ι 0,ι y.n] 80))=bv at *
    generalize n.heap.size=j at *
    refine(MU j bv).mono ?_;rintro l bz ⟨a9,rfl,ae,aa⟩;have ap:=Aa ae;have P:=Aa (al.o.still aa);have aj:=Aa (N.o.keeps aa id)
    have aq:=Aa (show ∀d,a9.ownBlock=some d->d≠q/\d≠j from λd az=>by
       have av:=(ae.lt d az).1;have aw:=N.o.lt;have b5:=s.o.2.2.2.2.2.2
       omega)
    clear ae aa al N;go_wp2_with fail
    refine(Mb q j [0,1,2] [y.t,y.k,y.d] [ι 0,ι 0,ι 0,ι y.n] 80 a9 _ _ bz P.o.rd (by have:=ap.o;unfold at' at this ⊢;rw[iu]at this;exact this) aj.o rfl (λce ad=>by simp at ad ⊢;omega) (by have:=s.o.2.2.2.2.2.2;omega) aq.o (λcd bp=>by simp at bp;omega) (by simp)).mono ?_;rintro l L ⟨rfl,a3,ay,a0⟩;have C:=Aa (P.o.hX (bx:=j) a0 a3 ⟨s.o.1,s.o.2.1,s.o.2.2.1,s.o.2.2.2.1,s.o.2.2.2.2.1,s.o.2.2.2.2.2.1⟩);have A:=Aa (show aD L j [ι y.t,ι y.k,ι y.d,ι y.n] 80 from ay);clear a3 ay a0 P aj ap aq;have T:=A.o.c0;have U:=A.o.c1;have V:=A.o.c2;have W:=A.o.c3;have ag:κ L k 0 (ι m):=C.o.kr.aF.cell rfl;obtain⟨bq,bl⟩:=El C.o.tr.aF 0 20 c.cells rfl rfl;have Z:=C.o.tr.aF.lt;have bn:Ab y.t 0 m=true:=by simp[Ab,ai,bu]
    go_wp2_with fail
    go_region_held3 (λh=>h.cell? ⟨j,0,none⟩=some (ι y.t)/\h.cell? ⟨j,1,none⟩=some (ι y.k)/\h.cell? ⟨j,2,none⟩=some (ι y.d)/\h.cell? ⟨j,3,none⟩=some (ι y.n)/\h.cell? ⟨k,0,none⟩=some (ι m)/\Ap h o 0 20=.agg c.cells.toArray/\Az h o 0 20=true)
     (first | (simp[*,A3,A4];done) | (go_split_ands;refine⟨i.cell (by assumption) id,i.cell (by assumption) id,i.cell (by assumption) id,i.cell (by assumption) id,i.cell (by assumption) id,(Cf i id (by simpa using Z)).1.trans (by assumption),(Cf i id (by simpa using Z)).2.trans (by assumption)⟩))
     (first | (go_at_call 34;refine(AN _ _ _ _).mono ?_;rintro l h ⟨rfl,rfl⟩;rw[bn]) | (go_at_call 113;refine(Ml c 5 y _ (by omega) (by omega) (λ_=>au.o) ai (by omega)).mono ?_;rintro l h ⟨rfl,i⟩;rw[bd.o]) | (go_at_call 124;refine(Gk q _).mono ?_;rintro l bb ⟨rfl,rfl⟩))
    have ab:lX L bb:=((aA.refl (λ_=>False) L).drew).then i;have x:=Aa (C.o.still ab);have B:=Aa (A.o.keeps ab id);clear i ab C A T U V W ag bq bl Z;generalize bb=M at *
    go_wp2_with fail
    refine(Mq q _ M x.o.rd).mono ?_;rintro l b0 ⟨rfl,a7⟩;rw[a7];clear a7 b0;have T:=B.o.c0;have U:=B.o.c1;have V:=B.o.c2;have W:=B.o.c3;have ag:κ M k 0 (ι m):=x.o.kr.aF.cell rfl;have G:=Aa (show ¬(j=u\/r=some j) from λa=>a.elim (λa=>s.o.2.1 a.symm) s.o.2.2.1);have bg:=Aa (show ¬(k=u\/r=some k) from λa=>a.elim (λa=>x.o.ap.2.2.2.1 a.symm) (λa=>(x.o.ag k a).2 rfl));go_wp2_with fail
    go_region_held3 (λh=>h.cell? ⟨j,0,none⟩=some (ι y.t)/\h.cell? ⟨j,1,none⟩=some (ι y.k)/\h.cell? ⟨j,2,none⟩=some (ι y.d)/\h.cell? ⟨j,3,none⟩=some (ι y.n)/\h.cell? ⟨k,0,none⟩=some (ι m))
     (first | (simp[*];done) | (go_split_ands;exact⟨i.cell (by assumption) G.o,i.cell (by assumption) G.o,i.cell (by assumption) G.o,i.cell (by assumption) G.o,i.cell (by assumption) bg.o⟩))
     (first | (go_at_call 159;refine(N3 o u r c D y m _ (by exact x.o.tr.still ((aA.refl (λ_=>False) M).drew)) au.o ai (by omega) bs bt (by omega)).mono ?_;rintro l h ⟨rfl,a8,a4,i,a2⟩))
    have bc:=Aa (show TL w o u q k c m acc rel v nv ((e.take (d+1)).foldl (AY c) []) (Ae (FA (e.drop (d+1)))++tl) (ns++(e.take (d+1)).map (·.n)) a8 ah h by
       rw[S.o,ar.o,iB,List.map_singleton,<-ε]
       exact(x.o.still ((aA.refl (λ_=>False) M).drew)).rel a4 i a2)
    have bf:=Aa (show((e.take (d+1)).foldl (AY c) []).length<=d+1 by
       rw[S.o];have:=Z1 c D y
       omega)
    clear a4 i a2 T U V W ag x B;go_wp2;go_roundw;case rel=>exact⟨d+1,a8,ah,by omega,by go_num,bc,bf⟩
    case measure=>simp[intOf];omega
   have bo:d=t:=by omega
   subst bo
   have bh:=Aa (show TL w o u q k c m acc rel v nv (e.foldl (AY c) []) tl (ns++e.map (·.n)) r z wr by
      have a:=F.o;rw[show e.take d=e from by rw[<-R.o];exact lg,show e.drop d=[] from by rw[<-R.o];exact kK]at a
      exact a)
   clear F;go_wp2;go_end0;exact⟨rfl,r,z,bh.o⟩
end
section
structure Good (n clock:Int) (x:aJ):Prop where
 i:aT n x
 sx:SX x
 z:SZ clock x
 c0:0<=clock
 c1:clock<=4611686018427387904
 n1:n<=1000000000000
theorem Good.rel{n clock:Int}{x:aJ}(a:Good n clock x): 0<=x.rel/\x.rel<=1000000000000:=by
 have c:=a.i.dJ;have d:=a.i.dE;have e:=a.i.dH;have h:=a.n1
 omega
theorem Good.ok{n clock:Int}{x:aJ}(a:Good n clock x): dL x:=MC a.sx a.i (by have:=a.rel;omega)
theorem Good.ld{n clock:Int}{x:aJ}(a:Good n clock x): gM x clock:=by
 have c:=F7 x.k x.c a.i.k1 a.i.k5;have j:=a.i.common;have h:=a.rel;have d:=a.ok;refine⟨a.sx.fS,d.cfg,d.p0,d.p3,a.i.kind,a.i.k1,a.i.k5,KE x.k x.c a.i.k1 a.i.k5 a.i.valid a.i.kind,λi=>?_,h.1,?_,by omega,a.c0,a.c1,by rw[c.2.1];omega,by rw[c.2.2.2];omega⟩
 ·unfold Ac;rw[γ];cases hj:x.ref[i]? with
  | none=>simp
  | some e=>exact⟨(a.i.cN e (iz hj)).1,a.sx.fA e (iz hj)⟩
 have:Dw (Al x.k x.c) clock=Dw x.c clock:=by unfold Dw;rw[c.2.1,c.2.2.2]
 rw[this];exact a.z.most
theorem Good.bC{n clock:Int}{x:aJ}(a:Good n clock x): gL x (Qi.allL (x.l.length+1) x.l) clock:=by
 have c:=F7 x.k x.c a.i.k1 a.i.k5;have d:=Ip (x.l.length+1) x.l (by omega) a.i.heap;have hlen:=d.length_eq;refine⟨hlen,by rw[hlen,c.2.2.2];exact a.i.cap,λy e=>?_,(d.map (·.n)).nodup_iff.2 (jH.1 a.z.eE).1,a.ok.buf,λh y e=>?_⟩
 ·have:=a.z.num y (d.subset e);rw[hlen,a.i.dE];exact this
 have i:y∈x.l:=d.subset (iz e);have o:h<(Qi.allL (x.l.length+1) x.l).length:=(iq.1 e).1;have m:=a.z.due y i;have k:=a.i.times y i;have l:=a.i.cap;have j:(Cs x.k ((Qi.allL (x.l.length+1) x.l).take h)).length=h:=by rw[Oi,iG];omega
 unfold bO;show(if Ab (A7 x.k y).t 0 4611686018427387904=true then if (A7 x.k y).t<=clock-(Al x.k x.c).aL then 6 else if clock+(Al x.k x.c).bF<(A7 x.k y).t then 7 else if AP (Al x.k x.c) x.k (A7 x.k y)≠0 then AP (Al x.k x.c) x.k (A7 x.k y) else if (Al x.k x.c).cap<=((Cs x.k ((Qi.allL (x.l.length+1) x.l).take h)).length:Int) then 11 else if (4611686018427387904:Int)<=0 then 11 else 0 else 5)=0;rw[F0,c.2.1,c.2.2.1,c.2.2.2,j,Nh x.k x.c y a.i.k1 a.i.k5,a.i.fits y i];rw[ij (by simp only[Ab,iQ,iP];exact k),ig (by omega),ig (by omega),ig (by simp),ig (by omega),ig (by omega)]
theorem Good.dec{n clock:Int}{x:aJ}(a:Good n clock x)(e:x.k=4): (x.nt.q<x.rel\/x.nt.r=0)/\(0<x.nt.q\/x.rel<=x.nt.r):=by
 have c:=a.z.note.dec e;have d:=a.i.note.r0;have h:=a.i.note.q0;have i:=a.i.note.qn;omega
theorem Good.bL{n clock:Int}{x:aJ}(h:Good n clock x)(e:x.k=1): ∃a,x.nt.bs=AB a/\Ga x.nt.bs=(a.length:Int)::Ee a/\gU x.c.k (clock-x.c.aL) x.rel a:=by
 obtain⟨⟨a,c,i⟩,s,z⟩:=h.z.note.bL e;rw[PR]at c;have I:=Ek h.i.valid h.i.kind e;have u:=h.i.note.sum;have j:=h.i.note.one;have H:=h.rel;rw[c]at u j;have hlen:a.length<=62:=by
  cases a with
  | nil=>simp
  | cons g a =>
   cases g with
   | nil=>exact absurd i.1 (by simp)
   | cons k g =>
    have A:Ao (AB ((k::g)::a))=2 ^ a.length+Ao (g.map (λk=>(⟨2 ^ a.length,k⟩:Bk))++AB a):=rfl;have q:=Ej (l:=g.map (λk=>(⟨2 ^ a.length,k⟩:Bk))++AB a) (λb c=>j b (j8 _ c));have r:(2:Int) ^ a.length<=1000000000000:=by omega
    rw[iD];refine Nat.le_of_not_lt (λG=>?_);have B:(2:Nat) ^ 62<=2 ^ a.length:=jr (by omega) (by omega);have t:(2:Int) ^ a.length=((2 ^ a.length:Nat):Int):=by simp
    rw[t]at r;have C:(2:Nat) ^ 62=4611686018427387904:=by decide
    omega
 refine⟨a,c,by rw[c];exact zOa i,hlen,λg d=>?_,λg d=>?_,λg d=>?_,λb m=>?_,?_,u,?_⟩
 ·cases a with
  | nil=>cases d
  | cons o a =>
   rcases iA.1 d with e | e
   ·subst e;have:=i.2.1;omega
   have:=(i.2.2 g e).2;omega
 ·cases a with
  | nil=>cases d
  | cons o a =>
   have:o=g:=by simpa using d
   subst this;exact i.1
 ·cases a with
  | nil=>cases d
  | cons o a=>have:=(i.2.2 g d).1;omega
 ·have A:=z b.t (by rw[c];exact iK m);have q:0<x.rel:=by
   obtain⟨D,E,F⟩:=List.append_of_mem m;have r:=Ej (l:=AB a) j;have B:1<=Ao (AB a):=by
    cases hbk:AB a with
    | nil=>rw[hbk]at m;cases m
    | cons v w =>
     have t:=Ej (l:=w) (λb c=>j b (by rw[hbk];exact j8 _ c));have C:=j v (by rw[hbk];simp);show 1<=v.sz+Ao w;omega
   omega
  have r:=h.z.mark q;omega
 ·rw[c,List.pairwise_map]at s;exact s
 have:=Zr a i;have q:a.length*(x.c.k.toNat+1)<=62*11:=Nat.mul_le_mul hlen (by omega);omega
theorem zLt(c:Cfg)(m:Int)(e:Nat->List Bk)(n:Nat): DI e n (m-c.aB)=EK (λh=>AX c m (e h)) n 0:=by
 have i:∀d:List Bk,EM d (m-c.aB)=((AX c m d).length:Int)::CE (AX c m d):=λd=>by
  unfold EM AX;rw[iU]
 have:∀n a,(List.range' a n).flatMap (λj=>EM (e j) (m-c.aB))=EK (λh=>AX c m (e h)) n a:=by
  intro n;induction n with
  | zero=>intro a;rfl
  | succ n k =>
   intro a;rw[kU,jz,k (a+1),i];rfl
 unfold DI;rw[List.range_eq_range'];exact this n 0
theorem Good.dS{n clock:Int}{x:aJ}(d:Good n clock x)(e:x.k=2): gV (clock-x.c.aL) x.rel (B1 x.c) (λj=>AX x.c (clock-x.c.aL) (x.nt.rg j)):=by
 obtain⟨q,r,t⟩:=d.z.note.dS e;have i:∀c b,b∈AX x.c (clock-x.c.aL) (x.nt.rg c)->b∈x.nt.rg c:=λc b h=>iE h;have hlen:∀c,(AX x.c (clock-x.c.aL) (x.nt.rg c)).length<=(x.nt.rg c).length:=λc=>by unfold AX;rw[iU];omega
 refine⟨λc=>?_,λc b h=>?_,λc=>(q c).drop _,?_⟩
 ·have k:=Kd (x.nt.rg c) 40 (d.sx.note.rf c) (d.i.note.rk c);have l:=hlen c;omega
 ·have k:=r c b (i c b h);have l:=d.i.note.rk c b (i c b h);have m:0<x.rel:=by
   have o:=d.i.note.rl c;have s:=List.length_pos_of_mem (i c b h);omega
  have o:=d.z.mark m;omega
 have:=Pr (a:=λj=>AX x.c (clock-x.c.aL) (x.nt.rg j)) (b:=x.nt.rg) hlen (B1 x.c) 0;omega
theorem Good.dY{n clock:Int}{x:aJ}(d:Good n clock x)(e:x.k=3): gW x.c x.c.rows.toNat x.c.width.toNat (clock-x.c.aL) x.rel (A6 x.c x.nt.op x.nt.cl (clock-x.c.aL-x.c.aB))/\(0<=clock-x.c.aL\/A6 x.c x.nt.op x.nt.cl (clock-x.c.aL-x.c.aB)=[]):=by
 have E:=(D5 d.i.valid d.i.kind e).2.2.1;have h:=d.i.note.oi e;obtain⟨u,j,v⟩:=LO (t:=clock-x.c.aL-x.c.aB) (d.z.note.dY e) h (by omega);have s:∀p,p∈A6 x.c x.nt.op x.nt.cl (clock-x.c.aL-x.c.aB)->x.last<=clock-x.c.aL:=λp c=>by
  refine d.z.mark ?_;have o:=(j p c).2.2.1.s0;have k:sP x.c.width.toNat p<=Bp ((A6 x.c x.nt.op x.nt.cl (clock-x.c.aL-x.c.aB)).map (sP x.c.width.toNat)):=by
   obtain⟨m,b,q⟩:=List.append_of_mem c;have r:∀a,a∈m++p::b->0<=sP x.c.width.toNat a:=λa i=>by have:=(j a (by rw[q];exact i)).2.2.1.s0;omega
   rw[q,iB,Gu,iF,Gl];have A:=KT (m.map (sP x.c.width.toNat)) (λz l=>by obtain⟨a,i,rfl⟩:=iI.1 l;exact r a (by simp[i]));have B:=KT (b.map (sP x.c.width.toNat)) (λz l=>by obtain⟨a,i,rfl⟩:=iI.1 l;exact r a (by simp[i]));omega
  omega
 refine⟨⟨?_,u,λp c=>?_,λp c=>(j p c).2.2.1,v⟩,?_⟩
 ·have:=h.len;unfold A6;rw[ic,iU];split
  ·simp;omega
  simp;omega
 ·have o:=s p c;have k:0<=p.no/\p.no*Ag x.c<=x.last:=by
   rcases(j p c).2.2.2 with e | e
   ·have w:=h.lt p e;have C:=j1 (show p.no<=x.nt.op.no by omega) (show 0<=Ag x.c by omega);have D:=h.fU;exact⟨w.1,by omega⟩
   rw[e];exact⟨h.gI,h.fU⟩
  exact⟨k.1,Int.le_ediv_of_mul_le (by omega) (by omega)⟩
 cases hP:A6 x.c x.nt.op x.nt.cl (clock-x.c.aL-x.c.aB) with
 | nil=>exact .inr rfl
 | cons p F =>
  have o:=s p (by rw[hP];simp);have k:=d.i.eB;exact .inl (by omega)
theorem YR(l:List Dr.It): FA (l.map E7)=Cz l:=by
 unfold FA Cz;rw[List.flatMap_map];rfl
theorem Good.cZ{n clock:Int}{x:aJ}(c:Good n clock x)(e:x.k=5): gX x.c (clock-x.c.aL) x.acc x.rel ((Qi.allL (x.l.length+1) x.l).map (·.n)) ((Dr.allL (x.nt.tk.length+1) x.nt.tk).map E7):=by
 obtain⟨u,l,m⟩:=c.z.note.cZ e;have d:=(Dr.dV (x.nt.tk.length+1) x.nt.tk (by omega) u).1;have t:=Ip (x.l.length+1) x.l (by omega) c.i.heap;have s:((Dr.allL (x.nt.tk.length+1) x.nt.tk).map E7).map (·.n)=(Dr.allL (x.nt.tk.length+1) x.nt.tk).map (·.n):=by rw[kk];rfl
 refine⟨by rw[iu,d.length_eq];exact l,λy i=>?_,?_,λy i=>?_,λy i=>?_⟩
 ·obtain⟨a,h,rfl⟩:=iI.1 i;exact c.z.fM a (d.subset h)
 ·rw[s];exact((t.map _).append (d.map _)).nodup_iff.2 c.z.eE
 ·obtain⟨a,h,rfl⟩:=iI.1 i;have j:=m a (d.subset h);have o:=OW j.2.1;have q:0<x.rel:=by
   have r:=List.length_pos_of_mem (d.subset h);have k:=c.rel;split at l <;> omega
  have r:=c.z.mark q;have k:(E7 a).t=a.t:=rfl;refine⟨j.2.2.1,by rw[k];omega,o.1.1,by omega,by omega,by omega⟩
 obtain⟨a,h,rfl⟩:=iI.1 i;exact(m a (d.subset h)).2.1
theorem YU{k j:World}{O:Obj}{e:Nat}{v nv:Value}{clock:Int}{ps:List (SB×aJ)}{b2:SB}{x:aJ}{gg m z:Nat}(i:aX k e v clock ps)(E:ps.length=m)(F:nv=σ gg (m+1) z)(w:bJ k b2 x)(l:∀a,b2.aQ x.k a->¬aN e v ps a)(G:j.ownsRow 0 66 1 nv (m+1) (Ba ps++[π b2.s]))(C:(k.alloc O).grownBy j v.ownBlock)(n:v.ownBlock=some gg\/gg=k.heap.size+1):
  aX (j.setCell ⟨e,1,none⟩ nv) e nv clock (ps++[(b2,x)])/\aA (aN e v ps) k (j.setCell ⟨e,1,none⟩ nv)/\(∀a,aN e nv (ps++[(b2,x)]) a->aN e v ps a\/b2.aQ x.k a\/k.heap.size<=a):=by
 have r:nv.ownBlock=some gg:=by rw[F];rfl
 have o:aA (λa=>v.ownBlock=some a) k j:=((aA.refl (λa=>v.ownBlock=some a) k).alloc O).grown C (λM D=>Or.inl D);have q:aA (λa=>a=e) j (j.setCell ⟨e,1,none⟩ nv):=(aA.refl (λa=>a=e) j).setCell (p:=⟨e,1,none⟩) (Or.inl rfl) _;have L:=i.aF.lt;have B:gg≠e:=by
  rcases n with d | d
  ·intro A;exact i.ev (by rw[d,A])
  omega
 have I:bJ j b2 x:=w.keeps o (λa c d=>l a c (.inr (.inl d)));refine⟨⟨?_,?_,?_,?_,?_,?_⟩,?_,?_⟩
 ·exact(i.aF.keeps o (λd=>i.ev d)).setCell 1 nv
 ·have:=An G q (λa c d=>by rw[r]at c;injection c with c;omega);rw[Od,ic,E];exact this
 ·intro p h;rcases ik.1 h with h | h
  ·exact((i.bM p h).keeps o (λa c d=>(i.ef p h a c).2 d)).keeps q (λa c d=>(i.ef p h a c).1 d)
  rw[im]at h;subst h;exact I.keeps q (λa c d=>l a c (.inl d))
 ·refine jb.2 ⟨i.apart,j7 _ _,?_⟩;intro p h N u a c H;rw[im]at u;subst u;exact l a H (.inr (.inr ⟨p,h,c⟩))
 ·rw[r];intro d;injection d with d;exact B d
 ·intro p h a c;rw[r];rcases ik.1 h with h | h
  ·refine⟨(i.ef p h a c).1,λd=>?_⟩;injection d with d;have J:=(i.bM p h).lt a c;rcases n with s | s
   ·exact(i.ef p h a c).2 (by rw[s,d])
   omega
  rw[im]at h;subst h;have s:=w.lt a c;refine⟨λd=>l a c (.inl d),λd=>?_⟩;injection d with d;rcases n with t | t
  ·exact l a c (.inr (.inl (by rw[t,d])))
  omega
 ·exact(o.mono (M':=aN e v ps) (λa _ d=>.inr (.inl d))).trans q (λa c _=>.inl c)
 intro a c;rcases c with c | c | ⟨p,h,c⟩
 ·exact .inl (.inl c)
 ·rw[r]at c;injection c with c;rcases n with d | d
  ·exact .inl (.inr (.inl (by rw[d,c])))
  exact .inr (.inr (by omega))
 rcases ik.1 h with h | h
 ·exact .inl (.inr (.inr ⟨p,h,c⟩))
 rw[im]at h;subst h;exact .inr (.inl c)
structure fN (xs:List aJ) (can:aJ->aJ) (clock:Int):Prop where
 bX:xs.length<=6
 c0:0<=clock
 c1:clock<=4611686018427387904
 ids:(xs.map (·.id)).Nodup
 hB:∀x,x∈xs->(can x).id=x.id
 aI:∀x,x∈xs->D9 clock (can x)=D9 clock x
 ok:∀x,x∈xs->dL (can x)
 len:(FS clock xs).length<=140737488355328
 sum:0<=CJ (Er clock xs)/\CJ (Er clock xs)<=9223372036854775807
 ld:∀x,x∈xs->∀(r:Nat) (tl:List Nat) (w:World),aR w r (Ae (D9 clock x)++tl)->Calls prog 78 #[π r,ι clock] w λe w'=>∃sb:SB,e=.returned (π sb.s)/\bJ w' sb (can x)/\aR w' r tl/\(∀i,sb.aQ (can x).k i->w.heap.size<=i)/\aA (λi=>i=r) w w'
theorem Wz{a:List aJ}{can:aJ->aJ}{clock:Int}(d:∀c,c∈a->D9 clock (can c)=D9 clock c): DC clock (a.map can)=DC clock a:=by
 have e:By clock (a.map can)=By clock a:=by
  unfold By;rw[List.flatMap_map];induction a with
  | nil=>rfl
  | cons c j i =>
   rw[jz,jz,d c (by simp),i (λy h=>d y (by simp[h]))]
 unfold DC FS Er FN;rw[e,iu]
attribute [local go_sem ↓ 2000] NW
theorem Ws(h:List aJ)(can:aJ->aJ)(clock:Int)(w:World)(d:fN h can clock):
  Calls prog 50 #[.string (DC clock h)] w λq O=>∃(e:Nat) (v:Value) (ps:List (SB×aJ)),q=.returned (π e)/\aX O e v clock ps/\ps.map (·.2)=h.map can/\(∀c,aN e v ps c->w.heap.size<=c)/\lX w O:=by
 have x:=Aa d;have c0:=d.c0;have c1:=d.c1;have bX:=d.bX;obtain⟨t,a0⟩:∃t,enc (CJ (Er clock h))=t:=⟨_,rfl⟩;have ab:FS clock h=Bz++(enc clock++(enc (h.length:Int)++(Ae (By clock h)++t))):=by
  unfold FS;rw[a0];unfold Er FN;rw[BQ,BQ];simp only[ε]
 have hlen:=d.len;rw[ab]at hlen;have U:DC clock h=AQ (Bz++(enc clock++(enc (h.length:Int)++(Ae (By clock h)++t)))):=by unfold DC;rw[ab]
 have b3:=Aa U;have S:=Aa (Td (enc clock++(enc (h.length:Int)++(Ae (By clock h)++t))) w (by rw[ic]at hlen;omega));rw[<-U]at S;clear d a0 ab hlen U;generalize a1:DC clock h=bx at *
 have bf:=Aa a1;clear a1;generalize au:h.length=A at *
 have R:=Aa au;clear au;go_enter func50,ntmps50;go_wp2_with fail
 refine S.o.mono ?_;rintro q bz ⟨j,rfl,cb,Z,ar⟩;have Q:=Aa ar;have b9:=Z.aF.lt;have aj:=Aa Z;clear Z ar S;go_wp2_with fail
 refine(EP j clock 0 4611686018427387904 _ bz aj.o c0 (by omega) c0 c1).mono ?_;rintro q r ⟨rfl,ax,V⟩;have cc:=V.size;have ae:=Aa (show aX (r.alloc (.cells #[ι clock,.slice none 0 0] 53)) r.heap.size (.slice none 0 0) clock [] from⟨aD.new r [_,_] _,iy _ _ _ _,λp o=>by simp at o,ν,by simp[Value.ownBlock],λp o=>by simp at o⟩);have ak:=Aa (ax.keeps ((aA.refl (λ_=>False) r).alloc (.cells #[ι clock,.slice none 0 0] 53)) id);have ag:=Aa (show lX w (r.alloc (.cells #[ι clock,.slice none 0 0] 53)) from(Q.o.trans V (λc z X=>by have n:c=j:=z;omega)).alloc _);have ce:w.heap.size<=r.heap.size:=by have:=Q.o.size;omega
 clear ax V aj Q;go_wp2_with fail
 generalize r.alloc (.cells #[ι clock,.slice none 0 0] 53)=b0 at *
 generalize r.heap.size=e at *
 refine(EP j (A:Int) 0 6 _ b0 ak.o (by omega) (by omega) (by omega) (by omega)).mono ?_;rintro q b1 ⟨rfl,ay,W⟩
 have af:=Aa (ae.o.eZ W (λc z=>by
      rcases z with d | d | ⟨p,o,_⟩
      ·intro n;have bj:c=j:=n;omega
      ·simp[Value.ownBlock]at d
      simp at o))
 have al:=Aa ay;have ah:=Aa (show lX w b1 from ag.o.trans W (λc z X=>by have n:c=j:=z;omega));clear ay W ae ak ag;go_wp2_with fail
 go_loopw [14] (λad wr=>∃(c:Nat) (v:Value) (ps:List (SB×aJ)),c<=A/\ad=ι c/\Hid (aX wr e v clock ps)/\Hid (ps.map (·.2)=(h.take c).map can)/\Hid (aR wr j (Ae (By clock (h.drop c))++t))/\Hid (∀a,aN e v ps a->w.heap.size<=a/\a≠j)/\Hid (lX w wr)) (λad _=>A-(intOf ad).toNat)
 case atStart=>exact⟨0,.slice none 0 0,[],by omega,rfl,af,rfl,al,(λa i=>by
      rcases i with d | d | ⟨p,o,_⟩
      ·exact⟨by omega,by omega⟩
      ·simp[Value.ownBlock]at d
      simp at o),ah⟩
 case round =>
  clear af al ah;obtain⟨c,v,ps,z,rfl,u,I,J,C,G⟩:=hrel
  have D:=Aa (show ps.length=c by
     have:=congrArg List.length I.o;rw[iu,iu,iG,R.o]at this
     omega)
  by_cases bp:c<A
  ·have E:c<h.length:=by rw[R.o];exact bp
   obtain⟨k,l⟩:∃k,h[c]?=some k:=⟨_,h9 E⟩;have a5:=iz l
   have ai:=Aa (x.o.ld k a5 j (Ae (By clock (h.drop (c+1)))++t) wr (by
        have L:By clock (h.drop c)=D9 clock k++By clock (h.drop (c+1)):=by
         rw[δ E];rw[h9 E]at l;injection l with l;rw[l];simp[By]
        have n:=J.o;rw[L,B3,ε]at n
        exact n))
   have bg:=Aa (show(h.take (c+1)).map can=(h.take c).map can++[can k] by
      rw[ji,l,iB];rfl)
   have bb:=Aa (show Cj ps (can k).id=none by
      unfold Cj;rw[lB];intro p o bq;have ap:p.2.id=(can k).id:=by simpa using bq
      have br:p.2∈(h.take c).map can:=by rw[<-I.o];exact iK o
      obtain⟨y,F,bt⟩:=iI.1 br;rw[<-bt,x.o.hB y (iZ F),x.o.hB k a5]at ap;obtain⟨a,i,aq⟩:=jX.1 F;rw[iG]at i;rw[List.getElem_take]at aq;rw[h9 E]at l;injection l with l;have av:=List.pairwise_iff_getElem.1 x.o.ids a c (by rw[iu];omega) (by rw[iu];exact E) (by omega);rw[lk,lk,aq,l]at av
      exact av ap)
   have bl:=u.o.aF.c0;have b7:(c:Int)<(A:Int):=by omega
   go_wp2_with fail
   refine ai.o.mono ?_;rintro q B ⟨N,rfl,aa,az,Y,s⟩;have m:=Aa (u.o.eZ s (λa i=>(C.o a i).2));have be:=Aa aa;have am:=Aa az;have b6:=aa.aF.c0
   have ba:=Aa (show ∀a,N.aQ (can k).k a->¬aN e v ps a from λa i bk=>by
      have L:=Y a i;have n:=u.o.lt a bk
      omega)
   have bc:=Aa (show ∀a,N.aQ (can k).k a->w.heap.size<=a/\a≠j from λa i=>by
      have L:=Y a i;have n:=G.o.size;have bj:=J.o.aF.lt
      omega)
   have H:=Aa (show lX w B from G.o.trans s (λa i X=>by have n:a=j:=i;omega));have P:=Aa (ET e v clock (can k).id ps B m.o (by rw[D.o];omega));rw[bb.o]at P;clear aa az Y s bl ai u J G l;go_wp2_with fail
   refine P.o.mono ?_;rintro q b2 ⟨rfl,a4⟩;rw[a4];clear a4 b2 P;obtain⟨a7,a8,a2,cd⟩:=D6 m.o.row;rw[D.o]at a2;subst a2;have bs:=m.o.aF.c1;have bn:=m.o.aF.frozen;obtain⟨bi,bh,a9,ca,aw,M,ao,b8⟩:=Ob B a7 c a8 (Ba ps) (π N.s) rfl (by have:=m.o.row;rw[D.o]at this;exact this) (by omega);have bm:=m.o.aF.lt;have b4:a9.cell? ⟨e,1,none⟩=some (.slice a7 c a8):=by
    rw[M.cell_far ⟨e,1,none⟩ (by simp;omega) (λd=>m.o.ev d.symm),lM _ _ _ bm];exact bs
   have b5:∀a,a9.frozen? ⟨e,a,none⟩=false:=λa=>by
    rw[M.frozen_far ⟨e,a,none⟩ (by simp;omega) (λd=>m.o.ev d.symm),World.frozen?_alloc_old _ _ _ (by show e≠_;omega)];exact bn a
   have bd:=Aa (YU (nv:=σ bi (c+1) bh) m.o D.o rfl be.o ba.o aw M ao);clear aw M ao;unfold EH;go_wp2;go_roundw;case rel =>
    obtain⟨bu,a6,bv⟩:=bd.o;refine⟨c+1,_,ps++[(N,can k)],by omega,by go_num,Aa bu,Aa (by rw[iB,I.o,bg.o];rfl),Aa (am.o.keeps a6 (λd=>(C.o j d).2 rfl)),Aa (λa i=>?_),Aa (H.o.trans a6 (λa i X=>by have:=(C.o a i).1;omega))⟩;rcases bv a i with d | d | d
    ·exact C.o a d
    ·exact bc.o a d
    have L:=H.o.size;have n:=am.o.aF.lt;omega
   case measure=>simp[intOf];omega
  have bo:c=A:=by omega
  subst bo
  have T:=Aa (show ps.map (·.2)=h.map can by
     have:=I.o;rw[iw (by rw[R.o];exact ir _)]at this
     exact this)
  have an:=Aa (show Calls prog 25 #[π e] wr λj O=>j=.returned (.string bx)/\lX wr O by
     have:=Py e v clock ps wr u.o (λy F=>by
        rw[T.o]at F;obtain⟨k,l,rfl⟩:=iI.1 F
        exact x.o.ok k l) (by rw[D.o];omega) c0 c1
     rw[T.o,Wz x.o.aI,bf.o]at this
     exact this)
  go_wp2_with fail
  refine(Mq j _ wr J.o).mono ?_;rintro q B ⟨rfl,a3⟩;rw[a3];clear a3 B;go_wp2_with fail
  refine an.o.mono ?_;rintro q B ⟨rfl,s⟩;have m:=Aa (u.o.still s);have H:=Aa (G.o.then s);clear s an;go_wp2;go_ret;exact⟨e,v,ps,rfl,m.o,T.o,λa i=>(C.o a i).1,H.o⟩
end
section
def Iz(k r kn:Nat)(nb:NB)(nv:Value)(ck:Cfg)(nt':aU)(tl:List Nat)(w1:World): Prop :=
 Calls prog (Iy k) (Et nb.d++#[π r,π kn]) w1 λe w2=>e=.returned (.tuple #[])/\∃nb':NB,nb'.d=nb.d/\cB w2 k nb' ck nt'/\(∀i,BK k nb' i->BK k nb i\/w1.heap.size<=i)/\aR w2 r tl/\aA (λi=>i=r\/i=kn\/nv.ownBlock=some i\/BK k nb i) w1 w2
structure fD (k r kn:Nat) (nb:NB) (nv:Value) (ck:Cfg) (m acc rel:Int) (ns nn:List Int) (tl:List Nat) (w1:World):Prop where
 n:cB w1 k nb ck CH
 rd:aR w1 r (Ae nn++tl)
 kr:dB w1 kn m acc rel nv ns
 fr:¬BK k nb r
 fk:¬BK k nb kn
 fv:∀i,nv.ownBlock=some i->¬BK k nb i
 rk:r<kn
 m1:m<=4611686018427387904
 r0:0<=rel
 r1:rel<=4611686018427387904
theorem Nt{w:World}{e j:Nat}{h d:Option Nat}(k:d=h\/∃c,d=some c/\w.heap.size<=c){i:Nat}(a:i=e\/i=j\/d=some i): (i=e\/i=j\/h=some i)\/w.heap.size<=i:=by
 rcases a with a | a | a
 ·exact .inl (.inl a)
 ·exact .inl (.inr (.inl a))
 rcases k with f | ⟨c,f,l⟩
 ·exact .inl (.inr (.inr (by rw[<-f];exact a)))
 rw[a]at f;have:=jD f;exact .inr (by omega)
theorem ID{e h:Nat}{d:NB}{nv:Value}{ck:Cfg}{m acc rel:Int}{ns:List Int}{i:List (List Int)}{tl:List Nat}{l:World}(c:fD 1 e h d nv ck m acc rel ns ((i.length:Int)::Ee i) tl l)(q:gU ck.k m rel i)(s:1<=ck.k)(t:ck.k<=10): Iz 1 e h d nv ck { CH with bs:=AB i } tl l:=by
 have o:d.d≠e/\d.r≠e/\d.g≠some e:=⟨λa=>c.fr (.inl ⟨rfl,.inl a.symm⟩),λa=>c.fr (.inl ⟨rfl,.inr (.inl a.symm)⟩),λa=>c.fr (.inl ⟨rfl,.inr (.inr a)⟩)⟩;have n:h≠e/\h≠d.r/\d.g≠some h:=⟨by have:=c.rk;omega,λa=>c.fk (.inl ⟨rfl,.inr (.inl a)⟩),λa=>c.fk (.inl ⟨rfl,.inr (.inr a)⟩)⟩;refine(U5 d.d d.r e h d.g ck m acc rel nv i tl l (c.n.bL rfl) c.rd c.kr.aF o n q s t c.m1 c.r1).mono ?_;rintro a v ⟨rfl,u,k⟩;refine⟨rfl,{ d with g:=u },rfl,⟨λa=>(by cases a),λ_=>k.cr,λa=>(by cases a),λa=>(by cases a),λa=>(by cases a)⟩,λr j=>?_,k.rd,k.kp.mono (λr _ j=>?_)⟩
 ·rcases j with ⟨_,j⟩ | ⟨a,_⟩ | ⟨a,_⟩ | ⟨a,_⟩ | ⟨a,_⟩
  ·rcases Nt k.fo j with f | f
   ·exact .inl (.inl ⟨rfl,f⟩)
   exact .inr f
  ·cases a
  ·cases a
  ·cases a
  cases a
 rcases j with f | f | f
 ·exact .inl f
 ·exact .inr (.inr (.inr (.inl ⟨rfl,.inr (.inl f)⟩)))
 exact .inr (.inr (.inr (.inl ⟨rfl,.inr (.inr f)⟩)))
theorem IE{j o n:Nat}{c:NB}{nv:Value}{ck:Cfg}{m acc rel:Int}{ns:List Int}{lv:Nat->List Bk}{tl:List Nat}{t:World}(r:B1 ck=n)(e:fD 2 j o c nv ck m acc rel ns (EK lv n 0) tl t)(A:gV m rel n lv)(D:n<=16): Iz 2 j o c nv ck { CH with rg:=lv } tl t:=by
 have x:c.d≠j/\c.r≠j/\(∀d,d<c.qs.length->¬qf (Ar c.qs d) j):=⟨λa=>e.fr (.inr (.inr (.inl ⟨rfl,.inl a.symm⟩))),λa=>e.fr (.inr (.inr (.inl ⟨rfl,.inr (.inl a.symm)⟩))),λd k a=>e.fr (.inr (.inr (.inl ⟨rfl,.inr (.inr ⟨d,k,a⟩)⟩)))⟩;have w:o≠j/\(∀d,d<c.qs.length->¬qf (Ar c.qs d) o):=⟨by have:=e.rk;omega,λd k a=>e.fk (.inr (.inr (.inl ⟨rfl,.inr (.inr ⟨d,k,a⟩)⟩)))⟩;have u:=(e.n.dS rfl).2;refine(UL c.d c.r j o n c.qs ck m acc rel nv lv tl t (e.n.dS rfl).1 (by rw[u,r]) e.rd e.kr.aF x w A D e.m1).mono ?_;rintro a F ⟨rfl,E,s,B,h⟩;have v:s.length=n:=by rw[h.ln,u,r]
 refine⟨rfl,{ c with qs:=s },rfl,⟨λa=>(by cases a),λa=>(by cases a),λ_=>⟨⟨h.dr.aF,h.dr.fK,λl i=>?_,h.dr.dj,h.dr.nd,h.dr.dr⟩,by rw[r];exact v⟩,λa=>(by cases a),λa=>(by cases a)⟩,λl i=>?_,h.rd,h.kp.mono (λl _ i=>?_)⟩
 ·have:=h.dr.row l i;rw[B l (by rw[<-v];exact i)]at this;exact this
 ·rcases i with ⟨a,_⟩ | ⟨a,_⟩ | ⟨_,i⟩ | ⟨a,_⟩ | ⟨a,_⟩
  ·cases a
  ·cases a
  ·rcases i with f | f | ⟨d,k,f⟩
   ·exact .inl (.inr (.inr (.inl ⟨rfl,.inl f⟩)))
   ·exact .inl (.inr (.inr (.inl ⟨rfl,.inr (.inl f)⟩)))
   rcases h.fo d l k f with ⟨C,z,q⟩ | q
   ·exact .inl (.inr (.inr (.inl ⟨rfl,.inr (.inr ⟨C,z,q⟩)⟩)))
   exact .inr q
  ·cases a
  cases a
 rcases i with f | f
 ·exact .inl f
 exact .inr (.inr (.inr (.inr (.inr (.inl ⟨rfl,.inr (.inr f)⟩)))))
theorem IF{h e R W:Nat}{d:NB}{nv:Value}{ck:Cfg}{m acc rel:Int}{ns:List Int}{ps:List Pa.Pn}{tl:List Nat}{k:World}(c:fD 3 h e d nv ck m acc rel ns ((ps.length:Int)::Co ck ps) tl k)(s:gW ck R W m rel ps)(q:ck.rows=(R:Int))(r:ck.width=(W:Int))(t:ck.paned)(u:ck.rowed)(o:1<=Ag ck)(w:0<=m\/ps=[]): Iz 3 h e d nv ck { CH with op:=(Ef ps).1,cl:=(Ef ps).2 } tl k:=by
 have n:d.d≠h/\d.r≠h/\d.g≠some h:=⟨λa=>c.fr (.inr (.inr (.inr (.inl ⟨rfl,.inl a.symm⟩)))),λa=>c.fr (.inr (.inr (.inr (.inl ⟨rfl,.inr (.inl a.symm)⟩)))),λa=>c.fr (.inr (.inr (.inr (.inl ⟨rfl,.inr (.inr a)⟩))))⟩;have l:e≠h/\e≠d.d/\e≠d.r/\d.g≠some e:=⟨by have:=c.rk;omega,λa=>c.fk (.inr (.inr (.inr (.inl ⟨rfl,.inl a⟩)))),λa=>c.fk (.inr (.inr (.inr (.inl ⟨rfl,.inr (.inl a)⟩)))),λa=>c.fk (.inr (.inr (.inr (.inl ⟨rfl,.inr (.inr a)⟩))))⟩;refine(U3 d.d d.r h e R W d.g ck m acc rel nv ps tl k (c.n.dY rfl) c.rd c.kr.aF n l s q r t u o w c.m1 c.r1 c.r0).mono ?_;rintro a z ⟨rfl,x,j⟩;refine⟨rfl,{ d with g:=x },rfl,⟨λa=>(by cases a),λa=>(by cases a),λa=>(by cases a),λ_=>j.eQ,λa=>(by cases a)⟩,λv i=>?_,j.rd,j.kp.mono (λv _ i=>?_)⟩
 ·rcases i with ⟨a,_⟩ | ⟨a,_⟩ | ⟨a,_⟩ | ⟨_,i⟩ | ⟨a,_⟩
  ·cases a
  ·cases a
  ·cases a
  ·rcases Nt j.fo i with f | f
   ·exact .inl (.inr (.inr (.inr (.inl ⟨rfl,f⟩))))
   exact .inr f
  cases a
 rcases i with f | f
 ·exact .inl f
 exact .inr (.inr (.inr (.inr (.inr (.inr (.inl ⟨rfl,f⟩))))))
theorem IG{h i:Nat}{d:NB}{nv:Value}{ck:Cfg}{m acc rel c e:Int}{ns:List Int}{tl:List Nat}{j:World}(a:fD 4 h i d nv ck m acc rel ns [c,e] tl j)(x:0<=c)(z:c<=rel)(k:0<=e)(l:e<=2305843009213693951)(o:c<rel\/e=0)(q:0<c\/rel<=e): Iz 4 h i d nv ck { CH with q:=c,r:=e } tl j:=by
 have r:d.d≠h:=λe=>a.fr (.inr (.inl ⟨rfl,e.symm⟩));have u:i≠d.d:=λe=>a.fk (.inr (.inl ⟨rfl,e⟩));refine(U0 d.d h i ck c e m acc rel nv tl j (a.n.dec rfl) a.rd a.kr.aF r (by have:=a.rk;omega) u x z k l a.r1 o q).mono ?_;rintro B A ⟨rfl,n,v,t⟩
 exact⟨rfl,d,rfl,⟨λ_=>n,λe=>(by cases e),λe=>(by cases e),λe=>(by cases e),λe=>(by cases e)⟩,λw s=>.inl s,v,t.mono (λw _ a=>by
      rcases a with a | a
      ·exact .inl a
      exact .inr (.inr (.inr (.inr (.inl ⟨rfl,a⟩)))))⟩
theorem IH{k j:Nat}{e:NB}{nv:Value}{ck:Cfg}{m acc rel:Int}{ns:List Int}{n:List It}{tl:List Nat}{l:World}(d:fD 5 k j e nv ck m acc rel ns (FA n) tl l)(t:gX ck m acc rel ns n)(v:ck.bI)(x:1<=ck.size)(z:ck.size<=5)(r:acc<=4611686018427387904)(u:ns.length<=800): Iz 5 k j e nv ck { CH with tk:=n.foldl (AY ck) [] } tl l:=by
 have i:∀c,(c=e.d\/c=e.r\/e.g=some c)->BK 5 e c:=λc h=>.inr (.inr (.inr (.inr ⟨rfl,h⟩)));have s:TL l e.d e.r k j ck m acc rel e.g nv [] (Ae (FA n)++tl) ns e.g nv l :=
  ⟨d.n.cZ rfl,d.rd,d.kr,aA.refl _ _,.inl rfl,λc h=>.inl h,λc h=>⟨λa=>d.fv c h (i c (.inl a)),λa=>d.fv c h (i c (.inr (.inl a))),λa=>d.fv c h (i c (.inr (.inr a)))⟩,
     ⟨λa=>d.fr (i k (.inl a.symm)),λa=>d.fr (i k (.inr (.inl a.symm))),λa=>d.fk (i j (.inl a.symm)),λa=>d.fk (i j (.inr (.inl a.symm))),d.rk,d.rd.aF.lt⟩,
     λg q=>⟨λa=>d.fr (i k (.inr (.inr (by rw[<-a];exact q)))),λa=>d.fk (i j (.inr (.inr (by rw[<-a];exact q))))⟩⟩
 refine(UU e.d e.r k j e.g ck m acc rel nv ns n tl l s t v x z d.m1 r u).mono ?_;rintro a B ⟨rfl,w,A,o⟩;refine⟨rfl,{ e with g:=w },rfl,⟨λa=>(by cases a),λa=>(by cases a),λa=>(by cases a),λa=>(by cases a),λ_=>o.tr⟩,λc h=>?_,o.rd,o.kp.mono (λc _ h=>?_)⟩
 ·rcases h with ⟨a,_⟩ | ⟨a,_⟩ | ⟨a,_⟩ | ⟨a,_⟩ | ⟨_,h⟩
  ·cases a
  ·cases a
  ·cases a
  ·cases a
  rcases Nt o.fo h with f | f
  ·exact .inl (i c f)
  exact .inr f
 rcases h with f | f | f | f
 ·exact .inl f
 ·exact .inr (.inl f)
 ·exact .inr (.inr (.inl f))
 exact .inr (.inr (.inr (i c (.inr f))))
theorem zNc{n clock:Int}{x:aJ}(a:Good n clock x){v t:Nat}{u:NB}{nv:Value}{tl:List Nat}{w:World}(e:fD x.k v t u nv (Al x.k x.c) (clock-x.c.aL) x.acc x.rel ((Qi.allL (x.l.length+1) x.l).map (·.n)) (DX x.k x.c x.nt (clock-x.c.aL)) tl w):
  Iz x.k v t u nv (Al x.k x.c) (G8 x.k (Al x.k x.c) (clock-x.c.aL) x.nt) tl w:=by
 have k:=a.i.valid;have h:=a.i.kind;rcases Au a.i.k1 a.i.k5 with c | c | c | c | c
 ·obtain⟨m,z,B,d⟩:=a.bL c;have q:=Ek k h c;rw[c]at e ⊢;have j:DX 1 x.c x.nt (clock-x.c.aL)=(m.length:Int)::Ee m:=B;rw[j]at e;have:=ID (ck:=Al 1 x.c) e d q.1 q.2.1;rw[<-z]at this;exact this
 ·have d:=a.dS c;have O:=FJ k h c;rw[c]at e ⊢;have j:DX 2 x.c x.nt (clock-x.c.aL)=EK (λI=>AX x.c (clock-x.c.aL) (x.nt.rg I)) (B1 x.c) 0:=zLt x.c (clock-x.c.aL) x.nt.rg (B1 x.c);rw[j]at e;have A:B1 x.c<=16:=by
   unfold B1;have:x.c.bits.toNat<=4:=by omega
   exact jN (jr (by omega) this) (by decide)
  exact IE (ck:=Al 2 x.c) (n:=B1 x.c) rfl e d A
 ·obtain⟨d,C⟩:=a.dY c;obtain⟨r,l,o,N,S⟩:=D5 (KE x.k x.c a.i.k1 a.i.k5 k h) (by rw[(F7 x.k x.c a.i.k1 a.i.k5).1];exact h) c;rw[c]at e r l o ⊢;have G:=l.r0;have H:=l.w0;exact IF (ck:=Al 3 x.c) (R:=x.c.rows.toNat) (W:=x.c.width.toNat) (ps:=A6 x.c x.nt.op x.nt.cl (clock-x.c.aL-x.c.aB)) e ⟨d.len,d.eH,d.gJ,d.hH,d.sum⟩ (by show x.c.rows=_;have D:1<=x.c.rows:=G;omega) (by show x.c.width=_;have D:1<=x.c.width:=H;omega) r l o C
 ·have d:=a.dec c;have J:=a.i.note.q0;have L:=a.i.note.qn;have M:=a.i.note.r0;have T:=a.i.note.r1;rw[c]at e ⊢;exact IG (ck:=Al 4 x.c) e J L M (by omega) d.1 d.2
 have d:=a.cZ c;have s:=EA k h c;have i:=Ge k h (by omega) a.i.k5;have P:=a.i.cap;have Q:=a.i.common;have F:=(Ip (x.l.length+1) x.l (by omega) a.i.heap).length_eq;have E:=a.sx.fQ;rw[c]at e ⊢;have j:DX 5 x.c x.nt (clock-x.c.aL)=FA ((Dr.allL (x.nt.tk.length+1) x.nt.tk).map E7):=(YR _).symm;rw[j]at e;exact IH (ck:=Al 5 x.c) e ⟨d.len,d.num,d.eE,d.gJ,d.ref⟩ ⟨i.d0,i.d1,i.h0,i.h1,i.m0,i.m1⟩ s.1 s.2 E (by rw[iu,F];omega)
structure Fit (n:Int) (s:WS):Prop where
 i:bQ n s.clock s.xs
 x:EX s
 z:EZ s
 d:(s.xs.map (·.id)).Nodup
theorem Fit.ok{n:Int}{s:WS}(a:Fit n s): Ok n s:=⟨a.i,a.z⟩
theorem Fit.zero: Fit 0 Dh:=⟨IB,λc a=>(by cases a),λc a=>(by cases a),ν⟩
theorem Z8(s:WS)(o:aO)(h:o.kind=2\/o.kind=3): (Ax s o).1.xs.map (·.id)=s.xs.map (·.id):=by
 rcases h with i | j
 ·have a:Ax s o=C6 s o:=by unfold Ax;rw[ig (by omega),ij i]
  rw[a];cases hf:Ca s.xs o.id with
  | none=>unfold C6;rw[hf]
  | some c =>
   obtain⟨l,m,d,k,e⟩:=Kl hf;unfold C6;rw[hf];simp only;split
   ·show(BD s.xs o.id (cD c o.item)).map (·.id)=_;rw[e,d];simp[cD]
   show(BD s.xs o.id (cG c _)).map (·.id)=_;rw[e,d];simp[cG]
 have a:Ax s o=DT s o:=by unfold Ax;rw[ig (by omega),ig (by omega),ij j]
 rw[a];unfold DT;split
 ·split
  ·show(Bw _ _ _).1.map (·.id)=_;rw[O8,kk];refine jT λc _=>?_;exact(Fx _ _ _).2.2
  rfl
 rfl
theorem Zz{s:WS}(o:aO)(a:(s.xs.map (·.id)).Nodup)(t:o.kind≠7): ((Ax s o).1.xs.map (·.id)).Nodup:=by
 by_cases d:o.kind=2\/o.kind=3
 ·rw[Z8 s o d];exact a
 have q:o.kind≠2:=λc=>d (.inl c);have r:o.kind≠3:=λc=>d (.inr c);unfold Ax;split
 ·unfold Dk;split
  ·rename_i k;split
   ·split
    ·show((s.xs++[AT o.id o.cfg o.cfg.kind.toNat]).map (·.id)).Nodup;rw[iB];refine jH.2 ⟨a,by simp,λn h b i=>?_⟩;obtain⟨m,l,rfl⟩:=iI.1 h;have j:b=o.id:=by simpa[AT] using i
     have e:=lB.1 (Option.isNone_iff_eq_none.1 k.2) m l;rw[j];simpa using e
    exact a
   exact a
  exact a
 split
 ·unfold Eb;split <;> exact a
 split
 ·unfold E2;split <;> exact a
 split <;> exact a
theorem Fit.step{n:Int}{s:WS}(a:Fit n s)(e:0<=n)(h:n<=1000000000000)(o:aO)(c:o.kind≠7): Fit (n+1) (Ax s o).1 :=
 ⟨PU o a.i e (Ow c),Zx o a.x a.i (λd=>absurd d c),ZE o a.z a.i (by omega) c,Zz o a.d c⟩
theorem Fit.mono{n m:Int}{s:WS}(a:Fit n s)(c:n<=m): Fit m s:=⟨a.i.mono c,a.x,a.z,a.d⟩
def FH(s:WS): WS:=⟨s.clock,s.xs.map (Dd s.clock)⟩
theorem bY.can{n clock:Int}(c:List aJ)(d:∀a,a∈c->aT n a/\SX a/\SZ clock a): bY clock c (c.map (Dd clock)):=by
 induction c with
 | nil=>exact .nil
 | cons a c j =>
  obtain⟨e,b,h⟩:=d a (by simp);exact .cons (KB e b h).2.2.2 (j (λy i=>d y (by simp[i])))
theorem Fit.can{n:Int}{s:WS}(d:Fit n s): Fit n (FH s)/\eN s (FH s):=by
 have h:∀a,a∈s.xs->aT n (Dd s.clock a)/\SX (Dd s.clock a)/\SZ s.clock (Dd s.clock a)/\cF s.clock a (Dd s.clock a):=λa c=>KB (d.i.bD a c) (d.x a c) (d.z a c);refine⟨⟨⟨d.i.c0,d.i.c1,?_,λy e=>?_,λy e=>?_⟩,λy e=>?_,λy e=>?_,?_⟩,⟨rfl,bY.can s.xs (λa c=>⟨d.i.bD a c,d.x a c,d.z a c⟩)⟩⟩
 ·show(s.xs.map _).length<=6;rw[iu];exact d.i.bX
 ·obtain⟨a,c,rfl⟩:=iI.1 e;exact(h a c).1
 ·obtain⟨a,c,rfl⟩:=iI.1 e;have i:=(F7 a.k a.c (d.i.bD a c).k1 (d.i.bD a c).k5).2.1;show a.last=0\/a.last<=s.clock-(Al a.k a.c).aL;rw[i];exact d.i.marks a c
 ·obtain⟨a,c,rfl⟩:=iI.1 e;exact(h a c).2.1
 ·obtain⟨a,c,rfl⟩:=iI.1 e;exact(h a c).2.2.1
 show((s.xs.map (Dd s.clock)).map (·.id)).Nodup;rw[kk];exact d.d
theorem zPn{n clock:Int}{x:aJ}(a:Good n clock x)(d:Nat)(tl:List Nat)(w:World)(l:aR w d (Ae (D9 clock x)++tl)):
  Calls prog 78 #[π d,ι clock] w λj i=>∃e:SB,j=.returned (π e.s)/\bJ i e (Dd clock x)/\aR i d tl/\(∀h,e.aQ (Dd clock x).k h->w.heap.size<=h)/\aA (λh=>h=d) w i:=by
 have A:D9 clock x=Ha x++(Bq x.k (Qi.allL (x.l.length+1) x.l)++DX x.k x.c x.nt (clock-x.c.aL)):=rfl;rw[A,B3,B3,ε,ε]at l;have v:=F7 x.k x.c a.i.k1 a.i.k5;have hlen:=(Ip (x.l.length+1) x.l (by omega) a.i.heap).length_eq;have D:=a.i.common;have C:=a.c1;have E:=a.rel;refine(TZ d x clock (Qi.allL (x.l.length+1) x.l) (G8 x.k (Al x.k x.c) (clock-x.c.aL) x.nt) (Ae (DX x.k x.c x.nt (clock-x.c.aL))) tl w l a.ld a.bC ?_).mono ?_
 ·intro G F H I s t k m o q r;rw[v.2.1,hlen,a.i.dE]at k;exact zNc a ⟨s,t,k,m,o,q,r,by omega,by omega,by omega⟩
 rintro j i ⟨e,rfl,c,B,u,z⟩;rw[hlen]at c;exact⟨e,rfl,⟨c.aF,c.dM,c.note,c.sq,c.sg,c.sn⟩,B,u,z⟩
theorem Fit.gA{n:Int}{s:WS}(a:Fit n s)(d:n<=1000000000000){x:aJ}(c:x∈s.xs): Good n s.clock x:=⟨a.i.bD x c,a.x x c,a.z x c,a.i.c0,a.i.c1,d⟩
theorem zM4{l:List Bk}(a:∀b∈l,1<=b.sz): (l.length:Int)<=Ao l:=by
 induction l with
 | nil=>exact iL _
 | cons b l e =>
  have h:=e (λc d=>a c (by simp[d]));have i:=a b (by simp);rw[iD];show((l.length+1:Nat):Int)<=b.sz+Ao l;omega
theorem Fit.all{n:Int}{s:WS}(h:Fit n s)(hn:n<=1000000000000): fN s.xs (Dd s.clock) s.clock where
 bX:=h.i.bX
 c0:=h.i.c0
 c1:=h.i.c1
 ids:=h.d
 hB:=λ_ _=>rfl
 aI:=λx hx=>by
  have hc:=KB (h.i.bD x hx) (h.x x hx) (h.z x hx);exact hc.2.2.2.aI (h.i.bD x hx) hc.1 (h.z x hx) hc.2.2.1
 ok:=λx hx=>by
  have hc:=KB (h.i.bD x hx) (h.x x hx) (h.z x hx);have hg:=(h.gA hn hx).rel;exact MC hc.2.1 hc.1 (show x.rel<=_ by omega)
 len:=by
  have h1:∀xs:List aJ,(∀x,x∈xs->x∈s.xs)->(By s.clock xs).length<=xs.length*1000000051000:=by
   intro xs;induction xs with
   | nil=>intro _;simp[By]
   | cons x xs ih =>
    intro hm;have hx:=hm x (by simp);have g1:=ih (λy hy=>hm y (by simp[hy]));have g2:=N1 (h.gA hn hx).ok s.clock;have g3:=zM4 (h.i.bD x hx).note.one;have g4:=(h.i.bD x hx).note.sum;have g5:=(h.gA hn hx).rel;unfold By at g1 ⊢;rw[jz,ic,iD,Nat.succ_mul];omega
  have h2:=h1 s.xs (λ_ h=>h);have h3:=Cu (FN s.clock s.xs);have h4:=Dt (CJ (Er s.clock s.xs));have h5:(FN s.clock s.xs).length=2+(By s.clock s.xs).length:=by simp[FN];omega
  have h6:Bz.length=8:=rfl;have h7:(Er s.clock s.xs).length=8+(Ae (FN s.clock s.xs)).length:=by unfold Er;rw[ic,h6]
  have h8:=h.i.bX;unfold FS;rw[ic];omega
 sum:=by have:=MW (Er s.clock s.xs);omega
 ld:=λx hx r tl w hr=>zPn (h.gA hn hx) r tl w hr
theorem cF.trans{n clock:Int}{x y k:aJ}(a:cF clock x y)(g:cF clock y k)(m:aT n x): cF clock x k:=by
 have l:=(a.head m).1;have h:=g.c;have e:=g.buf;have d:=g.note;rw[a.k,a.c]at h d;rw[a.k]at e;rw[l]at d;refine⟨g.id.trans a.id,g.k.trans a.k,h,g.acc.trans a.acc,g.rel.trans a.rel,g.ref.trans a.ref,g.last.trans a.last,a.buf.trans e,?_⟩;exact⟨λc=>⟨(a.note.dec c).1.trans (d.dec c).1,(a.note.dec c).2.trans (d.dec c).2⟩,λc=>(a.note.bL c).trans (d.bL c),λc j i=>(a.note.dS c j i).trans (d.dS c j i),λc=>(a.note.dY c).trans (d.dY c),λc=>(a.note.cZ c).trans (d.cZ c)⟩
theorem bY.trans{n clock:Int}{d h:List aJ}(k:bY clock d h): ∀ {c:List aJ},bY clock h c->(∀a,a∈d->aT n a)->bY clock d c:=by
 induction k with
 | nil=>intro c g _;exact g
 | cons m _ o =>
  intro c g e;cases g with
  | cons j i=>exact .cons (m.trans j (e _ (by simp))) (o i (λa l=>e a (by simp[l])))
def GG(n:Int)(p:WS)(ss:List aO): Prop:=∃t A,KW n t (BF Br ss) A/\Fit n t/\Fit n p/\eN t p
theorem GG.zero: GG 0 Dh []:=⟨Dh,_,RP,Fit.zero,Fit.zero,rfl,.nil⟩
theorem GG.mono{n m:Int}{p:WS}{d:List aO}(h:GG n p d)(c:n<=m): GG m p d:=by
 obtain⟨l,e,a,i,j,k⟩:=h;exact⟨l,e,⟨a.inv.mono c,a.g2,a.g3,a.g5,a.j⟩,i.mono c,j.mono c,k⟩
theorem GG.can{n:Int}{p:WS}{d:List aO}(h:GG n p d): GG n (FH p) d:=by
 obtain⟨k,e,i,c,j,a⟩:=h;obtain⟨c1,c2,c3⟩:=j.can;refine⟨k,e,i,c,c1,rfl.trans a.clock,?_⟩;rw[a.clock]at c3;exact a.xs.trans c3 c.i.bD
theorem GG.step{n:Int}{p:WS}{d:List aO}(q:GG n p d)(c:0<=n)(k:n<=1000000000000)(o:aO)(a:fW o): GG (n+1) (Ax p o).1 (d++[o].filter Ex)/\(Ax p o).2=Hu (BF Br d) o:=by
 obtain⟨t,s,e,h,i,r⟩:=q;obtain⟨l,m,_⟩:=r.step h.ok i.ok o a.2;have j:=e.step c (by omega) o a;rw[zMw,<-Va]at j;exact⟨⟨_,_,j,h.step c k o a.2,i.step c k o a.2,l⟩,by rw[m];exact e.hS (by omega) o a⟩
theorem GG.fit{n:Int}{p:WS}{d:List aO}(a:GG n p d): Fit n p:=by obtain⟨_,_,_,_,c,_⟩:=a;exact c
theorem GG.gG{n:Int}{p:WS}{a:List aO}(c:GG n p a): ∀y,y∈(BF Br a).xs->fX (BF Br a).clock y:=by obtain⟨_,_,d,_⟩:=c;exact d.gG
structure Tr where
 real:List aO
 told:List aO
 p:WS
 ss:List aO
 sv:List (Nat×WS×List aO)
 an:List (Int×List Int)
 bs:List ByteArray
def G5(c:Int)(n:Nat): Nat:=((if c<0 then -(c+1) else c)%(n:Int)).toNat
def Tr.next(z:Tr)(o:aO): Tr :=
 if o.kind=6 then⟨z.real++[o],z.told++[o],z.p,z.ss,z.sv++[(z.real.length,z.p,z.ss)],z.an++[(0,[])],z.bs++[Cx z.p]⟩
 else if o.kind=7 then
  match z.sv[G5 o.a z.sv.length]? with
  | none=>⟨z.real++[{ o with bytes:=Ai }],z.told++[{ o with a:=-1 }],z.p,z.ss,z.sv,z.an++[(14,[])],z.bs++[Ai]⟩
  | some x=>⟨z.real++[{ o with bytes:=Cx x.2.1 }],z.told++[{ o with a:=x.1 }],FH x.2.1,x.2.2,z.sv,z.an++[(0,[])],z.bs++[Ai]⟩
 else⟨z.real++[o],z.told++[o],(Ax z.p o).1,z.ss++[o].filter Ex,z.sv,z.an++[(Ax z.p o).2],z.bs++[Ai]⟩
def Vl: Tr:=⟨[],[],Dh,[],[],[],[]⟩
def tr(ops:List aO)(k:Nat): Tr:=(ops.take k).foldl Tr.next Vl
theorem Iw{a:List aO}{k:Nat}{o:aO}(c:a[k]?=some o): tr a (k+1)=(tr a k).next o:=by
 unfold tr;rw[ji,c];simp
theorem Tr.eO(a:Tr)(o:aO): ∃d h e b,(a.next o).real=a.real++[d]/\(a.next o).told=a.told++[h]/\(a.next o).an=a.an++[e]/\(a.next o).bs=a.bs++[b]/\((d.kind=6/\b=Cx a.p)\/(d.kind≠6/\b=Ai)):=by
 unfold Tr.next;split
 ·rename_i c;exact⟨_,_,_,_,rfl,rfl,rfl,rfl,.inl ⟨c,rfl⟩⟩
 rename_i c;split
 ·split <;> exact⟨_,_,_,_,rfl,rfl,rfl,rfl,.inr ⟨c,rfl⟩⟩
 exact⟨_,_,_,_,rfl,rfl,rfl,rfl,.inr ⟨c,rfl⟩⟩
def G2(l:List aO): List Nat:=(List.range l.length).filter (λi=>match l[i]? with | some o=>o.kind==6 | none=>false)
theorem LI(l:List aO)(o:aO): G2 (l++[o])=G2 l++if o.kind==6 then[l.length] else[]:=by
 unfold G2;rw[ic,jh,kg,jo];congr 1
 ·exact k7 (λc a=>by rw[iN (lA.1 a)])
 simp[iY]
structure TI (ops:List aO) (k:Nat):Prop where
 lr:(tr ops k).real.length=k
 lt:(tr ops k).told.length=k
 la:(tr ops k).an.length=k
 lb:(tr ops k).bs.length=k
 g:GG k (tr ops k).p (tr ops k).ss
 sl:(tr ops k).ss.length<=k
 nu:∀x,x∈(tr ops k).an->x.2.length<=17
 ix:G2 (tr ops k).real=(tr ops k).sv.map (·.1)
 sv:∀x,x∈(tr ops k).sv->x.1<k/\GG k x.2.1 x.2.2/\x.2.2.length<=k/\(tr ops k).bs[x.1]?=some (Cx x.2.1)/\(tr ops x.1).ss=x.2.2/\∃o,(tr ops k).told[x.1]?=some o/\o.kind=6
theorem Q9{α:Type _}{l:List α}{i:Nat}{a b:α}(c:l[i]?=some a): (l++[b])[i]?=some a:=by rw[iN (iq.1 c).1,c]
theorem Qm{α:Type _}{l:List α}{b:α}{k:Nat}(a:l.length=k): (l++[b])[k]?=some b:=by simp[<-a]
theorem TI.all(h:List aO)(L:h.length<=1000000000000): ∀e,e<=h.length->TI h e:=by
 intro e;induction e with
 | zero=>intro _;exact⟨rfl,rfl,rfl,rfl,GG.zero,ir _,λc d=>(by cases d),rfl,λc d=>(by cases d)⟩
 | succ e G =>
  intro J;have a:=G (by omega);obtain⟨i,E⟩:∃i,h[e]?=some i:=⟨h[e],h9 _⟩;have j:=Iw E;have n:∀(l:Tr) c,c∈(tr h e).sv->(∃i,l.told=(tr h e).told++[i])->(∃b,l.bs=(tr h e).bs++[b])->c.1<e+1/\GG ((e+1:Nat):Int) c.2.1 c.2.2/\c.2.2.length<=e+1/\l.bs[c.1]?=some (Cx c.2.1)/\(tr h c.1).ss=c.2.2/\∃i,l.told[c.1]?=some i/\i.kind=6:=λl c d ⟨o1,ht⟩ ⟨b1,hb⟩=>by
   obtain⟨I,q,v,w,x,H,z,A⟩:=a.sv c d;rw[ht,hb];exact⟨by omega,q.mono (by omega),by omega,Q9 w,x,H,Q9 z,A⟩
  have r:GG ((e+1:Nat):Int) (tr h e).p (tr h e).ss:=a.g.mono (by omega);have m:∀o:Int×List Int,o.2.length<=17->∀c,c∈(tr h e).an++[o]->c.2.length<=17:=λo D c d=>by
   rcases ik.1 d with d | d
   ·exact a.nu c d
   rw[im]at d;rw[d];exact D
  have s:=a.sl;unfold Tr.next at j;split at j
  ·rename_i k;refine⟨?_,?_,?_,?_,?_,?_,?_,?_,?_⟩ <;> rw[j]
   ·simp[a.lr]
   ·simp[a.lt]
   ·simp[a.la]
   ·simp[a.lb]
   ·exact r
   ·exact lW s
   ·exact m _ (by simp)
   ·show G2 (_++[i])=_;rw[LI,ij (by simp[k]),a.ix,iB];rfl
   intro c d;rcases ik.1 d with d | d
   ·exact n _ c d ⟨_,rfl⟩ ⟨_,rfl⟩
   rw[im]at d;subst d;refine⟨by show _<_;rw[a.lr];omega,r,lW s,?_,by rw[a.lr],i,?_,k⟩
   ·show((tr h e).bs++[_])[(tr h e).real.length]?=_;rw[a.lr];exact Qm a.lb
   show((tr h e).told++[_])[(tr h e).real.length]?=_;rw[a.lr];exact Qm a.lt
  rename_i k;have t:∀u,u.kind=i.kind->G2 ((tr h e).real++[u])=(tr h e).sv.map (·.1):=λu B=>by
   rw[LI,ig (by rw[B];simpa using k),iC,a.ix]
  split at j
  ·split at j
   ·refine⟨?_,?_,?_,?_,?_,?_,?_,?_,?_⟩ <;> rw[j]
    ·simp[a.lr]
    ·simp[a.lt]
    ·simp[a.la]
    ·simp[a.lb]
    ·exact r
    ·exact lW s
    ·exact m _ (by simp)
    ·exact t _ rfl
    exact λc d=>n _ c d ⟨_,rfl⟩ ⟨_,rfl⟩
   rename_i c d;obtain⟨_,q,v,_⟩:=a.sv c (iz d);refine⟨?_,?_,?_,?_,?_,?_,?_,?_,?_⟩ <;> rw[j]
   ·simp[a.lr]
   ·simp[a.lt]
   ·simp[a.la]
   ·simp[a.lb]
   ·exact(q.mono (by omega)).can
   ·exact lW v
   ·exact m _ (by simp)
   ·exact t _ rfl
   exact λc d=>n _ c d ⟨_,rfl⟩ ⟨_,rfl⟩
  rename_i C;have F:=(a.g.step (by omega) (by omega) i ⟨k,C⟩).1;refine⟨?_,?_,?_,?_,?_,?_,?_,?_,?_⟩ <;> rw[j]
  ·simp[a.lr]
  ·simp[a.lt]
  ·simp[a.la]
  ·simp[a.lb]
  ·exact F
  ·show((tr h e).ss++_).length<=e+1;rw[ic];have:=k9 Ex [i];rw[jh]at this;omega
  ·exact m _ (XK i a.g.fit.i)
  ·exact t _ rfl
  exact λc d=>n _ c d ⟨_,rfl⟩ ⟨_,rfl⟩
theorem KZ{α:Type _}{l m:List α}{a:α}{i:Nat}(e:l.take i=m)(h:l.take (i+1)=m++[a]): l[i]?=some a:=by
 have:=congrArg (λj=>j[m.length]?) h;simp only[iO (ir _),j9,List.getElem?_cons_zero]at this;rw[iW]at this;split at this
 ·have c:=congrArg List.length e;rw[iG]at c;by_cases d:i<=l.length
  ·rwa [<-c,jG d]at this
  exfalso;rw[<-c,lD (by omega),jC (ir _)]at this;cases this
 cases this
theorem GX(c:List aO)(i:c.length<=1000000000000)(k:Nat): k<=c.length->∀a,a<=k->(tr c k).real.take a=(tr c a).real/\(tr c k).told.take a=(tr c a).told/\(tr c k).bs.take a=(tr c a).bs:=by
 induction k with
 | zero =>
  intro _ a n;have d:a=0:=by omega
  subst d;exact⟨rfl,rfl,rfl⟩
 | succ k q =>
  intro o a n;have h:=TI.all c i _ o;have e:=TI.all c i k (by omega);by_cases d:a=k+1
  ·subst d;exact⟨iw (by rw[h.lr];omega),iw (by rw[h.lt];omega),iw (by rw[h.lb];omega)⟩
  obtain⟨s,t,r,b,j,l,_,m,_⟩:=(tr c k).eO c[k];rw[Iw (h9 (by omega)),j,l,m,je (by rw[e.lr];omega),je (by rw[e.lt];omega),je (by rw[e.lb];omega)];exact q (by omega) a (by omega)
theorem zL5(a:List aO)(j:a.length<=1000000000000)(k:Nat)(q:k<a.length): ∃c b,(tr a a.length).real[k]?=some c/\(tr a a.length).bs[k]?=some b/\((c.kind=6/\∃l,b=Cx l)\/(c.kind≠6/\b=Ai)):=by
 obtain⟨c,s,r,b,d,_,_,e,n⟩:=(tr a k).eO a[k];rw[<-Iw (h9 q)]at d e;have h:=GX a j a.length (ir _) k (by omega);have i:=GX a j a.length (ir _) (k+1) (by omega);refine⟨c,b,KZ h.1 (i.1.trans d),KZ h.2.2 (i.2.2.trans e),?_⟩;rcases n with ⟨m,b⟩ | o
 ·exact .inl ⟨m,_,b⟩
 exact .inr o
theorem MB(c:Int){n:Nat}(a:1<=n): G5 c n<n:=by
 have d:=ki (if c<0 then -(c+1) else c) (show(n:Int)≠0 by omega);have e:=j6 (if c<0 then -(c+1) else c) (show 0<(n:Int) by omega);unfold G5;omega
theorem Tr.fH(c:Tr)(o:aO): ∃i j,(c.next o).real=c.real++[i]/\(c.next o).told=c.told++[j]/\((o.kind≠7/\o=i/\o=j)\/(o.kind=7/\c.sv.length=0/\i={ o with bytes:=Ai }/\j={ o with a:=-1 }) \/
    ∃d,o.kind=7/\1<=c.sv.length/\c.sv[G5 o.a c.sv.length]?=some d/\i={ o with bytes:=Cx d.2.1 }/\j={ o with a:=d.1 }):=by
 unfold Tr.next;split
 ·exact⟨o,o,rfl,rfl,.inl ⟨by omega,rfl,rfl⟩⟩
 split
 ·rename_i e;split
  ·rename_i h;refine⟨_,_,rfl,rfl,.inr (.inl ⟨e,?_,rfl,rfl⟩)⟩;have k:=List.getElem?_eq_none_iff.1 h;have l:=@MB o.a c.sv.length;omega
  rename_i d h;exact⟨_,_,rfl,rfl,.inr (.inr ⟨d,e,by have:=(iq.1 h).1;omega,h,rfl,rfl⟩)⟩
 rename_i e;exact⟨o,o,rfl,rfl,.inl ⟨e,rfl,rfl⟩⟩
theorem Xw(a:List aO)(t:a.length<=1000000000000)(k:Nat)(o:aO)(l:a[k]?=some o): ∃c d,(tr a (k+1)).told=(tr a k).told++[c]/\(tr a (k+1)).an=(tr a k).an++[d] /\
  ((c.kind=6/\d=(0,[])/\(tr a (k+1)).ss=(tr a k).ss)\/(c.kind=7/\c.a=-1/\d=(14,[])/\(tr a (k+1)).ss=(tr a k).ss) \/
     (∃j:Nat,c.kind=7/\c.a=(j:Int)/\j<k/\(∃m,(tr a k).told[j]?=some m/\m.kind=6)/\d=(0,[])/\(tr a (k+1)).ss=(tr a j).ss) \/
     ((c.kind≠6/\c.kind≠7)/\d=Hu (BF Br (tr a k).ss) c/\(tr a (k+1)).ss=(tr a k).ss++[c].filter Ex)):=by
 have v:=(iq.1 l).1;have i:=TI.all a t k (by omega);rw[Iw l];unfold Tr.next;split
 ·rename_i e;exact⟨o,_,rfl,rfl,.inl ⟨e,rfl,rfl⟩⟩
 split
 ·rename_i e h;split
  ·exact⟨_,_,rfl,rfl,.inr (.inl ⟨h,rfl,rfl,rfl⟩)⟩
  rename_i n u;obtain⟨q,_,_,_,r,s⟩:=i.sv n (iz u);exact⟨_,_,rfl,rfl,.inr (.inr (.inl ⟨n.1,h,rfl,q,s,rfl,r.symm⟩))⟩
 rename_i e h;exact⟨o,_,rfl,rfl,.inr (.inr (.inr ⟨⟨e,h⟩,(i.g.step (by omega) (by omega) o ⟨e,h⟩).2,rfl⟩))⟩
end
section
attribute [local go_sem ↓] AH Bs
attribute [local go_sem] AI Bt A3 A4 AJ AL B8 B9
theorem Zp(e:Nat)(v:Value)(clock aV:Int)(ps:List (SB×aJ))(o:aO)(r:List aJ)(can:aJ->aJ)(w:World)(c:aX w e v clock ps)(O:o.bytes=DC aV r)(M:fN r can aV):
  Calls prog 26 #[π e,o.val] w λU am=>aS w e v ps aV (r.map can) 0 [] U am:=by
 have X:=Aa c;have V:=Aa M;have aw:=c.aF.lt;have Q:lX w ((w.alloc (.cells o.cells.toArray 48)).alloc (.cells #[ι 0,.slice none 0 0,.string ⟨#[]⟩] 39)):=((aA.refl (λ_=>False) w).alloc _).alloc _;have aa:=Aa (show aD ((w.alloc (.cells o.cells.toArray 48)).alloc (.cells #[ι 0,.slice none 0 0,.string ⟨#[]⟩] 39)) w.heap.size o.cells 48 from(aD.new w o.cells 48).alloc _);have I:=Aa (show aD ((w.alloc (.cells o.cells.toArray 48)).alloc (.cells #[ι 0,.slice none 0 0,.string ⟨#[]⟩] 39)) (w.heap.size+1) [ι 0,.slice none 0 0,.string Ai] 39 from aD.newAt (by simp) [_,_,_] 39);have ae:κ ((w.alloc (.cells o.cells.toArray 48)).alloc (.cells #[ι 0,.slice none 0 0,.string ⟨#[]⟩] 39)) w.heap.size 25 (.string (DC aV r)):=by rw[<-O];exact aa.o.cell rfl
 have Z:=Aa Q;clear c M O Q;unfold aO.val;go_enter func26,ntmps26;go_wp2_with fail
 generalize(w.alloc (.cells o.cells.toArray 48)).alloc (.cells #[ι 0,.slice none 0 0,.string ⟨#[]⟩] 39)=an at *
 refine(Ws r can aV an V.o).mono ?_;rintro U m ⟨J,z,x,rfl,q,T,P,E⟩;obtain⟨j,k,u,_⟩:=D6 q.row;obtain⟨h,R⟩:∃h,x.length=h:=⟨_,rfl⟩;rw[R]at u;clear R;subst u;obtain⟨z,u⟩:∃z,z=Value.slice j h k:=⟨_,rfl⟩;have ay:=I.o.lt;have ab:=Aa (I.o.keeps E id);have G:=Aa (Z.o.then E);have s:=Aa (X.o.still G.o);have Y:=Aa q;have ad:=Aa T;have B:=Aa P;have ao:=q.aF.c0;have ap:=q.aF.c1;have aq:=s.o.aF.c0;have ar:=s.o.aF.c1;have au:=s.o.aF.frozen;have F:=Aa ((s.o.aF.setCell 0 (ι aV)).setCell 1 (.slice j h k));have H:=Aa (show aA (λa=>a=e) m _ from((aA.refl (λa=>a=e) m).setCell (p:=⟨e,0,none⟩) (Or.inl rfl) (ι aV)).setCell (p:=⟨e,1,none⟩) (Or.inl rfl) (.slice j h k));have n:=Aa ((ab.o.aW (p:=⟨e,0,none⟩) (show e≠w.heap.size+1 by omega) (ι aV)).aW (p:=⟨e,1,none⟩) (show e≠w.heap.size+1 by omega) (.slice j h k));have ai:=n.o.cell (i:=0) rfl;have aj:=n.o.cell (i:=1) rfl;have ak:=n.o.cell (i:=2) rfl;have al:=n.o.frozen;clear q T P E ae;have A:=Aa (((n.o.setCell 0 (ι 0)).setCell 1 (.slice none 0 0)).setCell 2 (.string Ai));have C:=Aa (show aA (λa=>a=w.heap.size+1) ((m.setCell ⟨e,0,none⟩ (ι aV)).setCell ⟨e,1,none⟩ (.slice j h k)) _ from(((aA.refl (λa=>a=w.heap.size+1) ((m.setCell ⟨e,0,none⟩ (ι aV)).setCell ⟨e,1,none⟩ (.slice j h k))).setCell (p:=⟨w.heap.size+1,0,none⟩) (Or.inl rfl) (ι 0)).setCell (p:=⟨w.heap.size+1,1,none⟩) (Or.inl rfl) (.slice none 0 0)).setCell (p:=⟨w.heap.size+1,2,none⟩) (Or.inl rfl) (.string Ai));clear u z;go_wp2;have L:((((m.setCell ⟨e,0,none⟩ (ι aV)).setCell ⟨e,1,none⟩ (.slice j h k)).setCell ⟨w.heap.size+1,0,none⟩ (ι 0)).setCell ⟨w.heap.size+1,1,none⟩ (.slice none 0 0)).setCell ⟨w.heap.size+1,2,none⟩ (.string ⟨#[]⟩)=((((m.setCell ⟨e,0,none⟩ (ι aV)).setCell ⟨e,1,none⟩ (.slice j h k)).setCell ⟨w.heap.size+1,0,none⟩ (ι 0)).setCell ⟨w.heap.size+1,1,none⟩ (.slice none 0 0)).setCell ⟨w.heap.size+1,2,none⟩ (.string Ai):=rfl;first | rw[L] | skip
 clear L;have D:=Aa ((H.o.mono (M':=λa=>a=e\/a=w.heap.size+1) (λ_ _ c=>.inl c)).trans C.o (λa d _=>.inr d));have N:=F.o.keeps C.o (show ¬(e=w.heap.size+1) by omega);have W:=Aa N;clear N F H C n ai aj ak al;generalize((((m.setCell ⟨e,0,none⟩ (ι aV)).setCell ⟨e,1,none⟩ (.slice j h k)).setCell ⟨w.heap.size+1,0,none⟩ (ι 0)).setCell ⟨w.heap.size+1,1,none⟩ (.slice none 0 0)).setCell ⟨w.heap.size+1,2,none⟩ (.string Ai)=az at *
 have af:=A.o.c0;have ag:=A.o.c1;have ah:=A.o.c2;refine iV (v:=Aw 0 (.slice none 0 0)) (by simp[results,results26,go_sem,af,ag,ah,Aw]) rfl ?_;have t:=Y.o;have hF:∀a,aN J (.slice j h k) x a->¬(a=e\/a=w.heap.size+1):=λa d c=>by
  have av:=B.o a d;rcases c with c | c <;> omega
 have S:∀a,aN J (.slice j h k) x a->a≠e:=λa d c=>hF a d (.inl c);refine⟨.slice none 0 0,.slice j h k,x,rfl,⟨W.o,FB t.row D.o (λa d=>hF a (.inr (.inl d))),λp l=>(t.bM p l).keeps D.o (λa d=>hF a (.inr (.inr ⟨p,l,d⟩))),t.apart,λc=>S e (.inr (.inl c)) rfl,λp l a d=>⟨S a (.inr (.inr ⟨p,l,d⟩)),(t.ef p l a d).2⟩⟩,ad.o,iy _ _ _ _,?_,?_,λa d=>by cases d⟩
 ·exact G.o.mono (M':=aN e v ps) (λ_ _ c=>c.elim) |>.trans D.o (λa d ax=>by
     rcases d with c | c
     ·exact .inl c
     omega)
 intro a d;rcases d with c | c | ⟨p,l,c⟩
 ·exact .inl (.inl c)
 ·have:=B.o a (.inr (.inl c));exact .inr (by omega)
 have:=B.o a (.inr (.inr ⟨p,l,c⟩));exact .inr (by omega)
end
section
theorem S3(w:World)(c:TypeId)(b:Nat): (Builtin.copy_ #[129,9] c #[σ b 8 8,.string Ai]).run prog w=.ok (goInt 0) w:=by
 have:=NM w c b 8 8 Ai [] (by kernel_rfl) (λd a=>by simp at a) (λd a=>by simp at a);exact this
def Hj: List Value:=[.int .u8 0,.int .u8 0,.int .u8 0,.int .u8 0,.int .u8 0,.int .u8 0,.int .u8 0,.int .u8 0]
theorem Ti(w:World): Calls prog 122 #[.string Ai] w λk n=>k=.returned (.agg Hj.toArray)/\lX w n:=by
 have j:=Aa (show aD ((w.alloc (.cells #[.int .u8 0,.int .u8 0,.int .u8 0,.int .u8 0,.int .u8 0,.int .u8 0,.int .u8 0,.int .u8 0] 166)).alloc (.cells #[.int .u8 0,.int .u8 0,.int .u8 0,.int .u8 0,.int .u8 0,.int .u8 0,.int .u8 0,.int .u8 0] 166)) w.heap.size Hj 166 from(aD.new w Hj _).alloc _);have h:=Aa (show lX w ((w.alloc (.cells #[.int .u8 0,.int .u8 0,.int .u8 0,.int .u8 0,.int .u8 0,.int .u8 0,.int .u8 0,.int .u8 0] 166)).alloc (.cells #[.int .u8 0,.int .u8 0,.int .u8 0,.int .u8 0,.int .u8 0,.int .u8 0,.int .u8 0,.int .u8 0] 166)) from((aA.refl _ _).alloc _).alloc _);have c:=S3 ((w.alloc (.cells #[.int .u8 0,.int .u8 0,.int .u8 0,.int .u8 0,.int .u8 0,.int .u8 0,.int .u8 0,.int .u8 0] 166)).alloc (.cells #[.int .u8 0,.int .u8 0,.int .u8 0,.int .u8 0,.int .u8 0,.int .u8 0,.int .u8 0,.int .u8 0] 166)) 3 (w.heap.size+1);obtain⟨e,d⟩:∃e,Ai=e:=⟨_,rfl⟩;rw[d]at c ⊢;clear d;go_enter func122,ntmps122;go_wp2;clear c;generalize((w.alloc (.cells #[.int .u8 0,.int .u8 0,.int .u8 0,.int .u8 0,.int .u8 0,.int .u8 0,.int .u8 0,.int .u8 0] 166)).alloc (.cells #[.int .u8 0,.int .u8 0,.int .u8 0,.int .u8 0,.int .u8 0,.int .u8 0,.int .u8 0,.int .u8 0] 166))=a at *
 have i:=Aa (show(loadVar 166 ⟨w.heap.size,0,none⟩).run prog a=.ok (.agg Hj.toArray) a from lu a w.heap.size 0 166 Hj _ (λo m l=>by rw[ja];exact j.o.cell l) underlying166 rfl (by rw[Q5];rfl));refine iV (v:=.agg Hj.toArray) (by simp[results,results122,asAddr,i.o]) rfl ?_;exact⟨rfl,h.o⟩
theorem Tt(w:World): (Op.equalIn 10000 166 (.agg Hj.toArray) (.agg (BB Bz).toArray)).run prog w=.ok false w:=by kernel_rfl
def FX(w:World)(r:Nat): Prop:=aD w r [.string Ai,.bool true] 169
theorem Sg(w:World): Calls prog 76 #[.string Ai] w λa m=>∃c,a=.returned (π c)/\w.heap.size<=c/\FX m c/\lX w m:=by
 have d:=Aa (Ti w);obtain⟨l,k⟩:∃l,Ai=l:=⟨_,rfl⟩;rw[k]at d ⊢;clear k;go_enter func76,ntmps76;go_wp2_with fail
 refine d.o.mono ?_;rintro a s ⟨rfl,i⟩;have e:=Aa i;clear i;go_wp2_with fail
 have hF:(Value.string ⟨#[115,107,101,116,99,104,32,49]⟩)=.string (AQ (Bz++[])):=by kernel_rfl
 rw[hF];refine(LH [] s).mono ?_;rintro a n ⟨rfl,j⟩;have h:=Aa (e.o.then j);have t:=Tt n;clear j e hF;have q:=Aa (aD.new n [.string Ai,.bool true] 169);have o:=Aa (h.o.alloc (.cells #[.string Ai,.bool true] 169));have r:=h.o.size;go_wp2;go_ret;exact⟨_,rfl,r,q.o,o.o⟩
theorem VA(c:Nat)(w:World)(a:FX w c): Calls prog 123 #[π c] w λd h=>d=.returned (.tuple #[ι 0,.bool false])/\h=w:=by
 have c0:=a.c0;have i:Ai.size=0:=rfl;clear a;go_enter func123,ntmps123;go_wp2;go_loopw [13] (λe wr=>e=ι 0/\wr=w) (λ_ _=>0)
 case atStart=>exact⟨rfl,rfl⟩
 case round =>
  obtain⟨rfl,rfl⟩:=hrel;go_wp2;refine iV (v:=.tuple #[ι 0,.bool false]) (by simp[results,results123,go_sem]) rfl ?_;exact⟨rfl,rfl⟩
theorem Za(a:Nat)(w:World)(c:FX w a): Calls prog 124 #[π a,.bool false] w λj e=>j=.returned (.tuple #[])/\FX e a/\aA (λd=>d=a) w e:=by
 have c1:=c.c1;have k:=c.frozen;have h:=Aa (show FX (w.setCell ⟨a,1,none⟩ (.bool true)) a from c.setCell 1 (.bool true));have i:=Aa ((aA.refl (λd=>d=a) w).setCell (p:=⟨a,1,none⟩) (Or.inl rfl) (.bool true));clear c;go_enter func124,ntmps124;go_wp2;go_end0;exact⟨rfl,h.o,i.o⟩
theorem OR(a:Nat)(lo hi:Int)(w:World)(h:FX w a): Calls prog 77 #[π a,ι lo,ι hi] w λd k=>d=.returned (ι lo)/\FX k a/\aA (λo=>o=a) w k:=by
 have c:=Aa h;clear h;go_enter func77,ntmps77;go_wp2_with fail
 refine(VA a w c.o).mono ?_;rintro d l ⟨rfl,j⟩;rw[j];clear j l;go_wp2_with fail
 refine(Za a w c.o).mono ?_;rintro d l ⟨rfl,e,i⟩;have c1:=e.c1;have n:=Aa e;have m:=Aa i;clear e i c;go_wp2;go_ret;exact⟨rfl,n.o,m.o⟩
theorem W7(c:Nat)(w:World)(a:FX w c): Calls prog 79 #[π c] w λd e=>d=.returned (.bool true)/\e=w:=by
 have h:=a.c1;clear a;go_enter func79,ntmps79;go_wp2;go_ret;exact⟨rfl,rfl⟩
theorem Tv(w:World): Calls prog 50 #[.string Ai] w λc F=>c=.returned (.pointer none)/\lX w F:=by
 have d:=Aa (Sg w);obtain⟨x,r⟩:∃x,Ai=x:=⟨_,rfl⟩;rw[r]at d ⊢;clear r;go_enter func50,ntmps50;go_wp2_with fail
 refine d.o.mono ?_;rintro c G ⟨a,rfl,J,s,n⟩;have j:=Aa n;have l:=Aa s;clear s n d;go_wp2_with fail
 refine(OR a 0 4611686018427387904 G l.o).mono ?_;rintro c i ⟨rfl,t,o⟩;have m:=Aa (show FX (i.alloc (.cells #[ι 0,.slice none 0 0] 53)) a from aD.alloc t _);have k:=Aa (show lX w (i.alloc (.cells #[ι 0,.slice none 0 0] 53)) from(j.o.trans o (λh e D=>by have C:h=a:=e;omega)).alloc _);clear t o l j;go_wp2_with fail
 generalize i.alloc (.cells #[ι 0,.slice none 0 0] 53)=H at *
 refine(OR a 0 6 H m.o).mono ?_;rintro c z ⟨rfl,u,q⟩;have B:=Aa u;have A:=Aa (show lX w z from k.o.trans q (λh e D=>by have C:h=a:=e;omega));clear u q m k;go_wp2_with fail
 go_loopw [14] (λE wr=>E=ι 0/\wr=z) (λ_ _=>0)
 case atStart=>exact⟨rfl,rfl⟩
 case round =>
  obtain⟨rfl,rfl⟩:=hrel;go_wp2_with fail
  refine(W7 a wr B.o).mono ?_;rintro c I ⟨rfl,v⟩;rw[v];clear v I;go_wp2;go_ret;exact⟨rfl,A.o⟩
theorem XQ(e:Nat)(v:Value)(clock:Int)(ps:List (SB×aJ))(o:aO)(w:World)(d:aX w e v clock ps)(t:o.bytes=Ai):
  Calls prog 26 #[π e,o.val] w λq r=>aS w e v ps clock (ps.map (·.2)) 14 [] q r:=by
 have x:=Aa d;have u:lX w ((w.alloc (.cells o.cells.toArray 48)).alloc (.cells #[ι 0,.slice none 0 0,.string ⟨#[]⟩] 39)):=((aA.refl (λ_=>False) w).alloc _).alloc _;have E:=Aa (show aD ((w.alloc (.cells o.cells.toArray 48)).alloc (.cells #[ι 0,.slice none 0 0,.string ⟨#[]⟩] 39)) w.heap.size o.cells 48 from(aD.new w o.cells 48).alloc _);have F:=Aa (show aD ((w.alloc (.cells o.cells.toArray 48)).alloc (.cells #[ι 0,.slice none 0 0,.string ⟨#[]⟩] 39)) (w.heap.size+1) [ι 0,.slice none 0 0,.string Ai] 39 from aD.newAt (by simp) [_,_,_] 39);obtain⟨h,n⟩:∃h,Ai=h:=⟨_,rfl⟩;have H:κ ((w.alloc (.cells o.cells.toArray 48)).alloc (.cells #[ι 0,.slice none 0 0,.string ⟨#[]⟩] 39)) w.heap.size 25 (.string h):=by rw[<-n,<-t];exact E.o.cell rfl
 have D:=Aa (show ∀j,Calls prog 50 #[.string h] j λQ r=>Q=.returned (.pointer none)/\lX j r by rw[<-n];exact Tv);have z:=Aa u;clear d t u n;unfold aO.val;go_enter func26,ntmps26;go_wp2_with fail
 generalize(w.alloc (.cells o.cells.toArray 48)).alloc (.cells #[ι 0,.slice none 0 0,.string ⟨#[]⟩] 39)=j at *
 refine(D.o j).mono ?_;rintro q S ⟨rfl,l⟩;have G:=Aa (F.o.keeps l id);have A:=Aa (z.o.then l);clear l H;go_wp2_with fail
 refine(EE 14 S).mono ?_;rintro q s ⟨rfl,m⟩;have c:=Aa (G.o.keeps m id);have B:=Aa (A.o.then m);clear m;unfold Aw;have N:=c.o.cell (i:=0) rfl;have O:=c.o.cell (i:=1) rfl;have P:=c.o.cell (i:=2) rfl;have R:=c.o.frozen;have k:=Aa (((c.o.setCell 0 (ι 14)).setCell 1 (.slice none 0 0)).setCell 2 (.string Ai));have C:=Aa (show aA (λa=>a=w.heap.size+1) s _ from(((aA.refl (λa=>a=w.heap.size+1) s).setCell (p:=⟨w.heap.size+1,0,none⟩) (Or.inl rfl) (ι 14)).setCell (p:=⟨w.heap.size+1,1,none⟩) (Or.inl rfl) (.slice none 0 0)).setCell (p:=⟨w.heap.size+1,2,none⟩) (Or.inl rfl) (.string Ai));go_wp2;clear N O P R c;generalize((s.setCell ⟨w.heap.size+1,0,none⟩ (ι 14)).setCell ⟨w.heap.size+1,1,none⟩ (.slice none 0 0)).setCell ⟨w.heap.size+1,2,none⟩ (.string Ai)=V at *
 have J:=k.o.c0;have L:=k.o.c1;have M:=k.o.c2;refine iV (v:=Aw 14 (.slice none 0 0)) (by simp[results,results26,go_sem,J,L,M,Aw]) rfl ?_;exact Ez x.o (B.o.trans C.o (λa I U=>by have T:a=w.heap.size+1:=I;omega)) (iy _ _ _ _)
end
section
attribute [local go_sem ↓] AH Bs JR
attribute [local go_sem] AI Bt A3 A4 AJ AL B8 B9
theorem Yl{s:WS}{o:aO}(a:o.kind≠6): E3 s o=Ai:=by unfold E3;rw[ig a]
theorem Yd(d:List aO)(N:d.length<=651562446080)(i:Nat)(o:aO)(D:d[i]?=some o)(e:Nat)(v:Value)(clock:Int)(ps:List (SB×aJ))(E:(⟨clock,ps.map (·.2)⟩:WS)=(tr d i).p):
  ∃r t b,(tr d (i+1)).real=(tr d i).real++[r]/\(tr d (i+1)).an=(tr d i).an++[t]/\(tr d (i+1)).bs=(tr d i).bs++[b]/\∀a,aX a e v clock ps->eG a->¬aN e v ps 2 ->
   Calls prog 15 #[π e,r.val] a λr I=>Kx a e v ps (tr d (i+1)).p.clock (tr d (i+1)).p.xs t.1 t.2 b r I:=by
 have M:=(iq.1 D).1;have B:=TI.all d (by omega) i (by omega);have n:=B.g.fit;rw[<-E]at n;have w:(tr d i).p=⟨clock,ps.map (·.2)⟩:=E.symm;have H:∀c,c∈ps.map (·.2)->dL c:=λc q=>by
  have x:=n.i.bD c q;exact MC (n.x c q) x (by have J:=x.dE;have L:=x.dH;omega)
 have C:∀z:aO,z.kind≠7->∀a,aX a e v clock ps->eG a->¬aN e v ps 2->_:=λz l a h j k=>Zh (i:Int) e v clock ps z a h n.i (by omega) j k l (λ_=>H);rw[Iw D];unfold Tr.next;split
 ·rename_i m;refine⟨o,(0,[]),Cx (tr d i).p,rfl,rfl,rfl,λa h j k=>?_⟩;have:=C o (by omega) a h j k;have F:Ax ⟨clock,ps.map (·.2)⟩ o=(⟨clock,ps.map (·.2)⟩,0,[]):=by unfold Ax;rw[ig (by omega),ig (by omega),ig (by omega),ig (by omega),ig (by omega),ij m]
  have G:E3 ⟨clock,ps.map (·.2)⟩ o=Cx ⟨clock,ps.map (·.2)⟩:=by unfold E3;rw[ij m]
  rw[F,G]at this;rw[w];exact this
 split
 ·rename_i m l;split
  ·refine⟨{ o with bytes:=Ai },(14,[]),Ai,rfl,rfl,rfl,λa h j k=>?_⟩;rw[w];exact(Hb (.inr (.inr (.inr (.inr (.inr ⟨rfl,rfl⟩))))) e v clock ps { o with bytes:=Ai } a h l clock (ps.map (·.2)) 14 [] (λA u _=>XQ e v clock ps { o with bytes:=Ai } A u rfl)).mono (λ_ _ h=>h.b)
  rename_i c q;obtain⟨_,g,_⟩:=B.sv c (iz q);exact⟨{ o with bytes:=Cx c.2.1 },(0,[]),Ai,rfl,rfl,rfl,λa h j k=>(Hb (.inr (.inr (.inr (.inr (.inr ⟨rfl,rfl⟩))))) e v clock ps { o with bytes:=Cx c.2.1 } a h l c.2.1.clock (c.2.1.xs.map (Dd c.2.1.clock)) 0 [] (λA u _=>Zp e v clock c.2.1.clock ps { o with bytes:=Cx c.2.1 } c.2.1.xs (Dd c.2.1.clock) A u rfl (g.fit.all (by omega)))).mono (λ_ _ h=>h.b)⟩
 rename_i m l;refine⟨o,_,Ai,rfl,rfl,rfl,λa h j k=>?_⟩;rw[w,<-Yl (s:=⟨clock,ps.map (·.2)⟩) m];exact C o l a h j k
def Sep(l:List cH): Prop:=l.Pairwise (λx y=>∀i,x.nv.ownBlock=some i->y.nv.ownBlock≠some i)
theorem Sep.snoc{l:List cH}{x:cH}{B:Nat}(c:Sep l)(h:∀y,y∈l->∀a,y.nv.ownBlock=some a->a<B)(i:∀a,x.nv.ownBlock=some a->B<=a): Sep (l++[x]) :=
 jb.2 ⟨c,j7 _ _,λy j o k a e d=>by
    obtain rfl:=im.1 k;have m:=h y j a e;have n:=i a d
    omega⟩
theorem MJ(d:List aO)(bp:d.length<=651562446080)(K:Nat)(J:K<=d.length)(v:Value)(w:World)(am:bG w v (tr d K).real)(L:eG w):
  Calls prog 8 #[v] w λav aw=>∃v e,av=.returned v/\cC aw w.heap.size v e/\e.map (λj=>(j.code,j.aI))=(tr d K).an/\e.map (·.bs)=(tr d K).bs/\lX w aw/\Sep e:=by
 have u:=TI.all d (by omega) K J;obtain⟨b3,b4,rfl,an⟩:=Gi am;rw[u.lr];have a8:=Aa an;have a9:=Aa L;have cb:=L.lt;clear am an L u;obtain⟨au,af,ap,aq,ar⟩:=jg Nn;go_enter func8,ntmps8;go_wp2_with (at_make;refine wpList_make_own _ rfl _ _ _ rfl w.heap.size 39 au _ 3 underlying32 af ap aq _ _ _ K rfl rfl rfl (by rw[ar];omega) (by unfold maxLen;omega) (by simp) ?_;intro F O M)
 rw[jR]at O;have ah:lX w F:=((aA.refl (λ_=>False) w).alloc _).grown M (λa ag=>by cases ag);have ab:aD F w.heap.size [ι 0,.slice none 0 0] 53:=by
  unfold aD;rw[M.block w.heap.size (by simp) (by simp)];exact aD.new w [ι 0,.slice none 0 0] 53
 have a1:=Aa (show aX F w.heap.size (.slice none 0 0) 0 [] from⟨ab,iy _ _ _ _,λp m=>by simp at m,ν,by simp[Value.ownBlock],λp m=>by simp at m⟩);have az:=Aa (show cC F w.heap.size (σ (w.heap.size+1) 0 K) [] from⟨O,λj z=>by simp at z,λj z=>by simp at z⟩);have a5:=Aa ah;clear M O ah ab;generalize D:w.heap.size=k at *
 have H:=Aa D;clear D;go_loopw [4,12] (λo c wr=>∃(a:Nat) (v:Value) (n:List (SB×aJ)) (e:List cH),a<=K/\c=ι a/\Hid (aX wr k v (tr d a).p.clock n)/\Hid (n.map (·.2)=(tr d a).p.xs)/\Hid (cC wr w.heap.size o e)/\Hid (e.map (λj=>(j.code,j.aI))=(tr d a).an)/\Hid (e.map (·.bs)=(tr d a).bs)/\Hid (lX w wr)/\Hid (∀c,aN k v n c->w.heap.size<=c)/\Hid (∀c,CG o e c->¬aN k v n c)/\Hid (Sep e)) (λ_ c _=>K-(intOf c).toNat)
 case atStart =>
  have D:=H.o;refine⟨0,.slice none 0 0,[],[],by omega,rfl,a1,rfl,by show cC _ _ _ _;rw[D];exact az.o,rfl,rfl,a5,λc h=>?_,λc h x=>?_,ν⟩
  ·rcases h with h | h | ⟨p,m,_⟩
   ·omega
   ·simp[Value.ownBlock]at h
   simp at m
  have b6:c=k:=by
   rcases x with x | x | ⟨p,m,_⟩
   ·exact x
   ·simp[Value.ownBlock]at x
   simp at m
  rcases h with h | ⟨j,z,_⟩
  ·have:k+1=c:=by simpa[Value.ownBlock] using h
   omega
  simp at z
 case round =>
  obtain⟨a,v,n,e,ag,rfl,a3,bb,B,I,S,q,V,T,X⟩:=hrel;generalize u4=o at *
  by_cases b8:a<K
  ·obtain⟨i,bc,C,l,s,Y,Z⟩:=Yd d bp a d[a] (h9 _) k v (tr d a).p.clock n (by rw[bb.o]);have u:=TI.all d (by omega) a (by omega);have ak:(tr d K).real[a]?=some i:=KZ (GX d (by omega) K J a (by omega)).1 ((GX d (by omega) K J (a+1) (by omega)).1.trans l);obtain⟨cd,ce,bk,aj,al⟩:=a8.o a i ak;obtain⟨bv,bn⟩:=GK al (by rw[H.o];exact aj) q.o;subst bk;have bu:∀G:List Value,G.length=26->(E0 48 (π wr.heap.size) (.agg i.cells.toArray)).run prog (wr.alloc (.cells G.toArray 48))=.ok .skip (wr.alloc (.cells i.cells.toArray 48)):=λG b0=>Kb wr G i.cells b0 rfl (Jl i);have bx:Ap (wr.alloc (.cells i.cells.toArray 48)) wr.heap.size 0 26=.agg i.cells.toArray:=Bd wr i.cells 48 26 rfl;have bo:Az (wr.alloc (.cells i.cells.toArray 48)) wr.heap.size 0 26=true:=LP wr i.cells 48 26 rfl;have b7:(0:Int)<=(a:Int):=by omega
   have b9:(a:Int)<(K:Int):=by omega
   have U:=Aa (show e.length=a by
      have:=congrArg List.length I.o;rw[iu,u.la]at this
      exact this)
   have ax:=Aa s;have ay:=Aa Y;have R:=Aa Z;clear ak u l s Y Z al aj;go_wp2_with fail
   refine(R.o _ (a3.o.still ((aA.refl (λ_=>False) wr).alloc _)) ((a9.o.keeps q.o id).keeps ((aA.refl (λ_=>False) wr).alloc _) id) (λr=>by have l:=V.o 2 r;have s:=H.o;omega)).mono ?_;clear bv bn bu bx bo R;obtain⟨code,aI⟩:=bc;rintro av A ⟨cc,b2,b1,rfl,aa,ao,N,E,ae,ad⟩;obtain⟨P,Q,bq⟩:=Iv N;subst bq;unfold Hq
   have a7:=Aa (show A.ownsRow w.heap.size 39 3 o a (CS e) by
      have l:=B.o.row;rw[U.o]at l
      exact An l (((aA.refl (aN k v n) wr).alloc _).then E) (λc h=>T.o c (.inl h)))
   have a2:=Aa aa;have ba:=Aa ao;have W:=Aa N;have a6:=Aa E;have a4:=Aa ae;have a0:=Aa ad;have b5:w.heap.size<=A.heap.size:=by have l:=q.o.size;have s:=E.size;rw[jR]at s;omega
   clear aa ao N E ae ad;go_wp2_with (at_builtin;refine jf _ rfl _ _ _ rfl w.heap.size 39 au _ 3 48 underlying32 af ap aq ar rfl (by omega) o a (CS e) rfl (a7.o.alloc _) ⟨A.heap.size,0,none⟩ 1 1 [ι code,.slice P aI.length Q,.string C] rfl rfl (iJ (cs:=#[ι code,.slice P aI.length Q,.string C]) (t:=39) (fr:=(0,0)) (iH A _)) (by simp[Value.oneCell']) (by omega) (by unfold maxLen;omega) (by omega) (by simp;omega) (A.heap.size+1) (by simp) ?_;intro bj bd cf br bm bl ca)
   go_roundw;case rel =>
    have ai:=U.o;have bt:=Yc (code:=code) (bs:=C) (av':=σ bj (a+1) bd) q.o B.o V.o T.o a2.o W.o a6.o a4.o a0.o (by rw[ai]) (by rw[ai];exact br) bm bl;obtain⟨be,bf,bg,bh,bi⟩:=bt;refine⟨a+1,b2,b1,e++[(⟨code,.slice P aI.length Q,aI,C⟩:cH)],by omega,by go_num,Aa be,ba,Aa bf,?_,?_,Aa bg,Aa bh,Aa bi,Aa (X.o.snoc (λy bz c h=>(B.o.lt c (.inr ⟨y,bz,h⟩)).2) (λc h=>by have:=(W.o.lt c h).1;rw[jR]at this;omega))⟩
    ·show _=_;rw[ax.o,iB,I.o];rfl
    show _=_;rw[ay.o,iB,S.o];rfl
   case measure=>simp[intOf];omega
  obtain rfl:a=K:=by omega
  go_wp2;go_ret;exact⟨o,e,rfl,B.o,I.o,S.o,q.o,X.o⟩
end
section
theorem zPc: (prog.info? 32).map (λa=>(a.zero,a.size,a.bytes))=some (some (.slice none 0 0),1,24):=by kernel_rfl
abbrev RH(w:World)(base:Nat)(av:Value)(A:List Value): Prop:=dO w base 32 39 3 (λk=>[ι k,.slice none 0 0,.string ⟨#[]⟩]) av A
def Es(mb:Nat)(nv av:Value)(N A:List Value)(i:Nat): Prop:=i=mb\/Cc nv N i\/Cc av A i
structure dT (w:World) (base mb:Nat) (nv av:Value) (N A:List Value):Prop where
 b:aD w mb [nv,av] 31
 n:JM w base nv N
 a:RH w base av A
 mn:¬Cc nv N mb
 ma:¬Cc av A mb
 na:∀i,Cc nv N i->¬Cc av A i
theorem dT.keeps{M:Nat->Prop}{w w':World}{base l:Nat}{nv h:Value}{e d:List Value}(a:dT w base l nv h e d)(j:aA M w w')(k:∀c,Es l nv h e d c->¬M c): dT w' base l nv h e d :=
 ⟨a.b.keeps j (k _ (.inl rfl)),a.n.keeps j (λc i=>k c (.inr (.inl i))),a.a.keeps j (λc i=>k c (.inr (.inr i))),a.mn,a.ma,a.na⟩
theorem dT.lt{w:World}{base h:Nat}{nv e:Value}{d c:List Value}(a:dT w base h nv e d c)(i:Nat)(hi:Es h nv e d c i): i<w.heap.size:=by
 rcases hi with rfl | hi | hi
 ·exact a.b.lt
 ·exact(a.n.lt i hi).2
 exact(a.a.lt i hi).2
structure AK (w wr:World) (base mb q k:Nat) (nv av:Value) (N:List Value) (l:List cH) (nv':Value) (N':List Value):Prop where
 ln:N'.length=4*(q+k)
 b:aD wr mb [nv',av] 31
 n:JM wr base nv' N'
 kp:aA (λi=>i=mb\/Cc nv N i\/∃x,x∈l.take k/\x.nv.ownBlock=some i) w wr
 f:∀i,Cc nv' N' i->Cc nv N i\/(∃x,x∈l.take k/\x.nv.ownBlock=some i)\/w.heap.size<=i
theorem AK.pre{w wr:World}{base e J k:Nat}{nv m E:Value}{j q:List Value}{l:List cH}{v:Value}{r:List Value}(t:AK w wr base e J k nv m j l v r)(A:dT w base e nv m j q)(z:cC w base E l)(F:Sep l)(B:∀a,CG E l a->¬Es e nv m j q a){x:cH}(C:l[k]?=some x):
  ¬Cc v r e/\x.nv.ownBlock≠some e/\(∀a,x.nv.ownBlock=some a->¬Cc v r a)/\wr.ownsRow base 3 1 x.nv x.aI.length (ints x.aI):=by
 have u:=iz C;have o:∀a,x.nv.ownBlock=some a->¬Es e nv m j q a:=λa d=>B a (.inr ⟨x,u,d⟩);have D:∀y,y∈l.take k->∀a,y.nv.ownBlock=some a->x.nv.ownBlock≠some a:=λy h a d s=>by
  obtain⟨I,n⟩:=List.mem_iff_getElem?.1 h;rw[iW]at n;split at n
  ·obtain⟨G,rfl⟩:=iq.1 n;obtain⟨H,rfl⟩:=iq.1 C;exact List.pairwise_iff_getElem.1 F I k G H (by assumption) a d s
  cases n
 refine⟨λi=>?_,λs=>o e s (.inl rfl),λa d i=>?_,An (z.aI x u) t.kp (λa d i=>?_)⟩
 ·rcases t.f e i with c | ⟨y,h,c⟩ | c
  ·exact A.mn c
  ·exact B e (.inr ⟨y,iZ h,c⟩) (.inl rfl)
  have:=A.b.lt;omega
 ·rcases t.f a i with c | ⟨y,h,c⟩ | c
  ·exact o a d (.inr (.inl c))
  ·exact D y h a c d
  have:=(z.lt a (.inr ⟨x,u,d⟩)).2;omega
 rcases i with c | c | ⟨y,h,c⟩
 ·exact o a d (.inl c)
 ·exact o a d (.inr (.inl c))
 exact D y h a c d
theorem Qp{l:List cH}{k:Nat}{x:cH}(a:l[k]?=some x): x∈l.take (k+1):=by rw[ji,a];simp
theorem MM{l:List cH}{k:Nat}{x:cH}(a:x∈l.take k): x∈l.take (k+1):=by rw[ji];exact List.mem_append_left _ a
theorem AK.step{w wr n:World}{base h s k:Nat}{nv q:Value}{o:List Value}{l:List cH}{r m:Value}{t i:List Value}(j:AK w wr base h s k nv q o l r t){x:cH}(u:l[k]?=some x)(v:i.length=4*(s+k+1))(z:aD n h [m,q] 31)(A:JM n base m i)(B:aA (λa=>a=h\/r.ownBlock=some a\/x.nv.ownBlock=some a) wr n)(C:∀a,Cc m i a->Cc r t a\/x.nv.ownBlock=some a\/wr.heap.size<=a): AK w n base h s (k+1) nv q o l m i:=by
 have E:=j.kp.size;refine⟨v,z,A,(j.kp.mono (M':=λa=>a=h\/Cc nv o a\/∃x,x∈l.take (k+1)/\x.nv.ownBlock=some a) (λa _ c=>?_)).trans B (λa c D=>?_),λa c=>?_⟩
 ·rcases c with c | c | ⟨y,e,c⟩
  ·exact .inl c
  ·exact .inr (.inl c)
  exact .inr (.inr ⟨y,MM e,c⟩)
 ·rcases c with c | c | c
  ·exact .inl c
  ·rcases j.f a (.inl c) with d | ⟨y,e,d⟩ | d
   ·exact .inr (.inl d)
   ·exact .inr (.inr ⟨y,MM e,d⟩)
   omega
  exact .inr (.inr ⟨x,Qp u,c⟩)
 rcases C a c with d | d | d
 ·rcases j.f a d with d | ⟨y,e,d⟩ | d
  ·exact .inl d
  ·exact .inr (.inl ⟨y,MM e,d⟩)
  exact .inr (.inr d)
 ·exact .inr (.inl ⟨x,Qp u,d⟩)
 exact .inr (.inr (by omega))
theorem dT.all{w wr E x:World}{base h N k:Nat}{nv m n t av':Value}{q o v A:List Value}{l:List cH}(z:dT w base h nv m q o)(G:cC w base n l)(D:∀a,CG n l a->¬Es h nv m q o a)(j:AK w wr base h N k nv m q l t v)(C:lX wr E)(H:aD x h [t,av'] 31)(I:RH x base av' A)(F:aA (λa=>a=h\/m.ownBlock=some a\/n.ownBlock=some a) E x)(B:∀a,Cc av' A a->Cc m o a\/n.ownBlock=some a\/E.heap.size<=a):
  dT x base h t av' v A/\aA (λa=>Es h nv m q o a\/CG n l a) w x/\∀a,Es h t av' v A a->Es h nv m q o a\/CG n l a\/w.heap.size<=a:=by
 have P:=j.kp.size;have Q:=C.size;have O:=z.b.lt;have L:∀a,n.ownBlock=some a->a<w.heap.size:=λa c=>(G.lt a (.inl c)).2;have M:∀a,Cc t v a->a<wr.heap.size:=λa c=>(j.n.lt a c).2;have r:∀a,Cc t v a->a≠h/\n.ownBlock≠some a/\¬Cc m o a:=λa c=>by
  rcases j.f a c with e | ⟨u,s,e⟩ | e
  ·exact⟨λd=>z.mn (d ▸ e),λd=>D a (.inl d) (.inr (.inl e)),z.na a e⟩
  ·have i:=D a (.inr ⟨u,iZ s,e⟩);exact⟨λd=>i (.inl d),G.apart u (iZ s) a e,λd=>i (.inr (.inr d))⟩
  exact⟨by omega,λd=>by have:=L a d;omega,λd=>by have:=(z.a.lt a d).2;omega⟩
 refine⟨⟨H,(j.n.keeps C (λ_ _ j=>j)).keeps F (λa c J=>?_),I,λd=>(r h d).1 rfl,λd=>?_,λa c d=>?_⟩,?_,λa c=>?_⟩
 ·rcases J with d | d | d
  ·exact(r a c).1 d
  ·exact(r a c).2.2 (.inl d)
  exact(r a c).2.1 d
 ·rcases B h d with i | i | i
  ·exact z.ma i
  ·exact D h (.inl i) (.inl rfl)
  omega
 ·rcases B a d with i | i | i
  ·exact(r a c).2.2 i
  ·exact(r a c).2.1 i
  have:=M a c;omega
 ·refine((j.kp.mono (M':=λa=>Es h nv m q o a\/CG n l a) (λa _ c=>?_)).trans C (λ_ j _=>j.elim)).trans F (λa c _=>?_)
  ·rcases c with c | c | ⟨u,s,c⟩
   ·exact .inl (.inl c)
   ·exact .inl (.inr (.inl c))
   exact .inr (.inr ⟨u,iZ s,c⟩)
  rcases c with c | c | c
  ·exact .inl (.inl c)
  ·exact .inl (.inr (.inr (.inl c)))
  exact .inr (.inl c)
 rcases c with c | c | c
 ·exact .inl (.inl c)
 ·rcases j.f a c with e | ⟨u,s,e⟩ | e
  ·exact .inl (.inr (.inl e))
  ·exact .inr (.inl (.inr ⟨u,iZ s,e⟩))
  exact .inr (.inr e)
 rcases B a c with e | e | e
 ·exact .inl (.inr (.inr e))
 ·exact .inr (.inl (.inl e))
 exact .inr (.inr (by omega))
theorem O3(base s af A:Nat)(nv R ag:Value)(P N:List Value)(l:List cH)(w:World)(ab:dT w base s nv R P N)(b4:P.length=4*af)(aa:N.length=4*A)(H:cC w base ag l)(b5:Sep l)(b9:∀c,CG ag l c->¬Es s nv R P N c)(ce:∀j,j∈l->j.aI.length<=1000)(ec:af+l.length<=1303124892160)(eb:l.length<=651562446080)(ed:A<=10)(d7:base<=w.heap.size):
  Calls prog 10 #[π s,ag] w λT cp=>T=.returned (.tuple #[])/\∃U b2 Q a0,Q.length=4*(af+l.length)/\a0.length=4*(A+1)/\dT cp base s U b2 Q a0/\aA (λc=>Es s nv R P N c\/CG ag l c) w cp/\∀c,Es s U b2 Q a0 c->Es s nv R P N c\/CG ag l c\/w.heap.size<=c:=by
 obtain⟨bp,bg,bm,bn,bo⟩:=jg Nn;obtain⟨dr,dh,dn,dp,dq⟩:=jg zPc;obtain⟨r,q,rfl⟩:=BI H.row;have F:=Aa ab;have W:=Aa H;have da:=Aa b5;have C:=Aa b9;have db:=Aa ce;have cu:=Aa b4;generalize cc:l.length=v at *
 have bs:=Aa cc;clear ab H b5 b9 ce b4 cc;go_enter func10,ntmps10;go_wp2_with fail
 go_loopw [4] (λc wr=>∃(d:Nat) (U:Value) (Q:List Value),d<=v/\c=ι d/\Hid (AK w wr base s af d nv R P l U Q)) (λc _=>v-(intOf c).toNat)
 case atStart =>
  have ab:=F.o;exact⟨0,nv,P,by omega,rfl,⟨cu.o,ab.b,ab.n,aA.refl _ _,λc h=>.inl h⟩⟩
 case round =>
  obtain⟨d,U,Q,I,rfl,m⟩:=hrel;by_cases dj:d<v
  ·obtain⟨j,L⟩:∃j,l[d]?=some j:=⟨l[d]'(by rw[bs.o];exact dj),h9 _⟩;have H:=W.o;obtain⟨g,rfl,_,cq,_⟩:=Ik H d j L;obtain⟨cg,ch,ci,cj⟩:=m.o.pre F.o H da.o C.o L;have cv:=Aa cj;have cw:=Aa ci
   have c1:κ wr g (d*3+1) j.nv:=m.o.kp.cell cq (λe=>by
      have aw:CG (σ g v q) l g:=.inl rfl;rcases e with e | e | ⟨y,ae,e⟩
      ·exact C.o g aw (.inl e)
      ·exact C.o g aw (.inr (.inl e))
      exact H.apart y (iZ ae) g e rfl)
   have am:=Aa L;have di:(0:Int)<=(d:Int):=by omega
   have dk:(d:Int)<(v:Int):=by omega
   clear L H cj ci cq;go_wp2_with fail
   refine(Vb base s (af+d) U R j.nv Q j.aI wr m.o.b m.o.n m.o.ln (by omega) cv.o (db.o j (iz am.o)) (by have:=m.o.kp.size;omega) cg ch cw.o).mono ?_;rintro T V ⟨rfl,dt,dc,ck,cl,cm,cn,co⟩;have cx:=Aa (m.o.step am.o ck cl cm cn co);clear ck cl cm cn co cg ch c1;go_wp2;go_roundw;case rel=>exact⟨d+1,dt,dc,by omega,by go_num,cx⟩
   case measure=>simp[intOf];omega
  obtain rfl:d=v:=by omega
  obtain⟨a6,a7,av⟩:=BI F.o.a.row;rw[aa]at av;have c1:κ wr s 1 (.slice a6 (4*A) a7):=by rw[<-av];exact m.o.b.c1
  have dg:Int.tdiv ((4*A:Nat):Int) 4=(A:Int):=by rw[jd (by omega)];omega
  have X:=Aa av;clear av;go_wp2_with fail
  generalize bh:(77+(A:Int))=k at *
  have dz:=Aa bh;have bv:=Aa (aD.new wr [ι k,.slice none 0 0,.string ⟨#[]⟩] 39);have aj:=Aa ((aA.refl (λ_=>False) wr).alloc (.cells #[ι k,.slice none 0 0,.string ⟨#[]⟩] 39));have cd:∀c,(Value.slice r d q).ownBlock=some c->c<wr.heap.size:=λc h=>by have z:=(W.o.lt c (.inl h)).2;have D:=m.o.kp.size;omega
  have ak:=Aa (show(Value.slice r d q).ownBlock≠some wr.heap.size from λT=>by have:=cd _ T;omega);have a5:=Aa (show(Value.slice r d q).ownBlock≠some s from λT=>C.o s (.inl T) (.inl rfl));generalize wr.alloc (.cells #[ι k,.slice none 0 0,.string ⟨#[]⟩] 39)=an at *
  have al:=Aa (An (An W.o.row m.o.kp (λc h e=>by
         rcases e with e | e | ⟨y,ae,e⟩
         ·exact C.o c (.inl h) (.inl e)
         ·exact C.o c (.inl h) (.inr (.inl e))
         exact W.o.apart y (iZ ae) c e h)) aj.o (λ_ _ o=>o))
  rw[bs.o]at al
  have bq:=Aa ((F.o.a.keeps m.o.kp (λc h e=>by
         rcases e with e | e | ⟨y,ae,e⟩
         ·exact F.o.ma (e ▸ h)
         ·exact F.o.na c e h
         exact C.o c (.inr ⟨y,iZ ae,e⟩) (.inr (.inr h)))).keeps aj.o (λ_ _ o=>o))
  have a1:=Aa (m.o.b.keeps aj.o id);have br:=Aa (λ(b0 b1:World) (bz:Obj) (au v Z:Nat) (cf:List Value) (dl:cf.length=4) I hf hfr bl aw bb=>QH (f:=1) (lv:=Value.slice r d q) (W4:=b0) (W5:=b1) (O:=bz) (gg:=au) (n:=v) (cap:=Z) (l:=cf) a1.o bq.o aa dl I hf hfr F.o.ma a5.o (λc h e=>C.o c (.inl h) (.inr (.inr e))) bl aw bb rfl);rw[bh]at br;have ef:wr.heap.size<an.heap.size:=bv.o.lt;have eg:w.heap.size<=an.heap.size:=by have D:=m.o.kp.size;omega
  generalize dm:wr.heap.size=es at *
  clear c1 dg cd dm bh;generalize wr=d1 at *
  go_loopw [6] (λc wr=>∃a:Nat,a<=d/\c=ι a/\Hid (wr.ownsRow base 39 3 (.slice r d q) d (AZ [ι k,.slice none 0 0,.string ⟨#[]⟩] a++(CS l).drop (a*3)))/\Hid (aA (λc=>(Value.slice r d q).ownBlock=some c) an wr)) (λc _=>d-(intOf c).toNat)
  case atStart=>exact⟨0,by omega,rfl,al,aA.refl _ _⟩
  case round =>
   obtain⟨a,d8,rfl,x,Y⟩:=hrel;have bx:=Aa (bv.o.keeps Y.o ak.o);obtain⟨ej,o1,en,_⟩:=bx.o.three;by_cases d9:a<d
   ·obtain⟨g,Z,a8,_,_⟩:=x.o.form (by omega);injection a8 with a9 b3 ba;subst a9 ba;obtain⟨j,y,E,M,L⟩:∃j y E M,(CS l).drop (a*3)=j::y::E::M:=by
     have hlen:((CS l).drop (a*3)).length=d*3-a*3:=by rw[iU,al.o.1]
     match e:(CS l).drop (a*3) with
     | []=>rw[e]at hlen;simp at hlen;omega
     | [j]=>rw[e]at hlen;simp at hlen;omega
     | [j,y]=>rw[e]at hlen;simp at hlen;omega
     | j::y::E::M=>exact⟨j,y,E,M,rfl⟩
    have am:=Aa L;rw[L]at x;have ar:∀c B,[j,y,E][c]?=some B->(AZ [ι k,.slice none 0 0,.string ⟨#[]⟩] a++j::y::E::M)[a*3+c]?=some B:=λc B J=>by
     have h:=(iq.1 J).1;rw[iO (by rw[Fs];simp),Fs,show ∀de b df:Value,[de,b,df].length=3 from λ_ _ _=>rfl,kH,show j::y::E::M=[j,y,E]++M from rfl,iN h,J]
    have z:=Gy x.o (a*3) (ι k);have D:=Gy z (a*3+1) (.slice none 0 0);have ds:=Gw x.o (ar 0 j rfl);have eh:=Gw z (i:=a*3+1) (u:=y) (by rw[lp (by omega)];exact ar 1 y rfl);have ei:=Gw D (i:=a*3+2) (u:=E) (by rw[lp (by omega),lp (by omega)];exact ar 2 E rfl);have d3:=Kr x.o (a*3);have d4:=Kr z (a*3+1);have d5:=Kr D (a*3+2);rw[j0]at ds;clear z D;have di:(0:Int)<=(a:Int):=by omega
    have dk:(a:Int)<(d:Int):=by omega
    clear L ar;go_wp2_with fail
    go_roundw;case rel =>
     refine⟨a+1,by omega,by go_num,?_,Aa (((Y.o.setCell (p:=⟨g,a*3,none⟩) (.inl rfl) _).setCell (p:=⟨g,a*3+1,none⟩) (.inl rfl) _).setCell (p:=⟨g,a*3+2,none⟩) (.inl rfl) _)⟩;have z:=Gy (Gy (Gy x.o (a*3) (ι k)) (a*3+1) (.slice none 0 0)) (a*3+2) (.string ⟨#[]⟩);rw[Yo]at z;have D:(CS l).drop ((a+1)*3)=M:=by rw[lO,<-List.drop_drop,am.o];rfl
     rw[D];exact Aa z
    case measure=>simp[intOf];omega
   obtain rfl:a=d:=by omega
   have D:(CS l).drop (a*3)=[]:=iX (by rw[al.o.1];omega);rw[D,iC]at x;clear D;have ez:base<=wr.heap.size:=by have:=Y.o.size;omega
   go_wp2_with (at_builtin;first
     | (refine H0 _ rfl _ _ _ rfl base 39 bp _ 3 48 underlying32 bg bm bn bo rfl (by omega) [ι k,.slice none 0 0,.string ⟨#[]⟩] rfl _ a rfl (x.o.alloc _) ⟨wr.heap.size,0,none⟩ 1 1 rfl (λa B J=>iJ (cs:=#[ι k,.slice none 0 0,.string ⟨#[]⟩]) (t:=39) (fr:=(0,0)) (iH wr _) a B J) (by simp[Value.oneCell']) (by unfold maxLen;omega) (by omega) (by simp;omega) ?_;intro et ah bi bd b6 ax;obtain⟨ao,c1,rfl⟩:=BI bi;have ew:wr.heap.size<ah.heap.size:=by have:=bd.size;simp at this;omega
        have a2:=Aa (((aA.refl (λc=>(Value.slice r a q).ownBlock=some c) wr).alloc _).grown bd (λd I=>.inl I));have bt:=Aa (bx.o.keeps a2.o ak.o)
        obtain⟨ek,el,em,_⟩:=bt.o.three)
     | (refine H0 _ rfl _ _ _ rfl base 39 bp _ 3 48 underlying32 bg bm bn bo rfl (by omega) [ι k,.slice none 0 0,.string ⟨#[]⟩] rfl _ a rfl ((ax _ _ (by omega) (x.o.alloc _)).alloc _) ⟨ah.heap.size,0,none⟩ 2 2 rfl (λa B J=>iJ (cs:=#[ι k,.slice none 0 0,.string ⟨#[]⟩,ι k,.slice none 0 0,.string ⟨#[]⟩]) (t:=39) (fr:=(0,0)) (iH ah _) a B J) (by simp[Value.oneCell']) (by unfold maxLen;omega) (by omega) (by simp;omega) ?_;intro eu V bj be b7 ay;obtain⟨ap,c2,rfl⟩:=BI bj;have ex:ah.heap.size<V.heap.size:=by have:=be.size;simp at this;omega
        have a3:=Aa (((aA.refl (λc=>(Value.slice r a q).ownBlock=some c) ah).alloc _).grown be (λd I=>.inl I));have bu:=Aa (bt.o.keeps a3.o ak.o)
        obtain⟨eo,ep,er,_⟩:=bu.o.three)
     | (refine H0 _ rfl _ _ _ rfl base 39 bp _ 3 48 underlying32 bg bm bn bo rfl (by omega) [ι k,.slice none 0 0,.string ⟨#[]⟩] rfl _ a rfl ((ay _ _ (by omega) ((ax _ _ (by omega) (x.o.alloc _)).alloc _)).alloc _) ⟨V.heap.size,0,none⟩ 3 3 rfl (λa B J=>iJ (cs:=#[ι k,.slice none 0 0,.string ⟨#[]⟩,ι k,.slice none 0 0,.string ⟨#[]⟩,ι k,.slice none 0 0,.string ⟨#[]⟩]) (t:=39) (fr:=(0,0)) (iH V _) a B J) (by simp[Value.oneCell']) (by unfold maxLen;omega) (by omega) (by simp;omega) ?_;intro ev G bk bf b8 az;obtain⟨aq,c3,rfl⟩:=BI bk;have ey:V.heap.size<G.heap.size:=by have:=bf.size;simp at this;omega
        have a4:=Aa (((aA.refl (λc=>(Value.slice r a q).ownBlock=some c) V).alloc _).grown bf (λd I=>.inl I));have d0:=Aa (bu.o.keeps a4.o ak.o);have ai:=Aa (Y.o.then (a2.o.then (a3.o.then a4.o)));have d2:κ G s 1 (.slice a6 (4*A) a7):=by rw[<-X.o];exact ai.o.cell a1.o.c1 a5.o
        have cy:=Aa (show G.ownsRow base 32 1 (.slice a6 (4*A) a7) (4*A) N by
           have z:=An bq.o.row ai.o (λc h o=>C.o c (.inl o) (.inr (.inr (.inl h))));rw[X.o,aa]at z
           exact z)
        have cr:=Aa (show ∀S,S∈[Value.slice r a q,.slice ao (a+1) c1,.slice ap (a+2) c2,.slice aq (a+3) c3]->∃v,G.ownsRow base 39 3 S v (AZ [ι k,.slice none 0 0,.string ⟨#[]⟩] v) by
           intro S ad;simp only[iA,ks,or_false]at ad;rcases ad with rfl | rfl | rfl | rfl
           ·exact⟨_,az _ a (by omega) ((ay _ a (by omega) ((ax _ a (by omega) (x.o.alloc _)).alloc _)).alloc _)⟩
           ·exact⟨_,az _ _ (by omega) ((ay _ _ (by omega) (bi.alloc _)).alloc _)⟩
           ·exact⟨_,az _ _ (by omega) (bj.alloc _)⟩
           exact⟨_,bk⟩)
        have ct:=Aa (show ∀S,S∈[Value.slice r a q,.slice ao (a+1) c1,.slice ap (a+2) c2,.slice aq (a+3) c3]->∀c,S.ownBlock=some c->(Value.slice r a q).ownBlock=some c\/an.heap.size<=c by
           have ee:=Y.o.size;intro S ad c h;simp only[iA,ks,or_false]at ad;rcases ad with rfl | rfl | rfl | rfl
           ·exact .inl h
           ·exact(b6 c h).imp_right (λo=>by simp at o;omega)
           ·exact(b7 c h).imp_right (λo=>by simp at o;omega)
           exact(b8 c h).imp_right (λo=>by simp at o;omega))
        clear bi bj bk b6 b7 b8 ax ay az bd be bf a2 a3 a4)
     | (refine jf _ rfl _ _ _ rfl base 32 dr _ 1 24 underlying29 dh dn dp dq rfl (by omega) _ (4*A) N rfl (cy.o.alloc _) ⟨G.heap.size,0,none⟩ 4 4 [Value.slice r a q,.slice ao (a+1) c1,.slice ap (a+2) c2,.slice aq (a+3) c3] rfl rfl (iJ (cs:=#[Value.slice r a q,.slice ao (a+1) c1,.slice ap (a+2) c2,.slice aq (a+3) c3]) (t:=32) (fr:=(0,0)) (iH G _)) (by simp[Value.oneCell']) (by omega) (by unfold maxLen;omega) (by omega) (by simp;omega) (G.heap.size+1) (by simp) ?_;intro au Z dy bl ca bb ea
        have cb:=(((aA.refl (λc=>R.ownBlock=some c) G).alloc _).grown ca (λc h=>.inl (by rw[X.o];exact h)));have bc:=(a1.o.keeps ai.o a5.o).keeps cb (λo=>F.o.ma (.inl o));have c4:=bc.c1;have d6:=bc.frozen 1
        clear cb bc))
   go_end0;obtain⟨a8,a9,b3,ba⟩:=br.o G dy _ au _ Z _ rfl ai.o cr.o ct.o (by rw[aa];exact bl) (by rw[X.o];exact ca) (by rw[X.o];exact bb);obtain⟨du,dw,dx⟩:=F.o.all W.o C.o m.o aj.o a8 a9 b3 ba;exact⟨rfl,_,_,_,_,m.o.ln,by simp[aa];omega,du,dw,dx⟩
end
section
attribute [local go_sem ↓] AH Bs JR Nw
attribute [local go_sem] AI Bt A3 A4 AJ AL B8 B9 Oj
theorem Y6(v b2:Nat)(q r:Value)(l:List Int)(w:World)(h:w.ownsRow v 3 1 q l.length (ints l))(d:w.ownsRow b2 3 1 r l.length (ints l))(H:l.length<=1000):
  Calls prog 33 #[q,r] w λx C=>x=.returned (.bool true)/\lX w C:=by
 rcases Kv h with ⟨rfl,D,c1,rfl⟩ | ⟨z,c1,rfl,k⟩
 ·rcases Kv d with ⟨_,u,c2,rfl⟩ | ⟨n,c2,rfl,m⟩;all_goals
   clear h d;go_enter func33,ntmps33;go_wp2;go_loopw [5] (λc wr=>c=ι 0/\wr=w) (λ_ _=>0)
   case atStart=>exact⟨rfl,rfl⟩
   case round =>
    obtain⟨rfl,rfl⟩:=hrel;go_wp2;go_ret;exact⟨rfl,aA.refl _ _⟩
 rcases Kv d with ⟨A,u,c2,rfl⟩ | ⟨n,c2,rfl,m⟩
 ·subst A;clear h d k;go_enter func33,ntmps33;go_wp2;go_loopw [5] (λc wr=>c=ι 0/\wr=w) (λ_ _=>0)
  case atStart=>exact⟨rfl,rfl⟩
  case round =>
   obtain⟨rfl,rfl⟩:=hrel;go_wp2;go_ret;exact⟨rfl,aA.refl _ _⟩
 have s:=Aa k;have t:=Aa m;clear h d k m;generalize B:l.length=i at *
 clear B;go_enter func33,ntmps33;go_wp2;go_loopw [5] (λc wr=>∃a:Nat,a<=i/\c=ι a/\Hid (lX w wr)) (λc _=>i-(intOf c).toNat)
 case atStart=>exact⟨0,by omega,rfl,aA.refl _ _⟩
 case round =>
  obtain⟨a,E,rfl,e⟩:=hrel;by_cases o:a<i
  ·have I:κ wr z a (ι (l.getD a 0)):=e.o.cell (s.o a o) id;have J:κ wr n a (ι (l.getD a 0)):=e.o.cell (t.o a o) id;generalize l.getD a 0=y at *
   have F:(0:Int)<=(a:Int):=by omega
   have G:(a:Int)<(i:Int):=by omega
   go_wp2;go_quiet (fail)
   go_wp2;go_roundw;case rel=>exact⟨a+1,by omega,by go_num,Aa (e.o.then (aA.drewN _ _ _))⟩
   case measure=>simp[intOf];omega
  go_wp2;go_ret;exact⟨rfl,e.o⟩
def Dp(l:List aO): List Int:=(G2 l).map (λ(n:Nat)=>(n:Int))
theorem W8(l:List aO)(o:aO): Dp (l++[o])=Dp l++if (o.kind==6)=true then[(l.length:Int)] else[]:=by
 unfold Dp;rw[LI,iB];split <;> rfl
theorem QV(l:List aO): (Dp l).length<=l.length:=by
 unfold Dp G2;have:=k9 (λa=>match l[a]? with | some c=>c.kind==6 | none=>false) (List.range l.length);rw[List.length_range]at this;rw[iu];exact this
theorem Yz(v:Value)(c:List aO)(w:World)(x:bG w v c)(hlen:c.length<=651562446080):
  Calls prog 13 #[v] w λX C=>∃B,X=.returned B/\C.ownsRow w.heap.size 3 1 B (Dp c).length (ints (Dp c))/\lX w C:=by
 obtain⟨Y,Z,rfl,z⟩:=Gi x;obtain⟨V,M,S,T,U⟩:=jg Ey;have D:=Aa z;clear x z;generalize s:c.length=k at *
 have m:=Aa s;clear s;go_enter func13,ntmps13;go_wp2_with fail
 go_loopw [3,4] (λW j wr=>∃(a:Nat),a<=k/\j=ι a/\Hid (wr.ownsRow w.heap.size 3 1 W (Dp (c.take a)).length (ints (Dp (c.take a))))/\Hid (lX w wr)) (λ_ j _=>k-(intOf j).toNat)
 case atStart=>exact⟨0,by omega,rfl,iy _ _ _ _,aA.refl _ _⟩
 case round =>
  obtain⟨a,ae,rfl,i,h⟩:=hrel;generalize u3=ai at *
  by_cases O:a<k
  ·obtain⟨e,o⟩:∃e,c[a]?=some e:=⟨c[a]'(by rw[m.o];exact O),h9 _⟩;obtain⟨aj,ak,I,Q,u⟩:=D.o a e o;have G:=h.o.cell (u 0 _ rfl) id;rw[j0]at G;subst I;have A:c.take (a+1)=c.take a++[e]:=by rw[ji,o];rfl
   have P:=QV (c.take a);have n:(c.take a).length=a:=by rw[iG,m.o];omega
   rw[n]at P;have q:=Aa (show Dp (c.take (a+1))=Dp (c.take a)++if (e.kind==6)=true then[(a:Int)] else[] by rw[A,W8,n]);have af:(0:Int)<=(a:Int):=by omega
   have ag:(a:Int)<(k:Int):=by omega
   clear u A o n;generalize Dp (c.take a)=d at *
   obtain⟨E,F,rfl⟩:=BI i.o;cases b6:e.kind==6
   ·have l:=Aa (show Dp (c.take (a+1))=d by rw[q.o,b6];simp);go_wp2_with fail
    go_roundw;case rel=>exact⟨a+1,by omega,by go_num,by rw[l.o];exact i,h⟩
    case measure=>simp[intOf];omega
   have l:=Aa (show Dp (c.take (a+1))=d++[(a:Int)] by rw[q.o,b6];simp);go_wp2_with (at_builtin;refine jf _ rfl _ _ _ rfl w.heap.size 3 V _ 1 8 underlying37 M S T U rfl (by omega) (.slice E d.length F) d.length (ints d) rfl (i.o.alloc _) ⟨wr.heap.size,0,none⟩ 1 1 [ι a] rfl rfl (iJ (cs:=#[ι a]) (t:=3) (fr:=(0,0)) (iH wr _)) (by simp[Value.oneCell']) (by omega) (by unfold maxLen;omega) (by omega) (by have:=h.o.size;simp;omega) (wr.heap.size+1) (by simp) ?_;intro ab aa al R J ad ah)
   go_roundw;case rel =>
    refine⟨a+1,by omega,by go_num,?_,?_⟩
    ·show World.ownsRow _ _ _ _ _ _ _;rw[l.o,ic,show ints (d++[(a:Int)])=ints d++[ι a] by simp[ints]];exact R
    exact(h.o.alloc _).trans (LM J) (λj L Q=>by have:=(i.o.lt j L).1;omega)
   case measure=>simp[intOf];omega
  have N:a=k:=by omega
  subst N;go_wp2_with fail
  go_ret;have r:=i.o;rw[iw (by rw[m.o];omega)]at r;exact⟨_,rfl,r,h.o⟩
theorem XW(c:Int)(n:Nat)(w:World)(k:1<=n)(m:n<=4611686018427387904)(c0:-9223372036854775808<=c)(c1:c<=9223372036854775807):
  Calls prog 14 #[ι c,ι n] w λj l=>j=.returned (ι (G5 c n))/\G5 c n<n/\l=w:=by
 have i:((G5 c n:Nat):Int)=(if c<0 then -(c+1) else c)%(n:Int):=kE (ki _ (by omega));have d:=Aa i;have e:=Aa (MB c k);clear i;by_cases h:c<0
 ·have a:=Aa (show(if c<0 then -(c+1) else c)=-(c+1) from ij h);go_enter func14,ntmps14;go_wp2;go_ret;refine⟨A9 ?_,e.o,rfl⟩;rw[d.o,a.o];exact(Int.neg_tmod (c+1) n).symm.trans (jY (by omega))
 have a:=Aa (show(if c<0 then -(c+1) else c)=c from ig h);go_enter func14,ntmps14;go_wp2;go_ret;refine⟨A9 ?_,e.o,rfl⟩;rw[d.o,a.o]
