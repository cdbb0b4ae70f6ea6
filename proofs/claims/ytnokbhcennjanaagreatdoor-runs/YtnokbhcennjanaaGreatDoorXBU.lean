import Derived.Test.YtnokbhcennjanaaGreatDoorXBS
import Derived.Test.YtnokbhcennjanaaGreatDoorXBT
open Go.RowKit Go.Proofs.Tryz
set_option maxRecDepth 100000
set_option maxHeartbeats 16000000
namespace Go.Proofs.YtnokbhcennjanaaGreatDoor
section
def F3(ys:List It): List Int:=ys.flatMap λy=>[y.n,y.t,y.k,y.d]
structure gV (c:Cfg) (m acc rel:Int) (ns:List Int) (ys:List It):Prop where
 len:(ys.length:Int)=if c.size+1<rel then c.size+1 else rel
 num:∀y,y∈ys->1<=y.n/\y.n<=acc
 eB:(ns++ys.map (·.n)).Nodup
 gH:∀y,y∈ys->0<=y.t/\y.t<=m/\0<=y.k/\y.k<=9223372036854775807/\0<=y.d/\y.d<=9223372036854775807
 ref:∀y,y∈ys->AL c 5 y=0
structure TL (w:World) (d q r kn:Nat) (c:Cfg) (m acc rel:Int) (og:Option Nat) (nv:Value) (tk:List Dr.It) (tl:List Nat) (ns:List Int) (og2:Option Nat) (nv2:Value) (wr:World):Prop where
 tr:dM wr d q og2 c tk
 rd:aR wr r tl
 kr:dA wr kn m acc rel nv2 ns
 kp:aA (λi=>i=r\/i=kn\/nv.ownBlock=some i\/i=q\/og=some i) w wr
 fo:og2=og\/∃k,og2=some k/\w.heap.size<=k
 fn:∀i,nv2.ownBlock=some i->nv.ownBlock=some i\/w.heap.size<=i
 sp:∀i,nv2.ownBlock=some i->i≠d/\i≠q/\og2≠some i
 ap:d≠r/\q≠r/\d≠kn/\q≠kn/\r<kn/\r<w.heap.size
 ag:∀g,og2=some g->g≠r/\g≠kn
theorem TL.eN{w:World}{e l n a:Nat}{c:Cfg}{m acc rel:Int}{j:Option Nat}{nv:Value}{o:List Dr.It}{tl:List Nat}{ns:List Int}{k:Option Nat}{d:Value}{wr:World}(h:TL w e l n a c m acc rel j nv o tl ns k d wr)(i:Nat)(hi:d.ownBlock=some i): a+1<=i/\i<wr.heap.size:=h.kr.row.lt i hi
theorem TL.still{w:World}{e l n h:Nat}{c:Cfg}{m acc rel:Int}{j:Option Nat}{nv:Value}{o:List Dr.It}{tl:List Nat}{ns:List Int}{k:Option Nat}{i:Value}{wr q:World}(a:TL w e l n h c m acc rel j nv o tl ns k i wr)(d:lO wr q): TL w e l n h c m acc rel j nv o tl ns k i q :=
 ⟨a.tr.still d,a.rd.keeps d id,a.kr.keeps d id (λ_ _ a=>a),a.kp.trans d (λ_ a _=>a.elim),a.fo,a.fn,a.sp,a.ap,a.ag⟩
theorem TL.num{w:World}{k q j i:Nat}{c:Cfg}{m acc rel n:Int}{v:Option Nat}{nv:Value}{z:List Dr.It}{tl:List Nat}{ns:List Int}{x:Option Nat}{u:Value}{wr:World}(d:TL w k q j i c m acc rel v nv z (enc n++tl) ns x u wr)(n1:1<=n)(L:n<=acc)(A:acc<=4611686018427387904)(I:n ∉ ns)(H:ns.length<=900):
  Calls prog 127 #[.pointer (some ⟨i,0,none⟩),.pointer (some ⟨j,0,none⟩)] wr λa M=>a=.returned (.int .i64 n)/\∃o,TL w k q j i c m acc rel v nv z tl (ns++[n]) x o M:=by
 obtain⟨B,C,D,E,F,N⟩:=d.ap;have Q:=d.kp.size;refine(N5 j i m acc rel n u ns tl wr d.rd d.kr F n1 L A I H).mono ?_;rintro a R ⟨rfl,J,⟨o,G,t⟩,s⟩;refine⟨rfl,o,⟨d.tr.keeps s (λa=>?_) (λa=>?_) (λg l a=>?_),J,G,d.kp.trans s (λe h P=>?_),d.fo,λe h=>?_,λe h=>?_,d.ap,d.ag⟩⟩
 ·rcases a with a | a | a
  ·exact B a
  ·exact D a
  exact(d.sp k a).1 rfl
 ·rcases a with a | a | a
  ·exact C a
  ·exact E a
  exact(d.sp q a).2.1 rfl
 ·rcases a with a | a | a
  ·exact(d.ag g l).1 a
  ·exact(d.ag g l).2 a
  exact(d.sp g a).2.2 l
 ·rcases h with a | a | a
  ·exact .inl a
  ·exact .inr (.inl a)
  rcases d.fn e a with f | f
  ·exact .inr (.inr (.inl f))
  omega
 ·rcases t e h with f | f
  ·exact d.fn e f
  exact .inr (by omega)
 rcases t e h with f | f
 ·exact d.sp e f
 have O:=d.tr.aF.lt;have r:=d.tr.dL.lt;exact⟨by omega,by have:=r.1;omega,λa=>by have:=(r.2 e a).1;omega⟩
theorem TL.hU{w:World}{j q i l:Nat}{c:Cfg}{m acc rel:Int}{t:Option Nat}{nv:Value}{u:List Dr.It}{tl v:List Nat}{ns:List Int}{o:Option Nat}{n:Value}{wr r:World}{bx:Nat}(d:TL w j q i l c m acc rel t nv u tl ns o n wr)(k:aA (λe=>e=i\/e=bx) wr r)(G:aR r i v)(F:j≠bx/\q≠bx/\o≠some bx/\l≠bx/\n.ownBlock≠some bx/\w.heap.size<=bx): TL w j q i l c m acc rel t nv u v ns o n r:=by
 obtain⟨A,B,C,D,E,M⟩:=F;obtain⟨x,z,H,I,J,L⟩:=d.ap;refine⟨d.tr.keeps k (λa=>a.elim x A) (λa=>a.elim z B) (λg s a=>a.elim (d.ag g s).1 (λa=>C (by rw[<-a];exact s))),G,d.kr.keeps k (λa=>a.elim (by omega) D) (λe h a=>a.elim (λa=>by have:=(d.eN e h).1;omega) (λa=>E (by rw[<-a];exact h))),d.kp.trans k (λe h N=>?_),d.fo,d.fn,d.sp,d.ap,d.ag⟩;rcases h with a | a
 ·exact .inl a
 omega
theorem TL.rel{w:World}{n l u t:Nat}{c:Cfg}{m acc rel:Int}{A:Option Nat}{nv:Value}{F B:List Dr.It}{tl:List Nat}{ns:List Int}{j k:Option Nat}{z:Value}{wr v:World}(d:TL w n l u t c m acc rel A nv F tl ns j z wr)(E:dM v n l k c B)(q:aA (λe=>e=l\/j=some e) wr v)(r:k=j\/∃e,k=some e/\wr.heap.size<=e): TL w n l u t c m acc rel A nv B tl ns k z v:=by
 obtain⟨G,C,H,D,I,J⟩:=d.ap;have O:=d.kp.size;have N:=d.rd.aF.lt;have L:=d.kr.aF.lt;refine⟨E,d.rd.keeps q (λa=>a.elim (λa=>C a.symm) (λa=>(d.ag u a).1 rfl)),d.kr.keeps q (λa=>a.elim (λa=>D a.symm) (λa=>(d.ag t a).2 rfl)) (λi h a=>a.elim (d.sp i h).2.1 (d.sp i h).2.2),d.kp.trans q (λi h M=>?_),?_,d.fn,λi h=>⟨(d.sp i h).1,(d.sp i h).2.1,λa=>?_⟩,d.ap,λg o=>?_⟩
 ·rcases h with a | a
  ·exact .inr (.inr (.inr (.inl a)))
  rcases d.fo with f | ⟨e,f,s⟩
  ·exact .inr (.inr (.inr (.inr (by rw[<-f];exact a))))
  have x:j=some i:=a;rw[f]at x;have:=jA x;omega
 ·rcases r with f | ⟨e,f,s⟩
  ·rw[f];exact d.fo
  exact .inr ⟨e,f,by omega⟩
 ·rcases r with f | ⟨e,f,s⟩
  ·exact(d.sp i h).2.2 (by rw[<-f];exact a)
  rw[f]at a;have:=jA a;have:=(d.eN i h).2;omega
 rcases r with f | ⟨e,f,s⟩
 ·exact d.ag g (by rw[<-f];exact o)
 rw[f]at o;have:=jA o;omega
end
section
attribute [local go_sem ↓] AN
attribute [local go_sem] AO A5 A6 AI AJ BC BD Bf B3
theorem Z1(c:Cfg)(l:List Dr.It)(y:It): (AU c l y).length<=l.length+1:=by
 unfold AU;split
 ·rw[Dr.takeL_length,Dr.riseL_length,hY,iZ];omega
 rw[Dr.riseL_length,hY,iZ];omega
theorem U0(o u q k:Nat)(v:Option Nat)(c:Cfg)(m acc rel:Int)(nv:Value)(ns:List Int)(e:List It)(tl:List Nat)(w:World)(H:TL w o u q k c m acc rel v nv [] (Ae (F3 e)++tl) ns v nv w)(Y:gV c m acc rel ns e)(a6:c.bH)(bs:1<=c.size)(bt:c.size<=5)(cc:m<=4611686018427387904)(bi:acc<=4611686018427387904)(b9:ns.length<=800):
  Calls prog 162 #[.pointer (some ⟨o,0,none⟩),.pointer (some ⟨q,0,none⟩),.pointer (some ⟨k,0,none⟩)] w λl h=>l=.returned (.tuple #[])/\∃r z,TL w o u q k c m acc rel v nv (e.foldl (AU c) []) tl (ns++e.map (·.n)) r z h:=by
 have be:=Aa H;have E:=Aa Y;have au:=Aa a6;have br:w.cell? ⟨k,2,none⟩=some (.int .i64 rel):=H.kr.aF.cell rfl;have bj:w.cell? ⟨o,10,none⟩=some (.int .i64 c.size):=H.tr.aF.cell rfl;obtain⟨t,X⟩:∃t,e.length=t:=⟨_,rfl⟩;have hlen:=Y.len;rw[X]at hlen;have R:=Aa X;clear H Y a6 X;have b6:t<=6:=by split at hlen <;> omega
 have cg:IntKind.i64.wrap (c.size+1)=c.size+1:=by rw[ic];omega
 have bk:(c.size+1<rel/\c.size+1=(t:Int))\/(¬c.size+1<rel/\rel=(t:Int)):=by
  split at hlen
  ·rename_i a;exact .inl ⟨a,hlen.symm⟩
  rename_i a;exact .inr ⟨a,hlen.symm⟩
 clear hlen;go_enter func162,ntmps162;rcases bk with ⟨av,aw⟩ | ⟨av,aw⟩;all_goals
  go_wp2_with fail
  go_quiet (fail)
  go_wp2_with fail
  have am:=Aa (be.o.still (aA.drewN (λ_=>False) w nq));generalize w.drewN nq=cf at *
  clear br bj;go_loopw [18] (λaf wr=>∃(d:Nat) (r:Option Nat) (z:Value),d<=t/\af=.int .i64 (d:Int)/\Hid (TL w o u q k c m acc rel v nv ((e.take d).foldl (AU c) []) (Ae (F3 (e.drop d))++tl) (ns++(e.take d).map (·.n)) r z wr)/\Hid (((e.take d).foldl (AU c) []).length<=d)) (λaf _=>t-(intOf af).toNat)
  case atStart=>exact⟨0,v,nv,iM _,rfl,by show TL _ _ _ _ _ _ _ _ _ _ _ _ _ _ _ _ _;rw[jM,kD,kh,iz];exact am.o,by show _<=_;rw[jM];exact il _⟩
  case round =>
   clear am;obtain⟨d,r,z,az,rfl,F,an⟩:=hrel;by_cases bm:d<t
   ·obtain⟨y,I⟩:∃y,e[d]?=some y:=⟨_,hX (by rw[R.o];exact bm)⟩;have b7:(d:Int)<(t:Int):=by omega
    have ar:=Aa (show e.take (d+1)=e.take d++[y] by rw[jg,I];rfl)
    have ak:=Aa (show e.drop d=y::e.drop (d+1) by
       have a1:=ik.1 I
       rw[List.drop_eq_getElem_cons a1.1,a1.2])
    have J:=iu I;obtain⟨b1,b2⟩:=E.o.num y J;obtain⟨ai,bu,ca,cb,b3,b4⟩:=E.o.gH y J;have bd:=Aa (E.o.ref y J)
    have ao:=Aa (show y.n ∉ ns++(e.take d).map (·.n) by
       have a:=E.o.eB;rw[show e=e.take d++e.drop d from(List.take_append_drop d e).symm,iy,ak.o,<-List.append_assoc]at a;intro ad
       exact(jD.1 a).2.2 _ ad _ (by simp) rfl)
    have Q:=Aa (show TL w o u q k c m acc rel v nv ((e.take d).foldl (AU c) []) (enc y.n++(Ae [y.t,y.k,y.d]++(Ae (F3 (e.drop (d+1)))++tl))) (ns++(e.take d).map (·.n)) r z wr by
       have a:=F.o;rw[ak.o]at a
       simpa only[F3,ju,BN,By,Dm,jt,List.append_assoc,List.cons_append] using a)
    have S:=Aa (show(e.take (d+1)).foldl (AU c) []=AU c ((e.take d).foldl (AU c) []) y by rw[ar.o,jP];rfl);obtain⟨D,a5⟩:∃D,(e.take d).foldl (AU c) []=D:=⟨_,rfl⟩;rw[a5]at Q S an;have b8:D.length<=d:=an.o;clear F a5 J I;go_wp2_with fail
    refine(Q.o.num b1 b2 bi ao.o (by simp;omega)).mono ?_;rintro l n ⟨rfl,ah,ax⟩;have O:=Aa ax;clear ax Q ao;go_wp2_with fail
    have N:=Aa (show aD (n.alloc (.cells #[.int .i64 0,.int .i64 0,.int .i64 0,.int .i64 y.n] 80)) n.heap.size [.int .i64 0,.int .i64 0,.int .i64 0,.int .i64 y.n] 80 from aD.new n [_,_,_,_] _);have al:=Aa (O.o.still ((aA.refl (λ_=>False) n).alloc (.cells #[.int .i64 0,.int .i64 0,.int .i64 0,.int .i64 y.n] 80)))
    have s:=Aa (show o≠n.heap.size/\u≠n.heap.size/\r≠some n.heap.size/\k≠n.heap.size/\ah.ownBlock≠some n.heap.size/\w.heap.size<=n.heap.size/\q<n.heap.size from by
       have a:=O.o;have ba:=a.tr.dL.lt
       exact⟨by have:=a.tr.aF.lt;omega,by have:=ba.1;omega,λl=>by have:=(ba.2 _ l).1;omega,by have:=a.kr.aF.lt;omega,λl=>by have:=(a.eN _ l).2;omega,a.kp.size,a.rd.aF.lt⟩)
    clear O;generalize(n.alloc (.cells #[.int .i64 0,.int .i64 0,.int .i64 0,.int .i64 y.n] 80))=bv at *
    generalize n.heap.size=j at *
    refine(M9 j bv).mono ?_;rintro l bz ⟨a9,rfl,ae,aa⟩;have ap:=Aa ae;have P:=Aa (al.o.still aa);have aj:=Aa (N.o.keeps aa id)
    have aq:=Aa (show ∀d,a9.ownBlock=some d->d≠q/\d≠j from λd az=>by
       have av:=(ae.lt d az).1;have aw:=N.o.lt;have b5:=s.o.2.2.2.2.2.2
       omega)
    clear ae aa al N;go_wp2_with fail
    refine(LB q j [0,1,2] [y.t,y.k,y.d] [.int .i64 0,.int .i64 0,.int .i64 0,.int .i64 y.n] 80 a9 _ _ bz P.o.rd (by have:=ap.o;unfold at' at this ⊢;rw[im]at this;exact this) aj.o rfl (λce ad=>by simp at ad ⊢;omega) (by have:=s.o.2.2.2.2.2.2;omega) aq.o (λcd bp=>by simp at bp;omega) (by simp)).mono ?_;rintro l L ⟨rfl,a3,ay,a0⟩;have C:=Aa (P.o.hU (bx:=j) a0 a3 ⟨s.o.1,s.o.2.1,s.o.2.2.1,s.o.2.2.2.1,s.o.2.2.2.2.1,s.o.2.2.2.2.2.1⟩);have A:=Aa (show aD L j [.int .i64 y.t,.int .i64 y.k,.int .i64 y.d,.int .i64 y.n] 80 from ay);clear a3 ay a0 P aj ap aq;have T:=A.o.c0;have U:=A.o.c1;have V:=A.o.c2;have W:=A.o.c3;have ag:L.cell? ⟨k,0,none⟩=some (.int .i64 m):=C.o.kr.aF.cell rfl;obtain⟨bq,bl⟩:=Eg C.o.tr.aF 0 20 c.cells rfl rfl;have Z:=C.o.tr.aF.lt;have bn:Ab y.t 0 m=true:=by simp[Ab,ai,bu]
    go_wp2_with fail
    go_region_held3 (λh=>h.cell? ⟨j,0,none⟩=some (.int .i64 y.t)/\h.cell? ⟨j,1,none⟩=some (.int .i64 y.k)/\h.cell? ⟨j,2,none⟩=some (.int .i64 y.d)/\h.cell? ⟨j,3,none⟩=some (.int .i64 y.n)/\h.cell? ⟨k,0,none⟩=some (.int .i64 m)/\Ao h o 0 20=.agg c.cells.toArray/\Ay h o 0 20=true)
     (first | (simp[*,A5,A6];done) | (go_split_ands;refine⟨i.cell (by assumption) id,i.cell (by assumption) id,i.cell (by assumption) id,i.cell (by assumption) id,i.cell (by assumption) id,(Cb i id (by simpa using Z)).1.trans (by assumption),(Cb i id (by simpa using Z)).2.trans (by assumption)⟩))
     (first | (go_at_call 34;refine(AK _ _ _ _).mono ?_;rintro l h ⟨rfl,rfl⟩;rw[bn]) | (go_at_call 113;refine(LU c 5 y _ (by omega) (by omega) (λ_=>au.o) ai (by omega)).mono ?_;rintro l h ⟨rfl,i⟩;rw[bd.o]) | (go_at_call 124;refine(Gc q _).mono ?_;rintro l bb ⟨rfl,rfl⟩))
    have ab:lO L bb:=((aA.refl (λ_=>False) L).drew).then i;have x:=Aa (C.o.still ab);have B:=Aa (A.o.keeps ab id);clear i ab C A T U V W ag bq bl Z;generalize bb=M at *
    go_wp2_with fail
    refine(Ma q _ M x.o.rd).mono ?_;rintro l b0 ⟨rfl,a7⟩;rw[a7];clear a7 b0;have T:=B.o.c0;have U:=B.o.c1;have V:=B.o.c2;have W:=B.o.c3;have ag:M.cell? ⟨k,0,none⟩=some (.int .i64 m):=x.o.kr.aF.cell rfl;have G:=Aa (show ¬(j=u\/r=some j) from λa=>a.elim (λa=>s.o.2.1 a.symm) s.o.2.2.1);have bg:=Aa (show ¬(k=u\/r=some k) from λa=>a.elim (λa=>x.o.ap.2.2.2.1 a.symm) (λa=>(x.o.ag k a).2 rfl));go_wp2_with fail
    go_region_held3 (λh=>h.cell? ⟨j,0,none⟩=some (.int .i64 y.t)/\h.cell? ⟨j,1,none⟩=some (.int .i64 y.k)/\h.cell? ⟨j,2,none⟩=some (.int .i64 y.d)/\h.cell? ⟨j,3,none⟩=some (.int .i64 y.n)/\h.cell? ⟨k,0,none⟩=some (.int .i64 m))
     (first | (simp[*];done) | (go_split_ands;exact⟨i.cell (by assumption) G.o,i.cell (by assumption) G.o,i.cell (by assumption) G.o,i.cell (by assumption) G.o,i.cell (by assumption) bg.o⟩))
     (first | (go_at_call 159;refine(Nj o u r c D y m _ (by exact x.o.tr.still ((aA.refl (λ_=>False) M).drew)) au.o ai (by omega) bs bt (by omega)).mono ?_;rintro l h ⟨rfl,a8,a4,i,a2⟩))
    have bc:=Aa (show TL w o u q k c m acc rel v nv ((e.take (d+1)).foldl (AU c) []) (Ae (F3 (e.drop (d+1)))++tl) (ns++(e.take (d+1)).map (·.n)) a8 ah h by
       rw[S.o,ar.o,iy,List.map_singleton,<-List.append_assoc]
       exact(x.o.still ((aA.refl (λ_=>False) M).drew)).rel a4 i a2)
    have bf:=Aa (show((e.take (d+1)).foldl (AU c) []).length<=d+1 by
       rw[S.o];have:=Z1 c D y
       omega)
    clear a4 i a2 T U V W ag x B;go_wp2;go_roundw;case rel=>exact⟨d+1,a8,ah,by omega,by go_num,bc,bf⟩
    case measure=>simp[intOf];omega
   have bo:d=t:=by omega
   subst bo
   have bh:=Aa (show TL w o u q k c m acc rel v nv (e.foldl (AU c) []) tl (ns++e.map (·.n)) r z wr by
      have a:=F.o;rw[show e.take d=e from by rw[<-R.o];exact kZ,show e.drop d=[] from by rw[<-R.o];exact kE]at a
      exact a)
   clear F;go_wp2;go_end0;exact⟨rfl,r,z,bh.o⟩
end
section
structure Good (n clock:Int) (x:aI):Prop where
 i:aT n x
 sx:SX x
 z:SZ clock x
 c0:0<=clock
 c1:clock<=4611686018427387904
 n1:n<=1000000000000
theorem Good.rel{n clock:Int}{x:aI}(a:Good n clock x): 0<=x.rel/\x.rel<=1000000000000:=by
 have c:=a.i.dI;have d:=a.i.dD;have e:=a.i.dG;have h:=a.n1
 omega
theorem Good.ok{n clock:Int}{x:aI}(a:Good n clock x): dK x:=M4 a.sx a.i (by have:=a.rel;omega)
theorem Good.ld{n clock:Int}{x:aI}(a:Good n clock x): gK x clock:=by
 have c:=F1 x.k x.c a.i.k1 a.i.k5;have j:=a.i.common;have h:=a.rel;have d:=a.ok;refine⟨a.sx.fQ,d.cfg,d.p0,d.p3,a.i.kind,a.i.k1,a.i.k5,K2 x.k x.c a.i.k1 a.i.k5 a.i.valid a.i.kind,λi=>?_,h.1,?_,by omega,a.c0,a.c1,by rw[c.2.1];omega,by rw[c.2.2.2];omega⟩
 ·unfold Ac;rw[List.getD_eq_getElem?_getD];cases hj:x.ref[i]? with
  | none=>simp
  | some e=>exact⟨(a.i.cL e (iu hj)).1,a.sx.eY e (iu hj)⟩
 have:Dn (Al x.k x.c) clock=Dn x.c clock:=by unfold Dn;rw[c.2.1,c.2.2.2]
 rw[this];exact a.z.most
theorem Good.bC{n clock:Int}{x:aI}(a:Good n clock x): gJ x (Qi.allL (x.l.length+1) x.l) clock:=by
 have c:=F1 x.k x.c a.i.k1 a.i.k5;have d:=Ia (x.l.length+1) x.l (by omega) a.i.heap;have hlen:=d.length_eq;refine⟨hlen,by rw[hlen,c.2.2.2];exact a.i.cap,λy e=>?_,(d.map (·.n)).nodup_iff.2 (jD.1 a.z.eB).1,a.ok.buf,λh y e=>?_⟩
 ·have:=a.z.num y (d.subset e);rw[hlen,a.i.dD];exact this
 have i:y∈x.l:=d.subset (iu e);have o:h<(Qi.allL (x.l.length+1) x.l).length:=(ik.1 e).1;have m:=a.z.due y i;have k:=a.i.times y i;have l:=a.i.cap;have j:(Cn x.k ((Qi.allL (x.l.length+1) x.l).take h)).length=h:=by rw[NT,iD];omega
 unfold bO;show(if Ab (A7 x.k y).t 0 4611686018427387904=true then if (A7 x.k y).t<=clock-(Al x.k x.c).aK then 6 else if clock+(Al x.k x.c).bF<(A7 x.k y).t then 7 else if AL (Al x.k x.c) x.k (A7 x.k y)≠0 then AL (Al x.k x.c) x.k (A7 x.k y) else if (Al x.k x.c).cap<=((Cn x.k ((Qi.allL (x.l.length+1) x.l).take h)).length:Int) then 11 else if (4611686018427387904:Int)<=0 then 11 else 0 else 5)=0;rw[Fu,c.2.1,c.2.2.1,c.2.2.2,j,MJ x.k x.c y a.i.k1 a.i.k5,a.i.fits y i];rw[h9 (by simp only[Ab,iK,iI];exact k),hZ (by omega),hZ (by omega),hZ (by simp),hZ (by omega),hZ (by omega)]
theorem Good.dec{n clock:Int}{x:aI}(a:Good n clock x)(e:x.k=4): (x.nt.q<x.rel\/x.nt.r=0)/\(0<x.nt.q\/x.rel<=x.nt.r):=by
 have c:=a.z.note.dec e;have d:=a.i.note.r0;have h:=a.i.note.q0;have i:=a.i.note.qn;omega
theorem Good.bL{n clock:Int}{x:aI}(h:Good n clock x)(e:x.k=1): ∃a,x.nt.bs=AB a/\FU x.nt.bs=(a.length:Int)::DZ a/\gS x.c.k (clock-x.c.aK) x.rel a:=by
 obtain⟨⟨a,c,i⟩,s,z⟩:=h.z.note.bL e;rw[OW]at c;have I:=Ef h.i.valid h.i.kind e;have u:=h.i.note.sum;have j:=h.i.note.one;have H:=h.rel;rw[c]at u j;have hlen:a.length<=62:=by
  cases a with
  | nil=>simp
  | cons g a =>
   cases g with
   | nil=>exact absurd i.1 (by simp)
   | cons k g =>
    have A:An (AB ((k::g)::a))=2 ^ a.length+An (g.map (λk=>(⟨2 ^ a.length,k⟩:Bk))++AB a):=rfl;have q:=Ee (l:=g.map (λk=>(⟨2 ^ a.length,k⟩:Bk))++AB a) (λb c=>j b (j2 _ c));have r:(2:Int) ^ a.length<=1000000000000:=by omega
    rw[iA];refine Nat.le_of_not_lt (λG=>?_);have B:(2:Nat) ^ 62<=2 ^ a.length:=jk (by omega) (by omega);have t:(2:Int) ^ a.length=((2 ^ a.length:Nat):Int):=by simp
    rw[t]at r;have C:(2:Nat) ^ 62=4611686018427387904:=by decide
    omega
 refine⟨a,c,by rw[c];exact zNi i,hlen,λg d=>?_,λg d=>?_,λg d=>?_,λb m=>?_,?_,u,?_⟩
 ·cases a with
  | nil=>cases d
  | cons o a =>
   rcases iw.1 d with e | e
   ·subst e;have:=i.2.1;omega
   have:=(i.2.2 g e).2;omega
 ·cases a with
  | nil=>cases d
  | cons o a =>
   have:o=g:=by simpa using d
   subst this;exact i.1
 ·cases a with
  | nil=>cases d
  | cons o a=>have:=(i.2.2 g d).1;omega
 ·have A:=z b.t (by rw[c];exact iF m);have q:0<x.rel:=by
   obtain⟨D,E,F⟩:=List.append_of_mem m;have r:=Ee (l:=AB a) j;have B:1<=An (AB a):=by
    cases hbk:AB a with
    | nil=>rw[hbk]at m;cases m
    | cons v w =>
     have t:=Ee (l:=w) (λb c=>j b (by rw[hbk];exact j2 _ c));have C:=j v (by rw[hbk];simp);show 1<=v.sz+An w;omega
   omega
  have r:=h.z.mark q;omega
 ·rw[c,List.pairwise_map]at s;exact s
 have:=Ys a i;have q:a.length*(x.c.k.toNat+1)<=62*11:=Nat.mul_le_mul hlen (by omega);omega
theorem ZJ(c:Cfg)(m:Int)(e:Nat->List Bk)(n:Nat): D7 e n (m-c.aB)=EA (λh=>AT c m (e h)) n 0:=by
 have i:∀d:List Bk,EG d (m-c.aB)=((AT c m d).length:Int)::C6 (AT c m d):=λd=>by
  unfold EG AT;rw[iQ]
 have:∀n a,(List.range' a n).flatMap (λj=>EG (e j) (m-c.aB))=EA (λh=>AT c m (e h)) n a:=by
  intro n;induction n with
  | zero=>intro a;rfl
  | succ n k =>
   intro a;rw[lq,ju,k (a+1),i];rfl
 unfold D7;rw[List.range_eq_range'];exact this n 0
theorem Good.dQ{n clock:Int}{x:aI}(d:Good n clock x)(e:x.k=2): gT (clock-x.c.aK) x.rel (Bw x.c) (λj=>AT x.c (clock-x.c.aK) (x.nt.rg j)):=by
 obtain⟨q,r,t⟩:=d.z.note.dQ e;have i:∀c b,b∈AT x.c (clock-x.c.aK) (x.nt.rg c)->b∈x.nt.rg c:=λc b h=>iB h;have hlen:∀c,(AT x.c (clock-x.c.aK) (x.nt.rg c)).length<=(x.nt.rg c).length:=λc=>by unfold AT;rw[iQ];omega
 refine⟨λc=>?_,λc b h=>?_,λc=>(q c).drop _,?_⟩
 ·have k:=JK (x.nt.rg c) 40 (d.sx.note.rf c) (d.i.note.rk c);have l:=hlen c;omega
 ·have k:=r c b (i c b h);have l:=d.i.note.rk c b (i c b h);have m:0<x.rel:=by
   have o:=d.i.note.rl c;have s:=List.length_pos_of_mem (i c b h);omega
  have o:=d.z.mark m;omega
 have:=ON (a:=λj=>AT x.c (clock-x.c.aK) (x.nt.rg j)) (b:=x.nt.rg) hlen (Bw x.c) 0;omega
theorem Good.dW{n clock:Int}{x:aI}(d:Good n clock x)(e:x.k=3): gU x.c x.c.rows.toNat x.c.width.toNat (clock-x.c.aK) x.rel (A4 x.c x.nt.op x.nt.cl (clock-x.c.aK-x.c.aB))/\(0<=clock-x.c.aK\/A4 x.c x.nt.op x.nt.cl (clock-x.c.aK-x.c.aB)=[]):=by
 have E:=(Dw d.i.valid d.i.kind e).2.2.1;have h:=d.i.note.oi e;obtain⟨u,j,v⟩:=Lv (t:=clock-x.c.aK-x.c.aB) (d.z.note.dW e) h (by omega);have s:∀p,p∈A4 x.c x.nt.op x.nt.cl (clock-x.c.aK-x.c.aB)->x.last<=clock-x.c.aK:=λp c=>by
  refine d.z.mark ?_;have o:=(j p c).2.2.1.s0;have k:sP x.c.width.toNat p<=Bm ((A4 x.c x.nt.op x.nt.cl (clock-x.c.aK-x.c.aB)).map (sP x.c.width.toNat)):=by
   obtain⟨m,b,q⟩:=List.append_of_mem c;have r:∀a,a∈m++p::b->0<=sP x.c.width.toNat a:=λa i=>by have:=(j a (by rw[q];exact i)).2.2.1.s0;omega
   rw[q,iy,Gl,iC,Gd];have A:=K8 (m.map (sP x.c.width.toNat)) (λz l=>by obtain⟨a,i,rfl⟩:=iE.1 l;exact r a (by simp[i]));have B:=K8 (b.map (sP x.c.width.toNat)) (λz l=>by obtain⟨a,i,rfl⟩:=iE.1 l;exact r a (by simp[i]));omega
  omega
 refine⟨⟨?_,u,λp c=>?_,λp c=>(j p c).2.2.1,v⟩,?_⟩
 ·have:=h.len;unfold A4;rw[hY,iQ];split
  ·simp;omega
  simp;omega
 ·have o:=s p c;have k:0<=p.no/\p.no*Ag x.c<=x.last:=by
   rcases(j p c).2.2.2 with e | e
   ·have w:=h.lt p e;have C:=jV (show p.no<=x.nt.op.no by omega) (show 0<=Ag x.c by omega);have D:=h.fS;exact⟨w.1,by omega⟩
   rw[e];exact⟨h.gG,h.fS⟩
  exact⟨k.1,Int.le_ediv_of_mul_le (by omega) (by omega)⟩
 cases hP:A4 x.c x.nt.op x.nt.cl (clock-x.c.aK-x.c.aB) with
 | nil=>exact .inr rfl
 | cons p F =>
  have o:=s p (by rw[hP];simp);have k:=d.i.dZ;exact .inl (by omega)
theorem YT(l:List Dr.It): F3 (l.map E2)=Cu l:=by
 unfold F3 Cu;rw[List.flatMap_map];rfl
theorem Good.cX{n clock:Int}{x:aI}(c:Good n clock x)(e:x.k=5): gV x.c (clock-x.c.aK) x.acc x.rel ((Qi.allL (x.l.length+1) x.l).map (·.n)) ((Dr.allL (x.nt.tk.length+1) x.nt.tk).map E2):=by
 obtain⟨u,l,m⟩:=c.z.note.cX e;have d:=(Dr.dS (x.nt.tk.length+1) x.nt.tk (by omega) u).1;have t:=Ia (x.l.length+1) x.l (by omega) c.i.heap;have s:((Dr.allL (x.nt.tk.length+1) x.nt.tk).map E2).map (·.n)=(Dr.allL (x.nt.tk.length+1) x.nt.tk).map (·.n):=by rw[j9];rfl
 refine⟨by rw[im,d.length_eq];exact l,λy i=>?_,?_,λy i=>?_,λy i=>?_⟩
 ·obtain⟨a,h,rfl⟩:=iE.1 i;exact c.z.fK a (d.subset h)
 ·rw[s];exact((t.map _).append (d.map _)).nodup_iff.2 c.z.eB
 ·obtain⟨a,h,rfl⟩:=iE.1 i;have j:=m a (d.subset h);have o:=Oz j.2.1;have q:0<x.rel:=by
   have r:=List.length_pos_of_mem (d.subset h);have k:=c.rel;split at l <;> omega
  have r:=c.z.mark q;have k:(E2 a).t=a.t:=rfl;refine⟨j.2.2.1,by rw[k];omega,o.1.1,by omega,by omega,by omega⟩
 obtain⟨a,h,rfl⟩:=iE.1 i;exact(m a (d.subset h)).2.1
theorem YX{k j:World}{u:Obj}{e:Nat}{v nv:Value}{clock:Int}{ps:List (SB×aI)}{b2:SB}{x:aI}{l m B:Nat}(i:aX k e v clock ps)(G:ps.length=m)(H:nv=.slice (some ⟨l,0,none⟩) (m+1) B)(A:bJ k b2 x)(n:∀a,b2.aQ x.k a->¬aN e v ps a)(I:j.ownsRow 0 66 1 nv (m+1) (AV ps++[.pointer (some ⟨b2.s,0,none⟩)]))(E:(k.alloc u).grownBy j v.ownBlock)(o:v.ownBlock=some l\/l=k.heap.size+1):
  aX (j.setCell ⟨e,1,none⟩ nv) e nv clock (ps++[(b2,x)])/\aA (aN e v ps) k (j.setCell ⟨e,1,none⟩ nv)/\(∀a,aN e nv (ps++[(b2,x)]) a->aN e v ps a\/b2.aQ x.k a\/k.heap.size<=a):=by
 have s:nv.ownBlock=some l:=by rw[H];rfl
 have q:aA (λa=>v.ownBlock=some a) k j:=((aA.refl (λa=>v.ownBlock=some a) k).alloc u).grown E (λO F=>Or.inl F);have r:aA (λa=>a=e) j (j.setCell ⟨e,1,none⟩ nv):=(aA.refl (λa=>a=e) j).setCell (p:=⟨e,1,none⟩) (Or.inl rfl) _;have N:=i.aF.lt;have D:l≠e:=by
  rcases o with d | d
  ·intro C;exact i.ev (by rw[d,C])
  omega
 have L:bJ j b2 x:=A.keeps q (λa c d=>n a c (.inr (.inl d)));refine⟨⟨?_,?_,?_,?_,?_,?_⟩,?_,?_⟩
 ·exact(i.aF.keeps q (λd=>i.ev d)).setCell 1 nv
 ·have:=A2 I r (λa c d=>by rw[s]at c;injection c with c;omega);rw[NO,hY,G];exact this
 ·intro p h;rcases ig.1 h with h | h
  ·exact((i.bM p h).keeps q (λa c d=>(i.ef p h a c).2 d)).keeps r (λa c d=>(i.ef p h a c).1 d)
  rw[ij]at h;subst h;exact L.keeps r (λa c d=>n a c (.inl d))
 ·refine iY.2 ⟨i.apart,ka _ _,?_⟩;intro p h P z a c J;rw[ij]at z;subst z;exact n a J (.inr (.inr ⟨p,h,c⟩))
 ·rw[s];intro d;injection d with d;exact D d
 ·intro p h a c;rw[s];rcases ig.1 h with h | h
  ·refine⟨(i.ef p h a c).1,λd=>?_⟩;injection d with d;have M:=(i.bM p h).lt a c;rcases o with t | t
   ·exact(i.ef p h a c).2 (by rw[t,d])
   omega
  rw[ij]at h;subst h;have t:=A.lt a c;refine⟨λd=>n a c (.inl d),λd=>?_⟩;injection d with d;rcases o with w | w
  ·exact n a c (.inr (.inl (by rw[w,d])))
  omega
 ·exact(q.mono (M':=aN e v ps) (λa _ d=>.inr (.inl d))).trans r (λa c _=>.inl c)
 intro a c;rcases c with c | c | ⟨p,h,c⟩
 ·exact .inl (.inl c)
 ·rw[s]at c;injection c with c;rcases o with d | d
  ·exact .inl (.inr (.inl (by rw[d,c])))
  exact .inr (.inr (by omega))
 rcases ig.1 h with h | h
 ·exact .inl (.inr (.inr ⟨p,h,c⟩))
 rw[ij]at h;subst h;exact .inr (.inl c)
structure fL (xs:List aI) (can:aI->aI) (clock:Int):Prop where
 bX:xs.length<=6
 c0:0<=clock
 c1:clock<=4611686018427387904
 ids:(xs.map (·.id)).Nodup
 gZ:∀x,x∈xs->(can x).id=x.id
 aL:∀x,x∈xs->D2 clock (can x)=D2 clock x
 ok:∀x,x∈xs->dK (can x)
 len:(FN clock xs).length<=140737488355328
 sum:0<=CB (Em clock xs)/\CB (Em clock xs)<=9223372036854775807
 ld:∀x,x∈xs->∀(r:Nat) (tl:List Nat) (w:World),aR w r (Ae (D2 clock x)++tl)->Calls prog 78 #[.pointer (some ⟨r,0,none⟩),.int .i64 clock] w λe w'=>∃sb:SB,e=.returned (.pointer (some ⟨sb.s,0,none⟩))/\bJ w' sb (can x)/\aR w' r tl/\(∀i,sb.aQ (can x).k i->w.heap.size<=i)/\aA (λi=>i=r) w w'
theorem VI{a:List aI}{can:aI->aI}{clock:Int}(d:∀c,c∈a->D2 clock (can c)=D2 clock c): D4 clock (a.map can)=D4 clock a:=by
 have e:Bs clock (a.map can)=Bs clock a:=by
  unfold Bs;rw[List.flatMap_map];induction a with
  | nil=>rfl
  | cons c j i =>
   rw[ju,ju,d c (by simp),i (λy h=>d y (by simp[h]))]
 unfold D4 FN Em FH;rw[e,im]
attribute [local go_sem ↓ 2000] N8
theorem Vb(h:List aI)(can:aI->aI)(clock:Int)(w:World)(d:fL h can clock):
  Calls prog 50 #[.string (D4 clock h)] w λq O=>∃(e:Nat) (v:Value) (ps:List (SB×aI)),q=.returned (.pointer (some ⟨e,0,none⟩))/\aX O e v clock ps/\ps.map (·.2)=h.map can/\(∀c,aN e v ps c->w.heap.size<=c)/\lO w O:=by
 have x:=Aa d;have c0:=d.c0;have c1:=d.c1;have bX:=d.bX;obtain⟨t,a0⟩:∃t,enc (CB (Em clock h))=t:=⟨_,rfl⟩;have ab:FN clock h=Bt++(enc clock++(enc (h.length:Int)++(Ae (Bs clock h)++t))):=by
  unfold FN;rw[a0];unfold Em FH;rw[BN,BN];simp only[List.append_assoc]
 have hlen:=d.len;rw[ab]at hlen;have U:D4 clock h=AM (Bt++(enc clock++(enc (h.length:Int)++(Ae (Bs clock h)++t)))):=by unfold D4;rw[ab]
 have b3:=Aa U;have S:=Aa (Sn (enc clock++(enc (h.length:Int)++(Ae (Bs clock h)++t))) w (by rw[hY]at hlen;omega));rw[<-U]at S;clear d a0 ab hlen U;generalize a1:D4 clock h=bx at *
 have bf:=Aa a1;clear a1;generalize au:h.length=A at *
 have R:=Aa au;clear au;go_enter func50,ntmps50;go_wp2_with fail
 refine S.o.mono ?_;rintro q bz ⟨j,rfl,cb,Z,ar⟩;have Q:=Aa ar;have b9:=Z.aF.lt;have aj:=Aa Z;clear Z ar S;go_wp2_with fail
 refine(EJ j clock 0 4611686018427387904 _ bz aj.o c0 (by omega) c0 c1).mono ?_;rintro q r ⟨rfl,ax,V⟩;have cc:=V.size;have ae:=Aa (show aX (r.alloc (.cells #[.int .i64 clock,.slice none 0 0] 53)) r.heap.size (.slice none 0 0) clock [] from⟨aD.new r [_,_] _,ir _ _ _ _,λp o=>by simp at o,List.Pairwise.nil,by simp[Value.ownBlock],λp o=>by simp at o⟩);have ak:=Aa (ax.keeps ((aA.refl (λ_=>False) r).alloc (.cells #[.int .i64 clock,.slice none 0 0] 53)) id);have ag:=Aa (show lO w (r.alloc (.cells #[.int .i64 clock,.slice none 0 0] 53)) from(Q.o.trans V (λc z X=>by have n:c=j:=z;omega)).alloc _);have ce:w.heap.size<=r.heap.size:=by have:=Q.o.size;omega
 clear ax V aj Q;go_wp2_with fail
 generalize r.alloc (.cells #[.int .i64 clock,.slice none 0 0] 53)=b0 at *
 generalize r.heap.size=e at *
 refine(EJ j (A:Int) 0 6 _ b0 ak.o (by omega) (by omega) (by omega) (by omega)).mono ?_;rintro q b1 ⟨rfl,ay,W⟩
 have af:=Aa (ae.o.eX W (λc z=>by
      rcases z with d | d | ⟨p,o,_⟩
      ·intro n;have bj:c=j:=n;omega
      ·simp[Value.ownBlock]at d
      simp at o))
 have al:=Aa ay;have ah:=Aa (show lO w b1 from ag.o.trans W (λc z X=>by have n:c=j:=z;omega));clear ay W ae ak ag;go_wp2_with fail
 go_loopw [14] (λad wr=>∃(c:Nat) (v:Value) (ps:List (SB×aI)),c<=A/\ad=.int .i64 c/\Hid (aX wr e v clock ps)/\Hid (ps.map (·.2)=(h.take c).map can)/\Hid (aR wr j (Ae (Bs clock (h.drop c))++t))/\Hid (∀a,aN e v ps a->w.heap.size<=a/\a≠j)/\Hid (lO w wr)) (λad _=>A-(intOf ad).toNat)
 case atStart=>exact⟨0,.slice none 0 0,[],by omega,rfl,af,rfl,al,(λa i=>by
      rcases i with d | d | ⟨p,o,_⟩
      ·exact⟨by omega,by omega⟩
      ·simp[Value.ownBlock]at d
      simp at o),ah⟩
 case round =>
  clear af al ah;obtain⟨c,v,ps,z,rfl,u,I,J,C,G⟩:=hrel
  have D:=Aa (show ps.length=c by
     have:=congrArg List.length I.o;rw[im,im,iD,R.o]at this
     omega)
  by_cases bp:c<A
  ·have E:c<h.length:=by rw[R.o];exact bp
   obtain⟨k,l⟩:∃k,h[c]?=some k:=⟨_,hX E⟩;have a5:=iu l
   have ai:=Aa (x.o.ld k a5 j (Ae (Bs clock (h.drop (c+1)))++t) wr (by
        have L:Bs clock (h.drop c)=D2 clock k++Bs clock (h.drop (c+1)):=by
         rw[List.drop_eq_getElem_cons E];rw[hX E]at l;injection l with l;rw[l];simp[Bs]
        have n:=J.o;rw[L,By,List.append_assoc]at n
        exact n))
   have bg:=Aa (show(h.take (c+1)).map can=(h.take c).map can++[can k] by
      rw[jg,l,iy];rfl)
   have bb:=Aa (show Cf ps (can k).id=none by
      unfold Cf;rw[lk];intro p o bq;have ap:p.2.id=(can k).id:=by simpa using bq
      have br:p.2∈(h.take c).map can:=by rw[<-I.o];exact iF o
      obtain⟨y,F,bt⟩:=iE.1 br;rw[<-bt,x.o.gZ y (jn F),x.o.gZ k a5]at ap;obtain⟨a,i,aq⟩:=jR.1 F;rw[iD]at i;rw[List.getElem_take]at aq;rw[hX E]at l;injection l with l;have av:=List.pairwise_iff_getElem.1 x.o.ids a c (by rw[im];omega) (by rw[im];exact E) (by omega);rw[k4,k4,aq,l]at av
      exact av ap)
   have bl:=u.o.aF.c0;have b7:(c:Int)<(A:Int):=by omega
   go_wp2_with fail
   refine ai.o.mono ?_;rintro q B ⟨N,rfl,aa,az,Y,s⟩;have m:=Aa (u.o.eX s (λa i=>(C.o a i).2));have be:=Aa aa;have am:=Aa az;have b6:=aa.aF.c0
   have ba:=Aa (show ∀a,N.aQ (can k).k a->¬aN e v ps a from λa i bk=>by
      have L:=Y a i;have n:=u.o.lt a bk
      omega)
   have bc:=Aa (show ∀a,N.aQ (can k).k a->w.heap.size<=a/\a≠j from λa i=>by
      have L:=Y a i;have n:=G.o.size;have bj:=J.o.aF.lt
      omega)
   have H:=Aa (show lO w B from G.o.trans s (λa i X=>by have n:a=j:=i;omega));have P:=Aa (EM e v clock (can k).id ps B m.o (by rw[D.o];omega));rw[bb.o]at P;clear aa az Y s bl ai u J G l;go_wp2_with fail
   refine P.o.mono ?_;rintro q b2 ⟨rfl,a4⟩;rw[a4];clear a4 b2 P;obtain⟨a7,a8,a2,cd⟩:=Dy m.o.row;rw[D.o]at a2;subst a2;have bs:=m.o.aF.c1;have bn:=m.o.aF.frozen;obtain⟨bi,bh,a9,ca,aw,M,ao,b8⟩:=NC B a7 c a8 (AV ps) (.pointer (some ⟨N.s,0,none⟩)) rfl (by have:=m.o.row;rw[D.o]at this;exact this) (by omega);have bm:=m.o.aF.lt;have b4:a9.cell? ⟨e,1,none⟩=some (.slice a7 c a8):=by
    rw[M.cell_far ⟨e,1,none⟩ (by simp;omega) (λd=>m.o.ev d.symm),lE _ _ _ bm];exact bs
   have b5:∀a,a9.frozen? ⟨e,a,none⟩=false:=λa=>by
    rw[M.frozen_far ⟨e,a,none⟩ (by simp;omega) (λd=>m.o.ev d.symm),World.frozen?_alloc_old _ _ _ (by show e≠_;omega)];exact bn a
   have bd:=Aa (YX (nv:=.slice (some ⟨bi,0,none⟩) (c+1) bh) m.o D.o rfl be.o ba.o aw M ao);clear aw M ao;unfold EB;go_wp2;go_roundw;case rel =>
    obtain⟨bu,a6,bv⟩:=bd.o;refine⟨c+1,_,ps++[(N,can k)],by omega,by go_num,Aa bu,Aa (by rw[iy,I.o,bg.o];rfl),Aa (am.o.keeps a6 (λd=>(C.o j d).2 rfl)),Aa (λa i=>?_),Aa (H.o.trans a6 (λa i X=>by have:=(C.o a i).1;omega))⟩;rcases bv a i with d | d | d
    ·exact C.o a d
    ·exact bc.o a d
    have L:=H.o.size;have n:=am.o.aF.lt;omega
   case measure=>simp[intOf];omega
  have bo:c=A:=by omega
  subst bo
  have T:=Aa (show ps.map (·.2)=h.map can by
     have:=I.o;rw[iq (by rw[R.o];exact il _)]at this
     exact this)
  have an:=Aa (show Calls prog 25 #[.pointer (some ⟨e,0,none⟩)] wr λj O=>j=.returned (.string bx)/\lO wr O by
     have:=Pr e v clock ps wr u.o (λy F=>by
        rw[T.o]at F;obtain⟨k,l,rfl⟩:=iE.1 F
        exact x.o.ok k l) (by rw[D.o];omega) c0 c1
     rw[T.o,VI x.o.aL,bf.o]at this
     exact this)
  go_wp2_with fail
  refine(Ma j _ wr J.o).mono ?_;rintro q B ⟨rfl,a3⟩;rw[a3];clear a3 B;go_wp2_with fail
  refine an.o.mono ?_;rintro q B ⟨rfl,s⟩;have m:=Aa (u.o.still s);have H:=Aa (G.o.then s);clear s an;go_wp2;go_ret;exact⟨e,v,ps,rfl,m.o,T.o,λa i=>(C.o a i).1,H.o⟩
end
section
def Ij(k r kn:Nat)(nb:NB)(nv:Value)(ck:Cfg)(nt':aU)(tl:List Nat)(w1:World): Prop :=
 Calls prog (Ii k) (En nb.d++#[.pointer (some ⟨r,0,none⟩),.pointer (some ⟨kn,0,none⟩)]) w1 λe w2=>e=.returned (.tuple #[])/\∃nb':NB,nb'.d=nb.d/\cB w2 k nb' ck nt'/\(∀i,BH k nb' i->BH k nb i\/w1.heap.size<=i)/\aR w2 r tl/\aA (λi=>i=r\/i=kn\/nv.ownBlock=some i\/BH k nb i) w1 w2
structure fB (k r kn:Nat) (nb:NB) (nv:Value) (ck:Cfg) (m acc rel:Int) (ns nn:List Int) (tl:List Nat) (w1:World):Prop where
 n:cB w1 k nb ck C8
 rd:aR w1 r (Ae nn++tl)
 kr:dA w1 kn m acc rel nv ns
 fr:¬BH k nb r
 fk:¬BH k nb kn
 fv:∀i,nv.ownBlock=some i->¬BH k nb i
 rk:r<kn
 m1:m<=4611686018427387904
 r0:0<=rel
 r1:rel<=4611686018427387904
theorem MY{w:World}{e j:Nat}{h d:Option Nat}(k:d=h\/∃c,d=some c/\w.heap.size<=c){i:Nat}(a:i=e\/i=j\/d=some i): (i=e\/i=j\/h=some i)\/w.heap.size<=i:=by
 rcases a with a | a | a
 ·exact .inl (.inl a)
 ·exact .inl (.inr (.inl a))
 rcases k with f | ⟨c,f,l⟩
 ·exact .inl (.inr (.inr (by rw[<-f];exact a)))
 rw[a]at f;have:=jA f;exact .inr (by omega)
theorem Iz{e h:Nat}{d:NB}{nv:Value}{ck:Cfg}{m acc rel:Int}{ns:List Int}{i:List (List Int)}{tl:List Nat}{l:World}(c:fB 1 e h d nv ck m acc rel ns ((i.length:Int)::DZ i) tl l)(q:gS ck.k m rel i)(s:1<=ck.k)(t:ck.k<=10): Ij 1 e h d nv ck { C8 with bs:=AB i } tl l:=by
 have o:d.d≠e/\d.r≠e/\d.g≠some e:=⟨λa=>c.fr (.inl ⟨rfl,.inl a.symm⟩),λa=>c.fr (.inl ⟨rfl,.inr (.inl a.symm)⟩),λa=>c.fr (.inl ⟨rfl,.inr (.inr a)⟩)⟩;have n:h≠e/\h≠d.r/\d.g≠some h:=⟨by have:=c.rk;omega,λa=>c.fk (.inl ⟨rfl,.inr (.inl a)⟩),λa=>c.fk (.inl ⟨rfl,.inr (.inr a)⟩)⟩;refine(TY d.d d.r e h d.g ck m acc rel nv i tl l (c.n.bL rfl) c.rd c.kr.aF o n q s t c.m1 c.r1).mono ?_;rintro a v ⟨rfl,u,k⟩;refine⟨rfl,{ d with g:=u },rfl,⟨λa=>(by cases a),λ_=>k.cr,λa=>(by cases a),λa=>(by cases a),λa=>(by cases a)⟩,λr j=>?_,k.rd,k.kp.mono (λr _ j=>?_)⟩
 ·rcases j with ⟨_,j⟩ | ⟨a,_⟩ | ⟨a,_⟩ | ⟨a,_⟩ | ⟨a,_⟩
  ·rcases MY k.fo j with f | f
   ·exact .inl (.inl ⟨rfl,f⟩)
   exact .inr f
  ·cases a
  ·cases a
  ·cases a
  cases a
 rcases j with f | f | f
 ·exact .inl f
 ·exact .inr (.inr (.inr (.inl ⟨rfl,.inr (.inl f)⟩)))
 exact .inr (.inr (.inr (.inl ⟨rfl,.inr (.inr f)⟩)))
theorem I0{j o n:Nat}{c:NB}{nv:Value}{ck:Cfg}{m acc rel:Int}{ns:List Int}{q:Nat->List Bk}{tl:List Nat}{u:World}(s:Bw ck=n)(e:fB 2 j o c nv ck m acc rel ns (EA q n 0) tl u)(B:gT m rel n q)(E:n<=16): Ij 2 j o c nv ck { C8 with rg:=q } tl u:=by
 have z:c.d≠j/\c.r≠j/\(∀d,d<c.qs.length->¬qf (Aq c.qs d) j):=⟨λa=>e.fr (.inr (.inr (.inl ⟨rfl,.inl a.symm⟩))),λa=>e.fr (.inr (.inr (.inl ⟨rfl,.inr (.inl a.symm)⟩))),λd k a=>e.fr (.inr (.inr (.inl ⟨rfl,.inr (.inr ⟨d,k,a⟩)⟩)))⟩;have x:o≠j/\(∀d,d<c.qs.length->¬qf (Aq c.qs d) o):=⟨by have:=e.rk;omega,λd k a=>e.fk (.inr (.inr (.inl ⟨rfl,.inr (.inr ⟨d,k,a⟩)⟩)))⟩;have v:=(e.n.dQ rfl).2;refine(UD c.d c.r j o n c.qs ck m acc rel nv q tl u (e.n.dQ rfl).1 (by rw[v,s]) e.rd e.kr.aF z x B E e.m1).mono ?_;rintro a G ⟨rfl,F,t,C,h⟩;have w:t.length=n:=by rw[h.ln,v,s]
 refine⟨rfl,{ c with qs:=t },rfl,⟨λa=>(by cases a),λa=>(by cases a),λ_=>⟨⟨h.dr.aF,h.dr.fI,λl i=>?_,h.dr.dj,h.dr.nd,h.dr.dr⟩,by rw[s];exact w⟩,λa=>(by cases a),λa=>(by cases a)⟩,λl i=>?_,h.rd,h.kp.mono (λl _ i=>?_)⟩
 ·have:=h.dr.row l i;rw[C l (by rw[<-w];exact i)]at this;exact this
 ·rcases i with ⟨a,_⟩ | ⟨a,_⟩ | ⟨_,i⟩ | ⟨a,_⟩ | ⟨a,_⟩
  ·cases a
  ·cases a
  ·rcases i with f | f | ⟨d,k,f⟩
   ·exact .inl (.inr (.inr (.inl ⟨rfl,.inl f⟩)))
   ·exact .inl (.inr (.inr (.inl ⟨rfl,.inr (.inl f)⟩)))
   rcases h.fo d l k f with ⟨D,A,r⟩ | r
   ·exact .inl (.inr (.inr (.inl ⟨rfl,.inr (.inr ⟨D,A,r⟩)⟩)))
   exact .inr r
  ·cases a
  cases a
 rcases i with f | f
 ·exact .inl f
 exact .inr (.inr (.inr (.inr (.inr (.inl ⟨rfl,.inr (.inr f)⟩)))))
theorem I1{h e R W:Nat}{d:NB}{nv:Value}{ck:Cfg}{m acc rel:Int}{ns:List Int}{ps:List Pa.Pn}{tl:List Nat}{k:World}(c:fB 3 h e d nv ck m acc rel ns ((ps.length:Int)::Cj ck ps) tl k)(s:gU ck R W m rel ps)(q:ck.rows=(R:Int))(r:ck.width=(W:Int))(t:ck.paned)(u:ck.rowed)(o:1<=Ag ck)(w:0<=m\/ps=[]): Ij 3 h e d nv ck { C8 with op:=(Ea ps).1,cl:=(Ea ps).2 } tl k:=by
 have n:d.d≠h/\d.r≠h/\d.g≠some h:=⟨λa=>c.fr (.inr (.inr (.inr (.inl ⟨rfl,.inl a.symm⟩)))),λa=>c.fr (.inr (.inr (.inr (.inl ⟨rfl,.inr (.inl a.symm)⟩)))),λa=>c.fr (.inr (.inr (.inr (.inl ⟨rfl,.inr (.inr a)⟩))))⟩;have l:e≠h/\e≠d.d/\e≠d.r/\d.g≠some e:=⟨by have:=c.rk;omega,λa=>c.fk (.inr (.inr (.inr (.inl ⟨rfl,.inl a⟩)))),λa=>c.fk (.inr (.inr (.inr (.inl ⟨rfl,.inr (.inl a)⟩)))),λa=>c.fk (.inr (.inr (.inr (.inl ⟨rfl,.inr (.inr a)⟩))))⟩;refine(TW d.d d.r h e R W d.g ck m acc rel nv ps tl k (c.n.dW rfl) c.rd c.kr.aF n l s q r t u o w c.m1 c.r1 c.r0).mono ?_;rintro a z ⟨rfl,x,j⟩;refine⟨rfl,{ d with g:=x },rfl,⟨λa=>(by cases a),λa=>(by cases a),λa=>(by cases a),λ_=>j.eO,λa=>(by cases a)⟩,λv i=>?_,j.rd,j.kp.mono (λv _ i=>?_)⟩
 ·rcases i with ⟨a,_⟩ | ⟨a,_⟩ | ⟨a,_⟩ | ⟨_,i⟩ | ⟨a,_⟩
  ·cases a
  ·cases a
  ·cases a
  ·rcases MY j.fo i with f | f
   ·exact .inl (.inr (.inr (.inr (.inl ⟨rfl,f⟩))))
   exact .inr f
  cases a
 rcases i with f | f
 ·exact .inl f
 exact .inr (.inr (.inr (.inr (.inr (.inr (.inl ⟨rfl,f⟩))))))
theorem I2{h i:Nat}{d:NB}{nv:Value}{ck:Cfg}{m acc rel c e:Int}{ns:List Int}{tl:List Nat}{j:World}(a:fB 4 h i d nv ck m acc rel ns [c,e] tl j)(x:0<=c)(z:c<=rel)(k:0<=e)(l:e<=2305843009213693951)(o:c<rel\/e=0)(q:0<c\/rel<=e): Ij 4 h i d nv ck { C8 with q:=c,r:=e } tl j:=by
 have r:d.d≠h:=λe=>a.fr (.inr (.inl ⟨rfl,e.symm⟩));have u:i≠d.d:=λe=>a.fk (.inr (.inl ⟨rfl,e⟩));refine(TT d.d h i ck c e m acc rel nv tl j (a.n.dec rfl) a.rd a.kr.aF r (by have:=a.rk;omega) u x z k l a.r1 o q).mono ?_;rintro B A ⟨rfl,n,v,t⟩
 exact⟨rfl,d,rfl,⟨λ_=>n,λe=>(by cases e),λe=>(by cases e),λe=>(by cases e),λe=>(by cases e)⟩,λw s=>.inl s,v,t.mono (λw _ a=>by
      rcases a with a | a
      ·exact .inl a
      exact .inr (.inr (.inr (.inr (.inl ⟨rfl,a⟩)))))⟩
theorem I3{k j:Nat}{e:NB}{nv:Value}{ck:Cfg}{m acc rel:Int}{ns:List Int}{n:List It}{tl:List Nat}{l:World}(d:fB 5 k j e nv ck m acc rel ns (F3 n) tl l)(t:gV ck m acc rel ns n)(v:ck.bH)(x:1<=ck.size)(z:ck.size<=5)(r:acc<=4611686018427387904)(u:ns.length<=800): Ij 5 k j e nv ck { C8 with tk:=n.foldl (AU ck) [] } tl l:=by
 have i:∀c,(c=e.d\/c=e.r\/e.g=some c)->BH 5 e c:=λc h=>.inr (.inr (.inr (.inr ⟨rfl,h⟩)));have s:TL l e.d e.r k j ck m acc rel e.g nv [] (Ae (F3 n)++tl) ns e.g nv l :=
  ⟨d.n.cX rfl,d.rd,d.kr,aA.refl _ _,.inl rfl,λc h=>.inl h,λc h=>⟨λa=>d.fv c h (i c (.inl a)),λa=>d.fv c h (i c (.inr (.inl a))),λa=>d.fv c h (i c (.inr (.inr a)))⟩,
     ⟨λa=>d.fr (i k (.inl a.symm)),λa=>d.fr (i k (.inr (.inl a.symm))),λa=>d.fk (i j (.inl a.symm)),λa=>d.fk (i j (.inr (.inl a.symm))),d.rk,d.rd.aF.lt⟩,
     λg q=>⟨λa=>d.fr (i k (.inr (.inr (by rw[<-a];exact q)))),λa=>d.fk (i j (.inr (.inr (by rw[<-a];exact q))))⟩⟩
 refine(U0 e.d e.r k j e.g ck m acc rel nv ns n tl l s t v x z d.m1 r u).mono ?_;rintro a B ⟨rfl,w,A,o⟩;refine⟨rfl,{ e with g:=w },rfl,⟨λa=>(by cases a),λa=>(by cases a),λa=>(by cases a),λa=>(by cases a),λ_=>o.tr⟩,λc h=>?_,o.rd,o.kp.mono (λc _ h=>?_)⟩
 ·rcases h with ⟨a,_⟩ | ⟨a,_⟩ | ⟨a,_⟩ | ⟨a,_⟩ | ⟨_,h⟩
  ·cases a
  ·cases a
  ·cases a
  ·cases a
  rcases MY o.fo h with f | f
  ·exact .inl (i c f)
  exact .inr f
 rcases h with f | f | f | f
 ·exact .inl f
 ·exact .inr (.inl f)
 ·exact .inr (.inr (.inl f))
 exact .inr (.inr (.inr (i c (.inr f))))
theorem zMl{n clock:Int}{x:aI}(a:Good n clock x){v t:Nat}{u:NB}{nv:Value}{tl:List Nat}{w:World}(e:fB x.k v t u nv (Al x.k x.c) (clock-x.c.aK) x.acc x.rel ((Qi.allL (x.l.length+1) x.l).map (·.n)) (DO x.k x.c x.nt (clock-x.c.aK)) tl w):
  Ij x.k v t u nv (Al x.k x.c) (Gy x.k (Al x.k x.c) (clock-x.c.aK) x.nt) tl w:=by
 have k:=a.i.valid;have h:=a.i.kind;rcases As a.i.k1 a.i.k5 with c | c | c | c | c
 ·obtain⟨m,z,B,d⟩:=a.bL c;have q:=Ef k h c;rw[c]at e ⊢;have j:DO 1 x.c x.nt (clock-x.c.aK)=(m.length:Int)::DZ m:=B;rw[j]at e;have:=Iz (ck:=Al 1 x.c) e d q.1 q.2.1;rw[<-z]at this;exact this
 ·have d:=a.dQ c;have O:=FD k h c;rw[c]at e ⊢;have j:DO 2 x.c x.nt (clock-x.c.aK)=EA (λI=>AT x.c (clock-x.c.aK) (x.nt.rg I)) (Bw x.c) 0:=ZJ x.c (clock-x.c.aK) x.nt.rg (Bw x.c);rw[j]at e;have A:Bw x.c<=16:=by
   unfold Bw;have:x.c.bits.toNat<=4:=by omega
   exact jI (jk (by omega) this) (by decide)
  exact I0 (ck:=Al 2 x.c) (n:=Bw x.c) rfl e d A
 ·obtain⟨d,C⟩:=a.dW c;obtain⟨r,l,o,N,S⟩:=Dw (K2 x.k x.c a.i.k1 a.i.k5 k h) (by rw[(F1 x.k x.c a.i.k1 a.i.k5).1];exact h) c;rw[c]at e r l o ⊢;have G:=l.r0;have H:=l.w0;exact I1 (ck:=Al 3 x.c) (R:=x.c.rows.toNat) (W:=x.c.width.toNat) (ps:=A4 x.c x.nt.op x.nt.cl (clock-x.c.aK-x.c.aB)) e ⟨d.len,d.eF,d.gH,d.hD,d.sum⟩ (by show x.c.rows=_;have D:1<=x.c.rows:=G;omega) (by show x.c.width=_;have D:1<=x.c.width:=H;omega) r l o C
 ·have d:=a.dec c;have J:=a.i.note.q0;have L:=a.i.note.qn;have M:=a.i.note.r0;have T:=a.i.note.r1;rw[c]at e ⊢;exact I2 (ck:=Al 4 x.c) e J L M (by omega) d.1 d.2
 have d:=a.cX c;have s:=E4 k h c;have i:=FZ k h (by omega) a.i.k5;have P:=a.i.cap;have Q:=a.i.common;have F:=(Ia (x.l.length+1) x.l (by omega) a.i.heap).length_eq;have E:=a.sx.fO;rw[c]at e ⊢;have j:DO 5 x.c x.nt (clock-x.c.aK)=F3 ((Dr.allL (x.nt.tk.length+1) x.nt.tk).map E2):=(YT _).symm;rw[j]at e;exact I3 (ck:=Al 5 x.c) e ⟨d.len,d.num,d.eB,d.gH,d.ref⟩ ⟨i.d0,i.d1,i.h0,i.h1,i.m0,i.m1⟩ s.1 s.2 E (by rw[im,F];omega)
structure Fit (n:Int) (s:WS):Prop where
 i:bQ n s.clock s.xs
 x:EX s
 z:EZ s
 d:(s.xs.map (·.id)).Nodup
theorem Fit.ok{n:Int}{s:WS}(a:Fit n s): Ok n s:=⟨a.i,a.z⟩
theorem Fit.zero: Fit 0 CY:=⟨Ix,λc a=>(by cases a),λc a=>(by cases a),List.Pairwise.nil⟩
theorem Zd(s:WS)(o:aO)(h:o.kind=2\/o.kind=3): (Aw s o).1.xs.map (·.id)=s.xs.map (·.id):=by
 rcases h with i | j
 ·have a:Aw s o=C0 s o:=by unfold Aw;rw[hZ (by omega),h9 i]
  rw[a];cases hf:BX s.xs o.id with
  | none=>unfold C0;rw[hf]
  | some c =>
   obtain⟨l,m,d,k,e⟩:=JP hf;unfold C0;rw[hf];simp only;split
   ·show(BB s.xs o.id (cC c o.item)).map (·.id)=_;rw[e,d];simp[cC]
   show(BB s.xs o.id (cF c _)).map (·.id)=_;rw[e,d];simp[cF]
 have a:Aw s o=DJ s o:=by unfold Aw;rw[hZ (by omega),hZ (by omega),h9 j]
 rw[a];unfold DJ;split
 ·split
  ·show(Br _ _ _).1.map (·.id)=_;rw[O2,j9];refine jO λc _=>?_;exact(Fp _ _ _).2.2
  rfl
 rfl
theorem Zz{s:WS}(o:aO)(a:(s.xs.map (·.id)).Nodup)(t:o.kind≠7): ((Aw s o).1.xs.map (·.id)).Nodup:=by
 by_cases d:o.kind=2\/o.kind=3
 ·rw[Zd s o d];exact a
 have q:o.kind≠2:=λc=>d (.inl c);have r:o.kind≠3:=λc=>d (.inr c);unfold Aw;split
 ·unfold Da;split
  ·rename_i k;split
   ·split
    ·show((s.xs++[AQ o.id o.cfg o.cfg.kind.toNat]).map (·.id)).Nodup;rw[iy];refine jD.2 ⟨a,by simp,λn h b i=>?_⟩;obtain⟨m,l,rfl⟩:=iE.1 h;have j:b=o.id:=by simpa[AQ] using i
     have e:=lk.1 (Option.isNone_iff_eq_none.1 k.2) m l;rw[j];simpa using e
    exact a
   exact a
  exact a
 split
 ·unfold DW;split <;> exact a
 split
 ·unfold Ew;split <;> exact a
 split <;> exact a
theorem Fit.step{n:Int}{s:WS}(a:Fit n s)(e:0<=n)(h:n<=1000000000000)(o:aO)(c:o.kind≠7): Fit (n+1) (Aw s o).1 :=
 ⟨OY o a.i e (NI c),Zx o a.x a.i (λd=>absurd d c),Zj o a.z a.i (by omega) c,Zz o a.d c⟩
theorem Fit.mono{n m:Int}{s:WS}(a:Fit n s)(c:n<=m): Fit m s:=⟨a.i.mono c,a.x,a.z,a.d⟩
def FB(s:WS): WS:=⟨s.clock,s.xs.map (CV s.clock)⟩
theorem bY.can{n clock:Int}(c:List aI)(d:∀a,a∈c->aT n a/\SX a/\SZ clock a): bY clock c (c.map (CV clock)):=by
 induction c with
 | nil=>exact .nil
 | cons a c j =>
  obtain⟨e,b,h⟩:=d a (by simp);exact .cons (Kq e b h).2.2.2 (j (λy i=>d y (by simp[i])))
theorem Fit.can{n:Int}{s:WS}(d:Fit n s): Fit n (FB s)/\eL s (FB s):=by
 have h:∀a,a∈s.xs->aT n (CV s.clock a)/\SX (CV s.clock a)/\SZ s.clock (CV s.clock a)/\cE s.clock a (CV s.clock a):=λa c=>Kq (d.i.bD a c) (d.x a c) (d.z a c);refine⟨⟨⟨d.i.c0,d.i.c1,?_,λy e=>?_,λy e=>?_⟩,λy e=>?_,λy e=>?_,?_⟩,⟨rfl,bY.can s.xs (λa c=>⟨d.i.bD a c,d.x a c,d.z a c⟩)⟩⟩
 ·show(s.xs.map _).length<=6;rw[im];exact d.i.bX
 ·obtain⟨a,c,rfl⟩:=iE.1 e;exact(h a c).1
 ·obtain⟨a,c,rfl⟩:=iE.1 e;have i:=(F1 a.k a.c (d.i.bD a c).k1 (d.i.bD a c).k5).2.1;show a.last=0\/a.last<=s.clock-(Al a.k a.c).aK;rw[i];exact d.i.marks a c
 ·obtain⟨a,c,rfl⟩:=iE.1 e;exact(h a c).2.1
 ·obtain⟨a,c,rfl⟩:=iE.1 e;exact(h a c).2.2.1
 show((s.xs.map (CV s.clock)).map (·.id)).Nodup;rw[j9];exact d.d
theorem zOu{n clock:Int}{x:aI}(a:Good n clock x)(d:Nat)(tl:List Nat)(w:World)(l:aR w d (Ae (D2 clock x)++tl)):
  Calls prog 78 #[.pointer (some ⟨d,0,none⟩),.int .i64 clock] w λj i=>∃e:SB,j=.returned (.pointer (some ⟨e.s,0,none⟩))/\bJ i e (CV clock x)/\aR i d tl/\(∀h,e.aQ (CV clock x).k h->w.heap.size<=h)/\aA (λh=>h=d) w i:=by
 have A:D2 clock x=GH x++(Bl x.k (Qi.allL (x.l.length+1) x.l)++DO x.k x.c x.nt (clock-x.c.aK)):=rfl;rw[A,By,By,List.append_assoc,List.append_assoc]at l;have v:=F1 x.k x.c a.i.k1 a.i.k5;have hlen:=(Ia (x.l.length+1) x.l (by omega) a.i.heap).length_eq;have D:=a.i.common;have C:=a.c1;have E:=a.rel;refine(TN d x clock (Qi.allL (x.l.length+1) x.l) (Gy x.k (Al x.k x.c) (clock-x.c.aK) x.nt) (Ae (DO x.k x.c x.nt (clock-x.c.aK))) tl w l a.ld a.bC ?_).mono ?_
 ·intro G F H I s t k m o q r;rw[v.2.1,hlen,a.i.dD]at k;exact zMl a ⟨s,t,k,m,o,q,r,by omega,by omega,by omega⟩
 rintro j i ⟨e,rfl,c,B,u,z⟩;rw[hlen]at c;exact⟨e,rfl,⟨c.aF,c.dL,c.note,c.sq,c.sg,c.sn⟩,B,u,z⟩
theorem Fit.fY{n:Int}{s:WS}(a:Fit n s)(d:n<=1000000000000){x:aI}(c:x∈s.xs): Good n s.clock x:=⟨a.i.bD x c,a.x x c,a.z x c,a.i.c0,a.i.c1,d⟩
theorem zMf{l:List Bk}(a:∀b∈l,1<=b.sz): (l.length:Int)<=An l:=by
 induction l with
 | nil=>exact iG _
 | cons b l e =>
  have h:=e (λc d=>a c (by simp[d]));have i:=a b (by simp);rw[iA];show((l.length+1:Nat):Int)<=b.sz+An l;omega
theorem Fit.all{n:Int}{s:WS}(h:Fit n s)(hn:n<=1000000000000): fL s.xs (CV s.clock) s.clock where
 bX:=h.i.bX
 c0:=h.i.c0
 c1:=h.i.c1
 ids:=h.d
 gZ:=λ_ _=>rfl
 aL:=λx hx=>by
  have hc:=Kq (h.i.bD x hx) (h.x x hx) (h.z x hx);exact hc.2.2.2.aL (h.i.bD x hx) hc.1 (h.z x hx) hc.2.2.1
 ok:=λx hx=>by
  have hc:=Kq (h.i.bD x hx) (h.x x hx) (h.z x hx);have hg:=(h.fY hn hx).rel;exact M4 hc.2.1 hc.1 (show x.rel<=_ by omega)
 len:=by
  have h1:∀xs:List aI,(∀x,x∈xs->x∈s.xs)->(Bs s.clock xs).length<=xs.length*1000000051000:=by
   intro xs;induction xs with
   | nil=>intro _;simp[Bs]
   | cons x xs ih =>
    intro hm;have hx:=hm x (by simp);have g1:=ih (λy hy=>hm y (by simp[hy]));have g2:=Ni (h.fY hn hx).ok s.clock;have g3:=zMf (h.i.bD x hx).note.one;have g4:=(h.i.bD x hx).note.sum;have g5:=(h.fY hn hx).rel;unfold Bs at g1 ⊢;rw[ju,hY,iA,Nat.succ_mul];omega
  have h2:=h1 s.xs (λ_ h=>h);have h3:=Cp (FH s.clock s.xs);have h4:=Dk (CB (Em s.clock s.xs));have h5:(FH s.clock s.xs).length=2+(Bs s.clock s.xs).length:=by simp[FH];omega
  have h6:Bt.length=8:=rfl;have h7:(Em s.clock s.xs).length=8+(Ae (FH s.clock s.xs)).length:=by unfold Em;rw[hY,h6]
  have h8:=h.i.bX;unfold FN;rw[hY];omega
 sum:=by have:=MG (Em s.clock s.xs);omega
 ld:=λx hx r tl w hr=>zOu (h.fY hn hx) r tl w hr
theorem cE.trans{n clock:Int}{x y k:aI}(a:cE clock x y)(g:cE clock y k)(m:aT n x): cE clock x k:=by
 have l:=(a.head m).1;have h:=g.c;have e:=g.buf;have d:=g.note;rw[a.k,a.c]at h d;rw[a.k]at e;rw[l]at d;refine⟨g.id.trans a.id,g.k.trans a.k,h,g.acc.trans a.acc,g.rel.trans a.rel,g.ref.trans a.ref,g.last.trans a.last,a.buf.trans e,?_⟩;exact⟨λc=>⟨(a.note.dec c).1.trans (d.dec c).1,(a.note.dec c).2.trans (d.dec c).2⟩,λc=>(a.note.bL c).trans (d.bL c),λc j i=>(a.note.dQ c j i).trans (d.dQ c j i),λc=>(a.note.dW c).trans (d.dW c),λc=>(a.note.cX c).trans (d.cX c)⟩
theorem bY.trans{n clock:Int}{d h:List aI}(k:bY clock d h): ∀ {c:List aI},bY clock h c->(∀a,a∈d->aT n a)->bY clock d c:=by
 induction k with
 | nil=>intro c g _;exact g
 | cons m _ o =>
  intro c g e;cases g with
  | cons j i=>exact .cons (m.trans j (e _ (by simp))) (o i (λa l=>e a (by simp[l])))
def GG(n:Int)(p:WS)(ss:List aO): Prop:=∃t A,KW n t (BA Bn ss) A/\Fit n t/\Fit n p/\eL t p
theorem GG.zero: GG 0 CY []:=⟨CY,_,Rt,Fit.zero,Fit.zero,rfl,.nil⟩
theorem GG.mono{n m:Int}{p:WS}{d:List aO}(h:GG n p d)(c:n<=m): GG m p d:=by
 obtain⟨l,e,a,i,j,k⟩:=h;exact⟨l,e,⟨a.inv.mono c,a.g2,a.g3,a.g5,a.j⟩,i.mono c,j.mono c,k⟩
theorem GG.can{n:Int}{p:WS}{d:List aO}(h:GG n p d): GG n (FB p) d:=by
 obtain⟨k,e,i,c,j,a⟩:=h;obtain⟨c1,c2,c3⟩:=j.can;refine⟨k,e,i,c,c1,rfl.trans a.clock,?_⟩;rw[a.clock]at c3;exact a.xs.trans c3 c.i.bD
theorem GG.step{n:Int}{p:WS}{d:List aO}(q:GG n p d)(c:0<=n)(k:n<=1000000000000)(o:aO)(a:fU o): GG (n+1) (Aw p o).1 (d++[o].filter Es)/\(Aw p o).2=Hg (BA Bn d) o:=by
 obtain⟨t,s,e,h,i,r⟩:=q;obtain⟨l,m,_⟩:=r.step h.ok i.ok o a.2;have j:=e.step c (by omega) o a;rw[zL7,<-Ud]at j;exact⟨⟨_,_,j,h.step c k o a.2,i.step c k o a.2,l⟩,by rw[m];exact e.hO (by omega) o a⟩
theorem GG.fit{n:Int}{p:WS}{d:List aO}(a:GG n p d): Fit n p:=by obtain⟨_,_,_,_,c,_⟩:=a;exact c
theorem GG.gE{n:Int}{p:WS}{a:List aO}(c:GG n p a): ∀y,y∈(BA Bn a).xs->fV (BA Bn a).clock y:=by obtain⟨_,_,d,_⟩:=c;exact d.gE
structure Tr where
 real:List aO
 told:List aO
 p:WS
 ss:List aO
 sv:List (Nat×WS×List aO)
 an:List (Int×List Int)
 bs:List ByteArray
def Gv(c:Int)(n:Nat): Nat:=((if c<0 then -(c+1) else c)%(n:Int)).toNat
def Tr.next(z:Tr)(o:aO): Tr :=
 if o.kind=6 then⟨z.real++[o],z.told++[o],z.p,z.ss,z.sv++[(z.real.length,z.p,z.ss)],z.an++[(0,[])],z.bs++[Cs z.p]⟩
 else if o.kind=7 then
  match z.sv[Gv o.a z.sv.length]? with
  | none=>⟨z.real++[{ o with bytes:=Ai }],z.told++[{ o with a:=-1 }],z.p,z.ss,z.sv,z.an++[(14,[])],z.bs++[Ai]⟩
  | some x=>⟨z.real++[{ o with bytes:=Cs x.2.1 }],z.told++[{ o with a:=x.1 }],FB x.2.1,x.2.2,z.sv,z.an++[(0,[])],z.bs++[Ai]⟩
 else⟨z.real++[o],z.told++[o],(Aw z.p o).1,z.ss++[o].filter Es,z.sv,z.an++[(Aw z.p o).2],z.bs++[Ai]⟩
def UG: Tr:=⟨[],[],CY,[],[],[],[]⟩
def tr(ops:List aO)(k:Nat): Tr:=(ops.take k).foldl Tr.next UG
theorem Ig{a:List aO}{k:Nat}{o:aO}(c:a[k]?=some o): tr a (k+1)=(tr a k).next o:=by
 unfold tr;rw[jg,c];simp
theorem Tr.eM(a:Tr)(o:aO): ∃d h e b,(a.next o).real=a.real++[d]/\(a.next o).told=a.told++[h]/\(a.next o).an=a.an++[e]/\(a.next o).bs=a.bs++[b]/\((d.kind=6/\b=Cs a.p)\/(d.kind≠6/\b=Ai)):=by
 unfold Tr.next;split
 ·rename_i c;exact⟨_,_,_,_,rfl,rfl,rfl,rfl,.inl ⟨c,rfl⟩⟩
 rename_i c;split
 ·split <;> exact⟨_,_,_,_,rfl,rfl,rfl,rfl,.inr ⟨c,rfl⟩⟩
 exact⟨_,_,_,_,rfl,rfl,rfl,rfl,.inr ⟨c,rfl⟩⟩
def Gs(l:List aO): List Nat:=(List.range l.length).filter (λi=>match l[i]? with | some o=>o.kind==6 | none=>false)
theorem Ly(l:List aO)(o:aO): Gs (l++[o])=Gs l++if o.kind==6 then[l.length] else[]:=by
 unfold Gs;rw[hY,iZ,j6,jj];congr 1
 ·exact kU (λc a=>by rw[iO (lj.1 a)])
 simp[iR]
structure TI (ops:List aO) (k:Nat):Prop where
 lr:(tr ops k).real.length=k
 lt:(tr ops k).told.length=k
 la:(tr ops k).an.length=k
 lb:(tr ops k).bs.length=k
 g:GG k (tr ops k).p (tr ops k).ss
 sl:(tr ops k).ss.length<=k
 nu:∀x,x∈(tr ops k).an->x.2.length<=17
 ix:Gs (tr ops k).real=(tr ops k).sv.map (·.1)
 sv:∀x,x∈(tr ops k).sv->x.1<k/\GG k x.2.1 x.2.2/\x.2.2.length<=k/\(tr ops k).bs[x.1]?=some (Cs x.2.1)/\(tr ops x.1).ss=x.2.2/\∃o,(tr ops k).told[x.1]?=some o/\o.kind=6
theorem PM{α:Type _}{l:List α}{i:Nat}{a b:α}(c:l[i]?=some a): (l++[b])[i]?=some a:=by rw[iO (ik.1 c).1,c]
theorem PS{α:Type _}{l:List α}{b:α}{k:Nat}(a:l.length=k): (l++[b])[k]?=some b:=by simp[<-a]
theorem TI.all(h:List aO)(L:h.length<=1000000000000): ∀e,e<=h.length->TI h e:=by
 intro e;induction e with
 | zero=>intro _;exact⟨rfl,rfl,rfl,rfl,GG.zero,il _,λc d=>(by cases d),rfl,λc d=>(by cases d)⟩
 | succ e G =>
  intro J;have a:=G (by omega);obtain⟨i,E⟩:∃i,h[e]?=some i:=⟨h[e],hX _⟩;have j:=Ig E;have n:∀(l:Tr) c,c∈(tr h e).sv->(∃i,l.told=(tr h e).told++[i])->(∃b,l.bs=(tr h e).bs++[b])->c.1<e+1/\GG ((e+1:Nat):Int) c.2.1 c.2.2/\c.2.2.length<=e+1/\l.bs[c.1]?=some (Cs c.2.1)/\(tr h c.1).ss=c.2.2/\∃i,l.told[c.1]?=some i/\i.kind=6:=λl c d ⟨o1,ht⟩ ⟨b1,hb⟩=>by
   obtain⟨I,q,v,w,x,H,z,A⟩:=a.sv c d;rw[ht,hb];exact⟨by omega,q.mono (by omega),by omega,PM w,x,H,PM z,A⟩
  have r:GG ((e+1:Nat):Int) (tr h e).p (tr h e).ss:=a.g.mono (by omega);have m:∀o:Int×List Int,o.2.length<=17->∀c,c∈(tr h e).an++[o]->c.2.length<=17:=λo D c d=>by
   rcases ig.1 d with d | d
   ·exact a.nu c d
   rw[ij]at d;rw[d];exact D
  have s:=a.sl;unfold Tr.next at j;split at j
  ·rename_i k;refine⟨?_,?_,?_,?_,?_,?_,?_,?_,?_⟩ <;> rw[j]
   ·simp[a.lr]
   ·simp[a.lt]
   ·simp[a.la]
   ·simp[a.lb]
   ·exact r
   ·exact lN s
   ·exact m _ (by simp)
   ·show Gs (_++[i])=_;rw[Ly,h9 (by simp[k]),a.ix,iy];rfl
   intro c d;rcases ig.1 d with d | d
   ·exact n _ c d ⟨_,rfl⟩ ⟨_,rfl⟩
   rw[ij]at d;subst d;refine⟨by show _<_;rw[a.lr];omega,r,lN s,?_,by rw[a.lr],i,?_,k⟩
   ·show((tr h e).bs++[_])[(tr h e).real.length]?=_;rw[a.lr];exact PS a.lb
   show((tr h e).told++[_])[(tr h e).real.length]?=_;rw[a.lr];exact PS a.lt
  rename_i k;have t:∀u,u.kind=i.kind->Gs ((tr h e).real++[u])=(tr h e).sv.map (·.1):=λu B=>by
   rw[Ly,hZ (by rw[B];simpa using k),iz,a.ix]
  split at j
  ·split at j
   ·refine⟨?_,?_,?_,?_,?_,?_,?_,?_,?_⟩ <;> rw[j]
    ·simp[a.lr]
    ·simp[a.lt]
    ·simp[a.la]
    ·simp[a.lb]
    ·exact r
    ·exact lN s
    ·exact m _ (by simp)
    ·exact t _ rfl
    exact λc d=>n _ c d ⟨_,rfl⟩ ⟨_,rfl⟩
   rename_i c d;obtain⟨_,q,v,_⟩:=a.sv c (iu d);refine⟨?_,?_,?_,?_,?_,?_,?_,?_,?_⟩ <;> rw[j]
   ·simp[a.lr]
   ·simp[a.lt]
   ·simp[a.la]
   ·simp[a.lb]
   ·exact(q.mono (by omega)).can
   ·exact lN v
   ·exact m _ (by simp)
   ·exact t _ rfl
   exact λc d=>n _ c d ⟨_,rfl⟩ ⟨_,rfl⟩
  rename_i C;have F:=(a.g.step (by omega) (by omega) i ⟨k,C⟩).1;refine⟨?_,?_,?_,?_,?_,?_,?_,?_,?_⟩ <;> rw[j]
  ·simp[a.lr]
  ·simp[a.lt]
  ·simp[a.la]
  ·simp[a.lb]
  ·exact F
  ·show((tr h e).ss++_).length<=e+1;rw[hY];have:=kX Es [i];rw[iZ]at this;omega
  ·exact m _ (WP i a.g.fit.i)
  ·exact t _ rfl
  exact λc d=>n _ c d ⟨_,rfl⟩ ⟨_,rfl⟩
theorem K5{α:Type _}{l m:List α}{a:α}{i:Nat}(e:l.take i=m)(h:l.take (i+1)=m++[a]): l[i]?=some a:=by
 have:=congrArg (λj=>j[m.length]?) h;simp only[iS (il _),kf,List.getElem?_cons_zero]at this;rw[iV]at this;split at this
 ·have c:=congrArg List.length e;rw[iD]at c;by_cases d:i<=l.length
  ·rwa [<-c,jJ d]at this
  exfalso;rw[<-c,lp (by omega),jz (il _)]at this;cases this
 cases this
theorem GM(c:List aO)(i:c.length<=1000000000000)(k:Nat): k<=c.length->∀a,a<=k->(tr c k).real.take a=(tr c a).real/\(tr c k).told.take a=(tr c a).told/\(tr c k).bs.take a=(tr c a).bs:=by
 induction k with
 | zero =>
  intro _ a n;have d:a=0:=by omega
  subst d;exact⟨rfl,rfl,rfl⟩
 | succ k q =>
  intro o a n;have h:=TI.all c i _ o;have e:=TI.all c i k (by omega);by_cases d:a=k+1
  ·subst d;exact⟨iq (by rw[h.lr];omega),iq (by rw[h.lt];omega),iq (by rw[h.lb];omega)⟩
  obtain⟨s,t,r,b,j,l,_,m,_⟩:=(tr c k).eM c[k];rw[Ig (hX (by omega)),j,l,m,iX (by rw[e.lr];omega),iX (by rw[e.lt];omega),iX (by rw[e.lb];omega)];exact q (by omega) a (by omega)
theorem zLh(a:List aO)(j:a.length<=1000000000000)(k:Nat)(q:k<a.length): ∃c b,(tr a a.length).real[k]?=some c/\(tr a a.length).bs[k]?=some b/\((c.kind=6/\∃l,b=Cs l)\/(c.kind≠6/\b=Ai)):=by
 obtain⟨c,s,r,b,d,_,_,e,n⟩:=(tr a k).eM a[k];rw[<-Ig (hX q)]at d e;have h:=GM a j a.length (il _) k (by omega);have i:=GM a j a.length (il _) (k+1) (by omega);refine⟨c,b,K5 h.1 (i.1.trans d),K5 h.2.2 (i.2.2.trans e),?_⟩;rcases n with ⟨m,b⟩ | o
 ·exact .inl ⟨m,_,b⟩
 exact .inr o
theorem M3(c:Int){n:Nat}(a:1<=n): Gv c n<n:=by
 have d:=j8 (if c<0 then -(c+1) else c) (show(n:Int)≠0 by omega);have e:=j1 (if c<0 then -(c+1) else c) (show 0<(n:Int) by omega);unfold Gv;omega
theorem Tr.fF(c:Tr)(o:aO): ∃i j,(c.next o).real=c.real++[i]/\(c.next o).told=c.told++[j]/\((o.kind≠7/\o=i/\o=j)\/(o.kind=7/\c.sv.length=0/\i={ o with bytes:=Ai }/\j={ o with a:=-1 }) \/
    ∃d,o.kind=7/\1<=c.sv.length/\c.sv[Gv o.a c.sv.length]?=some d/\i={ o with bytes:=Cs d.2.1 }/\j={ o with a:=d.1 }):=by
 unfold Tr.next;split
 ·exact⟨o,o,rfl,rfl,.inl ⟨by omega,rfl,rfl⟩⟩
 split
 ·rename_i e;split
  ·rename_i h;refine⟨_,_,rfl,rfl,.inr (.inl ⟨e,?_,rfl,rfl⟩)⟩;have k:=List.getElem?_eq_none_iff.1 h;have l:=@M3 o.a c.sv.length;omega
  rename_i d h;exact⟨_,_,rfl,rfl,.inr (.inr ⟨d,e,by have:=(ik.1 h).1;omega,h,rfl,rfl⟩)⟩
 rename_i e;exact⟨o,o,rfl,rfl,.inl ⟨e,rfl,rfl⟩⟩
theorem Wn(a:List aO)(t:a.length<=1000000000000)(k:Nat)(o:aO)(l:a[k]?=some o): ∃c d,(tr a (k+1)).told=(tr a k).told++[c]/\(tr a (k+1)).an=(tr a k).an++[d] /\
  ((c.kind=6/\d=(0,[])/\(tr a (k+1)).ss=(tr a k).ss)\/(c.kind=7/\c.a=-1/\d=(14,[])/\(tr a (k+1)).ss=(tr a k).ss) \/
     (∃j:Nat,c.kind=7/\c.a=(j:Int)/\j<k/\(∃m,(tr a k).told[j]?=some m/\m.kind=6)/\d=(0,[])/\(tr a (k+1)).ss=(tr a j).ss) \/
     ((c.kind≠6/\c.kind≠7)/\d=Hg (BA Bn (tr a k).ss) c/\(tr a (k+1)).ss=(tr a k).ss++[c].filter Es)):=by
 have v:=(ik.1 l).1;have i:=TI.all a t k (by omega);rw[Ig l];unfold Tr.next;split
 ·rename_i e;exact⟨o,_,rfl,rfl,.inl ⟨e,rfl,rfl⟩⟩
 split
 ·rename_i e h;split
  ·exact⟨_,_,rfl,rfl,.inr (.inl ⟨h,rfl,rfl,rfl⟩)⟩
  rename_i n u;obtain⟨q,_,_,_,r,s⟩:=i.sv n (iu u);exact⟨_,_,rfl,rfl,.inr (.inr (.inl ⟨n.1,h,rfl,q,s,rfl,r.symm⟩))⟩
 rename_i e h;exact⟨o,_,rfl,rfl,.inr (.inr (.inr ⟨⟨e,h⟩,(i.g.step (by omega) (by omega) o ⟨e,h⟩).2,rfl⟩))⟩
end
section
attribute [local go_sem ↓] AN B2
attribute [local go_sem] AO B4 A5 A6 AI AJ BC BD
theorem Yq(e:Nat)(v:Value)(clock aV:Int)(ps:List (SB×aI))(o:aO)(r:List aI)(can:aI->aI)(w:World)(c:aX w e v clock ps)(O:o.bytes=D4 aV r)(M:fL r can aV):
  Calls prog 26 #[.pointer (some ⟨e,0,none⟩),o.val] w λU am=>aS w e v ps aV (r.map can) 0 [] U am:=by
 have X:=Aa c;have V:=Aa M;have aw:=c.aF.lt;have Q:lO w ((w.alloc (.cells o.cells.toArray 48)).alloc (.cells #[.int .i64 0,.slice none 0 0,.string ⟨#[]⟩] 39)):=((aA.refl (λ_=>False) w).alloc _).alloc _;have aa:=Aa (show aD ((w.alloc (.cells o.cells.toArray 48)).alloc (.cells #[.int .i64 0,.slice none 0 0,.string ⟨#[]⟩] 39)) w.heap.size o.cells 48 from(aD.new w o.cells 48).alloc _);have I:=Aa (show aD ((w.alloc (.cells o.cells.toArray 48)).alloc (.cells #[.int .i64 0,.slice none 0 0,.string ⟨#[]⟩] 39)) (w.heap.size+1) [.int .i64 0,.slice none 0 0,.string Ai] 39 from aD.newAt (by simp) [_,_,_] 39);have ae:((w.alloc (.cells o.cells.toArray 48)).alloc (.cells #[.int .i64 0,.slice none 0 0,.string ⟨#[]⟩] 39)).cell? ⟨w.heap.size,25,none⟩=some (.string (D4 aV r)):=by rw[<-O];exact aa.o.cell rfl
 have Z:=Aa Q;clear c M O Q;unfold aO.val;go_enter func26,ntmps26;go_wp2_with fail
 generalize(w.alloc (.cells o.cells.toArray 48)).alloc (.cells #[.int .i64 0,.slice none 0 0,.string ⟨#[]⟩] 39)=an at *
 refine(Vb r can aV an V.o).mono ?_;rintro U m ⟨J,z,x,rfl,q,T,P,E⟩;obtain⟨j,k,u,_⟩:=Dy q.row;obtain⟨h,R⟩:∃h,x.length=h:=⟨_,rfl⟩;rw[R]at u;clear R;subst u;obtain⟨z,u⟩:∃z,z=Value.slice j h k:=⟨_,rfl⟩;have ay:=I.o.lt;have ab:=Aa (I.o.keeps E id);have G:=Aa (Z.o.then E);have s:=Aa (X.o.still G.o);have Y:=Aa q;have ad:=Aa T;have B:=Aa P;have ao:=q.aF.c0;have ap:=q.aF.c1;have aq:=s.o.aF.c0;have ar:=s.o.aF.c1;have au:=s.o.aF.frozen;have F:=Aa ((s.o.aF.setCell 0 (.int .i64 aV)).setCell 1 (.slice j h k));have H:=Aa (show aA (λa=>a=e) m _ from((aA.refl (λa=>a=e) m).setCell (p:=⟨e,0,none⟩) (Or.inl rfl) (.int .i64 aV)).setCell (p:=⟨e,1,none⟩) (Or.inl rfl) (.slice j h k));have n:=Aa ((ab.o.aW (p:=⟨e,0,none⟩) (show e≠w.heap.size+1 by omega) (.int .i64 aV)).aW (p:=⟨e,1,none⟩) (show e≠w.heap.size+1 by omega) (.slice j h k));have ai:=n.o.cell (i:=0) rfl;have aj:=n.o.cell (i:=1) rfl;have ak:=n.o.cell (i:=2) rfl;have al:=n.o.frozen;clear q T P E ae;have A:=Aa (((n.o.setCell 0 (.int .i64 0)).setCell 1 (.slice none 0 0)).setCell 2 (.string Ai));have C:=Aa (show aA (λa=>a=w.heap.size+1) ((m.setCell ⟨e,0,none⟩ (.int .i64 aV)).setCell ⟨e,1,none⟩ (.slice j h k)) _ from(((aA.refl (λa=>a=w.heap.size+1) ((m.setCell ⟨e,0,none⟩ (.int .i64 aV)).setCell ⟨e,1,none⟩ (.slice j h k))).setCell (p:=⟨w.heap.size+1,0,none⟩) (Or.inl rfl) (.int .i64 0)).setCell (p:=⟨w.heap.size+1,1,none⟩) (Or.inl rfl) (.slice none 0 0)).setCell (p:=⟨w.heap.size+1,2,none⟩) (Or.inl rfl) (.string Ai));clear u z;go_wp2;have L:((((m.setCell ⟨e,0,none⟩ (.int .i64 aV)).setCell ⟨e,1,none⟩ (.slice j h k)).setCell ⟨w.heap.size+1,0,none⟩ (.int .i64 0)).setCell ⟨w.heap.size+1,1,none⟩ (.slice none 0 0)).setCell ⟨w.heap.size+1,2,none⟩ (.string ⟨#[]⟩)=((((m.setCell ⟨e,0,none⟩ (.int .i64 aV)).setCell ⟨e,1,none⟩ (.slice j h k)).setCell ⟨w.heap.size+1,0,none⟩ (.int .i64 0)).setCell ⟨w.heap.size+1,1,none⟩ (.slice none 0 0)).setCell ⟨w.heap.size+1,2,none⟩ (.string Ai):=rfl;first | rw[L] | skip
 clear L;have D:=Aa ((H.o.mono (M':=λa=>a=e\/a=w.heap.size+1) (λ_ _ c=>.inl c)).trans C.o (λa d _=>.inr d));have N:=F.o.keeps C.o (show ¬(e=w.heap.size+1) by omega);have W:=Aa N;clear N F H C n ai aj ak al;generalize((((m.setCell ⟨e,0,none⟩ (.int .i64 aV)).setCell ⟨e,1,none⟩ (.slice j h k)).setCell ⟨w.heap.size+1,0,none⟩ (.int .i64 0)).setCell ⟨w.heap.size+1,1,none⟩ (.slice none 0 0)).setCell ⟨w.heap.size+1,2,none⟩ (.string Ai)=az at *
 have af:=A.o.c0;have ag:=A.o.c1;have ah:=A.o.c2;refine iN (v:=Av 0 (.slice none 0 0)) (by simp[results,results26,go_sem,af,ag,ah,Av]) rfl ?_;have t:=Y.o;have hF:∀a,aN J (.slice j h k) x a->¬(a=e\/a=w.heap.size+1):=λa d c=>by
  have av:=B.o a d;rcases c with c | c <;> omega
 have S:∀a,aN J (.slice j h k) x a->a≠e:=λa d c=>hF a d (.inl c);refine⟨.slice none 0 0,.slice j h k,x,rfl,⟨W.o,F4 t.row D.o (λa d=>hF a (.inr (.inl d))),λp l=>(t.bM p l).keeps D.o (λa d=>hF a (.inr (.inr ⟨p,l,d⟩))),t.apart,λc=>S e (.inr (.inl c)) rfl,λp l a d=>⟨S a (.inr (.inr ⟨p,l,d⟩)),(t.ef p l a d).2⟩⟩,ad.o,ir _ _ _ _,?_,?_,λa d=>by cases d⟩
 ·exact G.o.mono (M':=aN e v ps) (λ_ _ c=>c.elim) |>.trans D.o (λa d ax=>by
     rcases d with c | c
     ·exact .inl c
     omega)
 intro a d;rcases d with c | c | ⟨p,l,c⟩
 ·exact .inl (.inl c)
 ·have:=B.o a (.inr (.inl c));exact .inr (by omega)
 have:=B.o a (.inr (.inr ⟨p,l,c⟩));exact .inr (by omega)
end
section
theorem RO(w:World)(c:TypeId)(b:Nat): (Builtin.copy_ #[129,9] c #[.slice (some ⟨b,0,none⟩) 8 8,.string Ai]).run prog w=.ok (goInt 0) w:=by
 have:=Ny w c b 8 8 Ai [] (by kernel_rfl) (λd a=>by simp at a) (λd a=>by simp at a);exact this
def GX: List Value:=[.int .u8 0,.int .u8 0,.int .u8 0,.int .u8 0,.int .u8 0,.int .u8 0,.int .u8 0,.int .u8 0]
theorem SO(w:World): Calls prog 122 #[.string Ai] w λk n=>k=.returned (.agg GX.toArray)/\lO w n:=by
 have j:=Aa (show aD ((w.alloc (.cells #[.int .u8 0,.int .u8 0,.int .u8 0,.int .u8 0,.int .u8 0,.int .u8 0,.int .u8 0,.int .u8 0] 166)).alloc (.cells #[.int .u8 0,.int .u8 0,.int .u8 0,.int .u8 0,.int .u8 0,.int .u8 0,.int .u8 0,.int .u8 0] 166)) w.heap.size GX 166 from(aD.new w GX _).alloc _);have h:=Aa (show lO w ((w.alloc (.cells #[.int .u8 0,.int .u8 0,.int .u8 0,.int .u8 0,.int .u8 0,.int .u8 0,.int .u8 0,.int .u8 0] 166)).alloc (.cells #[.int .u8 0,.int .u8 0,.int .u8 0,.int .u8 0,.int .u8 0,.int .u8 0,.int .u8 0,.int .u8 0] 166)) from((aA.refl _ _).alloc _).alloc _);have c:=RO ((w.alloc (.cells #[.int .u8 0,.int .u8 0,.int .u8 0,.int .u8 0,.int .u8 0,.int .u8 0,.int .u8 0,.int .u8 0] 166)).alloc (.cells #[.int .u8 0,.int .u8 0,.int .u8 0,.int .u8 0,.int .u8 0,.int .u8 0,.int .u8 0,.int .u8 0] 166)) 3 (w.heap.size+1);obtain⟨e,d⟩:∃e,Ai=e:=⟨_,rfl⟩;rw[d]at c ⊢;clear d;go_enter func122,ntmps122;go_wp2;clear c;generalize((w.alloc (.cells #[.int .u8 0,.int .u8 0,.int .u8 0,.int .u8 0,.int .u8 0,.int .u8 0,.int .u8 0,.int .u8 0] 166)).alloc (.cells #[.int .u8 0,.int .u8 0,.int .u8 0,.int .u8 0,.int .u8 0,.int .u8 0,.int .u8 0,.int .u8 0] 166))=a at *
 have i:=Aa (show(loadVar 166 ⟨w.heap.size,0,none⟩).run prog a=.ok (.agg GX.toArray) a from k9 a w.heap.size 0 166 GX _ (λo m l=>by rw[ja];exact j.o.cell l) underlying166 rfl (by rw[PH];rfl));refine iN (v:=.agg GX.toArray) (by simp[results,results122,asAddr,i.o]) rfl ?_;exact⟨rfl,h.o⟩
theorem SK(w:World): (Op.equalIn 10000 166 (.agg GX.toArray) (.agg (B7 Bt).toArray)).run prog w=.ok false w:=by kernel_rfl
def FQ(w:World)(r:Nat): Prop:=aD w r [.string Ai,.bool true] 169
theorem R7(w:World): Calls prog 76 #[.string Ai] w λa m=>∃c,a=.returned (.pointer (some ⟨c,0,none⟩))/\w.heap.size<=c/\FQ m c/\lO w m:=by
 have d:=Aa (SO w);obtain⟨l,k⟩:∃l,Ai=l:=⟨_,rfl⟩;rw[k]at d ⊢;clear k;go_enter func76,ntmps76;go_wp2_with fail
 refine d.o.mono ?_;rintro a s ⟨rfl,i⟩;have e:=Aa i;clear i;go_wp2_with fail
 have hF:(Value.string ⟨#[115,107,101,116,99,104,32,49]⟩)=.string (AM (Bt++[])):=by kernel_rfl
 rw[hF];refine(Lx [] s).mono ?_;rintro a n ⟨rfl,j⟩;have h:=Aa (e.o.then j);have t:=SK n;clear j e hF;have q:=Aa (aD.new n [.string Ai,.bool true] 169);have o:=Aa (h.o.alloc (.cells #[.string Ai,.bool true] 169));have r:=h.o.size;go_wp2;go_ret;exact⟨_,rfl,r,q.o,o.o⟩
theorem UM(c:Nat)(w:World)(a:FQ w c): Calls prog 123 #[.pointer (some ⟨c,0,none⟩)] w λd h=>d=.returned (.tuple #[.int .i64 0,.bool false])/\h=w:=by
 have c0:=a.c0;have i:Ai.size=0:=rfl;clear a;go_enter func123,ntmps123;go_wp2;go_loopw [13] (λe wr=>e=.int .i64 0/\wr=w) (λ_ _=>0)
 case atStart=>exact⟨rfl,rfl⟩
 case round =>
  obtain⟨rfl,rfl⟩:=hrel;go_wp2;refine iN (v:=.tuple #[.int .i64 0,.bool false]) (by simp[results,results123,go_sem]) rfl ?_;exact⟨rfl,rfl⟩
theorem Y4(a:Nat)(w:World)(c:FQ w a): Calls prog 124 #[.pointer (some ⟨a,0,none⟩),.bool false] w λj e=>j=.returned (.tuple #[])/\FQ e a/\aA (λd=>d=a) w e:=by
 have c1:=c.c1;have k:=c.frozen;have h:=Aa (show FQ (w.setCell ⟨a,1,none⟩ (.bool true)) a from c.setCell 1 (.bool true));have i:=Aa ((aA.refl (λd=>d=a) w).setCell (p:=⟨a,1,none⟩) (Or.inl rfl) (.bool true));clear c;go_enter func124,ntmps124;go_wp2;go_end0;exact⟨rfl,h.o,i.o⟩
theorem Ou(a:Nat)(lo hi:Int)(w:World)(h:FQ w a): Calls prog 77 #[.pointer (some ⟨a,0,none⟩),.int .i64 lo,.int .i64 hi] w λd k=>d=.returned (.int .i64 lo)/\FQ k a/\aA (λo=>o=a) w k:=by
 have c:=Aa h;clear h;go_enter func77,ntmps77;go_wp2_with fail
 refine(UM a w c.o).mono ?_;rintro d l ⟨rfl,j⟩;rw[j];clear j l;go_wp2_with fail
 refine(Y4 a w c.o).mono ?_;rintro d l ⟨rfl,e,i⟩;have c1:=e.c1;have n:=Aa e;have m:=Aa i;clear e i c;go_wp2;go_ret;exact⟨rfl,n.o,m.o⟩
theorem Wy(c:Nat)(w:World)(a:FQ w c): Calls prog 79 #[.pointer (some ⟨c,0,none⟩)] w λd e=>d=.returned (.bool true)/\e=w:=by
 have h:=a.c1;clear a;go_enter func79,ntmps79;go_wp2;go_ret;exact⟨rfl,rfl⟩
theorem SN(w:World): Calls prog 50 #[.string Ai] w λc F=>c=.returned (.pointer none)/\lO w F:=by
 have d:=Aa (R7 w);obtain⟨x,r⟩:∃x,Ai=x:=⟨_,rfl⟩;rw[r]at d ⊢;clear r;go_enter func50,ntmps50;go_wp2_with fail
 refine d.o.mono ?_;rintro c G ⟨a,rfl,J,s,n⟩;have j:=Aa n;have l:=Aa s;clear s n d;go_wp2_with fail
 refine(Ou a 0 4611686018427387904 G l.o).mono ?_;rintro c i ⟨rfl,t,o⟩;have m:=Aa (show FQ (i.alloc (.cells #[.int .i64 0,.slice none 0 0] 53)) a from aD.alloc t _);have k:=Aa (show lO w (i.alloc (.cells #[.int .i64 0,.slice none 0 0] 53)) from(j.o.trans o (λh e D=>by have C:h=a:=e;omega)).alloc _);clear t o l j;go_wp2_with fail
 generalize i.alloc (.cells #[.int .i64 0,.slice none 0 0] 53)=H at *
 refine(Ou a 0 6 H m.o).mono ?_;rintro c z ⟨rfl,u,q⟩;have B:=Aa u;have A:=Aa (show lO w z from k.o.trans q (λh e D=>by have C:h=a:=e;omega));clear u q m k;go_wp2_with fail
 go_loopw [14] (λE wr=>E=.int .i64 0/\wr=z) (λ_ _=>0)
 case atStart=>exact⟨rfl,rfl⟩
 case round =>
  obtain⟨rfl,rfl⟩:=hrel;go_wp2_with fail
  refine(Wy a wr B.o).mono ?_;rintro c I ⟨rfl,v⟩;rw[v];clear v I;go_wp2;go_ret;exact⟨rfl,A.o⟩
theorem WW(e:Nat)(v:Value)(clock:Int)(ps:List (SB×aI))(o:aO)(w:World)(d:aX w e v clock ps)(t:o.bytes=Ai):
  Calls prog 26 #[.pointer (some ⟨e,0,none⟩),o.val] w λq r=>aS w e v ps clock (ps.map (·.2)) 14 [] q r:=by
 have x:=Aa d;have u:lO w ((w.alloc (.cells o.cells.toArray 48)).alloc (.cells #[.int .i64 0,.slice none 0 0,.string ⟨#[]⟩] 39)):=((aA.refl (λ_=>False) w).alloc _).alloc _;have E:=Aa (show aD ((w.alloc (.cells o.cells.toArray 48)).alloc (.cells #[.int .i64 0,.slice none 0 0,.string ⟨#[]⟩] 39)) w.heap.size o.cells 48 from(aD.new w o.cells 48).alloc _);have F:=Aa (show aD ((w.alloc (.cells o.cells.toArray 48)).alloc (.cells #[.int .i64 0,.slice none 0 0,.string ⟨#[]⟩] 39)) (w.heap.size+1) [.int .i64 0,.slice none 0 0,.string Ai] 39 from aD.newAt (by simp) [_,_,_] 39);obtain⟨h,n⟩:∃h,Ai=h:=⟨_,rfl⟩;have H:((w.alloc (.cells o.cells.toArray 48)).alloc (.cells #[.int .i64 0,.slice none 0 0,.string ⟨#[]⟩] 39)).cell? ⟨w.heap.size,25,none⟩=some (.string h):=by rw[<-n,<-t];exact E.o.cell rfl
 have D:=Aa (show ∀j,Calls prog 50 #[.string h] j λQ r=>Q=.returned (.pointer none)/\lO j r by rw[<-n];exact SN);have z:=Aa u;clear d t u n;unfold aO.val;go_enter func26,ntmps26;go_wp2_with fail
 generalize(w.alloc (.cells o.cells.toArray 48)).alloc (.cells #[.int .i64 0,.slice none 0 0,.string ⟨#[]⟩] 39)=j at *
 refine(D.o j).mono ?_;rintro q S ⟨rfl,l⟩;have G:=Aa (F.o.keeps l id);have A:=Aa (z.o.then l);clear l H;go_wp2_with fail
 refine(E9 14 S).mono ?_;rintro q s ⟨rfl,m⟩;have c:=Aa (G.o.keeps m id);have B:=Aa (A.o.then m);clear m;unfold Av;have N:=c.o.cell (i:=0) rfl;have O:=c.o.cell (i:=1) rfl;have P:=c.o.cell (i:=2) rfl;have R:=c.o.frozen;have k:=Aa (((c.o.setCell 0 (.int .i64 14)).setCell 1 (.slice none 0 0)).setCell 2 (.string Ai));have C:=Aa (show aA (λa=>a=w.heap.size+1) s _ from(((aA.refl (λa=>a=w.heap.size+1) s).setCell (p:=⟨w.heap.size+1,0,none⟩) (Or.inl rfl) (.int .i64 14)).setCell (p:=⟨w.heap.size+1,1,none⟩) (Or.inl rfl) (.slice none 0 0)).setCell (p:=⟨w.heap.size+1,2,none⟩) (Or.inl rfl) (.string Ai));go_wp2;clear N O P R c;generalize((s.setCell ⟨w.heap.size+1,0,none⟩ (.int .i64 14)).setCell ⟨w.heap.size+1,1,none⟩ (.slice none 0 0)).setCell ⟨w.heap.size+1,2,none⟩ (.string Ai)=V at *
 have J:=k.o.c0;have L:=k.o.c1;have M:=k.o.c2;refine iN (v:=Av 14 (.slice none 0 0)) (by simp[results,results26,go_sem,J,L,M,Av]) rfl ?_;exact Et x.o (B.o.trans C.o (λa I U=>by have T:a=w.heap.size+1:=I;omega)) (ir _ _ _ _)
end
section
attribute [local go_sem ↓] AN B2 La
attribute [local go_sem] AO B4 A5 A6 AI AJ BC BD
theorem Xr{s:WS}{o:aO}(a:o.kind≠6): Ex s o=Ai:=by unfold Ex;rw[hZ a]
theorem Ya(d:List aO)(N:d.length<=651562446080)(i:Nat)(o:aO)(D:d[i]?=some o)(e:Nat)(v:Value)(clock:Int)(ps:List (SB×aI))(E:(⟨clock,ps.map (·.2)⟩:WS)=(tr d i).p):
  ∃r t b,(tr d (i+1)).real=(tr d i).real++[r]/\(tr d (i+1)).an=(tr d i).an++[t]/\(tr d (i+1)).bs=(tr d i).bs++[b]/\∀a,aX a e v clock ps->eE a->¬aN e v ps 2 ->
   Calls prog 15 #[.pointer (some ⟨e,0,none⟩),r.val] a λr I=>Kc a e v ps (tr d (i+1)).p.clock (tr d (i+1)).p.xs t.1 t.2 b r I:=by
 have M:=(ik.1 D).1;have B:=TI.all d (by omega) i (by omega);have n:=B.g.fit;rw[<-E]at n;have w:(tr d i).p=⟨clock,ps.map (·.2)⟩:=E.symm;have H:∀c,c∈ps.map (·.2)->dK c:=λc q=>by
  have x:=n.i.bD c q;exact M4 (n.x c q) x (by have J:=x.dD;have L:=x.dG;omega)
 have C:∀z:aO,z.kind≠7->∀a,aX a e v clock ps->eE a->¬aN e v ps 2->_:=λz l a h j k=>YB (i:Int) e v clock ps z a h n.i (by omega) j k l (λ_=>H);rw[Ig D];unfold Tr.next;split
 ·rename_i m;refine⟨o,(0,[]),Cs (tr d i).p,rfl,rfl,rfl,λa h j k=>?_⟩;have:=C o (by omega) a h j k;have F:Aw ⟨clock,ps.map (·.2)⟩ o=(⟨clock,ps.map (·.2)⟩,0,[]):=by unfold Aw;rw[hZ (by omega),hZ (by omega),hZ (by omega),hZ (by omega),hZ (by omega),h9 m]
  have G:Ex ⟨clock,ps.map (·.2)⟩ o=Cs ⟨clock,ps.map (·.2)⟩:=by unfold Ex;rw[h9 m]
  rw[F,G]at this;rw[w];exact this
 split
 ·rename_i m l;split
  ·refine⟨{ o with bytes:=Ai },(14,[]),Ai,rfl,rfl,rfl,λa h j k=>?_⟩;rw[w];exact(GI (.inr (.inr (.inr (.inr (.inr ⟨rfl,rfl⟩))))) e v clock ps { o with bytes:=Ai } a h l clock (ps.map (·.2)) 14 [] (λA u _=>WW e v clock ps { o with bytes:=Ai } A u rfl)).mono (λ_ _ h=>h.b)
  rename_i c q;obtain⟨_,g,_⟩:=B.sv c (iu q);exact⟨{ o with bytes:=Cs c.2.1 },(0,[]),Ai,rfl,rfl,rfl,λa h j k=>(GI (.inr (.inr (.inr (.inr (.inr ⟨rfl,rfl⟩))))) e v clock ps { o with bytes:=Cs c.2.1 } a h l c.2.1.clock (c.2.1.xs.map (CV c.2.1.clock)) 0 [] (λA u _=>Yq e v clock c.2.1.clock ps { o with bytes:=Cs c.2.1 } c.2.1.xs (CV c.2.1.clock) A u rfl (g.fit.all (by omega)))).mono (λ_ _ h=>h.b)⟩
 rename_i m l;refine⟨o,_,Ai,rfl,rfl,rfl,λa h j k=>?_⟩;rw[w,<-Xr (s:=⟨clock,ps.map (·.2)⟩) m];exact C o l a h j k
theorem Qa(c:List aO)(bo:c.length<=651562446080)(K:Nat)(J:K<=c.length)(v:Value)(w:World)(ak:bI w v (tr c K).real)(L:eE w):
  Calls prog 8 #[v] w λar au=>∃v e,ar=.returned v/\cY au w.heap.size v e/\e.map (λj=>(j.code,j.aL))=(tr c K).an/\e.map (·.bs)=(tr c K).bs/\lO w au:=by
 have u:=TI.all c (by omega) K J;obtain⟨b1,b2,rfl,al⟩:=Hs ak;rw[u.lr];have a7:=Aa al;have a8:=Aa L;have b9:=L.lt;clear ak al L u;obtain⟨aq,ad,an,ao,ap⟩:=jh Rb;go_enter func8,ntmps8;go_wp2_with (at_make;refine wpList_make_own _ rfl _ _ _ rfl w.heap.size 39 aq _ 3 underlying32 ad an ao _ _ _ K rfl rfl rfl (by rw[ap];omega) (by unfold maxLen;omega) (by simp) ?_;intro E O M)
 rw[jU]at O;have af:lO w E:=((aA.refl (λ_=>False) w).alloc _).grown M (λa ae=>by cases ae);have Z:aD E w.heap.size [.int .i64 0,.slice none 0 0] 53:=by
  unfold aD;rw[M.block w.heap.size (by simp) (by simp)];exact aD.new w [.int .i64 0,.slice none 0 0] 53
 have az:=Aa (show aX E w.heap.size (.slice none 0 0) 0 [] from⟨Z,ir _ _ _ _,λp m=>by simp at m,List.Pairwise.nil,by simp[Value.ownBlock],λp m=>by simp at m⟩);have ax:=Aa (show cY E w.heap.size (.slice (some ⟨w.heap.size+1,0,none⟩) 0 K) [] from⟨O,λj z=>by simp at z,λj z=>by simp at z⟩);have a3:=Aa af;clear M O af Z;generalize C:w.heap.size=k at *
 have H:=Aa C;clear C;go_loopw [4,12] (λo d wr=>∃(a:Nat) (v:Value) (n:List (SB×aI)) (e:List dU),a<=K/\d=.int .i64 a/\Hid (aX wr k v (tr c a).p.clock n)/\Hid (n.map (·.2)=(tr c a).p.xs)/\Hid (cY wr w.heap.size o e)/\Hid (e.map (λj=>(j.code,j.aL))=(tr c a).an)/\Hid (e.map (·.bs)=(tr c a).bs)/\Hid (lO w wr)/\Hid (∀d,aN k v n d->w.heap.size<=d)/\Hid (∀d,Ft o e d->¬aN k v n d)) (λ_ d _=>K-(intOf d).toNat)
 case atStart =>
  have C:=H.o;refine⟨0,.slice none 0 0,[],[],by omega,rfl,az,rfl,by show cY _ _ _ _;rw[C];exact ax.o,rfl,rfl,a3,λd i=>?_,λd i x=>?_⟩
  ·rcases i with i | i | ⟨p,m,_⟩
   ·omega
   ·simp[Value.ownBlock]at i
   simp at m
  have b4:d=k:=by
   rcases x with x | x | ⟨p,m,_⟩
   ·exact x
   ·simp[Value.ownBlock]at x
   simp at m
  rcases i with i | ⟨j,z,_⟩
  ·have:k+1=d:=by simpa[Value.ownBlock] using i
   omega
  simp at z
 case round =>
  obtain⟨a,v,n,e,ae,rfl,a1,ba,G,I,S,q,V,T⟩:=hrel;generalize u4=o at *
  by_cases b6:a<K
  ·obtain⟨h,bb,B,l,s,W,X⟩:=Ya c bo a c[a] (hX _) k v (tr c a).p.clock n (by rw[ba.o]);have u:=TI.all c (by omega) a (by omega);have ai:(tr c K).real[a]?=some h:=K5 (GM c (by omega) K J a (by omega)).1 ((GM c (by omega) K J (a+1) (by omega)).1.trans l);obtain⟨cb,cc,bj,ah,aj⟩:=a7.o a h ai;obtain⟨bu,bm⟩:=Jl aj (by rw[H.o];exact ah) q.o;subst bj;have bt:∀F:List Value,F.length=26->(Eu 48 (.pointer (some ⟨wr.heap.size,0,none⟩)) (.agg h.cells.toArray)).run prog (wr.alloc (.cells F.toArray 48))=.ok .skip (wr.alloc (.cells h.cells.toArray 48)):=λF bx=>JI wr F h.cells bx rfl (Jb h);have bv:Ao (wr.alloc (.cells h.cells.toArray 48)) wr.heap.size 0 26=.agg h.cells.toArray:=Bf wr h.cells 48 26 rfl;have bn:Ay (wr.alloc (.cells h.cells.toArray 48)) wr.heap.size 0 26=true:=LJ wr h.cells 48 26 rfl;have b5:(0:Int)<=(a:Int):=by omega
   have b7:(a:Int)<(K:Int):=by omega
   have U:=Aa (show e.length=a by
      have:=congrArg List.length I.o;rw[im,u.la]at this
      exact this)
   have av:=Aa s;have aw:=Aa W;have R:=Aa X;clear ai u l s W X aj ah;go_wp2_with fail
   refine(R.o _ (a1.o.still ((aA.refl (λ_=>False) wr).alloc _)) ((a8.o.keeps q.o id).keeps ((aA.refl (λ_=>False) wr).alloc _) id) (λr=>by have l:=V.o 2 r;have s:=H.o;omega)).mono ?_;clear bu bm bt bv bn R;obtain⟨code,aL⟩:=bb;rintro ar A ⟨ca,b0,bz,rfl,Y,am,N,D,ab,aa⟩;obtain⟨P,Q,bp⟩:=Jy N;subst bp;unfold Hd
   have a6:=Aa (show A.ownsRow w.heap.size 39 3 o a (Ej e) by
      have l:=G.o.row;rw[U.o]at l
      exact A2 l (((aA.refl (aN k v n) wr).alloc _).then D) (λd i=>T.o d (.inl i)))
   have a0:=Aa Y;have a9:=Aa am;have a5:=Aa N;have a4:=Aa D;have a2:=Aa ab;have ay:=Aa aa;have b3:w.heap.size<=A.heap.size:=by have l:=q.o.size;have s:=D.size;rw[jU]at s;omega
   clear Y am N D ab aa;go_wp2_with (at_builtin;refine jf _ rfl _ _ _ rfl w.heap.size 39 aq _ 3 48 underlying32 ad an ao ap rfl (by omega) o a (Ej e) rfl (a6.o.alloc _) ⟨A.heap.size,0,none⟩ 1 1 [.int .i64 code,.slice P aL.length Q,.string B] rfl rfl (iT (cs:=#[.int .i64 code,.slice P aL.length Q,.string B]) (t:=39) (fr:=(0,0)) (iJ A _)) (by simp[Value.oneCell']) (by omega) (by unfold maxLen;omega) (by omega) (by simp;omega) (A.heap.size+1) (by simp) ?_;intro bi bc cd bq bl bk b8)
   go_roundw;case rel =>
    have ag:=U.o;have br:=XZ (code:=code) (bs:=B) (av':=.slice (some ⟨bi,0,none⟩) (a+1) bc) q.o G.o V.o T.o a0.o a5.o a4.o a2.o ay.o (by rw[ag]) (by rw[ag];exact bq) bl bk;obtain⟨bd,be,bf,bg,bh⟩:=br;refine⟨a+1,b0,bz,e++[(⟨code,.slice P aL.length Q,aL,B⟩:dU)],by omega,by go_num,Aa bd,a9,Aa be,?_,?_,Aa bf,Aa bg,Aa bh⟩
    ·show _=_;rw[av.o,iy,I.o];rfl
    show _=_;rw[aw.o,iy,S.o];rfl
   case measure=>simp[intOf];omega
  obtain rfl:a=K:=by omega
  go_wp2;go_ret;exact⟨o,e,rfl,G.o,I.o,S.o,q.o⟩
