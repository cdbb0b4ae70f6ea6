import Derived.Test.YtnokbhcennjanaaGreatDoorXAX
import Derived.Test.YtnokbhcennjanaaGreatDoorXAU
open Go.RowKit Go.Proofs.Tryz
set_option maxRecDepth 100000
set_option maxHeartbeats 16000000
namespace Go.Proofs.YtnokbhcennjanaaGreatDoor
section
attribute [local go_sem ↓] AN B2
attribute [local go_sem] AO B4 A5 A6 AI AJ BC BD Bf B3 KS KT KU KV KX KY KZ
theorem Ng(k:Nat)(c:Cfg)(e:Bb k c<=3): (BR k c).length<=14:=by
 have a:(Ch k).length<=4:=by unfold Ch;split <;> simp
 have d:(Ba (Bb k c).toNat).length<=6:=by simp[Ba];omega
 simp[BR];omega
theorem TF(a:SB)(x:aI)(clock:Int)(b:Nat)(v:Value)(bs:List Nat)(w:World)(W:bJ w a x)(hi:dK x)(bm:bR w b v bs)(N:∀e,AF b v e->¬a.aQ x.k e)(c0:0<=clock)(c1:clock<=4611686018427387904)(dz:bs.length+10*x.nt.bs.length<=140737479000000):
  Calls prog 48 #[.pointer (some ⟨a.s,0,none⟩),.pointer (some ⟨b,0,none⟩),.int .i64 clock] w λj k=>j=.returned (.tuple #[])/\aJ w b v (bs++Ae (D2 clock x)) k:=by
 have s:=Aa (show ∀k,aA (AF b v) w k->bJ k a x from λk bh=>W.keeps bh (λe cy dh=>N e dh cy));have b3:=Aa N;have c:=Aa hi;have af:=Aa (show ∀e,a.aQ x.k e->e<w.heap.size from W.lt);have cm:=Aa (aJ.refl bm);have cr:=W.aF.c0;obtain⟨dk,dl⟩:=hi.fQ;clear W hi bm N;go_enter func48,ntmps48;go_wp2_with fail
 refine(CJ b v bs x.id w w cm.o dk dl (by omega)).mono ?_;rintro j a1 ⟨rfl,F⟩;have ai:=Aa F;clear F cr;obtain⟨dj,cx⟩:=Eg (s.o a1 ai.o.kp).aF 1 20 x.c.cells rfl rfl;go_wp2_with fail
 have b1:=Aa (Ng x.k x.c c.o.p3);obtain⟨bq,bd,be,bf⟩:=ai.o;refine(RS b bq (bs++enc x.id) x.c x.k a1 bd c.o.kind c.o.k1 c.o.k5 c.o.p0 c.o.p3 c.o.cfg (by have:=Dk x.id;rw[hY];omega)).mono ?_;rintro j ds ⟨rfl,G⟩;have a8:=Aa (aJ.then be bf G);clear G bd be bf bq dj cx ai;go_wp2_with fail
 refine(M6 ds).mono ?_;rintro j d7 ⟨rfl,D⟩;have a9:=Aa (a8.o.still D);clear D a8;have da:(bs++enc x.id++Ae (BR x.k x.c)).length+10*x.nt.bs.length<=140737479000150:=by
  have C:=Dk x.id;have u:=Cp (BR x.k x.c);have cu:=b1.o;rw[hY,hY];omega
 obtain⟨J,an⟩:∃J,bs++enc x.id++Ae (BR x.k x.c)=J:=⟨_,rfl⟩;rw[an]at a9 da;have bt:=Aa an;clear an;go_wp2_with fail
 go_loopw [23] (λe wr=>∃d:Nat,d<=7/\e=.int .i64 d/\Hid (aJ w b v (J++Ae ((AE.map (Ac x.ref)).take d)) wr)) (λe _=>7-(intOf e).toNat)
 case atStart=>exact⟨0,by omega,rfl,by show aJ _ _ _ _ _;rw[jM,Dm,iz];exact a9.o⟩
 case round =>
  obtain⟨d,bh,rfl,i⟩:=hrel;by_cases d3:d<7
  ·have z:d=0\/d=1\/d=2\/d=3\/d=4\/d=5\/d=6:=by omega
   rcases z with z | z | z | z | z | z | z;all_goals subst z
   ·have t:wr.cell? ⟨a.s,40,none⟩=some (.int .i64 (Ac x.ref 5)):=(s.o wr i.o.kp).aF.cell (DV a x c.o.refl 5 (by omega));obtain⟨q,r⟩:=GE c.o.ref 5;have n:=Aa (GA (Ac x.ref) 0 5 rfl);go_wp2_with fail
    refine(CJ b v _ (Ac x.ref 5) w wr i.o q r (by have C:=Cp ((AE.map (Ac x.ref)).take 0);have u:((AE.map (Ac x.ref)).take 0).length<=7:=(by rw[iD];omega);rw[hY];omega)).mono ?_;rintro j A ⟨rfl,h⟩;have l:=Aa h;clear h t;go_wp2;go_roundw;case rel =>
     refine⟨1,by omega,rfl,?_⟩;show aJ _ _ _ _ _;have:=l.o;rw[n.o,By,Ei,<-List.append_assoc];exact this
    case measure=>simp[intOf]
   ·have t:wr.cell? ⟨a.s,41,none⟩=some (.int .i64 (Ac x.ref 6)):=(s.o wr i.o.kp).aF.cell (DV a x c.o.refl 6 (by omega));obtain⟨q,r⟩:=GE c.o.ref 6;have n:=Aa (GA (Ac x.ref) 1 6 rfl);go_wp2_with fail
    refine(CJ b v _ (Ac x.ref 6) w wr i.o q r (by have C:=Cp ((AE.map (Ac x.ref)).take 1);have u:((AE.map (Ac x.ref)).take 1).length<=7:=(by rw[iD];omega);rw[hY];omega)).mono ?_;rintro j A ⟨rfl,h⟩;have l:=Aa h;clear h t;go_wp2;go_roundw;case rel =>
     refine⟨2,by omega,rfl,?_⟩;show aJ _ _ _ _ _;have:=l.o;rw[n.o,By,Ei,<-List.append_assoc];exact this
    case measure=>simp[intOf]
   ·have t:wr.cell? ⟨a.s,42,none⟩=some (.int .i64 (Ac x.ref 7)):=(s.o wr i.o.kp).aF.cell (DV a x c.o.refl 7 (by omega));obtain⟨q,r⟩:=GE c.o.ref 7;have n:=Aa (GA (Ac x.ref) 2 7 rfl);go_wp2_with fail
    refine(CJ b v _ (Ac x.ref 7) w wr i.o q r (by have C:=Cp ((AE.map (Ac x.ref)).take 2);have u:((AE.map (Ac x.ref)).take 2).length<=7:=(by rw[iD];omega);rw[hY];omega)).mono ?_;rintro j A ⟨rfl,h⟩;have l:=Aa h;clear h t;go_wp2;go_roundw;case rel =>
     refine⟨3,by omega,rfl,?_⟩;show aJ _ _ _ _ _;have:=l.o;rw[n.o,By,Ei,<-List.append_assoc];exact this
    case measure=>simp[intOf]
   ·have t:wr.cell? ⟨a.s,43,none⟩=some (.int .i64 (Ac x.ref 8)):=(s.o wr i.o.kp).aF.cell (DV a x c.o.refl 8 (by omega));obtain⟨q,r⟩:=GE c.o.ref 8;have n:=Aa (GA (Ac x.ref) 3 8 rfl);go_wp2_with fail
    refine(CJ b v _ (Ac x.ref 8) w wr i.o q r (by have C:=Cp ((AE.map (Ac x.ref)).take 3);have u:((AE.map (Ac x.ref)).take 3).length<=7:=(by rw[iD];omega);rw[hY];omega)).mono ?_;rintro j A ⟨rfl,h⟩;have l:=Aa h;clear h t;go_wp2;go_roundw;case rel =>
     refine⟨4,by omega,rfl,?_⟩;show aJ _ _ _ _ _;have:=l.o;rw[n.o,By,Ei,<-List.append_assoc];exact this
    case measure=>simp[intOf]
   ·have t:wr.cell? ⟨a.s,45,none⟩=some (.int .i64 (Ac x.ref 10)):=(s.o wr i.o.kp).aF.cell (DV a x c.o.refl 10 (by omega));obtain⟨q,r⟩:=GE c.o.ref 10;have n:=Aa (GA (Ac x.ref) 4 10 rfl);go_wp2_with fail
    refine(CJ b v _ (Ac x.ref 10) w wr i.o q r (by have C:=Cp ((AE.map (Ac x.ref)).take 4);have u:((AE.map (Ac x.ref)).take 4).length<=7:=(by rw[iD];omega);rw[hY];omega)).mono ?_;rintro j A ⟨rfl,h⟩;have l:=Aa h;clear h t;go_wp2;go_roundw;case rel =>
     refine⟨5,by omega,rfl,?_⟩;show aJ _ _ _ _ _;have:=l.o;rw[n.o,By,Ei,<-List.append_assoc];exact this
    case measure=>simp[intOf]
   ·have t:wr.cell? ⟨a.s,44,none⟩=some (.int .i64 (Ac x.ref 9)):=(s.o wr i.o.kp).aF.cell (DV a x c.o.refl 9 (by omega));obtain⟨q,r⟩:=GE c.o.ref 9;have n:=Aa (GA (Ac x.ref) 5 9 rfl);go_wp2_with fail
    refine(CJ b v _ (Ac x.ref 9) w wr i.o q r (by have C:=Cp ((AE.map (Ac x.ref)).take 5);have u:((AE.map (Ac x.ref)).take 5).length<=7:=(by rw[iD];omega);rw[hY];omega)).mono ?_;rintro j A ⟨rfl,h⟩;have l:=Aa h;clear h t;go_wp2;go_roundw;case rel =>
     refine⟨6,by omega,rfl,?_⟩;show aJ _ _ _ _ _;have:=l.o;rw[n.o,By,Ei,<-List.append_assoc];exact this
    case measure=>simp[intOf]
   have t:wr.cell? ⟨a.s,46,none⟩=some (.int .i64 (Ac x.ref 11)):=(s.o wr i.o.kp).aF.cell (DV a x c.o.refl 11 (by omega));obtain⟨q,r⟩:=GE c.o.ref 11;have n:=Aa (GA (Ac x.ref) 6 11 rfl);go_wp2_with fail
   refine(CJ b v _ (Ac x.ref 11) w wr i.o q r (by have C:=Cp ((AE.map (Ac x.ref)).take 6);have u:((AE.map (Ac x.ref)).take 6).length<=7:=(by rw[iD];omega);rw[hY];omega)).mono ?_;rintro j A ⟨rfl,h⟩;have l:=Aa h;clear h t;go_wp2;go_roundw;case rel =>
    refine⟨7,by omega,rfl,?_⟩;show aJ _ _ _ _ _;have:=l.o;rw[n.o,By,Ei,<-List.append_assoc];exact this
   case measure=>simp[intOf]
  have z:d=7:=by omega
  subst z;have X:(AE.map (Ac x.ref)).take 7=AE.map (Ac x.ref):=rfl;rw[X]at i;have db:(J++Ae (AE.map (Ac x.ref))).length+10*x.nt.bs.length<=140737479000250:=by
   have u:=Cp (AE.map (Ac x.ref));have cu:(AE.map (Ac x.ref)).length=7:=rfl;rw[hY];omega
  obtain⟨L,ao⟩:∃L,J++Ae (AE.map (Ac x.ref))=L:=⟨_,rfl⟩;rw[ao]at i db;have bu:=Aa ao;clear ao X;have ct:wr.cell? ⟨a.s,34,none⟩=some (.int .i64 x.rel):=(s.o wr i.o.kp).aF.cell rfl;obtain⟨dp,dq⟩:=c.o.rel;go_wp2_with fail
  refine(CJ b v L x.rel w wr i.o dp dq (by omega)).mono ?_;rintro j A ⟨rfl,h⟩;have l:=Aa h;clear h ct i;have ak:=Aa (s.o A l.o.kp);have al:A.cell? ⟨a.s,32,none⟩=some (.pointer (some ⟨a.q,0,none⟩)):=ak.o.aF.cell rfl;have a5:=Aa (len_any a.q a.g x.l A ak.o.dL);have d2:=c.o.len;have ba:=Aa (show ∀k,aA (AF b v) w k->_ from λk O=>Yp a.q a.g x.l k (s.o k O).dL (by omega));have b0:=Aa c.o.buf;have cc:=Aa (show D2 clock x=(x.id::(BR x.k x.c++(AE.map (Ac x.ref)++[x.rel,(x.l.length:Int)])))++(Bl x.k (Qi.allL (x.l.length+1) x.l)++DO x.k x.c x.nt (clock-x.c.aK)) from rfl);generalize Qi.allL (x.l.length+1) x.l=o at *
  generalize x.l.length=m at *
  go_wp2_with fail
  refine a5.o.mono ?_;rintro j H ⟨rfl,Q⟩;rw[Q];clear Q H a5;go_wp2_with fail
  refine(CJ b v _ m w A l.o (by omega) (by omega) (by have:=Dk x.rel;rw[hY];omega)).mono ?_;rintro j H ⟨rfl,Q⟩;have I:=Aa Q;clear Q al ak l;have al:H.cell? ⟨a.s,32,none⟩=some (.pointer (some ⟨a.q,0,none⟩)):=(s.o H I.o.kp).aF.cell rfl;go_wp2_with fail
  obtain⟨S,ay,az,bp⟩:=I.o;have ag:=Aa (show ∀e,a.aQ x.k e->¬AF b S e from λe hi=>GB (λB=>b3.o e B hi) az (af.o e hi));have ch:=Aa az;have aj:=Aa bp;have a4:=Aa ay.lt;refine(ba.o H I.o.kp).mono ?_;rintro j a2 ⟨g,dw,rfl,cw,bk,hlen,V⟩;have cj:=Aa (show ∀k,aA (AF b S) a2 k->bJ k a x from λk O=>((s.o H I.o.kp).still V).keeps O ag.o);have b5:=Aa (show ¬AF b S g from λB=>by have:=a4.o g B;omega);have ci:=Aa bk;have ae:=Aa hlen;have bc:=Aa (aJ.refl (ay.still V));have ab:=Aa V;have dc:(L++enc x.rel++enc (m:Int)).length+10*x.nt.bs.length<=140737479000300:=by
   have C:=Dk x.rel;have u:=Dk (m:Int);rw[hY,hY];omega
  obtain⟨M,ap⟩:∃M,L++enc x.rel++enc (m:Int)=M:=⟨_,rfl⟩;rw[ap]at bc dc;have bx:=Aa ap;clear ap V bk hlen ay az bp cw I ba al a4;go_wp2_with fail
  go_loopw [54] (λe wr=>∃d:Nat,e=.int .i64 d/\d<=m/\Hid (aJ a2 b S (M++Ae (Bl x.k (o.take d))) wr)) (λe _=>m-(intOf e).toNat)
  case atStart=>exact⟨0,rfl,iM _,by show aJ _ _ _ _ _;simp only[jM,Bl,kC,Dm,iz];exact bc.o⟩
  case round =>
   obtain⟨d,rfl,d1,i⟩:=hrel;have d0:(0:Int)<=(d:Int):=by omega
   have T:=Aa (cj.o wr i.o.kp);have de:(M++Ae (Bl x.k (o.take d))).length+10*x.nt.bs.length<=140737479000620:=by
    have C:=Cp (Bl x.k (o.take d));have u:=NW x.k (o.take d);rw[iD,ae.o]at u;rw[hY];omega
   by_cases df:d<m
   ·obtain⟨a0,aw,bl,ar⟩:=i.o;have aq:d<o.length:=by rw[ae.o];exact df
    obtain⟨d8,d9,ea,eb⟩:=(ci.o.keeps ar b5.o).cells d aq;have n:=Aa (OI x.k o d aq)
    have a7:=Aa (show ∀m,m∈ET x.k (itAt o d)->0<=m/\m<=9223372036854775807 from λm P=>b0.o m (by
         have j:Bl x.k (o.take (d+1)++o.drop (d+1))=Bl x.k o:=by rw[List.take_append_drop]
         rw[<-j,NJ,OI x.k o d aq];simp only[ig]
         exact .inl (.inr P)))
    have ca:=Aa aw.lt;have cq:=Aa aw;have bb:=Aa bl;have b8:=Aa ar;have bi:(d:Int)<(m:Int):=by omega
    generalize itAt o d=y at *
    clear aw bl ar;obtain⟨E,Y⟩:∃E,E=wr.alloc (.cells #[.int .i64 y.t,.int .i64 y.k,.int .i64 y.d,.int .i64 y.n] 80):=⟨_,rfl⟩;have aa:=Aa (show aD E wr.heap.size [.int .i64 y.t,.int .i64 y.k,.int .i64 y.d,.int .i64 y.n] 80 by rw[Y];exact aD.new wr _ _);have ad:=Aa (show lO wr E by rw[Y];exact(aA.refl _ _).alloc _);have cp:=Aa (cq.o.still ad.o);have a6:=Aa (show ¬AF b a0 wr.heap.size from λN=>by have:=ca.o _ N;omega);obtain⟨q,r⟩:=a7.o y.n (by simp[ET]);have b2:=Aa Y.symm;have ck:=Aa (show ∀k,aA (AF b a0) E k->k.cell? ⟨a.s,25,none⟩=some (.func (.func (AW x.k)) #[] #[]) from λk O=>O.cell ((T.o.still ad.o).aF.cell rfl) (GB (ag.o a.s (.inl rfl)) bb.o (kG (af.o a.s (.inl rfl)) (jI aj.o.size ab.o.size))));clear Y;go_wp2_with fail
    rw[b2.o];refine(FE b a0 _ y.n E cp.o q r (by omega)).mono ?_;rintro j Z ⟨rfl,dr,G,av,U⟩;have dg:wr.heap.size<E.heap.size:=aa.o.lt;have bv:=Aa (aa.o.keeps U a6.o);have cb:=Aa (GB a6.o av dg);have cn:=Aa G;have cl:=Aa av;have b6:=Aa U;have b9:=Aa G.lt;have cs:Z.cell? ⟨a.s,25,none⟩=some (.func (.func (AW x.k)) #[] #[]):=ck.o Z U;have bj:=P5 x.k c.o.k1 c.o.k5;clear G av U aa;go_wp2_with fail
    refine(P7 x.k wr.heap.size Z c.o.k1 c.o.k5).mono ?_;rintro j dt ⟨d6,rfl,au,D⟩;obtain⟨d4,d5,di,_⟩:=Dy au;subst di;have co:=Aa (cn.o.still D);have bz:=Aa (bv.o.keeps D id);have cd:=Aa au;have b7:=Aa D;have a3:=Aa (show((CM x.k).map (λR=>[y.t,y.k,y.d].getD R 0)).length<=3 by rw[im];exact LX x.k);clear au D bj cs;go_wp2_with fail
    refine(IQ b dr _ _ Z.heap.size wr.heap.size (CM x.k) ((CM x.k).map (λR=>[y.t,y.k,y.d].getD R 0)) dt co.o cd.o (VG bz.o) cb.o (λe hi B=>by have:=b9.o e B;omega) (λm P=>a7.o m (by unfold ET;exact j2 _ P)) (by have:=Dk y.n;have:=a3.o;rw[hY];omega) (by have:=a3.o;omega)).mono ?_;rintro j du ⟨rfl,h⟩
    have b4:=Aa (show aJ a2 b S (M++Ae (Bl x.k (o.take (d+1)))) du by
       have bg:=aJ.then bb.o b8.o (aJ.pre ad.o (aJ.then cl.o b6.o (aJ.pre b7.o h)));rw[n.o,By];have j:Ae (ET x.k y)=enc y.n++Ae ((CM x.k).map (λR=>[y.t,y.k,y.d].getD R 0)):=BN _ _;rw[j];simp only[List.append_assoc]at bg ⊢
       exact bg)
    clear h;go_wp2;go_roundw;case rel=>exact⟨d+1,by go_num,by omega,b4⟩
    case measure=>simp[intOf];omega
   have bi:d=m:=by omega
   subst bi;have X:o.take d=o:=iq (by rw[ae.o];omega);rw[X]at i de;have cv:0<=x.c.aK/\x.c.aK<=100:=by
    have:=c.o.valid;simp only[Ak,B0,Ab,iK,iI]at this;omega
   obtain⟨dm,dn⟩:=cv;have dy:wr.cell? ⟨a.s,30,none⟩=some (.func (.func (Iq x.k)) (En a.n.d) #[]):=T.o.aF.cell rfl;have dx:=T.o.aF.c2;have bj:=zMz x.k c.o.k1 c.o.k5;obtain⟨br,bn,ax,bo⟩:=i.o;have ce:=Aa bn;have cf:=Aa ax;have cg:=Aa bo;have ah:=Aa (show ∀e,a.aQ x.k e->¬AF b br e from λe hi=>GB (ag.o e hi) ax (kG (af.o e hi) (jI aj.o.size ab.o.size)));clear bn ax bo i;go_wp2_with fail
   go_region_held3 (λk=>k.cell? ⟨a.s,30,none⟩=some (.func (.func (Iq x.k)) (En a.n.d) #[])/\k.cell? ⟨a.s,2,none⟩=some (.int .i64 x.c.aK))
    (first | (simp[*];done) | (go_split_ands;exact⟨F.kp.cell (by assumption) (ah.o a.s (.inl rfl)),F.kp.cell (by assumption) (ah.o a.s (.inl rfl))⟩))
    (first | (go_at_call 43;refine(Gt a.s x.c.aK clock _ (by go_keep) dm dn c0 c1).mono ?_;rintro j k ⟨rfl,rfl⟩) | (refine(ZL x.k a.n x.c x.nt b br _ (clock-x.c.aK) _ _ (by first | rfl | simp) (by exact T.o.note.still (aA.refl _ _).drew) (by exact ce.o.still (aA.refl _ _).drew) (λe B P=>ah.o e (.inr (.inr (.inr P))) B) c.o.note c.o.valid c.o.kind c.o.k1 c.o.k5 (by omega) (by omega) (by omega)).mono ?_;rintro j a1 ⟨rfl,F⟩))
   go_wp2;go_end0;refine⟨rfl,?_⟩;have am:=aJ.then ch.o aj.o (aJ.pre ab.o (aJ.then cf.o cg.o (aJ.pre ((aA.refl (λ_=>False) wr).drew) F)));rw[cc.o];rw[<-bx.o,<-bu.o,<-bt.o]at am;rw[By,By,BN,By,By,BN,Ei];simp only[List.append_assoc]at am ⊢;exact am
end
section
theorem Qi.cA: ∀(f:Nat) (l:List It),(Qi.allL f l).length<=l.length
 | 0,_=>iM _
 | f+1,l=>by
  unfold Qi.allL;split
  ·simp
  have:=Qi.cA f (takeL l);rw[Qi.takeL_length]at this;rw[iA];omega
theorem Dr.cA: ∀(f:Nat) (l:List Dr.It),(Dr.allL f l).length<=l.length
 | 0,_=>iM _
 | f+1,l=>by
  unfold Dr.allL;split
  ·simp
  have:=Dr.cA f (Dr.takeL l);rw[Dr.takeL_length]at this;rw[iA];omega
theorem TE(l:List Bk)(f s:Nat)(a:s<=l.length): (EH l f s).length<=f+(l.length-s):=by
 induction f generalizing s with
 | zero=>simp[EH]
 | succ f d =>
  have c:=Q2 l (2 ^ f) s a;have:=d (C9 l (2 ^ f) s) c.2;rw[Ms,iA,hY,im,iD,iQ];omega
theorem XE{l:List Bk}(e:∀c∈l,1<=c.sz/\c.sz<4611686018427387904): DY l<=62:=by
 unfold DY;split
 ·omega
 rename_i h;have j:=e (Ad l 0) (EN (by omega));have d:=bitLen_spec (Ad l 0).sz.toNat;have i:=d.2 (by omega);rcases ku (bitLen (Ad l 0).sz.toNat-1) 62 with a | a
 ·omega
 have:=jk (show 1<=2 by omega) a;omega
theorem U6{k:Nat}{c:Cfg}{a:aU}(d:fN k c a)(o:Ak c=true)(j:c.kind=k)(m:Int): (DO k c a m).length<=a.bs.length+50000:=by
 unfold DO;split
 ·simp
 split
 ·have h:=TE a.bs (DY a.bs) 0 (iM _);have e:=XE d.bz;unfold FU;rw[iA];omega
 split
 ·rename_i e;obtain⟨_,r,s,_⟩:=FD o j e;have h:=NQ a.rg (Bw c) (m-c.aB) d.rl;have i:Bw c<=2 ^ 4:=jk (n:=2) (by omega) (show c.bits.toNat<=4 by omega);omega
 split
 ·rename_i i;obtain⟨_,l,_⟩:=Dw o j i;obtain⟨o1,_⟩:=d.oc i;have h:=Np c (A4 c a.op a.cl (m-c.aB)) (by have:=l.r1;omega) (by have:=l.w1;omega);have e:(A4 c a.op a.cl (m-c.aB)).length<=1001:=by
   unfold A4;rw[hY,iQ];split <;> simp <;> omega
  unfold Hi;rw[iA];omega
 split
 ·rename_i q;have h:=d.tl q;have e:=Dr.cA (a.tk.length+1) a.tk;rw[NR];omega
 simp
theorem Ni{x:aI}(a:dK x)(clock:Int): (D2 clock x).length<=x.nt.bs.length+51000:=by
 have c:=U6 a.note a.valid a.kind (clock-x.c.aK);have d:=NW x.k (Qi.allL (x.l.length+1) x.l);have e:=Qi.cA (x.l.length+1) x.l;have h:=a.len;have i:=Ng x.k x.c a.p3;unfold D2 GH;rw[hY,hY,iA,hY,hY,im];have j:AE.length=7:=rfl;simp only[iA,jZ];omega
def Bs(clock:Int)(xs:List aI): List Int:=xs.flatMap (D2 clock)
def FH(clock:Int)(xs:List aI): List Int:=clock::(xs.length:Int)::Bs clock xs
def Em(clock:Int)(xs:List aI): List Nat:=Bt++Ae (FH clock xs)
def FN(clock:Int)(xs:List aI): List Nat:=Em clock xs++enc (CB (Em clock xs))
def D4(clock:Int)(xs:List aI): ByteArray:=AM (FN clock xs)
theorem Tk(clock:Int)(a b:List aI): Bs clock (a++b)=Bs clock a++Bs clock b:=by simp[Bs]
theorem SG(clock:Int)(c:List aI)(d:∀a,a∈c->dK a): (Bs clock c).length<=1000000051000*c.length:=by
 induction c with
 | nil=>simp[Bs]
 | cons a e j =>
  have k:=Ni (d a (by simp)) clock;have l:=(d a (by simp)).note.bn;have m:=j (λy i=>d y (by simp[i]));have h:Bs clock (a::e)=D2 clock a++Bs clock e:=by simp[Bs]
  rw[h,hY,iA];omega
theorem aX.eX{M:Nat->Prop}{w w':World}{e:Nat}{v:Value}{clock:Int}{ps:List (SB×aI)}(a:aX w e v clock ps)(h:aA M w w')(i:∀c,aN e v ps c->¬M c): aX w' e v clock ps :=
 ⟨a.aF.keeps h (i e (.inl rfl)),F4 a.row h (λc d=>i c (.inr (.inl d))),λp j=>(a.bM p j).keeps h (λc d=>i c (.inr (.inr ⟨p,j,d⟩))),a.apart,a.ev,a.ef⟩
theorem Pr(e:Nat)(v:Value)(clock:Int)(ps:List (SB×aI))(w:World)(j:aX w e v clock ps)(af:∀C,C∈ps.map (·.2)->dK C)(bX:ps.length<=6)(c0:0<=clock)(c1:clock<=4611686018427387904):
  Calls prog 25 #[.pointer (some ⟨e,0,none⟩)] w λo t=>o=.returned (.string (D4 clock (ps.map (·.2))))/\lO w t:=by
 have av:=Aa j;have X:=Aa af;have U:=Aa (show ∀a,aN e v ps a->a<w.heap.size from j.lt);obtain⟨an,ao,ag,ai⟩:=Dy j.row;have H:=Aa ag;have a2:=Aa ai;have V:=Aa (Sm w);clear j af ag ai;obtain⟨h,Q⟩:∃h,ps.length=h:=⟨_,rfl⟩;have k:=Aa Q;rw[Q]at bX;clear Q;go_enter func25,ntmps25;go_wp2_with fail
 refine V.o.mono ?_;rintro o m ⟨b,q,rfl,aj,N,P⟩;have W:=Aa (show ∀a,aN e v ps a->¬AF b q a from λa d j=>by have s:=U.o a d;have L:=N a j;omega);have z:=Aa (show ∀t,aA (AF b q) m t->aX t e v clock ps from λt ba=>(av.o.still P).eX ba W.o);have aa:=Aa (aJ.refl aj);have T:=Aa P;have ar:=Aa N;have a6:m.cell? ⟨e,0,none⟩=some (.int .i64 clock):=(z.o m (aA.refl _ _)).aF.cell rfl;clear aj N P V;go_wp2_with fail
 refine(CJ b q Bt clock m m aa.o c0 (by omega) (by decide)).mono ?_;rintro o S ⟨rfl,ak⟩;have F:=Aa ak;clear ak a6 aa;have O:S.cell? ⟨e,1,none⟩=some (.slice an h ao):=by
  have:=(z.o S F.o.kp).aF.cell (i:=1) rfl;rw[this,H.o,k.o]
 have bm:Bt.length=8:=rfl;go_wp2_with fail
 refine(CJ b q _ h m S F.o (by omega) (by omega) (by have:=Dk clock;rw[hY];omega)).mono ?_;rintro o ap ⟨rfl,al⟩;have G:=Aa al;clear al O F;have O:ap.cell? ⟨e,1,none⟩=some (.slice an h ao):=by
  have:=(z.o ap G.o.kp).aF.cell (i:=1) rfl;rw[this,H.o,k.o]
 have bb:(Bt++enc clock++enc (h:Int)).length<=28:=by
  have s:=Dk clock;have L:=Dk (h:Int);rw[hY,hY];omega
 obtain⟨l,M⟩:∃l,Bt++enc clock++enc (h:Int)=l:=⟨_,rfl⟩;rw[M]at G bb;have aq:=Aa M;clear M;go_wp2_with fail
 clear O;go_loopw [25] (λa wr=>∃c:Nat,a=.int .i64 c/\c<=h/\Hid (aJ m b q (l++Ae (Bs clock ((ps.take c).map (·.2)))) wr)) (λa _=>h-(intOf a).toNat)
 case atStart=>exact⟨0,rfl,iM _,by show aJ _ _ _ _ _;simp only[jM,kh,Bs,kC,Dm,iz];exact G.o⟩
 case round =>
  obtain⟨c,rfl,bn,A⟩:=hrel;have bo:(0:Int)<=(c:Int):=by omega
  have E:=Aa (show(l++Ae (Bs clock ((ps.take c).map (·.2)))).length<=28+10*(1000000051000*c) by
     have s:=Cp (Bs clock ((ps.take c).map (·.2)))
     have L:=SG clock ((ps.take c).map (·.2)) (λC bg=>X.o C (by
          obtain⟨p,n,rfl⟩:=iE.1 bg
          exact iF (jn n)))
     have a4:((ps.take c).map (·.2)).length=c:=by rw[im,iD,k.o];omega
     rw[a4]at L
     rw[hY];omega)
  by_cases bd:c<h
  ·obtain⟨g,a9,_⟩:=a2.o (by rw[k.o];omega);subst a9;have ae:c<ps.length:=by rw[k.o];exact bd
   obtain⟨p,n⟩:∃p,ps[c]?=some p:=⟨_,hX ae⟩;have D:=Aa (z.o wr A.o.kp);have a8:wr.cell? ⟨g,c,none⟩=some (.pointer (some ⟨p.1.s,0,none⟩)):=by
    rcases Mj D.o.row with ⟨bk,_⟩ | ⟨bj,bi,ah,a5⟩
    ·omega
    rw[H.o]at ah;cases ah;exact a5 c _ (by unfold AV;rw[iP,n];rfl)
   have a7:=D.o.aF.c0
   have a1:=Aa (show Bs clock ((ps.take (c+1)).map (·.2))=Bs clock ((ps.take c).map (·.2))++D2 clock p.2 by
      rw[jg,n,iy,Tk]
      simp[Bs])
   have B:p∈ps:=iu n;have az:=Aa (D.o.bM p B);have Z:=Aa (X.o p.2 (iF B));have Y:=Aa (show ∀a,p.1.aQ p.2.k a->aN e v ps a from λa d=>.inr (.inr ⟨p,B,d⟩));have bl:=Z.o.note.bn;have bc:=E.o;have ad:(c:Int)<(h:Int):=by omega
   obtain⟨R,u,r,x⟩:=A.o;have I:=Aa r;have J:=Aa x;have a0:=Aa (TF p.1 p.2 clock b R _ wr az.o Z.o u (λa j d=>GB (W.o a (Y.o a d)) r (kG (U.o a (Y.o a d)) T.o.size) j) c0 c1 (by omega));clear n ae B u r x;go_wp2_with fail
   refine a0.o.mono ?_;rintro o bh ⟨rfl,am⟩;have ax:=Aa (aJ.then I.o J.o am);clear am a8 a7;go_wp2;go_roundw;case rel =>
    refine⟨c+1,by go_num,by omega,?_⟩;show aJ _ _ _ _ _;have:=ax.o;rw[a1.o,By,<-List.append_assoc];exact this
   case measure=>simp[intOf];omega
  have ad:c=h:=by omega
  subst ad;have bf:ps.take c=ps:=iq (by rw[k.o];omega);rw[bf]at A E;have bc:=E.o;obtain⟨R,u,r,x⟩:=A.o;have I:=Aa r;have J:=Aa x;have au:=Aa (X9 b R _ wr u (by omega))
  have ay:=Aa (show D4 clock (ps.map (·.2))=AM (l++Ae (Bs clock (ps.map (·.2)))++enc (CB (l++Ae (Bs clock (ps.map (·.2)))))) by
     have a3:Em clock (ps.map (·.2))=l++Ae (Bs clock (ps.map (·.2))):=by
      unfold Em FH;rw[BN,BN,<-aq.o,im,k.o];simp only[List.append_assoc]
     unfold D4 FN
     rw[a3])
  clear u r x;go_wp2_with fail
  refine au.o.mono ?_;rintro o bh ⟨rfl,ab⟩;have aw:=Aa ab;clear ab;go_wp2;go_ret;refine⟨by rw[ay.o,List.append_assoc];rfl,?_⟩;refine T.o.trans (J.o.trans aw.o (λa d be=>?_)) (λa d be=>?_) (M':=AF b q)
  ·rcases d with d | d
   ·exact .inl d
   rcases I.o a d with s | s
   ·exact .inr s
   omega
  have:=ar.o a d;omega
structure WS where
 clock:Int
 xs:List aI
def Cs(s:WS): ByteArray:=D4 s.clock s.xs
def MW(_:ByteArray): Option WS:=none
def KN(s:WS)(o:aO): WS×Int×List Int :=
 match MW o.bytes with
 | none=>(s,14,[])
 | some s'=>(s',0,[])
def Da(s:WS)(o:aO): WS×Int×List Int :=
 if Ab o.id 0 99=true/\(BX s.xs o.id).isNone=true then
  if Ak o.cfg=true then(if s.xs.length<6 then(⟨s.clock,s.xs++[AQ o.id o.cfg o.cfg.kind.toNat]⟩,0,[]) else(s,4,[])) else(s,3,[])
 else(s,2,[])
def C0(s:WS)(o:aO): WS×Int×List Int :=
 match BX s.xs o.id with
 | none=>(s,2,[])
 | some x=>if bO x s.clock o.item=0 then(⟨s.clock,BB s.xs o.id (cC x o.item)⟩,0,[x.acc+1])
  else(⟨s.clock,BB s.xs o.id (cF x (bO x s.clock o.item).toNat)⟩,bO x s.clock o.item,[])
def DJ(s:WS)(o:aO): WS×Int×List Int :=
 if Ab o.a 0 4611686018427387904=true then
  if Ab o.b 0 100=true then(⟨Au s.clock o.a,(Br (Au s.clock o.a) o.b (s.xs.map (AP (Au s.clock o.a)))).1⟩,0,[(Br (Au s.clock o.a) o.b (s.xs.map (AP (Au s.clock o.a)))).2]) else(s,12,[])
 else(s,5,[])
def DW(s:WS)(o:aO): WS×Int×List Int :=
 match BX s.xs o.id with
 | none=>(s,2,[])
 | some x=>(s,AY x.k x.c x.nt o.a (s.clock-x.c.aK))
def Ew(s:WS)(o:aO): WS×Int×List Int :=
 match BX s.xs o.id with
 | none=>(s,2,[])
 | some x=>(s,0,BJ x)
def Aw(s:WS)(o:aO): WS×Int×List Int :=
 if o.kind=1 then Da s o else if o.kind=2 then C0 s o else if o.kind=3 then DJ s o else if o.kind=4 then DW s o else if o.kind=5 then Ew s o else if o.kind=6 then(s,0,[]) else if o.kind=7 then KN s o else(s,1,[])
def Ex(s:WS)(o:aO): ByteArray:=if o.kind=6 then Cs s else Ai
theorem aT.mono{n m:Int}{x:aI}(a:aT n x)(h:n<=m): aT m x:=by
 have e:=a.dG;exact⟨a.valid,a.kind,a.k1,a.k5,a.eJ,by omega,a.dI,a.dD,a.bS,λd c=>by have:=a.cL d c;omega,a.cap,a.times,a.note,a.heap,a.dZ,a.dP,a.dV,a.fits⟩
theorem O7{n:Int}(id:Int)(c:Cfg)(a:Ak c=true)(i:0<=n): aT n (AQ id c c.kind.toNat):=by
 obtain⟨k,o,d,m,h,_⟩:=Fw a;have q:c.kind.toNat=k:=by omega
 simp only[B0,Ab,iK,iI]at h;refine⟨a,?_,?_,?_,by simp[AQ],by simpa[AQ] using i,by simp[AQ],by simp[AQ],rfl,?_,?_,by simp[AQ],?_,?_,by simp[AQ],by simp[AQ],by simp[AQ],by simp[AQ]⟩
 ·show c.kind=(c.kind.toNat:Int);omega
 ·show 1<=c.kind.toNat;omega
 ·show c.kind.toNat<=5;omega
 ·intro l j;have:l=0:=by simpa[AQ] using j
  omega
 ·show((0:Nat):Int)<=c.cap;omega
 ·exact bT.zero c.kind.toNat c a (by omega)
 intro r d e;simp[AQ]at e
theorem F0{c:List aI}{id:Int}{y d:aI}(a:d∈BB c id y): d∈c\/d=y:=by
 induction c with
 | nil=>simp[BB]at a
 | cons h i e =>
  unfold BB at a;split at a
  ·rcases iw.1 a with a | a
   ·exact .inr a
   exact .inl (by simp[a])
  rcases iw.1 a with a | a
  ·exact .inl (by simp[a])
  rcases e a with a | a
  ·exact .inl (by simp[a])
  exact .inr a
theorem JL(a:List aI)(id:Int)(y:aI): (BB a id y).length=a.length:=by
 induction a with
 | nil=>rfl
 | cons d e c =>
  unfold BB;split
  ·rfl
  simp[c]
theorem bQ.mono{n m clock:Int}{c:List aI}(a:bQ n clock c)(d:n<=m): bQ m clock c:=⟨a.c0,a.c1,a.bX,λh e=>(a.bD h e).mono d,a.marks⟩
theorem Kl{x:aI}{clock:Int}{y:It}(a:bO x clock y=0): 0<=y.t/\y.t<=4611686018427387904/\(x.l.length:Int)<x.c.cap/\clock-x.c.aK<y.t/\y.t<=clock+x.c.bF/\AL x.c x.k y=0/\x.acc<4611686018427387904:=by
 unfold bO at a;cases h1:Ab y.t 0 4611686018427387904 with
 | false=>rw[h1]at a;simp at a
 | true =>
  obtain⟨d,b⟩:=Bp h1;rw[h1]at a;simp only[lH]at a;split at a
  ·omega
  split at a
  ·omega
  split at a
  ·rename_i c;exact absurd a c
  rename_i c;split at a
  ·omega
  split at a
  ·omega
  exact⟨d,b,by omega,by omega,by omega,by simpa using c,by omega⟩
theorem Ja{P:aI->Prop}(clock:Int)(i:∀b a,P a->P (Do clock b a))(b:Int)(e:List aI)(d:∀a,a∈e->P a): ∀a,a∈(Br clock b e).1->P a:=by
 induction e generalizing b with
 | nil=>intro a d;simp[Br]at d
 | cons h l k =>
  intro a c;simp only[Br,iw]at c;rcases c with c | c
  ·rw[c];exact i b h (d h (by simp))
  exact k _ (λy j=>d y (by simp[j])) a c
theorem Nm(clock b:Int)(a:List aI): (Br clock b a).1.length=a.length:=by
 induction a generalizing b with
 | nil=>rfl
 | cons d e c=>simp[Br,c]
theorem S8{clock a:Int}{x:aI}(i:clock<=a)(c:x.last=0\/x.last<=clock-x.c.aK): (AP a x).last=0\/(AP a x).last<=a-(AP a x).c.aK:=by
 have e:(AP a x).c=x.c:=(Fp (x.l.length+1) x (a-x.c.aK)).2.1;rw[e];rcases WI (x.l.length+1) x (a-x.c.aK) with d | d
 ·have h:(AP a x).last=x.last:=d;rw[h];rcases c with c | c
  ·exact .inl c
  exact .inr (by omega)
 exact .inr d
def MR(n:Int)(o:aO): Prop:=o.kind=7->∀s',MW o.bytes=some s'->bQ n s'.clock s'.xs
theorem NI{n:Int}{o:aO}(c:o.kind≠7): MR n o:=λa=>(c a).elim
theorem Y9{n j:Int}{s:WS}(o:aO)(e:bQ n s.clock s.xs)(O:0<=n)(l:n+1<=j\/(n<=j/\j=4611686018427387904))(u:MR j o): bQ j (Aw s o).1.clock (Aw s o).1.xs:=by
 have d:bQ j s.clock s.xs:=e.mono (by omega);unfold Aw;split
 ·unfold Da;split
  ·split
   ·split
    ·rename_i r J;refine⟨e.c0,e.c1,by simp;omega,λi c=>?_,λi c=>?_⟩
     ·rcases ig.1 c with c | c
      ·exact d.bD i c
      rw[ij]at c;subst c;exact O7 _ _ r (by omega)
     rcases ig.1 c with c | c
     ·exact d.marks i c
     rw[ij]at c;subst c;exact .inl rfl
    exact d
   exact d
  exact d
 split
 ·unfold C0;split
  ·exact d
  rename_i i w;have c:i∈s.xs:=iW w;have k:=e.bD i c;have m:=e.marks i c;split
  ·rename_i A;obtain⟨E,F,v,N,_,x,q⟩:=Kl A;refine⟨e.c0,e.c1,by show(BB _ _ _).length<=6;rw[JL];exact e.bX,λh a=>?_,λh a=>?_⟩
   ·rcases F0 a with a | a
    ·exact d.bD h a
    subst a;exact ZF (k.mono (by omega)) o.item E F v (by have:=k.dG;omega) (by rcases m with e | e <;> omega) x
   rcases F0 a with a | a
   ·exact d.marks h a
   subst a;exact m
  refine⟨e.c0,e.c1,by show(BB _ _ _).length<=6;rw[JL];exact e.bX,λh a=>?_,λh a=>?_⟩
  ·rcases F0 a with a | a
   ·exact d.bD h a
   subst a;have Q:=Je i s.clock o.item
   exact Zi (k.mono (by omega)) _ (by
      rcases l with l | l
      ·exact .inl (λG C=>by have:=k.cL G C;omega)
      exact .inr (by omega)) (by omega)
  rcases F0 a with a | a
  ·exact d.marks h a
  subst a;exact m
 split
 ·unfold DJ;split
  ·rename_i q;obtain⟨H,I⟩:=Bp q;have L:=e.c0;have M:=e.c1;have z:s.clock<=Au s.clock o.a:=by unfold Au;split <;> omega
   split
   ·refine⟨?_,?_,by show(Br _ _ _).1.length<=6;rw[Nm];simpa using e.bX,λh a=>?_,λh a=>?_⟩
    ·show 0<=Au s.clock o.a;unfold Au;split <;> omega
    ·show Au s.clock o.a<=_;unfold Au;split <;> omega
    ·refine Ja (P:=aT j) _ (λb i c=>Mx _ b c) _ _ (λh a=>?_) h a;obtain⟨i,c,rfl⟩:=iE.1 a;exact Jq _ (d.bD i c) _
    refine Ja (P:=λh=>h.last=0\/h.last<=Au s.clock o.a-h.c.aK) _ (λb i c=>c) _ _ (λh a=>?_) h a;obtain⟨i,c,rfl⟩:=iE.1 a;exact S8 z (e.marks i c)
   exact d
  exact d
 split
 ·unfold DW;split
  ·exact d
  exact d
 split
 ·unfold Ew;split <;> exact d
 split
 ·exact d
 split
 ·rename_i t;unfold KN;split
  ·exact d
  rename_i D B;exact u t D B
 exact d
theorem OY{n:Int}{s:WS}(o:aO)(a:bQ n s.clock s.xs)(d:0<=n)(c:MR (n+1) o): bQ (n+1) (Aw s o).1.clock (Aw s o).1.xs:=Y9 o a d (.inl (iG _)) c
def Eu(ty:TypeId)(a x:Value): Sem Next:=do Instr.storeAt ty a x;pure .skip
theorem La(ρ:Operand->Value)(dst:Option Tmp)(x y:Operand)(a:TypeId)(pos:String)(after:Array Edge)(guard:Option (Nat×Bool)):
  execOp ρ { dst,op:=.store 48 x y,type:=a,pos,after,guard }=Eu 48 (ρ x) (ρ y):=rfl
def Fj(arr:Array Value)(o:Nat): List Value->Array Value
 | []=>arr
 | c::r=>Fj (arr.setIfInBounds o c) (o+1) r
theorem Lo(w:World)(T:TypeId): ∀(cs:List Value) (o:Nat) (a:Array Value),(w.alloc (.cells a T)).setCells w.heap.size o cs=w.alloc (.cells (Fj a o cs) T)
 | [],_,_=>rfl
 | c::r,o,a=>by
  unfold World.setCells Fj;rw[World.setCell_alloc_at _ _ _ _ _ rfl];exact Lo w T r (o+1) (a.setIfInBounds o c)
theorem Hr: ∀(cs:List Value) (pre:List Value) (rest:List Value),rest.length=cs.length->Fj (pre++rest).toArray pre.length cs=(pre++cs).toArray
 | [],pre,rest,h=>by
  have:rest=[]:=iL.1 h;subst this;rfl
 | c::r,pre,rest,h=>by
  cases rest with
  | nil=>simp at h
  | cons d a =>
   unfold Fj;have e:((pre++d::a).toArray.setIfInBounds pre.length c)=((pre++[c])++a).toArray:=by simp
   rw[e];have:=Hr r (pre++[c]) a (by simpa using h);rw[hY]at this;simpa using this
theorem JI(w:World)(a:List Value)(cs:List Value)(k:a.length=26)(d:cs.length=26)(e:cs.toArray.all (·.oneCell')=true):
  (Eu 48 (.pointer (some ⟨w.heap.size,0,none⟩)) (.agg cs.toArray)).run prog (w.alloc (.cells a.toArray 48))=.ok .skip (w.alloc (.cells cs.toArray 48)):=by
 unfold Eu;have j:(w.alloc (.cells a.toArray 48)).there w.heap.size 0 cs.toArray.size:=by
  intro l h;have i:l<26:=by simpa[d] using h
  rw[ja,kJ,World.frozen?_alloc_new];simp[k,i]
 rw[jm,k8 _ w.heap.size 0 48 cs.toArray j (by rw[QN];simp[d]) e];have c:=Hr cs [] a (by omega);simp only[jt,jZ]at c;rw[Lo,lg,c];rfl
end
section
attribute [local go_sem ↓] AN B2
attribute [local go_sem] AO B4 A5 A6 AI AJ BC BD
theorem XN{w j m t:World}{e k:Nat}{v:Value}{ps:List (SB×aI)}{aV:Int}{u:List aI}{code:Int}{aL:List Int}{nv l:Value}{i:List (SB×aI)}(q:lO w j)(D:w.heap.size=k)(r:∀a,aN e v ps a->a<k)(E:k+1<j.heap.size)(x:aX m e l aV i)(C:i.map (·.2)=u)(s:m.ownsRow j.heap.size 3 1 nv aL.length (ints aL))(A:aA (aN e v ps) j m)(o:∀a,aN e l i a->aN e v ps a\/j.heap.size<=a)(z:∀a,nv.ownBlock=some a->¬aN e l i a)(n:aA (λa=>a=k+1) m t):
  aS w e v ps aV u code aL (.returned (Av code nv)) t:=by
 have B:=q.size;refine⟨nv,l,i,rfl,x.keeps n (λa c d=>?_),C,A2 (FG s B) n (λa c d=>?_),?_,λa c=>?_,z⟩
 ·rcases o a c with h | h
  ·have:=r a h;omega
  omega
 ·have:=(s.lt a c).1;omega
 ·exact((q.mono (M':=aN e v ps) (λ_ _ d=>d.elim)).then (A.mono (λ_ _ d=>d))).trans n (λa c r=>by omega)
 rcases o a c with h | h
 ·exact .inl h
 exact .inr (by omega)
theorem Jy{w:World}{base:Nat}{nv:Value}{n:Nat}{i:List Value}(e:w.ownsRow base 3 1 nv n i): ∃d a,nv=.slice d n a:=by
 rcases e.2 with ⟨c,h⟩ | ⟨g,a,j,c,_⟩
 ·exact⟨none,0,by rw[c,h]⟩
 exact⟨some ⟨g,0,none⟩,a,c⟩
theorem GI{k:Int}{f:Nat}(m:(k=1/\f=20)\/(k=2/\f=21)\/(k=3/\f=22)\/(k=4/\f=23)\/(k=5/\f=24)\/(k=7/\f=26))(e:Nat)(v:Value)(clock:Int)(ps:List (SB×aI))(o:aO)(w:World)(c:aX w e v clock ps)(E:o.kind=k)(aV:Int)(s:List aI)(code:Int)(aL:List Int)(B:∀a,aX a e v clock ps->lO w a->Calls prog f #[.pointer (some ⟨e,0,none⟩),o.val] a λh r=>aS a e v ps aV s code aL h r):
  Calls prog 15 #[.pointer (some ⟨e,0,none⟩),o.val] w λh r=>aS w e v ps aV s code aL h r:=by
 have V:o.cells[0]?=some (.int .i64 k):=by rw[<-E];rfl
 have X:Ao (w.alloc (.cells o.cells.toArray 48)) w.heap.size 0 26=.agg o.cells.toArray:=Bf w o.cells 48 26 rfl;have W:Ay (w.alloc (.cells o.cells.toArray 48)) w.heap.size 0 26=true:=LJ w o.cells 48 26 rfl;have t:=Aa c;have J:=Aa B;clear c B E;unfold aO.val;obtain⟨a,G,j,U,x⟩:=C5 w o.cells;have L:=Aa (t.o.still j.o);have u:=Aa (show ∀d,aN e v ps d->d<w.heap.size from t.o.lt);have O:=Aa G;clear G;rcases m with ⟨rfl,rfl⟩ | ⟨rfl,rfl⟩ | ⟨rfl,rfl⟩ | ⟨rfl,rfl⟩ | ⟨rfl,rfl⟩ | ⟨rfl,rfl⟩;all_goals
  go_enter func15,ntmps15;go_wp2_with fail
  rw[<-O.o];generalize F:w.heap.size=I at *
  have M:=Aa F;clear F;have Q:I+1<a.heap.size:=x.o.lt;refine(J.o a L.o j.o).mono ?_;rintro h T ⟨Y,af,Z,rfl,A,H,n,l,D,C⟩;obtain⟨R,S,P⟩:=Jy n;subst P;unfold Av;have z:=Aa (x.o.keeps l (λc=>by have:=u.o _ c;omega));have N:=Aa (show ∀i,aA (λd=>d=I+1) T i->aS w e v ps aV s code aL (.returned (Av code (.slice R aL.length S))) i from λi m=>XN j.o M.o u.o Q A H n l D C m);clear A H n l D C;obtain⟨aa,ab,ad,ae⟩:=z.o.three;go_wp2;exact CZ z.o (λi q=>by simp[results,results15,go_sem,q.c0,q.c1,q.c2,Av]) rfl N.o
theorem zM0(e:Nat)(v:Value)(clock:Int)(ps:List (SB×aI))(o:aO)(w:World)(a:aX w e v clock ps)(t:o.kind<1\/7<o.kind):
  Calls prog 15 #[.pointer (some ⟨e,0,none⟩),o.val] w λk u=>aS w e v ps clock (ps.map (·.2)) 1 [] k u:=by
 have B:o.cells[0]?=some (.int .i64 o.kind):=rfl;have E:(o.kind==1)=false:=by simp;omega
 have F:(o.kind==2)=false:=by simp;omega
 have G:(o.kind==3)=false:=by simp;omega
 have H:(o.kind==4)=false:=by simp;omega
 have I:(o.kind==5)=false:=by simp;omega
 have J:(o.kind==6)=false:=by simp;omega
 have L:(o.kind==7)=false:=by simp;omega
 have l:=Aa a;clear a t;unfold aO.val;go_enter func15,ntmps15;go_wp2_with fail
 obtain⟨x,j,m,A,r⟩:=C5 w o.cells;rw[<-j];clear j;generalize d:w.heap.size=N at *
 have q:=Aa d;clear d;refine(E9 1 x).mono ?_;rintro k S ⟨rfl,c⟩;unfold Av;have i:=Aa (r.o.keeps c id);have n:=Aa (m.o.then c);clear c;obtain⟨O,P,Q,R⟩:=i.o.three;go_wp2;refine CZ i.o (λz h=>by simp[results,results15,go_sem,h.c0,h.c1,h.c2,Av]) rfl (λz s=>?_);have d:=q.o;exact Et l.o (n.o.trans s (λM C D=>by omega)) (ir _ _ _ _)
end
section
structure dU where
 code:Int
 nv:Value
 aL:List Int
 bs:ByteArray
def dU.cells(x:dU): List Value:=[.int .i64 x.code,x.nv,.string x.bs]
def Ej(l:List dU): List Value:=l.flatMap dU.cells
structure cY (w:World) (base:Nat) (v:Value) (l:List dU):Prop where
 row:w.ownsRow base 39 3 v l.length (Ej l)
 aL:∀x,x∈l->w.ownsRow base 3 1 x.nv x.aL.length (ints x.aL)
 apart:∀x,x∈l->∀i,x.nv.ownBlock=some i->v.ownBlock≠some i
def Ft(v:Value)(l:List dU)(i:Nat): Prop:=v.ownBlock=some i\/∃x,x∈l/\x.nv.ownBlock=some i
theorem cY.keeps{M:Nat->Prop}{w w':World}{base:Nat}{v:Value}{l:List dU}(c:cY w base v l)(e:aA M w w')(h:∀a,Ft v l a->¬M a): cY w' base v l :=
 ⟨A2 c.row e (λa d=>h a (.inl d)),λj i=>A2 (c.aL j i) e (λa d=>h a (.inr ⟨j,i,d⟩)),c.apart⟩
theorem cY.lt{w:World}{base:Nat}{v:Value}{l:List dU}(a:cY w base v l)(i:Nat)(hi:Ft v l i): base<=i/\i<w.heap.size:=by
 rcases hi with hi | ⟨d,c,hi⟩
 ·exact a.row.lt i hi
 exact(a.aL d c).lt i hi
def CY: WS:=⟨0,[]⟩
theorem Ix: bQ 0 CY.clock CY.xs:=⟨by simp[CY],by simp[CY],by simp[CY],λc a=>by simp[CY]at a,λc a=>by simp[CY]at a⟩
def dB(w:World)(sb so:Nat)(ops:List aO): Prop:=∀i o,ops[i]?=some o->w.rangeAt sb (so+i*26) o.cells
theorem Rb: (prog.info? 39).map (λa=>(a.zero,a.size,a.bytes))=some (some (.agg #[.int .i64 0,.slice none 0 0,.string ⟨#[]⟩]),3,48):=by kernel_rfl
theorem Jb(o:aO): o.cells.toArray.all (·.oneCell')=true:=by simp[aO.cells,Cfg.eD,Value.oneCell']
theorem Nh(a b:List dU): Ej (a++b)=Ej a++Ej b:=by simp[Ej]
theorem XZ{w wr i q:World}{P B:Obj}{e:Nat}{v o j av':Value}{aV:Int}{ps n:List (SB×aI)}{l:List dU}{code:Int}{nv:Value}{aL:List Int}{bs:ByteArray}{t O:Nat}(G:lO w wr)(x:cY wr w.heap.size j l)(H:∀a,aN e v ps a->w.heap.size<=a)(C:∀a,Ft j l a->¬aN e v ps a)(F:aX i e o aV n)(E:i.ownsRow (wr.alloc P).heap.size 3 1 nv aL.length (ints aL))(J:aA (aN e v ps) (wr.alloc P) i)(z:∀a,aN e o n a->aN e v ps a\/(wr.alloc P).heap.size<=a)(U:∀a,nv.ownBlock=some a->¬aN e o n a)(T:av'=.slice (some ⟨t,0,none⟩) (l.length+1) O)(Z:q.ownsRow w.heap.size 39 3 av' (l.length+1) (Ej l++[.int .i64 code,nv,.string bs]))(u:(i.alloc B).grownBy q j.ownBlock)(D:j.ownBlock=some t\/t=i.heap.size+1):
  aX q e o aV n/\cY q w.heap.size av' (l++[⟨code,nv,aL,bs⟩])/\lO w q/\(∀a,aN e o n a->w.heap.size<=a)/\(∀a,Ft av' (l++[⟨code,nv,aL,bs⟩]) a->¬aN e o n a):=by
 rw[jU]at E z;have ad:=G.size;have ab:wr.heap.size+1<=i.heap.size:=by have:=J.size;rwa [jU]at this
 have M:av'.ownBlock=some t:=by rw[T];rfl
 have W:aA (λa=>j.ownBlock=some a) (i.alloc B) q:=⟨u.os,u.tape,u.output,u.size,λaa V Y=>u.block aa V (λh=>Y h.symm)⟩;have A:aA (λa=>j.ownBlock=some a) i q:=((aA.refl (λa=>j.ownBlock=some a) i).alloc B).then W;have L:aA (aN e v ps) wr i:=((aA.refl (aN e v ps) wr).alloc P).then J;have r:=x.lt;have S:=F.lt;have N:∀a,nv.ownBlock=some a->wr.heap.size+1<=a/\a<i.heap.size:=λa c=>E.lt a c;have R:cY i w.heap.size j l:=x.keeps L (λa c=>C a c);have I:∀a,j.ownBlock=some a->¬aN e o n a:=λa c s=>by
  rcases z a s with h | h
  ·exact C a (.inl c) h
  have:=(r a (.inl c)).2;omega
 refine⟨F.keeps A (λa c h=>I a h c),⟨?_,?_,?_⟩,?_,?_,?_⟩
 ·rw[Nh,hY];exact Z
 ·intro m d;rcases ig.1 d with d | d
  ·exact A2 (R.aL m d) A (λa c h=>x.apart m d a c h)
  rw[ij]at d;subst d;exact A2 (FG E (by omega)) A (λa c h=>by have Q:=N a c;have k:=(r a (.inl h)).2;omega)
 ·intro m d a c h;rw[M]at h;injection h with h;rcases ig.1 d with d | d
  ·rcases D with k | k
   ·exact x.apart m d a c (by rw[k,h])
   have:=(r a (.inr ⟨m,d,c⟩)).2;omega
  rw[ij]at d;subst d;have Q:=N a c;rcases D with k | k
  ·have:=(r t (.inl k)).2;omega
  omega
 ·refine((G.trans (M':=aN e v ps) L (λa c X=>by have:=H a c;omega)).trans A (λa c X=>by have:=(r a (.inl c)).1;omega))
 ·intro a c;rcases z a c with h | h
  ·exact H a h
  omega
 intro a c s;rcases c with c | ⟨m,d,c⟩
 ·rw[M]at c;injection c with c;rcases D with k | k
  ·exact I a (by rw[k,c]) s
  have:=S a s;omega
 rcases ig.1 d with d | d
 ·rcases z a s with h | h
  ·exact C a (.inr ⟨m,d,c⟩) h
  have:=(r a (.inr ⟨m,d,c⟩)).2;omega
 rw[ij]at d;subst d;exact U a c s
theorem Ki{w:World}{base:Nat}{v:Value}{l:List Int}(k:w.ownsRow base 3 1 v l.length (ints l)): (l=[]/\∃i c,v=.slice i 0 c)\/∃g c,v=.slice (some ⟨g,0,none⟩) l.length c/\∀a,a<l.length->w.cell? ⟨g,a,none⟩=some (.int .i64 (l.getD a 0)):=by
 rcases k.2 with ⟨d,m⟩ | ⟨g,j,e,d,_,n,r,s,t,o⟩
 ·exact .inl ⟨iL.1 m,none,0,d⟩
 refine .inr ⟨g,j,d,λa h=>?_⟩;have q:e[a]?=(ints l)[a]?:=by
  rw[<-o,iV,h9 (by omega)];simp
 have:e[a]?=some (.int .i64 (l.getD a 0)):=by
  rw[q];unfold ints;rw[iP,hX h,List.getD_eq_getElem?_getD,hX h];rfl
 simp[World.cell?,n,this]
theorem Vt{k r j:World}{w:Obj}{e:Nat}{v nv:Value}{clock:Int}{ps:List (SB×aI)}{b2:SB}{x:aI}{l m I:Nat}(i:aX k e v clock ps)(N:ps.length=m)(P:nv=.slice (some ⟨l,0,none⟩) (m+1) I)(G:bJ r b2 x)(q:∀a,b2.aQ x.k a->k.heap.size<=a)(D:lO k r)(Q:j.ownsRow 0 66 1 nv (m+1) (AV ps++[.pointer (some ⟨b2.s,0,none⟩)]))(n:(r.alloc w).grownBy j v.ownBlock)(s:v.ownBlock=some l\/l=r.heap.size+1):
  aX (j.setCell ⟨e,1,none⟩ nv) e nv clock (ps++[(b2,x)])/\aA (aN e v ps) k (j.setCell ⟨e,1,none⟩ nv)/\(∀a,aN e nv (ps++[(b2,x)]) a->aN e v ps a\/k.heap.size<=a):=by
 have U:=D.size;have u:nv.ownBlock=some l:=by rw[P];rfl
 have B:aA (λa=>v.ownBlock=some a) k j:=((D.mono (M':=λa=>v.ownBlock=some a) (λ_ _ d=>d.elim)).alloc w).grown n (λH A=>Or.inl A);have t:aA (λa=>a=e) j (j.setCell ⟨e,1,none⟩ nv):=(aA.refl (λa=>a=e) j).setCell (p:=⟨e,1,none⟩) (Or.inl rfl) _;have T:=i.aF.lt;have L:l≠e:=by
  rcases s with d | d
  ·intro J;exact i.ev (by rw[d,J])
  omega
 have F:∀a,v.ownBlock=some a->a<k.heap.size:=λa c=>i.lt a (.inr (.inl c));have S:bJ j b2 x:=(G.still ((aA.refl (λ_=>False) r).alloc w)).keeps (M:=λa=>v.ownBlock=some a) ⟨n.os,n.tape,n.output,n.size,λH A O=>n.block H A (λd=>O d.symm)⟩ (λa c d=>by have z:=q a c;have o:=F a d;omega);refine⟨⟨?_,?_,?_,?_,?_,?_⟩,?_,?_⟩
 ·exact(i.aF.keeps B (λd=>i.ev d)).setCell 1 nv
 ·have:=A2 Q t (λa c d=>by rw[u]at c;injection c with c;omega);rw[NO,hY,N];exact this
 ·intro p h;rcases ig.1 h with h | h
  ·exact((i.bM p h).keeps B (λa c d=>(i.ef p h a c).2 d)).keeps t (λa c d=>(i.ef p h a c).1 d)
  rw[ij]at h;subst h;exact S.keeps t (λa c d=>by have:=q a c;omega)
 ·refine iY.2 ⟨i.apart,ka _ _,?_⟩;intro p h V E a c R;rw[ij]at E;subst E;have z:=(i.bM p h).lt a c;have o:=q a R;omega
 ·rw[u];intro d;injection d with d;exact L d
 ·intro p h a c;rw[u];rcases ig.1 h with h | h
  ·refine⟨(i.ef p h a c).1,λd=>?_⟩;injection d with d;have z:=(i.bM p h).lt a c;rcases s with o | o
   ·exact(i.ef p h a c).2 (by rw[o,d])
   omega
  rw[ij]at h;subst h;have z:=q a c;have o:=G.lt a c;refine⟨by omega,λd=>?_⟩;injection d with d;rcases s with C | C
  ·have:=F l C;omega
  omega
 ·exact(B.mono (M':=aN e v ps) (λa _ d=>.inr (.inl d))).trans t (λa c _=>.inl c)
 intro a c;rcases c with c | c | ⟨p,h,c⟩
 ·exact .inl (.inl c)
 ·rw[u]at c;injection c with c;rcases s with d | d
  ·exact .inl (.inr (.inl (by rw[d,c])))
  exact .inr (by omega)
 rcases ig.1 h with h | h
 ·exact .inl (.inr (.inr ⟨p,h,c⟩))
 rw[ij]at h;subst h;exact .inr (q a c)
