import Derived.Test.YtnokbhcennjanaaGreatDoorXAS
open Go.RowKit Go.Proofs.Tryz
set_option maxRecDepth 100000
set_option maxHeartbeats 16000000
namespace Go.Proofs.YtnokbhcennjanaaGreatDoor
section
attribute [local go_sem ↓] AN B2
attribute [local go_sem] AO B4 A5 A6 AI AJ BC BD Bf B3
theorem Vl{w c:World}{b:SB}{x:aI}{g:Nat}{m:Int}{a:NB}(e:bJ w b x)(k:b.g=some g)(h:aD c b.s (D1 b { x with rel:=x.rel+1 }) 98)(n:bB c b.q (some g) (takeL x.l))(l:cB c x.k a x.c (B9 x.k x.c x.nt (itAt x.l 0) m))(i:a.d=b.n.d)(j:∀d,BH x.k a d->d≠b.s/\d≠b.q/\b.g≠some d): bJ c ⟨b.s,b.q,b.g,a⟩ (BP x m):=by
 refine⟨?_,by show bB c b.q b.g _;rw[k];exact n,l,e.sq,e.sg,j⟩;have:D1 ⟨b.s,b.q,b.g,a⟩ (BP x m)=D1 b { x with rel:=x.rel+1 }:=by unfold D1;simp only[i];rfl
 rw[this];exact h
theorem Uv(n:Int)(b:SB)(x:aI)(m:Int)(w:World)(bd:bJ w b x)(hi:aT n x)(cc:n<=4611686018427387904)(a4:eE w)(a5:¬b.aQ x.k 2)(b6:-100<=m)(b7:m<=4611686018427387904):
  Calls prog 42 #[.pointer (some ⟨b.s,0,none⟩),.int .i64 m] w λi V=>i=.returned (.tuple #[])/\∃D,bJ V D (relS (x.l.length+1) x m)/\b.next D x.k w.heap.size/\aA (b.aQ x.k) w V:=by
 have bo:=Aa bd;have bi:=Aa hi;have a1:=Aa a4;have az:=Aa a5;clear bd hi a4 a5;go_enter func42,ntmps42;go_wp2;go_loopg [5] (x.l.length) (λg _s wr=>∃(D:SB) (A:aI),Hid (bJ wr D A)/\Hid (aT n A)/\Hid (b.next D x.k w.heap.size)/\Hid (aA (b.aQ x.k) w wr)/\A.k=x.k/\A.l.length=g/\Hid (relS (x.l.length+1) x m=relS (A.l.length+1) A m))
 case atStart=>exact⟨b,x,bo,bi,⟨rfl,λ_ a=>.inl a⟩,aA.refl _ _,rfl,rfl,rfl⟩
 case round =>
  obtain⟨e,c,N,h,j,ar,t,a9,X⟩:=hrel;have C:=Aa t;have bh:=Aa a9;have u:=Aa j.o.1;clear t a9;have I:=Aa (show aD wr b.s (D1 e c) 98 by rw[<-u.o];exact N.o.aF);have S:=I.o.lt;have ag:wr.cell? ⟨b.s,32,none⟩=some (.pointer (some ⟨e.q,0,none⟩)):=I.o.cell rfl;go_wp2_with fail
  refine(Jk e.q e.g c.l wr N.o.dL).mono ?_;rintro i z ⟨rfl,t⟩;have J:=Aa (I.o.keeps t id);have O:=Aa (N.o.still t);have Z:=Aa (ar.o.trans t (λ_ a _=>a.elim));clear t ag S;by_cases o:c.l.isEmpty=true
  ·have B:=Aa o;rw[o];clear o;unfold It.val;go_wp2;refine iN (ks rfl _ _ _) rfl ⟨rfl,e,?_,j.o,Z.o.alloc _⟩;rw[X.o];unfold relS;rw[h9 B.o];exact O.o.still ((aA.refl _ _).alloc _)
  have a7:c.l.isEmpty=false:=by simpa using o
  have M:=Aa (show c.l≠[] by intro a;rw[a]at o;exact o rfl);have B:=Aa o;rw[a7];clear o a7;generalize be:itAt c.l 0=y;have v:=Aa be;clear be;unfold It.val;have an:=Aa (J.o.alloc (.cells #[.int .i64 y.t,.int .i64 y.k,.int .i64 y.d,.int .i64 y.n] 80));have a2:=Aa (aD.new z [.int .i64 y.t,.int .i64 y.k,.int .i64 y.d,.int .i64 y.n] 80);have k:=Aa (O.o.still ((aA.refl (λ_=>False) z).alloc (.cells #[.int .i64 y.t,.int .i64 y.k,.int .i64 y.d,.int .i64 y.n] 80)));have aa:=Aa (Z.o.alloc (.cells #[.int .i64 y.t,.int .i64 y.k,.int .i64 y.d,.int .i64 y.n] 80));have cb:=J.o.lt;have ag:z.cell? ⟨b.s,32,none⟩=some (.pointer (some ⟨e.q,0,none⟩)):=J.o.cell rfl;by_cases U:m<y.t
  ·go_wp2;refine iN (ks rfl _ _ _) rfl ⟨rfl,e,?_,j.o,aa.o⟩;rw[X.o];unfold relS;rw[hZ B.o,h9 (by rw[v.o];exact U)];exact k.o
  have cd:decide (m<y.t)=false:=by simpa using U
  have ay:=Aa U;clear U;go_wp2_with fail
  have av:=Aa (show ∀d,e.aQ c.k d->d<z.heap.size from O.o.lt);generalize z.alloc (.cells #[.int .i64 y.t,.int .i64 y.k,.int .i64 y.d,.int .i64 y.n] 80)=b8 at *
  generalize br:z.heap.size=R at *
  clear br ag J O Z I N ar;obtain⟨g,s⟩:∃g,e.g=some g:=by
   cases hbg:e.g with
   | none=>have G:=k.o.dL;rw[hbg]at G;exact absurd G.1 M.o
   | some g=>exact⟨g,rfl⟩
  have Y:=Aa s;have ae:=Aa (jG.2 M.o);have bx:c.l.length<=900:=by have l:=h.o.cap;have r:=h.o.common;omega
  refine(take_any e.q g c.l b8 (by have G:=k.o.dL;rw[s]at G;exact G) bx ae.o).mono ?_;rintro i q ⟨⟨ce,rfl⟩,bc,E⟩
  have af:=Aa (show ¬(b.s=e.q\/b.s=g) from λa=>by
     rw[<-u.o]at a
     exact a.elim k.o.sq (k.o.sg g s))
  have bm:=Aa (show ¬(R=e.q\/R=g) from λa=>by
     rcases a with a | a
     ·have:=av.o R (.inr (.inl a));omega
     have:=av.o R (.inr (.inr (.inl (by rw[s,a]))));omega)
  have L:=Aa (an.o.keeps E af.o);have a3:=Aa (a2.o.keeps E bm.o);have aw:=Aa bc
  have ao:=Aa (show cB q c.k e.n c.c c.nt from k.o.note.keeps E (λd hi a=>by
       rcases a with a | a
       ·exact(k.o.sn d hi).2.1 a
       exact(k.o.sn d hi).2.2 (by rw[s,a])))
  have au:=Aa (aa.o.trans E (λd hi S=>by
       have ah:e.aQ x.k d:=by
        rcases hi with hi | hi
        ·exact .inr (.inl hi)
        exact .inr (.inr (.inl (by rw[s,hi])))
       rcases j.o.2 d ah with a | a
       ·exact a
       omega))
  clear E bc an a2 aa s;have bt:q.cell? ⟨b.s,34,none⟩=some (.int .i64 c.rel):=L.o.cell rfl;have bu:=L.o.frozen;have b1:IntKind.i64.wrap (c.rel+1)=c.rel+1:=by
   have l:=h.o.dI;have r:=h.o.dD;have b9:=h.o.dG
   exact GJ (by omega) (by omega)
  go_wp2_with fail
  have F:aA (λd=>d=b.s) q (q.setCell ⟨b.s,34,none⟩ (.int .i64 (c.rel+1))):=(aA.refl (λd=>d=b.s) q).setCell (p:=⟨b.s,34,none⟩) (Or.inl rfl) _;have W:=Aa (show aD (q.setCell ⟨b.s,34,none⟩ (.int .i64 (c.rel+1))) b.s (D1 e { c with rel:=c.rel+1 }) 98 from L.o.setCell 34 _);have Q:=Aa (a3.o.keeps F (λa=>by omega));have ax:=Aa (aw.o.keeps F (λa=>af.o (.inl a.symm)) (λbq ai a=>af.o (.inr (by cases ai;exact a.symm))));have ap:=Aa (show cB (q.setCell ⟨b.s,34,none⟩ (.int .i64 (c.rel+1))) c.k e.n c.c c.nt from ao.o.keeps F (λd hi a=>(k.o.sn d hi).1 (by rw[a,u.o])));have ab:=Aa (au.o.trans F (λd hi S=>.inl hi));clear F L a3 aw ao au bt bu b1;generalize q.setCell ⟨b.s,34,none⟩ (.int .i64 (c.rel+1))=H at *
  have bs:H.cell? ⟨b.s,27,none⟩=some (.func (.func (J8 c.k)) (En e.n.d) #[]):=W.o.cell rfl;have b2:=Q.o.c0;have b3:=Q.o.c1;have b4:=Q.o.c2;have b5:=Q.o.c3
  have bg:=Aa (show relS (x.l.length+1) x m=relS (c.l.length) (BP c m) m by
     rw[X.o]
     conv=>lhs;unfold relS
     rw[hZ B.o,hZ (by rw[v.o];have:=ay.o;omega)])
  have a0:=Aa (takeL_length c.l);have al:=cK (P:=λy=>0<=y.t/\y.t<=4611686018427387904) (by simp) h.o.times 0;rw[v.o]at al;have bz:=zLw c.k h.o.k1 h.o.k5;have bn:=Aa (show c.rel+1<=4611686018427387904 by have l:=h.o.dD;have r:=h.o.dG;have ca:0<c.l.length:=jG.2 (λi=>B.o (by rw[i];rfl));omega)
  have bl:=Aa (show ¬e.aQ x.k 2 from λa=>by
     rcases j.o.2 2 a with l | l
     ·exact az.o l
     have r:=a1.o.lt;omega)
  have bp:=Aa (show eE H from a1.o.keeps ab.o az.o);have aj:=h.o.fits _ (Gi M.o);rw[v.o]at aj;have bj:=Aa aj;clear aj;go_region_with (refine(zLg (rel:=c.rel) (last:=c.last) c.k e.n c.c c.nt y m _ _ (by first | rfl | simp) (by exact ap.o.still (aA.refl _ _).drew) h.o.note bn.o h.o.valid h.o.kind h.o.k1 h.o.k5 b6 b7 al.1 al.2 (λa=>Ml bj.o a) (bp.o.keeps (aA.refl (λ_=>False) H).drew id) (λa=>bl.o (.inr (.inr (.inr (by rw[<-C.o];exact a))))) h.o.dP).mono ?_;rintro i V ⟨rfl,am,bb,a6,a8,ba⟩)
  all_goals
   have ad:=Aa (((aA.refl (BH c.k e.n) H).drew).then ba);have bk:=Aa bb;have bf:=Aa a6;have aq:=Aa a8;clear ba bb a6 a8 b2 b3 b4 b5 bs bz;go_wp2;go_roundg (c.l.length-1)
   case measure=>have l:=bh.o;have r:=ae.o;omega
   case rel =>
    have T:=k.o.sn;have ak:∀d,e.aQ c.k d->d<H.heap.size:=by
     have l:=W.o.lt;have r:=ax.o.lt;rintro d (hi | hi | hi | hi)
     ·rw[hi,u.o];exact l
     ·rw[hi];exact r.1
     ·rw[Y.o]at hi;exact(r.2 d hi).1
     exact ap.o.lt d hi
    have bv:∀d,BH c.k am d->d≠e.s/\d≠e.q/\e.g≠some d:=by
     intro d hi;rcases aq.o d hi with a | a
     ·exact T d a
     rw[kP]at a;refine⟨λi=>?_,λi=>?_,λi=>?_⟩
     ·have:=ak d (.inl i);omega
     ·have:=ak d (.inr (.inl i));omega
     have:=ak d (.inr (.inr (.inl i)));omega
    have b0:bJ V ⟨e.s,e.q,e.g,am⟩ (BP c m):=by
     refine Vl k.o Y.o ?_ (ax.o.keeps ad.o (λa=>(T _ a).2.1 rfl) (λbq ai a=>(T _ a).2.2 (by rw[Y.o];exact ai))) (by rw[v.o];exact bk.o) bf.o bv;rw[u.o];exact W.o.keeps ad.o (λa=>(T _ a).1 u.o.symm)
    refine⟨⟨e.s,e.q,e.g,am⟩,BP c m,b0,Hz h.o M.o m (by rw[v.o];have:=ay.o;omega),⟨j.o.1,λd hi=>?_⟩,ab.o.trans ad.o (λd hi S=>?_),C.o,a0.o,?_⟩
    ·rcases hi with hi | hi | hi | hi
     ·exact j.o.2 d (.inl hi)
     ·exact j.o.2 d (.inr (.inl hi))
     ·exact j.o.2 d (.inr (.inr (.inl hi)))
     rw[<-C.o]at hi;rcases aq.o d hi with a | a
     ·exact j.o.2 d (.inr (.inr (.inr (by rw[<-C.o];exact a))))
     rw[kP]at a;have:=ab.o.size;exact .inr (by omega)
    ·have ah:e.aQ x.k d:=.inr (.inr (.inr (by rw[<-C.o];exact hi)));rcases j.o.2 d ah with a | a
     ·exact a
     omega
    show _=relS ((takeL c.l).length+1) (BP c m) m;rw[bg.o,a0.o,show c.l.length-1+1=c.l.length by have:=ae.o;omega]
def Ac(l:List Int)(j:Nat): Int:=l.getD j 0
theorem DV(b:SB)(x:aI)(h:x.ref.length=12)(j:Nat)(e:j<12): (D1 b x)[35+j]?=some (.int .i64 (Ac x.ref j)):=by
 have a:(D1 b x)[35+j]?=(x.ref.map (λd=>Value.int .i64 d))[j]?:=by
  rw[kT];rfl
 rw[a,iP];have c:j<x.ref.length:=by omega
 simp[Ac,c]
def ints(l:List Int): List Value:=l.map (λv=>Value.int .i64 v)
def AE: List Nat:=[5,6,7,8,10,9,11]
def BJ(x:aI): List Int:=x.acc::x.rel::AE.map (Ac x.ref)
theorem Fc: (prog.info? 3).map (λa=>(a.zero,a.size,a.bytes))=some (some (.int .i64 0),1,8):=by kernel_rfl
theorem KS(w:World): (Instr.index 127 (.agg #[.int .i64 5,.int .i64 6,.int .i64 7,.int .i64 8,.int .i64 10,.int .i64 9,.int .i64 11]) (.int .i64 0)).run prog w=.ok (.int .i64 5) w:=by kernel_rfl
theorem KT(w:World): (Instr.index 127 (.agg #[.int .i64 5,.int .i64 6,.int .i64 7,.int .i64 8,.int .i64 10,.int .i64 9,.int .i64 11]) (.int .i64 1)).run prog w=.ok (.int .i64 6) w:=by kernel_rfl
theorem KU(w:World): (Instr.index 127 (.agg #[.int .i64 5,.int .i64 6,.int .i64 7,.int .i64 8,.int .i64 10,.int .i64 9,.int .i64 11]) (.int .i64 2)).run prog w=.ok (.int .i64 7) w:=by kernel_rfl
theorem KV(w:World): (Instr.index 127 (.agg #[.int .i64 5,.int .i64 6,.int .i64 7,.int .i64 8,.int .i64 10,.int .i64 9,.int .i64 11]) (.int .i64 3)).run prog w=.ok (.int .i64 8) w:=by kernel_rfl
theorem KX(w:World): (Instr.index 127 (.agg #[.int .i64 5,.int .i64 6,.int .i64 7,.int .i64 8,.int .i64 10,.int .i64 9,.int .i64 11]) (.int .i64 4)).run prog w=.ok (.int .i64 10) w:=by kernel_rfl
theorem KY(w:World): (Instr.index 127 (.agg #[.int .i64 5,.int .i64 6,.int .i64 7,.int .i64 8,.int .i64 10,.int .i64 9,.int .i64 11]) (.int .i64 5)).run prog w=.ok (.int .i64 9) w:=by kernel_rfl
theorem KZ(w:World): (Instr.index 127 (.agg #[.int .i64 5,.int .i64 6,.int .i64 7,.int .i64 8,.int .i64 10,.int .i64 9,.int .i64 11]) (.int .i64 6)).run prog w=.ok (.int .i64 11) w:=by kernel_rfl
theorem TX{w w':World}{base:Nat}{t size:Nat}{v:Value}{n:Nat}{d:List Value}(a:w.ownsRow base t size v n d)(k:lO w w'): w'.ownsRow base t size v n d:=by
 refine⟨a.1,?_⟩;rcases a.2 with i | ⟨g,e,h,rfl,j,c,l⟩
 ·exact .inl i
 exact .inr ⟨g,e,h,rfl,j,by rw[k.block g (jr.1 c).1 id];exact c,l⟩
theorem M6(w:World):
  Calls prog 71 #[] w λa c=>a=.returned (.agg #[.int .i64 5,.int .i64 6,.int .i64 7,.int .i64 8,.int .i64 10,.int .i64 9,.int .i64 11])/\lO w c:=by
 go_enter func71,ntmps71;go_wp2;refine iN (v:=.agg #[.int .i64 5,.int .i64 6,.int .i64 7,.int .i64 8,.int .i64 10,.int .i64 9,.int .i64 11]) (by simp[results,results71,go_sem]) rfl ⟨rfl,?_⟩
 repeat (first | exact aA.refl _ _ | apply aA.alloc)
attribute [local go_sem] KS KT KU KV KX KY KZ
theorem Tg(n:Int)(b:SB)(x:aI)(w:World)(G:bJ w b x)(hi:aT n x):
  Calls prog 45 #[.pointer (some ⟨b.s,0,none⟩)] w λM P=>∃l,M=.returned l/\P.ownsRow w.heap.size 3 1 l 9 (ints (BJ x))/\lO w P:=by
 have Q:=Aa G.aF;have q:=Aa hi;have V:w.cell? ⟨b.s,33,none⟩=some (.int .i64 x.acc):=G.aF.cell rfl;have W:w.cell? ⟨b.s,34,none⟩=some (.int .i64 x.rel):=G.aF.cell rfl;clear G hi;obtain⟨z,r,s,u,v⟩:=jh Fc;go_enter func45,ntmps45;go_wp2_with fail
 go_region
 go_wp2_with fail
 have O:lO w (w.alloc (.cells #[.int .i64 x.acc,.int .i64 x.rel] 3)).drew:=((aA.refl _ w).alloc _).drew;have N:(w.alloc (.cells #[.int .i64 x.acc,.int .i64 x.rel] 3)).drew.ownsRow w.heap.size 3 1 (.slice (some ⟨w.heap.size,0,none⟩) 2 2) 2 (ints ((BJ x).take 2)) :=
  ⟨rfl,.inr ⟨w.heap.size,2,#[.int .i64 x.acc,.int .i64 x.rel],rfl,by omega,iJ w (.cells #[.int .i64 x.acc,.int .i64 x.rel] 3),by omega,by unfold maxLen;omega,rfl,rfl⟩⟩
 have J:=Aa O;have L:=Aa N;clear O N V W;generalize(w.alloc (.cells #[.int .i64 x.acc,.int .i64 x.rel] 3)).drew=T at *
 refine(M6 T).mono ?_;rintro M X ⟨rfl,H⟩;have R:=Aa (J.o.then H);have S:=Aa (TX L.o H);clear H J L;go_wp2_with fail
 go_loopw [3,16] (λl I wr=>∃e:Nat,e<=7/\I=.int .i64 e/\Hid (wr.ownsRow w.heap.size 3 1 l (2+e) (ints ((BJ x).take (2+e))))/\Hid (lO w wr)) (λ_ I _=>7-(intOf I).toNat)
 case atStart=>exact⟨0,by omega,rfl,S,R⟩
 case round =>
  obtain⟨e,Y,rfl,d,c⟩:=hrel;have o:=Aa (Q.o.keeps c.o id);generalize u3=l at *
  by_cases Z:e<7
  ·have m:e=0\/e=1\/e=2\/e=3\/e=4\/e=5\/e=6:=by omega
   rcases m with m | m | m | m | m | m | m;all_goals subst m
   ·have D:wr.cell? ⟨b.s,40,none⟩=some (.int .i64 (Ac x.ref 5)):=o.o.cell (DV b x q.o.bS 5 (by omega));have h:=Aa (show ints ((BJ x).take (2+0))++[.int .i64 (Ac x.ref 5)]=ints ((BJ x).take (2+1)) from rfl);go_wp2_with (at_builtin;refine jf _ rfl _ _ _ rfl w.heap.size 3 z _ 1 8 underlying37 r s u v rfl (by omega) l (2+0) (ints ((BJ x).take (2+0))) rfl (d.o.alloc _) ⟨wr.heap.size,0,none⟩ 1 1 [.int .i64 (Ac x.ref 5)] rfl rfl (iT (cs:=#[.int .i64 (Ac x.ref 5)]) (t:=3) (fr:=(0,0)) (iJ wr _)) (by simp[Value.oneCell']) (by omega) (by unfold maxLen;omega) (by omega) (by have:=c.o.size;simp;omega) (wr.heap.size+1) (by simp) ?_;intro B A F a i C E)
    rw[h.o]at a;go_roundw;case rel =>
     refine⟨1,by omega,rfl,a,(c.o.alloc _).grown i (λk j=>Or.inr (d.o.lt k j).1)⟩
    case measure=>simp[intOf]
   ·have D:wr.cell? ⟨b.s,41,none⟩=some (.int .i64 (Ac x.ref 6)):=o.o.cell (DV b x q.o.bS 6 (by omega));have h:=Aa (show ints ((BJ x).take (2+1))++[.int .i64 (Ac x.ref 6)]=ints ((BJ x).take (2+2)) from rfl);go_wp2_with (at_builtin;refine jf _ rfl _ _ _ rfl w.heap.size 3 z _ 1 8 underlying37 r s u v rfl (by omega) l (2+1) (ints ((BJ x).take (2+1))) rfl (d.o.alloc _) ⟨wr.heap.size,0,none⟩ 1 1 [.int .i64 (Ac x.ref 6)] rfl rfl (iT (cs:=#[.int .i64 (Ac x.ref 6)]) (t:=3) (fr:=(0,0)) (iJ wr _)) (by simp[Value.oneCell']) (by omega) (by unfold maxLen;omega) (by omega) (by have:=c.o.size;simp;omega) (wr.heap.size+1) (by simp) ?_;intro B A F a i C E)
    rw[h.o]at a;go_roundw;case rel =>
     refine⟨2,by omega,rfl,a,(c.o.alloc _).grown i (λk j=>Or.inr (d.o.lt k j).1)⟩
    case measure=>simp[intOf]
   ·have D:wr.cell? ⟨b.s,42,none⟩=some (.int .i64 (Ac x.ref 7)):=o.o.cell (DV b x q.o.bS 7 (by omega));have h:=Aa (show ints ((BJ x).take (2+2))++[.int .i64 (Ac x.ref 7)]=ints ((BJ x).take (2+3)) from rfl);go_wp2_with (at_builtin;refine jf _ rfl _ _ _ rfl w.heap.size 3 z _ 1 8 underlying37 r s u v rfl (by omega) l (2+2) (ints ((BJ x).take (2+2))) rfl (d.o.alloc _) ⟨wr.heap.size,0,none⟩ 1 1 [.int .i64 (Ac x.ref 7)] rfl rfl (iT (cs:=#[.int .i64 (Ac x.ref 7)]) (t:=3) (fr:=(0,0)) (iJ wr _)) (by simp[Value.oneCell']) (by omega) (by unfold maxLen;omega) (by omega) (by have:=c.o.size;simp;omega) (wr.heap.size+1) (by simp) ?_;intro B A F a i C E)
    rw[h.o]at a;go_roundw;case rel =>
     refine⟨3,by omega,rfl,a,(c.o.alloc _).grown i (λk j=>Or.inr (d.o.lt k j).1)⟩
    case measure=>simp[intOf]
   ·have D:wr.cell? ⟨b.s,43,none⟩=some (.int .i64 (Ac x.ref 8)):=o.o.cell (DV b x q.o.bS 8 (by omega));have h:=Aa (show ints ((BJ x).take (2+3))++[.int .i64 (Ac x.ref 8)]=ints ((BJ x).take (2+4)) from rfl);go_wp2_with (at_builtin;refine jf _ rfl _ _ _ rfl w.heap.size 3 z _ 1 8 underlying37 r s u v rfl (by omega) l (2+3) (ints ((BJ x).take (2+3))) rfl (d.o.alloc _) ⟨wr.heap.size,0,none⟩ 1 1 [.int .i64 (Ac x.ref 8)] rfl rfl (iT (cs:=#[.int .i64 (Ac x.ref 8)]) (t:=3) (fr:=(0,0)) (iJ wr _)) (by simp[Value.oneCell']) (by omega) (by unfold maxLen;omega) (by omega) (by have:=c.o.size;simp;omega) (wr.heap.size+1) (by simp) ?_;intro B A F a i C E)
    rw[h.o]at a;go_roundw;case rel =>
     refine⟨4,by omega,rfl,a,(c.o.alloc _).grown i (λk j=>Or.inr (d.o.lt k j).1)⟩
    case measure=>simp[intOf]
   ·have D:wr.cell? ⟨b.s,45,none⟩=some (.int .i64 (Ac x.ref 10)):=o.o.cell (DV b x q.o.bS 10 (by omega));have h:=Aa (show ints ((BJ x).take (2+4))++[.int .i64 (Ac x.ref 10)]=ints ((BJ x).take (2+5)) from rfl);go_wp2_with (at_builtin;refine jf _ rfl _ _ _ rfl w.heap.size 3 z _ 1 8 underlying37 r s u v rfl (by omega) l (2+4) (ints ((BJ x).take (2+4))) rfl (d.o.alloc _) ⟨wr.heap.size,0,none⟩ 1 1 [.int .i64 (Ac x.ref 10)] rfl rfl (iT (cs:=#[.int .i64 (Ac x.ref 10)]) (t:=3) (fr:=(0,0)) (iJ wr _)) (by simp[Value.oneCell']) (by omega) (by unfold maxLen;omega) (by omega) (by have:=c.o.size;simp;omega) (wr.heap.size+1) (by simp) ?_;intro B A F a i C E)
    rw[h.o]at a;go_roundw;case rel =>
     refine⟨5,by omega,rfl,a,(c.o.alloc _).grown i (λk j=>Or.inr (d.o.lt k j).1)⟩
    case measure=>simp[intOf]
   ·have D:wr.cell? ⟨b.s,44,none⟩=some (.int .i64 (Ac x.ref 9)):=o.o.cell (DV b x q.o.bS 9 (by omega));have h:=Aa (show ints ((BJ x).take (2+5))++[.int .i64 (Ac x.ref 9)]=ints ((BJ x).take (2+6)) from rfl);go_wp2_with (at_builtin;refine jf _ rfl _ _ _ rfl w.heap.size 3 z _ 1 8 underlying37 r s u v rfl (by omega) l (2+5) (ints ((BJ x).take (2+5))) rfl (d.o.alloc _) ⟨wr.heap.size,0,none⟩ 1 1 [.int .i64 (Ac x.ref 9)] rfl rfl (iT (cs:=#[.int .i64 (Ac x.ref 9)]) (t:=3) (fr:=(0,0)) (iJ wr _)) (by simp[Value.oneCell']) (by omega) (by unfold maxLen;omega) (by omega) (by have:=c.o.size;simp;omega) (wr.heap.size+1) (by simp) ?_;intro B A F a i C E)
    rw[h.o]at a;go_roundw;case rel =>
     refine⟨6,by omega,rfl,a,(c.o.alloc _).grown i (λk j=>Or.inr (d.o.lt k j).1)⟩
    case measure=>simp[intOf]
   have D:wr.cell? ⟨b.s,46,none⟩=some (.int .i64 (Ac x.ref 11)):=o.o.cell (DV b x q.o.bS 11 (by omega));have h:=Aa (show ints ((BJ x).take (2+6))++[.int .i64 (Ac x.ref 11)]=ints ((BJ x).take (2+7)) from rfl);go_wp2_with (at_builtin;refine jf _ rfl _ _ _ rfl w.heap.size 3 z _ 1 8 underlying37 r s u v rfl (by omega) l (2+6) (ints ((BJ x).take (2+6))) rfl (d.o.alloc _) ⟨wr.heap.size,0,none⟩ 1 1 [.int .i64 (Ac x.ref 11)] rfl rfl (iT (cs:=#[.int .i64 (Ac x.ref 11)]) (t:=3) (fr:=(0,0)) (iJ wr _)) (by simp[Value.oneCell']) (by omega) (by unfold maxLen;omega) (by omega) (by have:=c.o.size;simp;omega) (wr.heap.size+1) (by simp) ?_;intro B A F a i C E)
   rw[h.o]at a;go_roundw;case rel =>
    refine⟨7,by omega,rfl,a,(c.o.alloc _).grown i (λk j=>Or.inr (d.o.lt k j).1)⟩
   case measure=>simp[intOf]
  have m:e=7:=by omega
  subst m;go_wp2;go_ret;exact⟨_,rfl,d.o,c.o⟩
end
section
attribute [local go_sem ↓] AN B2
attribute [local go_sem] AO B4 A5 A6 AI AJ BC BD Bf B3
def AQ(id:Int)(c:Cfg)(k:Nat): aI:=⟨id,c,k,0,0,[0,0,0,0,0,0,0,0,0,0,0,0],[],C8,0⟩
theorem zLb(id:Int)(c:Cfg)(f n p h k s a d i v l:Value)(e:Nat)(w:World):
  (Instr.build 98 #[(0,.int .i64 id),(1,c.val),(2,.agg #[f,n,p,h,k,s]),(3,.agg #[a,d,i,v,l]),(4,.pointer (some ⟨e,0,none⟩))]).run prog w =
  .ok (.agg (.int .i64 id::c.eD [f,n,p,h,k,s,a,d,i,v,l,.pointer (some ⟨e,0,none⟩),.int .i64 0,.int .i64 0,.int .i64 0,.int .i64 0,.int .i64 0,.int .i64 0,.int .i64 0,.int .i64 0,.int .i64 0,.int .i64 0,.int .i64 0,.int .i64 0,.int .i64 0,.int .i64 0]).toArray) w:=by kernel_rfl
def GC(ty:TypeId)(ps:Array (Nat×Value)): Sem Next:=do pure (.value (<-Instr.build ty ps))
theorem RG(ρ:Operand->Value)(dst:Option Tmp)(x:Array (Nat×Operand))(c:TypeId)(pos:String)(after:Array Edge)(guard:Option (Nat×Bool)):
  execOp ρ { dst,op:=.build 98 x,type:=c,pos,after,guard }=GC 98 (x.map λ(a,y)=>(a,ρ y)):=rfl
theorem Un(id:Int)(c:Cfg)(f n p h k s a d i v l:Value)(e:Nat)(w:World):
  (GC 98 #[(0,.int .i64 id),(1,.agg c.cells.toArray),(2,.agg #[f,n,p,h,k,s]),(3,.agg #[a,d,i,v,l]),(4,.pointer (some ⟨e,0,none⟩))]).run prog w =
  .ok (.value (.agg (.int .i64 id::c.eD [f,n,p,h,k,s,a,d,i,v,l,.pointer (some ⟨e,0,none⟩),.int .i64 0,.int .i64 0,.int .i64 0,.int .i64 0,.int .i64 0,.int .i64 0,.int .i64 0,.int .i64 0,.int .i64 0,.int .i64 0,.int .i64 0,.int .i64 0,.int .i64 0,.int .i64 0]).toArray)) w:=by
 unfold GC;rw[jm];have:=zLb id c f n p h k s a d i v l e w;unfold Cfg.val at this;unfold Cfg.cells;rw[this];rfl
attribute [local go_sem ↓] RG
attribute [local go_sem] Un
theorem Nn(id:Int)(c:Cfg)(k:Nat)(w:World)(q:1<=k)(E:k<=5)(J:Ak c=true)(G:c.kind=k):
  Calls prog 37 #[.int .i64 id,c.val,.agg (B1 k).toArray] w λu j=>∃b,u=.returned (.pointer (some ⟨b.s,0,none⟩))/\bJ j b (AQ id c k)/\(∀i,b.aQ k i->w.heap.size<=i)/\lO w j:=by
 have U:=Wr k q E;have N:=Aa G;have O:=Aa J;clear G J;have s:=Aa (show aD ((w.alloc (.cells c.cells.toArray 46)).alloc (.cells (B1 k).toArray 75)) w.heap.size c.cells 46 from(aD.new w c.cells 46).alloc _);have n:=Aa (show aD ((w.alloc (.cells c.cells.toArray 46)).alloc (.cells (B1 k).toArray 75)) (w.heap.size+1) (B1 k) 75 from aD.newAt (by simp) _ _);have C:=Aa (((aA.refl (λ_=>False) w).alloc (.cells c.cells.toArray 46)).alloc (.cells (B1 k).toArray 75));have Q:∃o,o=((w.alloc (.cells c.cells.toArray 46)).alloc (.cells (B1 k).toArray 75)):=⟨_,rfl⟩;unfold Cfg.val B1 fn;go_enter func37,ntmps37;go_wp2_with fail
 obtain⟨o,v⟩:=Q;have D:(w.alloc (.cells #[.int .i64 c.kind,.int .i64 c.aK,.int .i64 c.bF,.int .i64 c.cap,.int .i64 c.k,.int .i64 c.aB,.int .i64 c.bits,.int .i64 c.rows,.int .i64 c.width,.int .i64 c.aM,.int .i64 c.size,.int .i64 c.degree,.int .i64 c.half,.int .i64 c.mark,.int .i64 c.bV,.int .i64 c.bW,.int .i64 c.cG,.int .i64 c.cH,.int .i64 c.cQ,.int .i64 c.cR] 46)).alloc (.cells #[.func (.func (Bu k)) #[] #[],.func (.func (Bg k)) #[] #[],.func (.func (Bh k)) #[] #[],.func (.func (AR k)) #[] #[],.func (.func (AW k)) #[] #[],.func (.func (Bo k)) #[] #[]] 75)=o:=v.symm;rw[D];rw[<-v]at s n C;clear D v;generalize x:w.heap.size=l at *
 have M:=Aa x;clear x;have W:l+1<o.heap.size:=n.o.lt;have I:l<o.heap.size:=s.o.lt;obtain⟨X,T⟩:=CE s.o 20 rfl;have Y:o.cell? ⟨l+1,0,none⟩=some (.func (.func (Bu k)) #[] #[]):=n.o.c0;have Z:o.cell? ⟨l+1,1,none⟩=some (.func (.func (Bg k)) #[] #[]):=n.o.c1;have aa:o.cell? ⟨l+1,2,none⟩=some (.func (.func (Bh k)) #[] #[]):=n.o.c2;have ab:o.cell? ⟨l+1,3,none⟩=some (.func (.func (AR k)) #[] #[]):=n.o.c3;have ad:o.cell? ⟨l+1,4,none⟩=some (.func (.func (AW k)) #[] #[]):=n.o.c4;have ae:o.cell? ⟨l+1,5,none⟩=some (.func (.func (Bo k)) #[] #[]):=n.o.c5;go_region_held3 (λj=>Ao j l 0 20=.agg c.cells.toArray/\Ay j l 0 20=true/\j.cell? ⟨l+1,0,none⟩=some (.func (.func (Bu k)) #[] #[])/\j.cell? ⟨l+1,1,none⟩=some (.func (.func (Bg k)) #[] #[])/\j.cell? ⟨l+1,2,none⟩=some (.func (.func (Bh k)) #[] #[])/\j.cell? ⟨l+1,3,none⟩=some (.func (.func (AR k)) #[] #[])/\j.cell? ⟨l+1,4,none⟩=some (.func (.func (AW k)) #[] #[])/\j.cell? ⟨l+1,5,none⟩=some (.func (.func (Bo k)) #[] #[]))
  (first | (simp[*,A5,A6,BC,BD,World.cell?_alloc_some];done) | (go_split_ands;exact⟨(Cb m (λh=>h) (by have:=h.size;simp at this;omega)).1.trans (by assumption),(Cb m (λh=>h) (by have:=h.size;simp at this;omega)).2.trans (by assumption),m.cell (by assumption) (λh=>h),m.cell (by assumption) (λh=>h),m.cell (by assumption) (λh=>h),m.cell (by assumption) (λh=>h),m.cell (by assumption) (λh=>h),m.cell (by assumption) (λh=>h)⟩) | (go_split_ands;exact⟨(Cb h (λh=>h) (by simpa using I)).1.trans (by assumption),(Cb h (λh=>h) (by simpa using I)).2.trans (by assumption),h.cell (by assumption) (λh=>h),h.cell (by assumption) (λh=>h),h.cell (by assumption) (λh=>h),h.cell (by assumption) (λh=>h),h.cell (by assumption) (λh=>h),h.cell (by assumption) (λh=>h)⟩))
  (first | (go_at_call 65;refine(new_any _).mono ?_;rintro u r ⟨rfl,S,m,B⟩) | (refine(X0 c k _ q E O.o N.o).mono ?_;rintro u e ⟨L,rfl,P,A,h⟩))
 go_wp2;go_ret;have H:lO w e:=(C.o.drew).then h;have V:=H.size;have F:∀t,lO r (r.alloc t):=λt=>(aA.refl (λ_=>False) r).alloc t;have x:=M.o;have R:=A.still m;have B:r.heap.size=e.heap.size+1:=B;refine⟨⟨e.heap.size+1,e.heap.size,none,L⟩,rfl,⟨aD.newAt B (D1 ⟨e.heap.size+1,e.heap.size,none,L⟩ (AQ id c k)) 98,S.keeps (F _) (λh=>h) (λ_ _ a=>a),R.still (F _),?_,?_,λi d=>⟨?_,?_,?_⟩⟩,?_,(H.then m).alloc _⟩
 ·show e.heap.size+1≠e.heap.size;omega
 ·intro g z;cases z
 ·have:=A.lt i d;show i≠e.heap.size+1;omega
 ·have:=A.lt i d;show i≠e.heap.size;omega
 ·intro z;cases z
 intro i d;rcases d with d | d | d | d
 ·have:i=e.heap.size+1:=d;omega
 ·have:i=e.heap.size:=d;omega
 ·cases d
 have q:=P i d;rw[kP]at q;omega
end
section
attribute [local go_sem ↓] AN B2
attribute [local go_sem] AO B4 A5 A6 AI AJ BC BD Bf B3
structure aO where
 kind:Int
 id:Int
 a:Int
 b:Int
 c:Int
 cfg:Cfg
 bytes:ByteArray
def aO.cells(o:aO): List Value:=.int .i64 o.kind::.int .i64 o.id::.int .i64 o.a::.int .i64 o.b::.int .i64 o.c::o.cfg.eD [.string o.bytes]
def aO.val(o:aO): Value:=.agg o.cells.toArray
def Ai: ByteArray:=⟨#[]⟩
def Av(code:Int)(v:Value): Value:=.agg #[.int .i64 code,v,.string Ai]
def Hd(code:Int)(v:Value)(bs:ByteArray): Value:=.agg #[.int .i64 code,v,.string bs]
theorem Ik(w:World)(b:Nat)(x y c:Value): aA (λa=>a=b) w (((w.setCell ⟨b,0,none⟩ x).setCell ⟨b,1,none⟩ y).setCell ⟨b,2,none⟩ c):=(((aA.refl (λa=>a=b) w).setCell (p:=⟨b,0,none⟩) (Or.inl rfl) _).setCell (p:=⟨b,1,none⟩) (Or.inl rfl) _).setCell (p:=⟨b,2,none⟩) (Or.inl rfl) _
theorem C5(w:World)(cs:List Value): ∃a,a=(w.alloc (.cells cs.toArray 48)).alloc (.cells #[.int .i64 0,.slice none 0 0,.string ⟨#[]⟩] 39)/\Hid (lO w a)/\Hid (aD a w.heap.size cs 48)/\Hid (aD a (w.heap.size+1) [.int .i64 0,.slice none 0 0,.string Ai] 39) :=
 ⟨_,rfl,((aA.refl (λ_=>False) w).alloc _).alloc _,(aD.new w cs 48).alloc _,aD.newAt (by simp) [_,_,_] 39⟩
theorem Qk{fn:Func}{R:Ending->World->Prop}{a:Act}{e:World}{c:Nat}{x y m nv:Value}{code:Int}{bs:ByteArray}{T:TypeId}(h:aD e c [x,y,m] T)(k:∀d,aD d c [.int .i64 code,nv,.string bs] T->(results fn a.tmps).run prog d=.ok (Hd code nv bs) d)(j:a.defers=[])(i:∀d,aA (λl=>l=c) e d->R (.returned (Hd code nv bs)) d):
  bodyPost prog fn R .ret a (((e.setCell ⟨c,0,none⟩ (.int .i64 code)).setCell ⟨c,1,none⟩ nv).setCell ⟨c,2,none⟩ (.string bs)) :=
 iN (k _ (((h.setCell 0 _).setCell 1 _).setCell 2 _)) j (i _ (Ik _ _ _ _ _))
theorem CZ{fn:Func}{R:Ending->World->Prop}{a:Act}{e:World}{c:Nat}{x y m nv:Value}{code:Int}{T:TypeId}(h:aD e c [x,y,m] T)(k:∀d,aD d c [.int .i64 code,nv,.string Ai] T->(results fn a.tmps).run prog d=.ok (Av code nv) d)(j:a.defers=[])(i:∀d,aA (λl=>l=c) e d->R (.returned (Av code nv)) d):
  bodyPost prog fn R .ret a (((e.setCell ⟨c,0,none⟩ (.int .i64 code)).setCell ⟨c,1,none⟩ nv).setCell ⟨c,2,none⟩ (.string Ai)):=Qk h k j i
theorem E9(code:Int)(w:World):
  Calls prog 27 #[.int .i64 code] w λa c=>a=.returned (Av code (.slice none 0 0))/\lO w c:=by
 go_enter func27,ntmps27;go_wp2;refine iN (v:=Av code (.slice none 0 0)) (by simp[results,results27,go_sem,Av];rfl) rfl ⟨rfl,?_⟩
 repeat (first | exact aA.refl _ _ | apply aA.alloc)
def AV(ps:List (SB×aI)): List Value:=ps.map λp=>.pointer (some ⟨p.1.s,0,none⟩)
structure aX (w:World) (e:Nat) (v:Value) (clock:Int) (ps:List (SB×aI)):Prop where
 aF:aD w e [.int .i64 clock,v] 53
 row:w.ownsRow 0 66 1 v ps.length (AV ps)
 bM:∀p,p∈ps->bJ w p.1 p.2
 apart:ps.Pairwise (λp q=>∀i,p.1.aQ p.2.k i->¬q.1.aQ q.2.k i)
 ev:v.ownBlock≠some e
 ef:∀p,p∈ps->∀i,p.1.aQ p.2.k i->i≠e/\v.ownBlock≠some i
def aN(e:Nat)(v:Value)(ps:List (SB×aI))(i:Nat): Prop:=i=e\/v.ownBlock=some i\/∃p,p∈ps/\p.1.aQ p.2.k i
theorem Mj{w:World}{v:Value}{n:Nat}{j:List Value}(i:w.ownsRow 0 66 1 v n j): (n=0/\(v=.slice none 0 0\/∃g a,v=.slice (some ⟨g,0,none⟩) 0 a))\/∃g a,v=.slice (some ⟨g,0,none⟩) n a/\∀d e,j[d]?=some e->w.cell? ⟨g,d,none⟩=some e:=by
 rcases i.2 with ⟨h,l⟩ | ⟨g,a,k,h,_,m,q,r,s,o⟩
 ·exact .inl ⟨l,.inl h⟩
 refine .inr ⟨g,a,h,λd e c=>?_⟩;have t:d<n:=by have:=(ik.1 c).1;have:=i.1;omega
 have:k[d]?=some e:=by
  rw[<-o]at c;rw[iV]at c;rw[h9 (by omega)]at c;simpa using c
 simp[World.cell?,m,this]
def Cf(ps:List (SB×aI))(id:Int): Option (SB×aI):=ps.find? (λp=>p.2.id==id)
def EB: Option (SB×aI)->Value
 | some p=>.pointer (some ⟨p.1.s,0,none⟩)
 | none=>.pointer none
theorem EM(e:Nat)(v:Value)(clock id:Int)(ps:List (SB×aI))(w:World)(i:aX w e v clock ps)(I:ps.length<=1000):
  Calls prog 35 #[.pointer (some ⟨e,0,none⟩),.int .i64 id] w λA B=>A=.returned (EB (Cf ps id))/\B=w:=by
 have C:=i.aF.c1;rcases Mj i.row with ⟨q,d⟩ | ⟨g,x,d,r⟩
 ·have z:ps=[]:=iL.1 q;subst z;clear i q;rcases d with d | ⟨g,x,d⟩;all_goals
   subst d;go_enter func35,ntmps35;go_wp2;go_loop [12] (λj=>j=.int .i64 0) (λ_=>0)
   case atStart=>rfl
   case round =>
    subst hrel;go_wp2;go_ret;exact⟨rfl,rfl⟩
 subst d;have t:=Aa r;have u:=Aa (show ∀p,p∈ps->w.cell? ⟨p.1.s,0,none⟩=some (.int .i64 p.2.id) from λp c=>(i.bM p c).aF.cell rfl);clear i r;generalize s:ps.length=m at *
 have k:=Aa s;clear s;go_enter func35,ntmps35;go_wp2;go_loop [12] (λj=>∃a:Nat,a<=m/\j=.int .i64 a/\Hid (Cf ps id=Cf (ps.drop a) id)) (λj=>m-(intOf j).toNat)
 case atStart=>exact⟨0,iM _,rfl,rfl⟩
 case round =>
  obtain⟨a,F,rfl,n⟩:=hrel;by_cases o:a<m
  ·obtain⟨p,c⟩:∃p,ps[a]?=some p:=⟨ps[a]'(by rw[k.o];exact o),hX _⟩;have l:ps.drop a=p::ps.drop (a+1):=by
    rw[List.drop_eq_getElem_cons (by rw[k.o];exact o)];rw[hX (by rw[k.o];exact o)]at c;cases c;rfl
   have D:w.cell? ⟨g,a,none⟩=some (.pointer (some ⟨p.1.s,0,none⟩)):=t.o a _ (by unfold AV;rw[iP,c];rfl);have E:=u.o p (iu c);have G:(0:Int)<=(a:Int):=by omega
   have H:(a:Int)<(m:Int):=by omega
   cases hb:(p.2.id==id)
   ·have h:=Aa (show Cf ps id=Cf (ps.drop (a+1)) id by rw[n.o,l];unfold Cf;rw[kI];rw[hb]);clear l c;go_wp2;go_round;case rel=>exact⟨a+1,by omega,by go_num,h⟩
    case measure=>simp[intOf];omega
   have h:=Aa (show Cf ps id=some p by rw[n.o,l];unfold Cf;rw[kI];rw[hb]);clear l c;go_wp2;go_ret;exact⟨by rw[h.o];rfl,rfl⟩
  have h:=Aa (show Cf ps id=none by rw[n.o,iU (by rw[k.o];omega)];rfl);go_wp2;go_ret;exact⟨by rw[h.o];rfl,rfl⟩
theorem aX.lt{w:World}{e:Nat}{v:Value}{clock:Int}{ps:List (SB×aI)}(a:aX w e v clock ps)(i:Nat)(hi:aN e v ps i): i<w.heap.size:=by
 rcases hi with hi | hi | ⟨p,c,hi⟩
 ·subst hi;exact a.aF.lt
 ·exact(a.row.lt i hi).2
 exact(a.bM p c).lt i hi
theorem A2{M:Nat->Prop}{w w':World}{base:Nat}{t size:Nat}{v:Value}{n:Nat}{e:List Value}(a:w.ownsRow base t size v n e)(l:aA M w w')(m:∀d,v.ownBlock=some d->¬M d): w'.ownsRow base t size v n e:=by
 refine⟨a.1,?_⟩;rcases a.2 with j | ⟨g,h,i,rfl,k,c,o⟩
 ·exact .inl j
 exact .inr ⟨g,h,i,rfl,k,by rw[l.block g (jr.1 c).1 (m g rfl)];exact c,o⟩
theorem FG{w:World}{base a:Nat}{t size:Nat}{v:Value}{n:Nat}{d:List Value}(c:w.ownsRow base t size v n d)(j:a<=base): w.ownsRow a t size v n d:=by
 refine⟨c.1,?_⟩;rcases c.2 with i | ⟨g,e,h,rfl,k,l⟩
 ·exact .inl i
 exact .inr ⟨g,e,h,rfl,jI j k,l⟩
theorem aX.keeps{M:Nat->Prop}{w w':World}{e:Nat}{v:Value}{clock:Int}{ps:List (SB×aI)}(a:aX w e v clock ps)(h:aA M w w')(i:∀c,aN e v ps c->¬M c): aX w' e v clock ps :=
 ⟨a.aF.keeps h (i _ (.inl rfl)),A2 a.row h (λc d=>i c (.inr (.inl d))),λp j=>(a.bM p j).keeps h (λc d=>i c (.inr (.inr ⟨p,j,d⟩))),a.apart,a.ev,a.ef⟩
theorem aX.still{w w':World}{e:Nat}{v:Value}{clock:Int}{ps:List (SB×aI)}(a:aX w e v clock ps)(c:lO w w'): aX w' e v clock ps:=a.keeps c (λ_ _ a=>a)
def aS(w:World)(e:Nat)(v:Value)(ps:List (SB×aI))(aV:Int)(xs':List aI)(code:Int)(aL:List Int)(r:Ending)(w':World): Prop :=
 ∃nv v' ps',r=.returned (Av code nv)/\aX w' e v' aV ps'/\ps'.map (·.2)=xs'/\w'.ownsRow w.heap.size 3 1 nv aL.length (ints aL)/\aA (aN e v ps) w w' /\
  (∀i,aN e v' ps' i->aN e v ps i\/w.heap.size<=i)/\(∀i,nv.ownBlock=some i->¬aN e v' ps' i)
def Kc(w:World)(e:Nat)(v:Value)(ps:List (SB×aI))(aV:Int)(xs':List aI)(code:Int)(aL:List Int)(bs:ByteArray)(r:Ending)(w':World): Prop :=
 ∃nv v' ps',r=.returned (Hd code nv bs)/\aX w' e v' aV ps'/\ps'.map (·.2)=xs'/\w'.ownsRow w.heap.size 3 1 nv aL.length (ints aL)/\aA (aN e v ps) w w' /\
  (∀i,aN e v' ps' i->aN e v ps i\/w.heap.size<=i)/\(∀i,nv.ownBlock=some i->¬aN e v' ps' i)
theorem aS.b{w:World}{e:Nat}{v:Value}{ps:List (SB×aI)}{aV:Int}{c:List aI}{code:Int}{aL:List Int}{a:Ending}{w':World}(d:aS w e v ps aV c code aL a w'): Kc w e v ps aV c code aL Ai a w':=d
theorem Et{w w':World}{e:Nat}{v:Value}{clock:Int}{ps:List (SB×aI)}{code:Int}{aL:List Int}{nv:Value}(a:aX w e v clock ps)(h:lO w w')(i:w'.ownsRow w.heap.size 3 1 nv aL.length (ints aL)):
  aS w e v ps clock (ps.map (·.2)) code aL (.returned (Av code nv)) w':=by
 refine⟨nv,v,ps,rfl,a.still h,rfl,i,h.mono (λ_ _ a=>a.elim),λd c=>.inl c,λd c j=>?_⟩;have k:=a.lt d j;have l:=(i.lt d c).1;omega
structure bQ (n:Int) (clock:Int) (xs:List aI):Prop where
 c0:0<=clock
 c1:clock<=4611686018427387904
 bX:xs.length<=6
 bD:∀x,x∈xs->aT n x
 marks:∀x,x∈xs->x.last=0\/x.last<=clock-x.c.aK
theorem YL(n:Int)(e:Nat)(v:Value)(clock:Int)(ps:List (SB×aI))(o:aO)(w:World)(a:aX w e v clock ps)(hi:bQ n clock (ps.map (·.2)))(q:Cf ps o.id=none):
  Calls prog 24 #[.pointer (some ⟨e,0,none⟩),o.val] w λj H=>aS w e v ps clock (ps.map (·.2)) 2 [] j H:=by
 have J:o.cells[1]?=some (.int .i64 o.id):=rfl;have k:=Aa a;have G:ps.length<=1000:=by have:=hi.bX;rw[im]at this;omega
 have A:=Aa q;clear a hi q;unfold aO.val;go_enter func24,ntmps24;go_wp2_with fail
 obtain⟨t,r,l,I,E⟩:=C5 w o.cells;have z:=Aa (k.o.still l.o);rw[<-r];clear r;generalize h:w.heap.size=N at *
 have D:=Aa h;clear h;refine(EM e v clock o.id ps t z.o G).mono ?_;rintro j u ⟨rfl,s⟩;rw[s];clear s u;rw[A.o];unfold EB;go_wp2_with fail
 refine(E9 2 t).mono ?_;rintro j u ⟨rfl,c⟩;unfold Av;have m:=Aa (E.o.keeps c id);have B:=Aa (l.o.then c);clear c;obtain⟨O,P,Q,R⟩:=m.o.three;go_wp2;refine CZ m.o (λx i=>by simp[results,results24,go_sem,i.c0,i.c1,i.c2,Av]) rfl (λx d=>?_);have C:=Aa d;have d:=C.o;have h:=D.o;have F:lO w x:=B.o.trans d (λM hi L=>by omega);exact Et k.o F (ir _ _ _ _)
theorem X1(n:Int)(e:Nat)(v:Value)(clock:Int)(ps:List (SB×aI))(o:aO)(w:World)(a:aX w e v clock ps)(hi:bQ n clock (ps.map (·.2)))(p:SB×aI)(i:Cf ps o.id=some p):
  Calls prog 24 #[.pointer (some ⟨e,0,none⟩),o.val] w λm R=>aS w e v ps clock (ps.map (·.2)) 0 (BJ p.2) m R:=by
 have z:p∈ps:=iW i;have t:=Aa z;clear z;have U:o.cells[1]?=some (.int .i64 o.id):=rfl;have r:=Aa a;have H:=Aa hi;have P:ps.length<=1000:=by have:=hi.bX;rw[im]at this;omega
 have G:=Aa i;clear a hi i;unfold aO.val;go_enter func24,ntmps24;go_wp2_with fail
 obtain⟨q,B,h,S,u⟩:=C5 w o.cells;have s:=Aa (r.o.still h.o);rw[<-B];clear B;generalize k:w.heap.size=Q at *
 have L:=Aa k;clear k;have Y:Q+1<q.heap.size:=u.o.lt;refine(EM e v clock o.id ps q s.o P).mono ?_;rintro m E ⟨rfl,C⟩;rw[C];clear C E;rw[G.o];unfold EB;go_wp2_with fail
 refine(Tg n p.1 p.2 q (s.o.bM p t.o) (H.o.bD p.2 (iF t.o))).mono ?_;rintro m E ⟨Z,rfl,d,j⟩;obtain⟨g,T,A,V,W⟩:=d.form (by omega);rw[A]at d ⊢;have M:=Aa d;have x:=Aa (u.o.keeps j id);have I:=Aa (h.o.then j);have N:=Aa (h.o.size);clear j d A;obtain⟨aa,ab,ad,ae⟩:=x.o.three;go_wp2;refine CZ x.o (λF l=>by simp[results,results24,go_sem,l.c0,l.c1,l.c2,Av]) rfl (λF c=>?_);have J:=Aa c;have c:=J.o;have k:=L.o;have O:lO w F:=I.o.trans c (λD hi X=>by omega);exact Et r.o O (A2 (FG M.o N.o) c (λD hi a=>(by have:g=D:=(by simpa[Value.ownBlock] using hi);omega)))
theorem VR(n:Int)(e:Nat)(v:Value)(clock:Int)(ps:List (SB×aI))(o:aO)(w:World)(a:aX w e v clock ps)(hi:bQ n clock (ps.map (·.2)))(q:Cf ps o.id=none):
  Calls prog 23 #[.pointer (some ⟨e,0,none⟩),o.val] w λj H=>aS w e v ps clock (ps.map (·.2)) 2 [] j H:=by
 have J:o.cells[1]?=some (.int .i64 o.id):=rfl;have k:=Aa a;have G:ps.length<=1000:=by have:=hi.bX;rw[im]at this;omega
 have A:=Aa q;clear a hi q;unfold aO.val;go_enter func23,ntmps23;go_wp2_with fail
 obtain⟨t,r,l,I,E⟩:=C5 w o.cells;have z:=Aa (k.o.still l.o);rw[<-r];clear r;generalize h:w.heap.size=N at *
 have D:=Aa h;clear h;refine(EM e v clock o.id ps t z.o G).mono ?_;rintro j u ⟨rfl,s⟩;rw[s];clear s u;rw[A.o];unfold EB;go_wp2_with fail
 refine(E9 2 t).mono ?_;rintro j u ⟨rfl,c⟩;unfold Av;have m:=Aa (E.o.keeps c id);have B:=Aa (l.o.then c);clear c;obtain⟨O,P,Q,R⟩:=m.o.three;go_wp2;refine CZ m.o (λx i=>by simp[results,results23,go_sem,i.c0,i.c1,i.c2,Av]) rfl (λx d=>?_);have C:=Aa d;have d:=C.o;have h:=D.o;have F:lO w x:=B.o.trans d (λM hi L=>by omega);exact Et k.o F (ir _ _ _ _)
theorem XM(k:Nat)(c:Cfg)(d:aU)(a m:Int): (AY k c d a m).1=0\/(AY k c d a m).2=[]:=by
 unfold AY FT
 repeat (first | exact .inl rfl | exact .inr rfl | split)
theorem Vz(n:Int)(e:Nat)(v:Value)(clock:Int)(ps:List (SB×aI))(o:aO)(w:World)(a:aX w e v clock ps)(hi:bQ n clock (ps.map (·.2)))(a2:n<=4611686018427387904)(p:SB×aI)(F:Cf ps o.id=some p):
  Calls prog 23 #[.pointer (some ⟨e,0,none⟩),o.val] w λL i=>aS w e v ps clock (ps.map (·.2)) (AY p.2.k p.2.c p.2.nt o.a (clock-p.2.c.aK)).1 (AY p.2.k p.2.c p.2.nt o.a (clock-p.2.c.aK)).2 L i:=by
 have V:p∈ps:=iW F;have N:=Aa V;clear V;have l:o.cells[1]?=some (.int .i64 o.id):=rfl;have A:=Aa a;have B:=Aa hi;have ao:ps.length<=1000:=by have:=hi.bX;rw[im]at this;omega
 have ad:=Aa F;clear a hi F;unfold aO.val;go_enter func23,ntmps23;go_wp2_with fail
 obtain⟨k,Y,s,Q,E⟩:=C5 w o.cells;have r:=Aa (A.o.still s.o);rw[<-Y];clear Y;generalize z:w.heap.size=aa at *
 have R:=Aa z;clear z;have a4:aa+1<k.heap.size:=E.o.lt;refine(EM e v clock o.id ps k r.o ao).mono ?_;rintro L m ⟨rfl,Z⟩;rw[Z];clear Z m;rw[ad.o];unfold EB;have u:=Aa (r.o.bM p N.o);have c:=Aa (B.o.bD p.2 (iF N.o));obtain⟨au,av,a7,a8,a5,a6⟩:=c.o.common;have ah:=B.o.c0;have ai:=B.o.c1;have am:k.cell? ⟨p.1.s,28,none⟩=some (.func (.func (Io p.2.k)) (En p.1.n.d) #[]):=u.o.aF.cell rfl;have al:=u.o.aF.c2;have an:=r.o.aF.c0;have aq:=Q.o.c2;have ar:=zLi p.2.k c.o.k1 c.o.k5;have ag:=Aa (show p.2.rel<=4611686018427387904 by have l:=c.o.dD;have ak:=c.o.dG;omega);go_wp2_with fail
 go_region_held3 (λi=>i.cell? ⟨p.1.s,28,none⟩=some (.func (.func (Io p.2.k)) (En p.1.n.d) #[])/\i.cell? ⟨p.1.s,2,none⟩=some (.int .i64 p.2.c.aK)/\i.cell? ⟨e,0,none⟩=some (.int .i64 clock)/\i.cell? ⟨aa,2,none⟩=some (.int .i64 o.a))
  (first | (simp[*];done) | (go_split_ands;exact⟨j.cell (by assumption) id,j.cell (by assumption) id,j.cell (by assumption) id,j.cell (by assumption) id⟩))
  (first | (go_at_call 43;refine(Gt p.1.s p.2.c.aK clock _ (by go_keep) au av ah ai).mono ?_;rintro e i ⟨rfl,rfl⟩) | (refine(zM9 (rel:=p.2.rel) (last:=p.2.last) p.2.k p.1.n p.2.c p.2.nt o.a (clock-p.2.c.aK) _ _ (by first | rfl | simp) (by exact u.o.note.still (aA.refl _ _).drew) c.o.note ag.o c.o.dP c.o.valid c.o.kind c.o.k1 c.o.k5 (by omega) (by omega)).mono ?_;rintro e m ⟨ax,aw,aj,rfl,X,j⟩))
 have G:lO k m:=((aA.refl (λ_=>False) k).drew).then j;have t:=Aa (E.o.keeps G id);have C:=Aa (s.o.then G);have T:=Aa (s.o.size);have P:=Aa (show KJ m k.heap.size (.slice ax aw aj) (AY p.2.k p.2.c p.2.nt o.a (clock-p.2.c.aK)).2 from X);have ab:=Aa (XM p.2.k p.2.c p.2.nt o.a (clock-p.2.c.aK));clear am al an aq E s r Q u j X G ar;generalize W:(AY p.2.k p.2.c p.2.nt o.a (clock-p.2.c.aK)).2=aL at *
 generalize U:(AY p.2.k p.2.c p.2.nt o.a (clock-p.2.c.aK)).1=code at *
 have O:=Aa W;have M:=Aa U;clear W U;by_cases x:code=0
 ·subst x;obtain⟨ay,az,a0,a1⟩:=t.o.three;go_wp2;refine CZ t.o (λq h=>by simp[results,results23,go_sem,h.c0,h.c1,h.c2,Av]) rfl (λq d=>?_);have D:=Aa d;have d:=D.o;have z:=R.o;have I:lO w q:=C.o.trans d (λJ hi ap=>by omega);rw[O.o,M.o]
  exact Et A.o I (FG (A2 P.o d (λJ hi a=>by
         rcases P.o.2 with ⟨l,_⟩ | ⟨g,_,_,l,ak,_⟩
         ·rw[l]at hi;cases hi
         rw[l]at hi;have:g=J:=by simpa[Value.ownBlock] using hi
         have:=T.o
         omega)) (by have:=T.o;omega))
 have a3:(code !=0)=true:=by simpa using x
 have af:=Aa (show aL=[] from ab.o.resolve_left x);clear x;go_wp2_with fail
 refine(E9 code m).mono ?_;rintro L a9 ⟨rfl,H⟩;unfold Av;have S:=Aa (t.o.keeps H id);have ae:=Aa (C.o.then H);clear H t C;obtain⟨ay,az,a0,a1⟩:=S.o.three;go_wp2;refine CZ S.o (λq h=>by simp[results,results23,go_sem,h.c0,h.c1,h.c2,Av]) rfl (λq d=>?_);have D:=Aa d;have d:=D.o;have z:=R.o;have I:lO w q:=ae.o.trans d (λJ hi ap=>by omega);rw[O.o,M.o,af.o];exact Et A.o I (ir _ _ _ _)
end
section
theorem NO(a b:List (SB×aI)): AV (a++b)=AV a++AV b:=by simp[AV]
theorem aX.one{w w':World}{e:Nat}{v:Value}{clock:Int}{j k:List (SB×aI)}{p:SB×aI}{m:SB}{x':aI}(i:aX w e v clock (j++p::k))(r:aA (p.1.aQ p.2.k) w w')(H:bJ w' m x')(B:x'.k=p.2.k)(t:p.1.next m p.2.k w.heap.size): aX w' e v clock (j++(m,x')::k):=by
 have s:p∈j++p::k:=by simp
 have q:=iY.1 i.apart;have x:=ji.1 q.2.1;have n:∀c,c∈j\/c∈k->c∈j++p::k/\∀d,c.1.aQ c.2.k d->¬p.1.aQ p.2.k d:=by
  intro c a;rcases a with a | a
  ·exact⟨by simp[a],λd h u=>q.2.2 c a p (by simp) d h u⟩
  exact⟨by simp[a],λd h u=>x.1 c a d u h⟩
 have z:∀c,c∈j\/c∈k->∀d,m.aQ x'.k d->¬c.1.aQ c.2.k d:=by
  intro c a d h A;obtain⟨E,C⟩:=n c a;rw[B]at h;rcases t.2 d h with l | l
  ·exact C d A l
  have:=(i.bM c E).lt d A;omega
 have G:w'.ownsRow 0 66 1 v (j++p::k).length (AV (j++p::k)):=A2 i.row r (λd h l=>(i.ef p s d l).2 h);have F:AV (j++(m,x')::k)=AV (j++p::k):=by
  simp only[AV,iy,iC];rw[t.1]
 refine⟨i.aF.keeps r (λl=>(i.ef p s e l).1 rfl),?_,?_,?_,i.ev,?_⟩
 ·rw[F,show(j++(m,x')::k).length=(j++p::k).length by simp];exact G
 ·intro c a;rcases ig.1 a with a | a
  ·exact(i.bM c (n c (.inl a)).1).keeps r (n c (.inl a)).2
  rcases iw.1 a with a | a
  ·subst a;exact H
  exact(i.bM c (n c (.inr a)).1).keeps r (n c (.inr a)).2
 ·refine iY.2 ⟨q.1,ji.2 ⟨λc a d h=>z c (.inr a) d h,x.2⟩,?_⟩;intro c a J o d h;rcases iw.1 o with o | o
  ·subst o;exact λl=>z c (.inl a) d l h
  exact q.2.2 c a J (by simp[o]) d h
 intro c a d h;rcases ig.1 a with a | a
 ·exact i.ef c (n c (.inl a)).1 d h
 rcases iw.1 a with a | a
 ·subst a;have D:m.aQ p.2.k d:=by rw[<-B];exact h
  rcases t.2 d D with l | l
  ·exact i.ef p s d l
  have L:=i.lt e (.inl rfl);refine⟨by omega,λI=>?_⟩;have:=i.lt d (.inr (.inl I));omega
 exact i.ef c (n c (.inr a)).1 d h
theorem aN.one{w:World}{e:Nat}{v:Value}{h j:List (SB×aI)}{p:SB×aI}{c:SB}{x':aI}(n:x'.k=p.2.k)(m:p.1.next c p.2.k w.heap.size)(i:Nat)(hi:aN e v (h++(c,x')::j) i):
  aN e v (h++p::j) i\/w.heap.size<=i:=by
 rcases hi with hi | hi | ⟨k,a,hi⟩
 ·exact .inl (.inl hi)
 ·exact .inl (.inr (.inl hi))
 rcases ig.1 a with a | a
 ·exact .inl (.inr (.inr ⟨k,by simp[a],hi⟩))
 rcases iw.1 a with a | a
 ·subst a;have l:c.aQ p.2.k i:=by rw[<-n];exact hi
  rcases m.2 i l with d | d
  ·exact .inl (.inr (.inr ⟨p,by simp,d⟩))
  exact .inr d
 exact .inl (.inr (.inr ⟨k,by simp[a],hi⟩))
def BB: List aI->Int->aI->List aI
 | [],_,_=>[]
 | x::r,id,y=>if x.id==id then y::r else x::BB r id y
def BX(xs:List aI)(id:Int): Option aI:=xs.find? (λx=>x.id==id)
theorem O5{ps:List (SB×aI)}{id:Int}{p:SB×aI}(e:Cf ps id=some p): ∃a c,ps=a++p::c/\∀y:aI,BB (ps.map (·.2)) id y=a.map (·.2)++y::c.map (·.2):=by
 obtain⟨l,a,c,h,i⟩:=List.find?_eq_some_iff_append.1 e;refine⟨a,c,h,λy=>?_⟩;subst h;clear e;induction a with
 | nil=>simp[BB,l]
 | cons d n m =>
  have j:(d.2.id==id)=false:=by simpa using i d (by simp)
  simp only[List.cons_append,iC,BB,j];rw[m (λb k=>i b (by simp[k]))];rfl
theorem TK(ps:List (SB×aI))(id:Int): BX (ps.map (·.2)) id=(Cf ps id).map (·.2):=by
 unfold BX Cf;induction ps with
 | nil=>rfl
 | cons a d c =>
  simp only[iC,kI];cases (a.2.id==id) with
  | true=>rfl
  | false=>exact c
def F7(a b:Int): Int:=if a<b then a else b
def cF(x:aI)(c:Nat): aI:={ x with ref:=x.ref.set c (F7 (Ac x.ref c+1) 4611686018427387904) }
theorem O1(b:SB)(x:aI)(c:Nat)(a:Int): (D1 b x).set (35+c) (.int .i64 a)=D1 b { x with ref:=x.ref.set c a }:=by
 have d:(D1 b x).set (35+c) (.int .i64 a)=.int .i64 x.id::x.c.eD (fn (Bu x.k)::fn (Bg x.k)::fn (Bh x.k)::fn (AR x.k)::fn (AW x.k)::fn (Bo x.k)::Ha x.k b.n.d::GZ x.k b.n.d::Hc x.k b.n.d::Hb x.k b.n.d::G0 x.k b.n.d::.pointer (some ⟨b.q,0,none⟩)::.int .i64 x.acc::.int .i64 x.rel::(x.ref.map (.int .i64 ·)).set c (.int .i64 a)):=by
  rw[kT];rfl
 rw[d];unfold D1;simp only;rw[kH]
theorem Zi{n:Int}{x:aI}(a:aT n x)(c:Nat)(e:(∀h,h∈x.ref->h<n)\/4611686018427387904<=n)(m:c<12): aT n (cF x c):=by
 have j:=a.bS;have i:Ac x.ref c∈x.ref:=by unfold Ac;rw[List.getD_eq_getElem?_getD,hX (by omega)];exact jc _
 refine⟨a.valid,a.kind,a.k1,a.k5,a.eJ,a.dG,a.dI,a.dD,by simp[cF,j],?_,a.cap,a.times,a.note,a.heap,a.dZ,a.dP,a.dV,a.fits⟩;intro h d;rcases js d with d | d
 ·exact a.cL h d
 subst d;have k:=a.cL _ i;unfold F7;rcases e with e | e
 ·have l:=e _ i;split <;> omega
 split <;> omega
theorem Je(x:aI)(clock:Int)(y:It): 0<=bO x clock y/\bO x clock y<=11:=by
 have a:0<=AL x.c x.k y/\AL x.c x.k y<=11:=by
  unfold AL Dp Ev E8
  repeat (first | omega | split)
 unfold bO
 repeat (first | omega | split)
