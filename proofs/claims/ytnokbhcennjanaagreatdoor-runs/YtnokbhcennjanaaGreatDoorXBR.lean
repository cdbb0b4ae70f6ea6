import Derived.Test.YtnokbhcennjanaaGreatDoorXBQ
open Go.RowKit Go.Proofs.Tryz
set_option maxRecDepth 100000
set_option maxHeartbeats 16000000
namespace Go.Proofs.YtnokbhcennjanaaGreatDoor
section
def sP(W:Nat)(p:Pa.Pn): Int:=Bm (CI W p.cs 0)
structure gU (c:Cfg) (R W:Nat) (m rel:Int) (ps:List Pa.Pn):Prop where
 len:(ps.length:Int)<=c.aM+1
 eF:ps.Pairwise (λa b=>a.no<b.no)
 gH:∀p,p∈ps->0<=p.no/\p.no<=m/Ag c
 hD:∀p,p∈ps->fG R W (sP W p) (sP W p) p.cs
 sum:Bm (ps.map (sP W))<=rel
def GU(s:Pa.Pn×List Pa.Pn)(p:Pa.Pn): Pa.Pn×List Pa.Pn:=(p,(A8 s.1 s.2 p.no).2)
def Ea(ps:List Pa.Pn): Pa.Pn×List Pa.Pn:=ps.foldl GU (Pa.pn0,[])
structure OL (w:World) (d q r:Nat) (og:Option Nat) (c:Cfg) (s:Pa.Pn×List Pa.Pn) (tl:List Nat) (og2:Option Nat) (wr:World):Prop where
 eO:cP wr d q og2 c s.1 s.2
 rd:aR wr r tl
 kp:aA (λi=>i=r\/i=d\/i=q\/og=some i) w wr
 fo:og2=og\/∃k,og2=some k/\w.heap.size<=k
 ap:d≠r/\q≠r/\og≠some r/\r<w.heap.size
theorem OL.g{w:World}{i l h:Nat}{k:Option Nat}{c:Cfg}{s:Pa.Pn×List Pa.Pn}{tl:List Nat}{e:Option Nat}{wr:World}(a:OL w i l h k c s tl e wr)(g:Nat)(d:e=some g): g≠h:=λj=>by
 rcases a.fo with f | ⟨n,f,m⟩
 ·exact a.ap.2.2.1 (by rw[<-f,d,j])
 rw[d]at f;have:=jA f;have:=a.ap.2.2.2;omega
theorem OL.still{w:World}{e j k:Nat}{h:Option Nat}{c:Cfg}{s:Pa.Pn×List Pa.Pn}{tl:List Nat}{i:Option Nat}{wr l:World}(a:OL w e j k h c s tl i wr)(d:lO wr l): OL w e j k h c s tl i l :=
 ⟨a.eO.still d,a.rd.keeps d id,a.kp.trans d (λ_ a _=>a.elim),a.fo,a.ap⟩
theorem OL.number{w:World}{i m d:Nat}{k:Option Nat}{c:Cfg}{s:Pa.Pn×List Pa.Pn}{n lo hi:Int}{tl:List Nat}{l:Option Nat}{wr:World}(a:OL w i m d k c s (enc n++tl) l wr)(v:0<=n)(n1:n<=9223372036854775807)(o:lo<=n)(q:n<=hi):
  Calls prog 77 #[.pointer (some ⟨d,0,none⟩),.int .i64 lo,.int .i64 hi] wr λj h=>j=.returned (.int .i64 n)/\OL w i m d k c s tl l h/\aA (λu=>u=d) wr h:=by
 refine(EJ d n lo hi tl wr a.rd v n1 o q).mono ?_;rintro j h ⟨rfl,t,e⟩;exact⟨rfl,⟨a.eO.keeps e a.ap.1 a.ap.2.1 (λg r=>a.g g r),t,a.kp.trans e (λ_ a _=>.inl a),a.fo,a.ap⟩,e⟩
theorem OL.turn{w:World}{h i m:Nat}{u:Option Nat}{c:Cfg}{s s2:Pa.Pn×List Pa.Pn}{tl:List Nat}{j k:Option Nat}{wr l:World}(d:OL w h i m u c s tl j wr)(v:aD l h (Be c s2.1 i) 233)(z:Pa.aH l h i k s2.2)(q:aA (λe=>e=h\/e=i\/j=some e) wr l)(r:k=j\/∃e,k=some e/\wr.heap.size<=e): OL w h i m u c s2 tl k l:=by
 have C:=d.kp.size;refine⟨⟨v,z,d.eO.dq,λg o=>?_⟩,d.rd.keeps q (λa=>?_),d.kp.trans q (λA x B=>?_),?_,d.ap⟩
 ·rcases r with f | ⟨e,f,t⟩
  ·exact d.eO.dg g (by rw[<-f,o])
  rw[o]at f;have:=jA f;have:=d.eO.aF.lt;omega
 ·rcases a with a | a | a
  ·exact d.ap.1 a.symm
  ·exact d.ap.2.1 a.symm
  exact d.g m a rfl
 ·rcases x with a | a | a
  ·exact .inr (.inl a)
  ·exact .inr (.inr (.inl a))
  rcases d.fo with f | ⟨e,f,t⟩
  ·exact .inr (.inr (.inr (by rw[<-f];exact a)))
  have n:j=some A:=a;rw[f]at n;have:=jA n;omega
 rcases r with f | ⟨e,f,t⟩
 ·rw[f];exact d.fo
 exact .inr ⟨e,f,by omega⟩
theorem OL.fill{w:World}{e k h:Nat}{n:Option Nat}{c:Cfg}{o p:Pa.Pn}{cl:List Pa.Pn}{tl r:List Nat}{q:Option Nat}{wr i:World}(d:OL w e k h n c (o,cl) tl q wr)(s:aD i e (Be c p k) 233)(u:aR i h r)(m:aA (λj=>j=h\/j=e) wr i): OL w e k h n c (p,cl) r q i:=by
 refine⟨⟨s,d.eO.row.keeps m (λa=>a.elim d.ap.2.1 (λa=>d.eO.dq a.symm)) (λg l a=>a.elim (d.g g l) (λa=>d.eO.dg g l a.symm)),d.eO.dq,d.eO.dg⟩,u,d.kp.trans m (λj t v=>?_),d.fo,d.ap⟩;rcases t with a | a
 ·exact .inl a
 exact .inr (.inl a)
theorem fG.up{R W:Nat}{a b s:Int}{cs:List Int}(c:fG R W a s cs)(d:s<=b): fG R W b s cs:=⟨c.nn,c.ze,c.row,c.s0,d⟩
theorem Xl{o p:Pa.Pn}{cl:List Pa.Pn}(a:o=Pa.pn0\/o.no<p.no): (A8 o cl p.no).1=Ct p.no:=by
 unfold A8;split
 ·rename_i c;rcases a with a | a
  ·rw[<-c,a];rfl
  omega
 rfl
theorem Gd(a:Int)(l:List Int): Bm (a::l)=a+Bm l:=rfl
theorem TW(d h i l R W:Nat)(j:Option Nat)(c:Cfg)(m acc rel:Int)(nv:Value)(ps:List Pa.Pn)(tl:List Nat)(w:World)(e:cP w d h j c Pa.pn0 [])(Y:aR w i (Ae ((ps.length:Int)::Cj c ps)++tl))(aj:aD w l (IU m acc rel nv) 177)(V:d≠i/\h≠i/\j≠some i)(F:l≠i/\l≠d/\l≠h/\j≠some l)(ai:gU c R W m rel ps)(ae:c.rows=(R:Int))(af:c.width=(W:Int))(I:c.paned)(Z:c.rowed)(b2:1<=Ag c)(ci:0<=m\/ps=[])(de:m<=4611686018427387904)(df:rel<=4611686018427387904)(cj:0<=rel):
  Calls prog 151 #[.pointer (some ⟨d,0,none⟩),.pointer (some ⟨i,0,none⟩),.pointer (some ⟨l,0,none⟩)] w λr v=>r=.returned (.tuple #[])/\∃B,OL w d h i j c (Ea ps) tl B v:=by
 have cb:=Y.aF.lt
 have ap:=Aa (show ∀v,aA (λa=>a=i\/a=d\/a=h\/j=some a) w v->v.cell? ⟨l,0,none⟩=some (.int .i64 m)/\v.cell? ⟨l,2,none⟩=some (.int .i64 rel) from λv a6=>by
    have bb:¬(l=i\/l=d\/l=h\/j=some l):=λr=>r.elim F.1 (λr=>r.elim F.2.1 (λr=>r.elim F.2.2.1 F.2.2.2))
    exact⟨(aj.keeps a6 bb).cell rfl,(aj.keeps a6 bb).cell rfl⟩)
 have bg:=Aa F.1;have au:=Aa (λbr b0 b1=>L9 d c br b0 b1 (by have:=I.w0;omega) I.w1 I.p0)
 have ax:=Aa (show OL w d h i j c (Pa.pn0,[]) (enc (ps.length:Int)++(Ae (Cj c ps)++tl)) j w by
    rw[BN,List.append_assoc]at Y
    exact⟨e,Y,aA.refl _ _,.inl rfl,⟨V.1,V.2.1,V.2.2,cb⟩⟩)
 have D:=Aa ai;obtain⟨z,ad⟩:∃z,ps.length=z:=⟨_,rfl⟩;have b3:=ai.len;rw[ad]at b3;have S:=Aa ad;have cr:=I.p1;have cq:=I.p0;have bp:1<=R:=by have:=Z.r0;omega
 have bq:R<=3:=by have:=Z.r1;omega
 have bs:W<=16:=by have:=Z.w1;omega
 have bk:=Aa ae;have bn:=Aa af;have bj:=Aa (show ∀p,FS c p=p.no::Ek R W p.cs from λp=>by unfold FS;rw[ae,af];rfl);obtain⟨cg,ch⟩:=ap.o w (aA.refl _ _);have c9:w.cell? ⟨d,9,none⟩=some (.int .i64 c.aM):=e.aF.cell (Cd c _ h 9 (by omega));have ck:IntKind.i64.wrap (c.aM+1)=c.aM+1:=by rw[ic];omega
 clear e Y aj ai V F ae af I Z ad;go_enter func151,ntmps151;go_wp2_with fail
 refine((show OL w d h i j c (Pa.pn0,[]) (enc (z:Int)++(Ae (Cj c ps)++tl)) j w by rw[<-S.o];exact ax.o).number (by omega) (by omega) (by omega) (by omega)).mono ?_;rintro r dg ⟨rfl,a7,_⟩;have aw:=Aa a7;clear a7 ax cg ch c9 ck;go_wp2_with fail
 go_loopw [6,7,21] (λbu b al wr=>∃(t N:Int) (a:Nat) (x:Pa.Pn×List Pa.Pn) (B:Option Nat),bu=.int .i64 t/\b=.int .i64 N/\al=.int .i64 (a:Int)/\a<=z/\0<=t/\t<=rel/\0<=N/\Hid (Bm ((ps.drop a).map (sP W))<=t)/\Hid (∀p,p∈ps.drop a->N<=p.no/\(x.1=Pa.pn0\/x.1.no<p.no))/\Hid ((ps.take a).foldl GU (Pa.pn0,[])=x)/\Hid (x.2.length<=a)/\Hid (OL w d h i j c x (Ae (Cj c (ps.drop a))++tl) B wr)) (λ_ _ al _=>z-(intOf al).toNat)
 case atStart=>exact⟨rel,0,0,(Pa.pn0,[]),j,rfl,rfl,rfl,iM _,cj,iG _,iG _,D.o.sum,λp H=>⟨(D.o.gH p H).1,.inl rfl⟩,rfl,il _,aw⟩
 case round =>
  clear aw;obtain⟨t,N,a,x,B,rfl,rfl,rfl,b4,db,dc,da,ay,ar,ab,bl,P⟩:=hrel;by_cases b5:a<z
  ·obtain⟨p,H⟩:∃p,ps[a]?=some p:=⟨_,hX (by rw[S.o];exact b5)⟩
   have O:=Aa (show ps.drop a=p::ps.drop (a+1) by
      have ba:=ik.1 H
      rw[List.drop_eq_getElem_cons ba.1,ba.2])
   have bm:=Aa (show(ps.take (a+1)).foldl GU (Pa.pn0,[])=GU x p by rw[jg,H,Option.toList_some,jP,ab.o];rfl);have L:=iu H;have a9:=ar.o p (by rw[O.o];simp);have ak:=D.o.gH p L;have am:0<=m:=by
    rcases ci with e | e
    ·exact e
    rw[e]at L;simp at L
   have aq:=Aa (D.o.hD p L)
   have az:=Aa (show sP W p+Bm ((ps.drop (a+1)).map (sP W))<=t by
      have e:=ay.o;rw[O.o,iC,Gd]at e
      exact e)
   have bi:=Aa (show ∀M:List Pa.Pn,(∀k,k∈M->k∈ps)->0<=Bm (M.map (sP W)) from λM=>by
      induction M with
      | nil=>intro _;exact iG _
      | cons k M cf=>intro A;rw[iC,Gd];have T:=cf (λy ce=>A y (by simp[ce]));have U:=(D.o.hD k (A k (by simp))).s0;omega)
   have cc:sP W p<=t:=by have T:=az.o;have U:=bi.o (ps.drop (a+1)) (λk A=>iB A);omega
   have cu:=aq.o.s0
   have C:=Aa (show OL w d h i j c x (enc p.no++(Ae (Ek R W p.cs)++(Ae (Cj c (ps.drop (a+1)))++tl))) B wr by
      have e:=P.o;rw[O.o]at e
      simpa only[Cj,ju,bj.o p,BN,By,List.append_assoc,List.cons_append] using e)
   have av:=Aa (show ∀k,k∈ps.drop (a+1)->p.no+1<=k.no/\(p=Pa.pn0\/p.no<k.no) by
      have T:=D.o.eF;rw[<-List.take_append_drop a ps]at T;have U:=(iY.1 T).2.1;rw[O.o]at U;intro k A;have:=(ji.1 U).1 k A
      exact⟨by omega,.inr this⟩)
   clear P H L ay ar ab;obtain⟨s,q⟩:=x;have co:q.length<=a:=bl.o;have cp:(a:Int)<(z:Int):=by omega
   obtain⟨bv,bx⟩:=ap.o wr C.o.kp;have c5:wr.cell? ⟨d,5,none⟩=some (.int .i64 c.aB):=C.o.eO.aF.cell (Cd c _ h 5 (by omega));have c9:wr.cell? ⟨d,9,none⟩=some (.int .i64 c.aM):=C.o.eO.aF.cell (Cd c _ h 9 (by omega));obtain⟨n,a3⟩:∃n,Ag c=n:=⟨_,rfl⟩;rw[a3]at b2 ak au;clear a3;obtain⟨u,G⟩:∃u,p.no=u:=⟨_,rfl⟩;rw[G]at a9 ak C av;obtain⟨b7,b8⟩:=a9;obtain⟨b9,ca⟩:=ak;have cd:m.tdiv n=m/n:=jl am;have cs:0<=m/n:=jK am (by omega);have ct:m/n<=m:=jN _ am;have cv:IntKind.i64.wrap (m.tdiv n)=m/n:=by rw[cd,ic];omega
   have cw:IntKind.i64.wrap (m/n)=m/n:=by rw[ic];omega
   have cn:¬n=0:=by omega
   have aa:=Aa (show ¬(l=i)/\¬(d=i) from⟨bg.o,C.o.ap.1⟩);go_wp2_with fail
   go_region_held3 (λv=>v.cell? ⟨l,0,none⟩=some (.int .i64 m)/\v.cell? ⟨d,5,none⟩=some (.int .i64 c.aB)/\v.cell? ⟨d,9,none⟩=some (.int .i64 c.aM))
    (first | (go_split_ands;exact⟨by assumption,by assumption,by assumption⟩) | (go_split_ands;exact⟨J.cell (by assumption) id,J.cell (by assumption) id,J.cell (by assumption) id⟩) | (go_split_ands;exact⟨X.cell (by assumption) aa.o.1,X.cell (by assumption) aa.o.2,X.cell (by assumption) aa.o.2⟩))
    (first | (go_at_call 193;refine(au.o _ (by first | assumption | simpa using c5) (by first | assumption | simpa using c9)).mono ?_;rintro r cm ⟨rfl,J⟩) | (go_at_call 77;refine((C.o.still (((aA.refl (λ_=>False) wr).drew).then J)).number (lo:=N) (hi:=m/n) b9 (by omega) b7 ca).mono ?_;rintro r bt ⟨rfl,a8,X⟩))
   have E:=Aa a8;clear a8 J X C bv bx c5 c9;have a0:=Aa (Xl (o:=s) (cl:=q) (p:=p) (by rw[G];exact b8));rw[G]at a0;go_wp2_with fail
   refine(Qh d h B c s q u bt E.o.eO.aF E.o.eO.row E.o.eO.dq E.o.eO.dg (by omega)).mono ?_;rintro r a1 ⟨rfl,an,ag,bd,a4,bc⟩;have Q:=Aa (E.o.turn (s2:=A8 s q u) ag bd a4 bc);have ao:=Aa (show aD a1 d (Be c (Ct u) h) 233 by rw[<-a0.o];exact ag);clear ag bd a4 bc E;have cy:IntKind.i64.wrap (t-sP W p)=t-sP W p:=by rw[ic];omega
   have cx:IntKind.i64.wrap (u+1)=u+1:=by rw[ic];omega
   go_wp2_with fail
   refine(Z4 d h i R W c u p.cs p.len t (sP W p) _ a1 ao.o Q.o.rd Q.o.ap.1 bk.o bn.o bp bq bs (aq.o.up cc) (by omega)).mono ?_;rintro r a2 ⟨rfl,ah,be,a5⟩
   have bh:=Aa (show OL w d h i j c (GU (s,q) p) (Ae (Cj c (ps.drop (a+1)))++tl) an a2 by
      have bz:(⟨u,p.cs,p.len⟩:Pa.Pn)=p:=by rw[<-G]
      rw[bz]at ah;show OL w d h i j c (p,(A8 s q p.no).2) _ an a2;rw[G]
      exact OL.fill (o:=(A8 s q u).1) Q.o ah be a5)
   clear ah be a5 Q ao;have bf:=Aa (show(GU (s,q) p).2.length<=a+1 by have:=P4 s q p.no;show(A8 s q p.no).2.length<=a+1;omega);go_wp2;go_roundw;case rel=>exact⟨t-sP W p,u+1,a+1,GU (s,q) p,an,rfl,rfl,by go_num,by omega,by omega,by omega,by omega,by have:=az.o;show _<=_;omega,(λk A=>by have:=av.o k A;exact⟨this.1,by show p=Pa.pn0\/p.no<k.no;rw[G];exact this.2⟩),bm,bf,bh⟩
   case measure=>simp[intOf];omega
  have b6:a=z:=by omega
  subst b6
  have bo:=Aa (show OL w d h i j c (Ea ps) tl B wr by
     have e:=P.o;rw[<-ab.o,show ps.take a=ps from by rw[<-S.o];exact kZ,show ps.drop a=[] from by rw[<-S.o];exact kE]at e
     exact e)
  clear P;go_wp2;go_end0;exact⟨rfl,B,bo.o⟩
end
section
attribute [local go_sem ↓] AN B2
attribute [local go_sem] AO B4 A5 A6 AI AJ BC BD Bf B3
theorem Ts{c:Cfg}(a:Ak c=true): 0<=c.aK/\c.aK<=100/\0<=c.bF/\c.bF<=100/\1<=c.cap/\c.cap<=8:=by
 simp only[Ak,B0,Ab,iK,iI]at a;omega
theorem Xv(b:SB)(x:aI)(y:It)(clock:Int)(w:World)(L:bJ w b x)(r:Ak x.c=true)(m:x.c.kind=x.k)(S:1<=x.k)(M:x.k<=5)(c0:0<=clock)(c1:clock<=4611686018427387904):
  Calls prog 38 #[.pointer (some ⟨b.s,0,none⟩),y.val,.int .i64 clock] w λe c=>e=.returned (.int .i64 (bO x clock y))/\lO w c:=by
 obtain⟨ai,aj,au,av,aq,ar⟩:=Ts r;have j:=L.aF.lt;have Q:=Aa L;have U:=Aa (show 4<=x.k->x.c.bH from λW=>FZ r m W M);have O:=Aa (show aD (w.alloc (.cells y.cells 80)) w.heap.size [.int .i64 y.t,.int .i64 y.k,.int .i64 y.d,.int .i64 y.n] 80 from aD.new w [_,_,_,_] 80);have D:=Aa ((aA.refl (λ_=>False) w).alloc (.cells y.cells 80));have d:=Aa (show bO x clock y=if Ab y.t 0 4611686018427387904 then(if y.t<=clock-x.c.aK then 6 else if clock+x.c.bF<y.t then 7 else if AL x.c x.k y≠0 then AL x.c x.k y else if x.c.cap<=x.l.length then 11 else if 4611686018427387904<=x.acc then 11 else 0) else 5 from rfl);clear L r m;unfold It.val;cases h1:Ab y.t 0 4611686018427387904
 ·go_enter func38,ntmps38;go_wp2_with (go_at_call 41;refine(Gm _ _).mono ?_;rintro e c ⟨rfl,rfl⟩)
  go_ret;exact⟨A9 (by rw[d.o,h1];rfl),D.o⟩
 obtain⟨ak,al⟩:=Bp h1;rw[h1,h9 rfl]at d;have ad:=Q.o.aF.c2;go_enter func38,ntmps38;go_wp2_with fail
 refine(Gm _ _).mono ?_;rintro e c ⟨rfl,rfl⟩;rw[h1];go_wp2_with fail
 go_region_held3 (λc=>c.cell? ⟨w.heap.size,0,none⟩=some (.int .i64 y.t)/\c.cell? ⟨b.s,2,none⟩=some (.int .i64 x.c.aK)) (go_keep)
  (first | (go_at_call 43;refine(Gt b.s x.c.aK clock _ (by go_keep) ai aj c0 c1).mono ?_;rintro e c ⟨rfl,rfl⟩))
 have k:=Aa (O.o.drew);have o:=Aa (D.o.drew);clear O D;have R:(w.alloc (.cells #[.int .i64 y.t,.int .i64 y.k,.int .i64 y.d,.int .i64 y.n] 80)).drew=(w.alloc (.cells y.cells 80)).drew:=rfl;rw[R];clear R;generalize(w.alloc (.cells y.cells 80)).drew=C at *
 generalize ab:w.heap.size=u at *
 have t:=Aa (Q.o.still o.o);clear ad j ab;have j:=t.o.aF.lt;have J:=k.o.lt;have E:=k.o.c0;have F:=k.o.c1;have G:=k.o.c2;have H:=k.o.c3;have af:=t.o.aF.c3;by_cases z:y.t<=clock-x.c.aK
 ·rw[h9 z]at d;go_wp2;go_ret;exact⟨A9 d.o.symm,o.o⟩
 rw[hZ z]at d;have X:decide (y.t<=clock-x.c.aK)=false:=by simpa using z
 go_wp2_with fail
 go_quiet (fail)
 by_cases A:clock+x.c.bF<y.t
 ·rw[h9 A]at d;go_wp2;go_ret;exact⟨A9 d.o.symm,o.o.then (aA.drewN _ _ _)⟩
 rw[hZ A]at d;have Y:decide (clock+x.c.bF<y.t)=false:=by simpa using A
 go_wp2_with fail
 have m:lO C (C.drewN nq):=aA.drewN (λ_=>False) C nq;have q:=Aa (t.o.still m);have n:=Aa (k.o.keeps m id);have P:=Aa (o.o.then m);clear m;generalize C.drewN nq=N at *
 clear t k o E F G H af j J z X A Y;have j:=q.o.aF.lt;have J:=n.o.lt;have E:=n.o.c0;have F:=n.o.c1;have G:=n.o.c2;have H:=n.o.c3;have ae:N.cell? ⟨b.s,24,none⟩=some (.func (.func (AR x.k)) #[] #[]):=q.o.aF.cell rfl;obtain⟨r,ag⟩:=Eg q.o.aF 1 20 x.c.cells rfl rfl;have ah:=On x.k S M
 go_region_held3 (λc=>c.cell? ⟨b.s,24,none⟩=some (.func (.func (AR x.k)) #[] #[])/\Ao c b.s 1 20=.agg x.c.cells.toArray/\Ay c b.s 1 20=true /\
     c.cell? ⟨u,0,none⟩=some (.int .i64 y.t)/\c.cell? ⟨u,1,none⟩=some (.int .i64 y.k)/\c.cell? ⟨u,2,none⟩=some (.int .i64 y.d)/\c.cell? ⟨u,3,none⟩=some (.int .i64 y.n))
  (first | (simp[*,A5,A6];done) | (go_split_ands;refine⟨h.cell (by assumption) id,(Cb h id (by simpa using j)).1.trans (by assumption),(Cb h id (by simpa using j)).2.trans (by assumption),h.cell (by assumption) id,h.cell (by assumption) id,h.cell (by assumption) id,h.cell (by assumption) id⟩))
  (first | (refine(LU x.c x.k y _ S M U.o ak al).mono ?_;rintro e c ⟨rfl,h⟩))
 have I:lO N c:=((aA.refl (λ_=>False) N).drew).then h;have l:=Aa (q.o.still I);have s:=Aa (P.o.then I);clear h I q n P E F G H ae r ag ah j J;have j:=l.o.aF.lt;generalize ap:AL x.c x.k y=e at *
 by_cases i:e=0
 ·have Z:(e !=0)=false:=by simp[i]
  rw[hZ (by simpa using i)]at d;have T:=Aa i;clear i;have am:c.cell? ⟨b.s,32,none⟩=some (.pointer (some ⟨b.q,0,none⟩)):=l.o.aF.cell rfl;have ao:=l.o.aF.c4;have an:c.cell? ⟨b.s,33,none⟩=some (.int .i64 x.acc):=l.o.aF.cell rfl;by_cases B:x.c.cap<=(x.l.length:Int)
  ·rw[h9 B]at d;have aa:decide (x.c.cap<=(x.l.length:Int))=true:=by simpa using B
   go_wp2_with fail
   go_quiet (first | (go_at_call 67;refine jv (len_any b.q b.g x.l _ (by exact l.o.dL.keeps (aA.drewN (λ_=>False) _ _) id (λ_ _ a=>a)))))
   go_wp2;go_ret;exact⟨A9 d.o.symm,s.o.then (aA.drewN _ _ _)⟩
  rw[hZ B]at d;have aa:decide (x.c.cap<=(x.l.length:Int))=false:=by simpa using B
  by_cases v:4611686018427387904<=x.acc
  ·rw[h9 v]at d;have V:decide (4611686018427387904<=x.acc)=true:=by simpa using v
   go_wp2_with fail
   go_quiet (first | (go_at_call 67;refine jv (len_any b.q b.g x.l _ (by exact l.o.dL.keeps (aA.drewN (λ_=>False) _ _) id (λ_ _ a=>a)))))
   go_wp2;go_ret;exact⟨A9 d.o.symm,s.o.then (aA.drewN _ _ _)⟩
  rw[hZ v]at d;have V:decide (4611686018427387904<=x.acc)=false:=by simpa using v
  go_wp2_with fail
  go_quiet (first | (go_at_call 67;refine jv (len_any b.q b.g x.l _ (by exact l.o.dL.keeps (aA.drewN (λ_=>False) _ _) id (λ_ _ a=>a)))))
  go_wp2;go_ret;exact⟨A9 d.o.symm,s.o.then (aA.drewN _ _ _)⟩
 have Z:(e !=0)=true:=by simp[i]
 rw[h9 (by simpa using i)]at d;have T:=Aa i;clear i;go_wp2;go_ret;exact⟨A9 d.o.symm,s.o⟩
end
section
def A7(k:Nat)(y:It): It:=match k with
 | 1=>⟨y.t,0,0,y.n⟩
 | 2=>⟨y.t,y.k,0,y.n⟩
 | 3=>⟨y.t,y.k,0,y.n⟩
 | 4=>⟨y.t,0,0,y.n⟩
 | _=>⟨y.t,y.k,y.d,y.n⟩
def Rr(y:It): List Value:=[.int .i64 y.t,.int .i64 y.k,.int .i64 y.d,.int .i64 y.n]
theorem Xu(k:Nat)(y:It)(c:1<=k)(d:k<=5): D6 [.int .i64 0,.int .i64 0,.int .i64 0,.int .i64 y.n] (CM k) ((CM k).map (λe=>[y.t,y.k,y.d].getD e 0))=Rr (A7 k y):=by
 rcases As c d with a | a | a | a | a <;> subst a <;> rfl
def Gx(l:List It)(y:It): List It:=riseL (l.length+1) (l++[y]) l.length
def Cn(k:Nat)(bC:List It): List It:=bC.foldl (λl y=>Gx l (A7 k y)) []
theorem WX(k:Nat)(bC:List It)(y:It): Cn k (bC++[y])=Gx (Cn k bC) (A7 k y):=by
 unfold Cn;rw[jP];rfl
theorem NT(k:Nat)(bC:List It): (Cn k bC).length=bC.length:=by
 have:∀(c:List It) (a:List It),(c.foldl (λa y=>Gx a (A7 k y)) a).length=a.length+c.length:=by
  intro c;induction c with
  | nil=>intro a;rfl
  | cons y c e=>intro a;rw[jT,e];unfold Gx;rw[riseL_length];simp;omega
 have d:=this bC [];simpa[Cn] using d
def Im(x:aI)(ck:Cfg)(bC:List It): aI:=⟨x.id,ck,x.k,0,x.rel,CF x.ref 7,Cn x.k bC,C8,0⟩
def Iy(k:Nat): List Value:=[.func (.func (Bu k)) #[] #[],.func (.func (Bg k)) #[] #[],.func (.func (Bh k)) #[] #[],.func (.func (AR k)) #[] #[],.func (.func (AW k)) #[] #[],.func (.func (Bo k)) #[] #[]]
structure eH (w:World) (r:Nat) (sb:SB) (x:aI) (ck:Cfg) (clock A:Int) (kn cb:Nat) (l:List It) (tl:List Nat) (ns:List Int) (og:Option Nat) (nv:Value) (wr:World):Prop where
 ls:eI w r { sb with g:=og } (Im x ck l) tl wr
 kr:dA wr kn (clock-ck.aK) A x.rel nv ns
 kd:aD wr (cb+1) (Iy x.k) 75
 ap:∀j,({ sb with g:=og }:SB).aQ x.k j->cb+1<j/\j≠kn/\nv.ownBlock≠some j
 rc:r<cb
 kc:cb+1<kn
 wk:w.heap.size<=kn
theorem eH.eN{w:World}{j:Nat}{k:SB}{x:aI}{ck:Cfg}{clock c:Int}{a d:Nat}{l:List It}{tl:List Nat}{ns:List Int}{h:Option Nat}{nv:Value}{wr:World}(e:eH w j k x ck clock c a d l tl ns h nv wr)(i:Nat)(hi:nv.ownBlock=some i): a+1<=i:=(e.kr.row.lt i hi).1
theorem eH.still{w:World}{j:Nat}{k:SB}{x:aI}{ck:Cfg}{clock d:Int}{h e:Nat}{l:List It}{tl:List Nat}{ns:List Int}{i:Option Nat}{nv:Value}{wr m:World}(a:eH w j k x ck clock d h e l tl ns i nv wr)(c:lO wr m): eH w j k x ck clock d h e l tl ns i nv m :=
 ⟨a.ls.still c,a.kr.keeps c id (λ_ _ a=>a),a.kd.keeps c id,a.ap,a.rc,a.kc,a.wk⟩
theorem eH.rd{w:World}{i:Nat}{n:SB}{x:aI}{ck:Cfg}{clock q:Int}{k j:Nat}{l:List It}{tl s:List Nat}{ns:List Int}{m:Option Nat}{nv:Value}{wr o:World}{bx:Nat}(c:eH w i n x ck clock q k j l tl ns m nv wr)(h:aA (λd=>d=i\/d=bx) wr o)(A:aR o i s)(t:∀r,({ n with g:=m }:SB).aQ x.k r->r≠bx)(v:k≠bx)(z:nv.ownBlock≠some bx)(u:j+1≠bx)(G:w.heap.size<=bx): eH w i n x ck clock q k j l s ns m nv o:=by
 have F:=c.ls.rl;have B:=c.rc;have C:=c.kc;have D:=c.wk;refine⟨⟨c.ls.cW.keeps h (λd e a=>?_),A,c.ls.kp.trans h (λd e E=>?_),c.ls.new,c.ls.rl⟩,c.kr.keeps h (λa=>?_) (λd e a=>?_),c.kd.keeps h (λa=>?_),c.ap,c.rc,c.kc,c.wk⟩
 ·rcases a with a | a
  ·exact c.ls.apart d e a
  exact t d e a
 ·rcases e with a | a
  ·exact a
  omega
 ·rcases a with a | a
  ·omega
  exact v a
 ·rcases a with a | a
  ·have:=c.eN d e;omega
  exact z (by rw[<-a];exact e)
 rcases a with a | a
 ·omega
 exact u a
theorem eH.num{w:World}{m:Nat}{t:SB}{x:aI}{ck:Cfg}{clock d n:Int}{k r:Nat}{l:List It}{tl:List Nat}{ns:List Int}{s:Option Nat}{nv:Value}{wr:World}(c:eH w m t x ck clock d k r l (enc n++tl) ns s nv wr)(n1:1<=n)(D:n<=d)(u:d<=4611686018427387904)(A:n ∉ ns)(z:ns.length<=900):
  Calls prog 127 #[.pointer (some ⟨k,0,none⟩),.pointer (some ⟨m,0,none⟩)] wr λa E=>a=.returned (.int .i64 n)/\∃q,eH w m t x ck clock d k r l tl (ns++[n]) s q E:=by
 have H:=c.rc;have F:=c.kc;have I:=c.wk;refine(N5 m k _ d x.rel n nv ns tl wr c.ls.rd c.kr (by omega) n1 D u A z).mono ?_;rintro a J ⟨rfl,C,⟨q,v,B⟩,o⟩;refine⟨rfl,q,⟨⟨c.ls.cW.keeps o (λh e a=>?_),C,c.ls.kp.trans o (λh e G=>?_),c.ls.new,c.ls.rl⟩,v,c.kd.keeps o (λa=>?_),λi j=>⟨(c.ap i j).1,(c.ap i j).2.1,λa=>?_⟩,c.rc,c.kc,c.wk⟩⟩
 ·rcases a with a | a | a
  ·exact c.ls.apart h e a
  ·exact(c.ap h e).2.1 a
  exact(c.ap h e).2.2 a
 ·rcases e with a | a | a
  ·exact a
  ·omega
  have:=c.eN h a;omega
 ·rcases a with a | a | a
  ·omega
  ·omega
  have:=c.eN _ a;omega
 rcases B i a with a | a
 ·exact(c.ap i j).2.2 a
 have:=c.ls.cW.lt i j;omega
theorem eH.put{w:World}{t:Nat}{j:SB}{x:aI}{ck:Cfg}{clock A:Int}{s B:Nat}{l:List It}{tl:List Nat}{ns:List Int}{q m:Option Nat}{nv:Value}{wr u:World}{y:It}(d:eH w t j x ck clock A s B l tl ns q nv wr)(H:bB u j.q m (Gx (Cn x.k l) (A7 x.k y)))(o:aA (λn=>n=j.q\/q=some n) wr u)(z:m=q\/∃n,m=some n/\wr.heap.size<=n): eH w t j x ck clock A s B (l++[y]) tl ns m nv u:=by
 have F:=d.ls.new;have h:=d.ls.cW;have L:=d.ls.kp.size;have r:∀c,(c=j.q\/q=some c)->({ j with g:=q }:SB).aQ x.k c:=λc e=>e.elim (λa=>.inr (.inl a)) (λa=>.inr (.inr (.inl a)));have D:∀k,({ j with g:=m }:SB).aQ x.k k->({ j with g:=q }:SB).aQ x.k k\/wr.heap.size<=k:=λk v=>by
  rcases v with a | a | a | a
  ·exact .inl (.inl a)
  ·exact .inl (.inr (.inl a))
  ·rcases z with g | ⟨n,g,G⟩
   ·exact .inl (.inr (.inr (.inl (g ▸ a))))
   have i:m=some k:=a;rw[g]at i;have:=jA i;exact .inr (by omega)
  exact .inl (.inr (.inr (.inr a)))
 refine⟨⟨⟨?_,?_,?_,h.sq,λg E=>?_,λc e=>⟨(h.sn c e).1,(h.sn c e).2.1,λa=>?_⟩⟩,d.ls.rd.keeps o (λa=>d.ls.apart t (r t a) rfl),d.ls.kp.trans o (λc e J=>?_),λc e=>?_,d.ls.rl⟩,d.kr.keeps o (λa=>(d.ap s (r s a)).2.1 rfl) (λc e a=>(d.ap c (r c a)).2.2 e),d.kd.keeps o (λa=>by have:=(d.ap _ (r _ a)).1;omega),λk v=>?_,d.rc,d.kc,d.wk⟩
 ·exact h.aF.keeps o (λa=>by
     rcases a with a | a
     ·exact h.sq a
     exact h.sg _ a rfl)
 ·show bB u j.q m (Cn x.k (l++[y]));rw[WX];exact H
 ·exact h.note.keeps o (λc e a=>by
     rcases a with a | a
     ·exact(h.sn c e).2.1 a
     exact(h.sn c e).2.2 a)
 ·rcases z with a | ⟨n,a,G⟩
  ·exact h.sg g (a ▸ E)
  have i:m=some g:=E;rw[a]at i;have:=jA i;have C:=h.lt j.s (.inl rfl);show j.s≠g;omega
 ·have i:m=some c:=a;rcases z with g | ⟨n,g,G⟩
  ·exact(h.sn c e).2.2 (g ▸ i)
  rw[g]at i;have:=jA i;have C:=h.lt c (.inr (.inr (.inr e)));omega
 ·have:=F c (r c e);omega
 ·rcases D c e with a | a
  ·exact F c a
  omega
 rcases D k v with a | a
 ·exact d.ap k a
 have I:=d.kr.aF.lt;have C:=d.kc;refine⟨by omega,by omega,λi=>?_⟩;have:=(d.kr.row.lt k i).2;omega
theorem LP{c:Cfg}{k:Nat}(a:Ak c=true)(h:c.kind=k)(e:k=3): (c.rows=1\/c.rows=2\/c.rows=3)/\1<=c.width/\c.width<=16/\1<=c.aM/\c.aM<=8/\1<=c.aB/\c.aB<=1000/\c.aB%c.aM=0:=by
 subst e;simp only[Ak,h,iK]at a;have d:ER c=true:=a.2.2;simp only[ER,Cc,Ab,iK,iI,beq_iff_eq]at d;omega
theorem Ir{c:Cfg}{j:Nat}(e:j<c.rows.toNat): CW (Al 3 c) j=CW c j/\CX (Al 3 c) j=CX c j:=by
 have d:∀p:Nat,j<p->CW (Er p (De 3 c) c) j=CW c j/\CX (Er p (De 3 c) c) j=CX c j:=λp a=>by
  match j with
  | 0=>exact⟨h9 a,h9 a⟩
  | 1=>exact⟨h9 a,h9 a⟩
  | n+2=>exact⟨h9 (by omega),h9 (by omega)⟩
 exact d _ e
theorem MI{c:Cfg}{j:Nat}(key:Int)(a:j<c.rows.toNat): AA (Al 3 c) key j=AA c key j:=by
 unfold AA;rw[(Ir a).1,(Ir a).2];rfl
theorem QP(c:Cfg)(key:Int): ∀(n:Nat) (cs:List Int),n<=c.rows.toNat->BK (Al 3 c) key n cs=BK c key n cs
 | 0,_,_=>rfl
 | n+1,cs,h=>by
  unfold BK;rw[QP c key n _ (by omega),MI key (by omega)]
theorem Q6(c:Cfg)(bL:List Int)(key:Int)(d:1<=c.rows.toNat): ∀a:Nat,a<=c.rows.toNat->DX (Al 3 c) bL key a=DX c bL key a
 | 0,_=>by unfold DX DI;rw[MI key (by omega)]
 | a+1,h=>by
  unfold DX DI;rw[Q6 c bL key d a (by omega),MI key (by omega)]
theorem F1(k:Nat)(c:Cfg)(d:1<=k)(e:k<=5): (Al k c).kind=c.kind/\(Al k c).aK=c.aK/\(Al k c).bF=c.bF/\(Al k c).cap=c.cap:=by
 rcases As d e with a | a | a | a | a <;> subst a <;> exact⟨rfl,rfl,rfl,rfl⟩
theorem MJ(k:Nat)(c:Cfg)(y:It)(d:1<=k)(e:k<=5): AL (Al k c) k (A7 k y)=AL c k y:=by
 rcases As d e with a | a | a | a | a <;> subst a <;> rfl
theorem PW(k:Nat)(c:Cfg)(y:It)(d:1<=k)(e:k<=5): AL (Al k c) k y=AL c k y:=by
 rcases As d e with a | a | a | a | a <;> subst a <;> rfl
theorem Rj(k:Nat)(c:Cfg)(a:aU)(y:It)(m:Int)(e:1<=k)(j:k<=5): B9 k (Al k c) a (A7 k y) m=B9 k c a y m:=by
 rcases As e j with d | d | d | d | d <;> subst d
 ·rfl
 ·rfl
 ·have l:=QP c y.k c.rows.toNat (A8 a.op a.cl (y.t/Ag c)).1.cs (il _);have h:(Cg (Al 3 c) a.op a.cl (A7 3 y) m).1=(Cg c a.op a.cl y m).1:=by
   show(⟨_,BK (Al 3 c) y.k c.rows.toNat (A8 a.op a.cl (y.t/Ag c)).1.cs,_⟩:Pa.Pn)=⟨_,BK c y.k c.rows.toNat (A8 a.op a.cl (y.t/Ag c)).1.cs,_⟩;congr 1
  have i:(Cg (Al 3 c) a.op a.cl (A7 3 y) m).2=(Cg c a.op a.cl y m).2:=rfl;show({ a with op:=_,cl:=_ }:aU)={ a with op:=_,cl:=_ };rw[h,i]
 ·rfl
 rfl
theorem Ri(k:Nat)(c:Cfg)(d:aU)(a m:Int)(h:1<=k)(i:k<=5)(l:Ak c=true)(j:c.kind=k): AY k (Al k c) d a m=AY k c d a m:=by
 rcases As h i with e | e | e | e | e <;> subst e
 ·rfl
 ·rfl
 ·have n:=LP l j rfl;show(if Ab a 0 2147483648=true then((0:Int),[DX (Al 3 c) (Dz c d.op d.cl (m-c.aB)) a c.rows.toNat]) else(10,[]))=(if Ab a 0 2147483648=true then((0:Int),[DX c (Dz c d.op d.cl (m-c.aB)) a c.rows.toNat]) else(10,[]));rw[Q6 c _ a (by omega) _ (il _)]
 ·rfl
 rfl
theorem Rl(k:Nat)(c:Cfg)(d:aU)(m b:Int)(e:1<=k)(h:k<=5): Bc k (Al k c) d m b=Bc k c d m b:=by
 rcases As e h with a | a | a | a | a <;> subst a <;> rfl
theorem Rk(k:Nat)(c:Cfg)(d:aU)(m:Int)(e:1<=k)(h:k<=5): DO k (Al k c) d m=DO k c d m:=by
 rcases As e h with a | a | a | a | a <;> subst a <;> rfl
theorem QO(k:Nat)(c:Cfg)(e:1<=k)(i:k<=5)(l:Ak c=true)(j:c.kind=k): BR k (Al k c)=BR k c:=by
 rcases As e i with a | a | a | a | a <;> subst a
 ·rfl
 ·rfl
 ·have m:=LP l j rfl;have d:∀p:Nat,p<=3->(Ba p).map (Er p (De 3 c) c).num=(Ba p).map c.num:=λp d=>by
   have:p=0\/p=1\/p=2\/p=3:=by omega
   rcases this with a | a | a | a <;> subst a <;> rfl
  have h:=d c.rows.toNat (by omega);show c.kind::([1,2,3].map c.num++([7,8,9,5].map c.num++(Ba c.rows.toNat).map (Er c.rows.toNat (De 3 c) c).num))=_;rw[h];rfl
 ·rfl
 rfl
theorem zPc(k:Nat)(c:Cfg)(e:1<=k)(h:k<=5): Al k (Al k c)=Al k c:=by
 rcases As e h with a | a | a | a | a <;> subst a
 ·rfl
 ·rfl
 ·have d:∀p:Nat,Er p (De 3 (Er p (De 3 c) c)) (Er p (De 3 c) c)=Er p (De 3 c) c:=λp=>by
   unfold Er;simp only[Cfg.mk.injEq,De,FV];refine⟨trivial,trivial,trivial,trivial,trivial,trivial,trivial,trivial,trivial,trivial,trivial,trivial,trivial,trivial,?_,?_,?_,?_,?_,?_⟩ <;> split <;> rfl
  exact d c.rows.toNat
 ·rfl
 rfl
theorem K2(k:Nat)(c:Cfg)(j:1<=k)(l:k<=5)(d:Ak c=true)(i:c.kind=k): Ak (Al k c)=true:=by
 have h:=F1 k c j l;unfold Ak at d ⊢;rw[h.1];rw[i]at d ⊢;have o:B0 (Al k c)=B0 c:=by unfold B0;rw[h.2.1,h.2.2.1,h.2.2.2]
 rw[o];simp only[iK]at d ⊢;refine⟨d.1,d.2.1,?_⟩;have e:=d.2.2;rw[iH]at e ⊢;rcases As j l with a | a | a | a | a <;> subst a
 ·exact e
 ·exact e
 ·have r:Ak c=true:=by unfold Ak;simp only[iK];rw[i];exact⟨d.1,d.2.1,e⟩
  have s:=LP r i rfl;have m:∀p:Nat,p=1\/p=2\/p=3->EQ (Er p (De 3 c) c) p=EQ c p:=λp q=>by
   rcases q with a | a | a <;> subst a <;> rfl
  have n:ER (Al 3 c)=ER c:=by
   show(Ab c.rows 1 3&&(Ab c.width 1 16&&(Ab c.aM 1 8&&(Cc c&&((c.aB%c.aM==0)&&EQ (Er c.rows.toNat (De 3 c) c) c.rows.toNat)))))=_;rw[m c.rows.toNat (by omega)];rfl
  show ER (Al 3 c)=true;rw[n];exact e
 ·exact e
 exact e
theorem Fu(k:Nat)(y:It): (A7 k y).t=y.t:=by unfold A7;split <;> rfl
theorem Gn(k:Nat)(y:It): (A7 k y).n=y.n:=by unfold A7;split <;> rfl
theorem YO(k:Nat)(y:It): A7 k (A7 k y)=A7 k y:=by unfold A7;split <;> simp_all
theorem ZU(k:Nat)(y:It)(c:1<=k)(d:k<=5): ET k (A7 k y)=ET k y:=by
 rcases As c d with a | a | a | a | a <;> subst a <;> rfl
theorem QY(k:Nat)(l:List It)(a:1<=k)(c:k<=5): Bl k (l.map (A7 k))=Bl k l:=by
 unfold Bl;rw[List.flatMap_map];congr 1;funext y;exact ZU k y a c
theorem Qu{α:Type}(f:α->Int){l:List α}(h:(l.map f).Nodup){a b:α}(d:a∈l)(c:b∈l)(e:f a=f b): a=b:=by
 induction l with
 | nil=>cases d
 | cons j l i =>
  rw[iC,kq]at h;rcases iw.1 d with d | d
  ·rcases iw.1 c with c | c
   ·rw[d,c]
   exact absurd (iF (f:=f) c) (by rw[<-e,d];exact h.1)
  rcases iw.1 c with c | c
  ·exact absurd (iF (f:=f) d) (by rw[e,c];exact h.1)
  exact i h.2 d c
theorem IL{α β:Type}{f:α->β}{l c:List α}(d:(l.map f).Perm (c.map f)): l=[]↔c=[]:=by
 have:=d.length_eq;rw[im,im]at this;constructor <;> intro a
 ·subst a;exact iL.1 this.symm
 subst a;exact iL.1 this
theorem Qm{l:List It}(d:bE l){y:It}(e:y∈l): dH (itAt l 0) y:=by
 obtain⟨c,a,rfl⟩:=jR.1 e;rw[<-itAt_get l c a];exact d.first c a
theorem Pf{k:Nat}{l a:List It}(o:bE l)(q:bE a)(w:(l.map (·.n)).Nodup)(m:l≠[])(e:(l.map (A7 k)).Perm (a.map (A7 k))):
  A7 k (itAt l 0)=A7 k (itAt a 0)/\((takeL l).map (A7 k)).Perm ((takeL a).map (A7 k)):=by
 have s:a≠[]:=λd=>m ((IL e).2 d);have r:=Gi m;have v:=Gi s;obtain⟨h,z,n⟩:=iE.1 (e.subset (iF r));obtain⟨c,t,j⟩:=iE.1 (e.symm.subset (iF v));have d:A7 k (itAt l 0)=A7 k (itAt a 0):=by
  have i:=Qm o t;have b:=Qm q z;have C:c.t=(itAt a 0).t:=by rw[<-Fu k c,j,Fu]
  have A:c.n=(itAt a 0).n:=by rw[<-Gn k c,j,Gn]
  have D:h.t=(itAt l 0).t:=by rw[<-Fu k h,n,Fu]
  have B:h.n=(itAt l 0).n:=by rw[<-Gn k h,n,Gn]
  have x:(itAt l 0).n=c.n:=by
   rcases i with i | i <;> rcases b with b | b <;> omega
  rw[Qu (·.n) w r t x,j]
 refine⟨d,?_⟩;have u:=((take_heap l o m).2.map (A7 k)).trans (e.trans ((take_heap a q s).2.map (A7 k)).symm);rw[iC,iC,d]at u;exact u.cons_inv
theorem ZG{k:Nat}(f:Nat): ∀ {l d:List It},bE l->bE d->(l.map (·.n)).Nodup->(l.map (A7 k)).Perm (d.map (A7 k))->(Qi.allL f l).map (A7 k)=(Qi.allL f d).map (A7 k):=by
 induction f with
 | zero=>intros;rfl
 | succ f q =>
  intro l d h j m i;by_cases c:l=[]
  ·have e:=(IL i).1 c;rw[c,e]
  have e:d≠[]:=λa=>c ((IL i).2 a);obtain⟨a,p⟩:=Pf h j m c i;have n:l.length≠0:=λa=>c (iL.1 a);have o:d.length≠0:=λa=>e (iL.1 a);unfold Qi.allL;rw[hZ n,hZ o,iC,iC,a];congr 1;refine q (take_heap l h c).1 (take_heap d j e).1 ?_ p;have:=((take_heap l h c).2.map (·.n)).nodup_iff.2 m;rw[iC,kq]at this;exact this.2
theorem Ia(f:Nat): ∀a:List It,a.length<f->bE a->(Qi.allL f a).Perm a:=by
 induction f with
 | zero=>intro a d;omega
 | succ f i =>
  intro a j d;unfold Qi.allL;split
  ·rename_i c;rw[iL.1 c]
  rename_i c;have e:a≠[]:=λh=>c (by rw[h];rfl);exact(List.Perm.cons _ (i (takeL a) (by rw[takeL_length];omega) (take_heap a d e).1)).trans (take_heap a d e).2
theorem Md(k:Nat)(bC:List It): bE (Cn k bC)/\(Cn k bC).Perm (bC.map (A7 k)):=by
 have:∀(d:List It) (a:List It),bE a->bE (d.foldl (λa y=>Gx a (A7 k y)) a)/\(d.foldl (λa y=>Gx a (A7 k y)) a).Perm (d.map (A7 k)++a):=by
  intro d;induction d with
  | nil=>intro a c;exact⟨c,jb _⟩
  | cons y d j =>
   intro a c;have e:=put_heap a (A7 k y) c;obtain⟨h,i⟩:=j (Gx a (A7 k y)) e.1;refine⟨h,i.trans ?_⟩;refine(kY _ e.2).trans ?_;rw[iC,List.cons_append];exact k0
 have c:=this bC [] (λl _ c=>by simp at c);rw[iz]at c;exact c
theorem OT{l c:List Dr.It}(i:Dr.bK l)(j:Dr.bK c)(t:(l.map (·.n)).Nodup)(h:l≠[])(d:l.Perm c):
  Dr.itAt l 0=Dr.itAt c 0/\(Dr.takeL l).Perm (Dr.takeL c):=by
 have n:c≠[]:=λe=>h (by rw[e]at d;exact d.eq_nil);have o:∀ {a:List Dr.It},a≠[]->Dr.itAt a 0∈a:=fun {a} s=>by
  have r:0<a.length:=by cases a with | nil=>exact absurd rfl s | cons _ _=>simp
  rw[Dr.itAt_get a 0 r];exact jc _
 have k:=o h;have m:=d.symm.subset (o n);have e:Dr.itAt l 0=Dr.itAt c 0:=by
  have a:=i.firstm m;have b:=j.firstm (d.subset k);refine Qu (·.n) t k m ?_;unfold Dr.cV at a b;rcases a with a | a <;> rcases b with b | b <;> omega
 refine⟨e,?_⟩;have q:=(Dr.take_heap l i h).2.trans (d.trans (Dr.take_heap c j n).2.symm);rw[e]at q;exact q.cons_inv
theorem OH(f:Nat): ∀ {l c:List Dr.It},Dr.bK l->Dr.bK c->(l.map (·.n)).Nodup->l.Perm c->Dr.allL f l=Dr.allL f c:=by
 induction f with
 | zero=>intros;rfl
 | succ f o =>
  intro l c h i k e;by_cases d:l=[]
  ·subst d;rw[e.nil_eq]
  have j:c≠[]:=λa=>d (by rw[a]at e;exact e.eq_nil);obtain⟨a,p⟩:=OT h i k d e;have m:l.length≠0:=λa=>d (iL.1 a);have n:c.length≠0:=λa=>j (iL.1 a);unfold Dr.allL;rw[hZ m,hZ n,a];congr 1;refine o (Dr.take_heap l h d).1 (Dr.take_heap c i j).1 ?_ p;have:=((Dr.take_heap l h d).2.map (·.n)).nodup_iff.2 k;rw[iC,kq]at this;exact this.2
theorem Kf(c:Cfg){l:List Dr.It}(y:It)(i:Dr.bK l)(k:Dr.dpos (tick c y)): Dr.bK (AU c l y)/\∃d,(d++AU c l y).Perm (tick c y::l)/\(d.length:Int)=if c.size+1<((l.length+1:Nat):Int) then 1 else 0:=by
 have a:=Dr.put_heap l (tick c y) i k;unfold AU;split
 ·have j:Dr.riseL (l.length+1) (l++[tick c y]) l.length≠[]:=λh=>by
   have:=a.2.length_eq;rw[h]at this;simp at this
  have e:=Dr.take_heap _ a.1 j;exact⟨e.1,[_],e.2.trans a.2,rfl⟩
 exact⟨a.1,[],a.2,rfl⟩
theorem XJ(c:Cfg){l e:List Dr.It}(y:It)(n:Dr.bK l)(o:Dr.bK e)(k:Dr.dpos (tick c y))(q:((tick c y::l).map (·.n)).Nodup)(i:l.Perm e): (AU c l y).Perm (AU c e y):=by
 have a:=Dr.put_heap l (tick c y) n k;have b:=Dr.put_heap e (tick c y) o k;have j:=a.2.trans ((i.cons _).trans b.2.symm);have r:Dr.riseL (l.length+1) (l++[tick c y]) l.length≠[]:=λm=>by
  have:=a.2.length_eq;rw[m]at this;simp at this
 have h:=i.length_eq;unfold AU;by_cases d:c.size+1<((l.length+1:Nat):Int)
 ·rw[h9 d,h9 (by rw[<-h];exact d)];exact(OT a.1 b.1 ((a.2.map (·.n)).nodup_iff.2 q) r j).2
 rw[hZ d,hZ (by rw[<-h];exact d)];exact j
theorem IX{α:Type}(p:α->Bool): ∀a:List α,a.drop (a.takeWhile p).length=a.dropWhile p
 | []=>rfl
 | x::a=>by
  unfold List.takeWhile List.dropWhile;cases h:p x with
  | true=>exact IX p a
  | false=>rfl
theorem GV{α:Type}{p e:α->Bool}(h:∀a,e a=true->p a=true): ∀c:List α,(c.dropWhile e).dropWhile p=c.dropWhile p
 | []=>rfl
 | a::c=>by
  by_cases d:e a=true
  ·rw[kl d,kl (h a d)];exact GV h c
  rw[km d]
theorem MQ{α:Type}(p:α->Bool)(d:List α): ∀a:List α,(a++d).dropWhile p=if a.dropWhile p=[] then d.dropWhile p else a.dropWhile p++d
 | []=>by simp
 | x::a=>by
  by_cases c:p x=true
  ·rw[List.cons_append,kl c,kl c];exact MQ p d a
  rw[List.cons_append,km c,km c,hZ (by simp)];rfl
def Gu(t:Int)(b:Bk): Bool:=decide (b.sz<=t)
def AT(c:Cfg)(m:Int)(l:List Bk): List Bk:=l.drop (Mk.pastN l (m-c.aB))
theorem Jr(c:Cfg)(m:Int)(l:List Bk): AT c m l=l.dropWhile (Gu (m-c.aB)):=IX _ l
theorem Ty{c:Cfg}{m a:Int}(k:m<=a){l d:List Bk}(e:AT c m l=AT c m d): AT c a l=AT c a d:=by
 rw[Jr,Jr]at e ⊢;have i:∀h,Gu (m-c.aB) h=true->Gu (a-c.aB) h=true:=λh j=>by
  simp only[Gu,iI]at j ⊢;omega
 rw[<-GV i l,<-GV i d,e]
theorem Ox{c:Cfg}{m t:Int}(i:m-c.aB<=t)(l:List Bk): D5 l t=(Ad ((AT c m l).dropWhile (Gu t)) 0).t:=by
 have e:∀a,Gu (m-c.aB) a=true->Gu t a=true:=λa h=>by
  simp only[Gu,iI]at h ⊢;omega
 rw[Jr,GV e,<-IX];show D5 l t=(Ad (l.drop (Mk.pastN l t)) 0).t;unfold D5;split
 ·rename_i d;rw[d,kE];rfl
 simp[Ad,List.getD_eq_getElem?_getD]
theorem T6{c:Cfg}{m t:Int}(d:m-c.aB<=t){h i:Nat->List Bk}(n:Nat)(e:∀a,a<n->AT c m (h a)=AT c m (i a)): Cr h n t=Cr i n t:=by
 unfold Cr;refine jO (λk j=>?_);rw[Ox d,Ox d,e k (lj.1 j)]
theorem Yc{c:Cfg}{m:Int}{k l:Nat->List Bk}(n:Nat)(e:∀a,a<n->AT c m (k a)=AT c m (l a)): D7 k n (m-c.aB)=D7 l n (m-c.aB):=by
 have o:∀h:List Bk,EG h (m-c.aB)=((AT c m h).length:Int)::C6 (AT c m h):=λh=>by
  unfold EG AT;rw[iQ]
 unfold D7;have:∀d:List Nat,(∀a∈d,a<n)->d.flatMap (λj=>EG (k j) (m-c.aB))=d.flatMap (λj=>EG (l j) (m-c.aB)):=by
  intro d;induction d with
  | nil=>intro _;rfl
  | cons r d s =>
   intro q;rw[ju,ju,s (λa i=>q a (by simp[i])),o,o,e r (q r (by simp))]
 exact this _ (λa i=>lj.1 i)
theorem Xm{c:Cfg}{m:Int}{n:Nat}{i j:Nat->List Bk}(y:It)(e:∀a,a<n->AT c m (i a)=AT c m (j a)): ∀a,a<n->AT c m (BQ c n i y m a)=AT c m (BQ c n j y m a):=by
 intro a h;unfold BQ;split
 ·have d:=e a h;unfold AT at d;rw[d]
 exact e a h
def B8(c:Cfg)(t:Int)(p:Pa.Pn): Bool:=decide (AS c p<=t)
theorem Gh(c:Cfg)(o:Pa.Pn)(cl:List Pa.Pn)(t:Int): A4 c o cl t=cl.dropWhile (B8 c t)++(if t<AS c o/\o.cs≠Ax then[o] else[]):=by
 unfold A4 B5;rw[IX];rfl
theorem Yn{c:Cfg}(d:0<=Ag c){a b:Pa.Pn}(e:a.no<=b.no): AS c a<=AS c b:=by
 unfold AS;have:=jV (show a.no+1<=b.no+1 by omega) d;omega
structure fM (c:Cfg) (o:Pa.Pn) (cl:List Pa.Pn):Prop where
 eF:cl.Pairwise (λa b=>a.no<b.no)
 lt:∀p∈cl,p.no<o.no
 hA:0<=Ag c
theorem fM.live{c:Cfg}{o:Pa.Pn}{cl:List Pa.Pn}(a:fM c o cl){t:Int}(d:cl.dropWhile (B8 c t)≠[]): t<AS c o:=by
 cases hd:cl.dropWhile (B8 c t) with
 | nil=>exact absurd hd d
 | cons p k =>
  have h:p∈cl:=(List.dropWhile_sublist (B8 c t)).subset (by rw[hd];simp);have e:¬B8 c t p=true:=by
   have:=List.head_dropWhile_not (B8 c t) d;simp only[hd,List.head_cons]at this;rw[this];simp
  have i:=a.lt p h;have j:=Yn (c:=c) a.hA (show p.no<=o.no by omega);simp only[B8,iI]at e;omega
theorem Uh{c:Cfg}{o l:Pa.Pn}{cl i:List Pa.Pn}(d:fM c o cl)(s:fM c l i){t a:Int}(w:t<=a)(e:A4 c o cl t=A4 c l i t): A4 c o cl a=A4 c l i a:=by
 have q:∀ {o:Pa.Pn} {cl:List Pa.Pn},fM c o cl->A4 c o cl a=(A4 c o cl t).dropWhile (B8 c a):=by
  intro o cl d;have u:∀m,B8 c t m=true->B8 c a m=true:=λm v=>by
   simp only[B8,iI]at v ⊢;omega
  rw[Gh,Gh,MQ,GV u];by_cases k:o.cs=Ax
  ·have n:∀t:Int,(if t<AS c o/\o.cs≠Ax then[o] else[])=[]:=λt=>hZ (λd=>d.2 k);rw[n,n];split
   ·rename_i e;rw[e];rfl
   rfl
  by_cases j:a<AS c o
  ·have h:(if a<AS c o/\o.cs≠Ax then[o] else[])=[o]:=h9 ⟨j,k⟩;have r:(if t<AS c o/\o.cs≠Ax then[o] else[])=[o]:=h9 ⟨by omega,k⟩;rw[h,r];have:¬B8 c a o=true:=by simp only[B8,iI];omega
   split
   ·rename_i e;rw[e,km this];rfl
   rfl
  have h:(if a<AS c o/\o.cs≠Ax then[o] else[])=[]:=hZ (λd=>j d.1);rw[h];have e:cl.dropWhile (B8 c a)=[]:=by
   cases he:cl.dropWhile (B8 c a) with
   | nil=>rfl
   | cons p x=>exact absurd (d.live (t:=a) (by rw[he];simp)) j
  rw[e,h9 rfl];split
  ·rw[kl (by simp only[B8,iI];omega)];rfl
  rfl
 rw[q d,q s,e]
def Rq(n:Int)(P:List Pa.Pn): Pa.Pn:=(P.find? (λp=>p.no==n)).getD (Ct n)
theorem zOj{a b:Pa.Pn}(c:a.no=b.no)(d:a.cs=b.cs): a=b:=by
 cases a;cases b;simp at c d;subst c;subst d;rfl
theorem WJ{n:Int}(l a:List Pa.Pn)(c:∀p∈l,p.no<n): (l++a).find? (λp=>p.no==n)=a.find? (λp=>p.no==n):=by
 rw[List.find?_append,lk.2 (λp d=>by have:=c p d;simp;omega)];rfl
theorem OU{c:Cfg}{o:Pa.Pn}{cl:List Pa.Pn}(d:fM c o cl){n t:Int}(m:o.no<=n)(l:t<(n+1)*Ag c-1): (A8 o cl n).1=Rq n (A4 c o cl t):=by
 have i:∀p∈cl.dropWhile (B8 c t),p.no<n:=λp k=>by
  have:=d.lt p ((List.dropWhile_sublist (B8 c t)).subset k);omega
 unfold Rq A8;rw[Gh,WJ _ _ i];by_cases a:o.no=n
 ·rw[h9 a];have j:t<AS c o:=by unfold AS;rw[a];exact l
  by_cases e:o.cs=Ax
  ·rw[hZ (λd=>d.2 e)];exact zOj a e
  rw[h9 ⟨j,e⟩];simp[a]
 rw[hZ a];show Ct n=_;by_cases h:t<AS c o/\o.cs≠Ax
 ·rw[h9 h];simp[a]
 rw[hZ h];rfl
theorem Xk{c:Cfg}{o:Pa.Pn}{cl:List Pa.Pn}(a:fM c o cl){n t:Int}(r:o.no<=n): (A8 o cl n).2.dropWhile (B8 c t)=(A4 c o cl t).filter (λp=>p.no !=n):=by
 have q:∀p∈cl.dropWhile (B8 c t),p.no<o.no:=λp k=>a.lt p ((List.dropWhile_sublist (B8 c t)).subset k);have m:(cl.dropWhile (B8 c t)).filter (λp=>p.no !=n)=cl.dropWhile (B8 c t):=j5.2 (λp k=>by have:=q p k;simp;omega);unfold A8;rw[Gh,jj,m];by_cases d:o.no=n
 ·rw[h9 d];show cl.dropWhile (B8 c t)=_;split
  ·simp[d]
  simp
 rw[hZ d];show(if o.cs=Ax then cl else cl++[o]).dropWhile (B8 c t)=_;by_cases e:o.cs=Ax
 ·rw[h9 e,hZ (λa=>a.2 e)];simp
 rw[hZ e,MQ];by_cases j:t<AS c o
 ·have h:(if t<AS c o/\o.cs≠Ax then[o] else[])=[o]:=h9 ⟨j,e⟩;rw[h];have l:¬B8 c t o=true:=by simp only[B8,iI];omega
  have:[o].filter (λp=>p.no !=n)=[o]:=by simp[d]
  rw[this];split
  ·rename_i i;rw[i,km l];rfl
  rfl
 have h:(if t<AS c o/\o.cs≠Ax then[o] else[])=[]:=hZ (λa=>j a.1);rw[h];have i:cl.dropWhile (B8 c t)=[]:=by
  cases he:cl.dropWhile (B8 c t) with
  | nil=>rfl
  | cons p s=>exact absurd (a.live (t:=t) (by rw[he];simp)) j
 rw[i,h9 rfl,kl (by simp only[B8,iI];omega)];rfl
theorem XB{c:Cfg}{o d:Pa.Pn}{cl h:List Pa.Pn}(a:fM c o cl)(l:fM c d h)(y:It)(m:Int)(i:o.no<=y.t/Ag c)(q:d.no<=y.t/Ag c)(e:A4 c o cl (m-c.aB)=A4 c d h (m-c.aB)):
  A4 c (Cg c o cl y m).1 (Cg c o cl y m).2 (m-c.aB)=A4 c (Cg c d h y m).1 (Cg c d h y m).2 (m-c.aB):=by
 have s:∀(o:Pa.Pn) (cl:List Pa.Pn) (k:Int),(A8 o cl k).1.no=k:=λo cl k=>by
  unfold A8;split
  ·assumption
  rfl
 have r:∀ {o:Pa.Pn} {cl:List Pa.Pn},fM c o cl->o.no<=y.t/Ag c->(Cg c o cl y m).2.dropWhile (B8 c (m-c.aB))=(A4 c o cl (m-c.aB)).filter (λp=>p.no !=y.t/Ag c):=by
  intro o cl a i;show((A8 o cl (y.t/Ag c)).2.drop (B5 c (A8 o cl (y.t/Ag c)).2 (m-c.aB))).dropWhile _=_;unfold B5;rw[IX];show((A8 o cl (y.t/Ag c)).2.dropWhile (B8 c (m-c.aB))).dropWhile _=_;rw[GV (λ_ a=>a),Xk a i]
 rw[Gh,Gh,r a i,r l q,e];congr 1;have n:∀(o:Pa.Pn) (cl:List Pa.Pn),AS c (Cg c o cl y m).1=(y.t/Ag c+1)*Ag c-1:=λo cl=>by
  show((A8 o cl (y.t/Ag c)).1.no+1)*Ag c-1=_;rw[s]
 rw[n,n];by_cases j:m-c.aB<(y.t/Ag c+1)*Ag c-1
 ·have t:(Cg c o cl y m).1=(Cg c d h y m).1:=by
   show Ez c y.k c.rows.toNat (A8 o cl (y.t/Ag c)).1=Ez c y.k c.rows.toNat (A8 d h (y.t/Ag c)).1;rw[OU a i j,OU l q j,e]
  rw[t]
 rw[hZ (λa=>j a.1),hZ (λa=>j a.1)]
structure eR (R W:Nat) (s:Int) (cs:List Int):Prop where
 nn:∀i,0<=cs.getD i 0
 ze:∀i,(R<=i/16\/W<=i%16)->cs.getD i 0=0
 row:∀j,j<R->Bm (CI W cs j)=s
theorem eR.f{R W:Nat}{s:Int}{cs:List Int}(a:eR R W s cs)(c:0<s): fG R W s s cs:=⟨a.nn,a.ze,a.row,c,iG _⟩
theorem fG.p{R W:Nat}{a s:Int}{cs:List Int}(c:fG R W a s cs): eR R W s cs:=⟨c.nn,c.ze,c.row⟩
theorem Gl(a b:List Int): Bm (a++b)=Bm a+Bm b:=by
 induction a with
 | nil=>simp[Bm]
 | cons d a c=>rw[List.cons_append,Gd,Gd,c];omega
theorem Js(a:Int): Bm [a]=a:=by rw[Gd];exact kO a
theorem LH(i:Nat): Ax.getD i 0=0:=by
 unfold Ax;rw[List.getD_eq_getElem?_getD,kQ];split <;> rfl
theorem Ol(W j:Nat): Bm (CI W Ax j)=0:=by
 induction W with
 | zero=>rfl
 | succ W a=>rw[Kj,Gl,a,Gd,LH];rfl
theorem eR.zero(R W:Nat): eR R W 0 Ax:=⟨λa=>by rw[LH];omega,λa _=>LH a,λc _=>Ol W c⟩
theorem XA(cs a:List Int)(j W:Nat)(p:Int)(h:0<=p)(c:∀i,i<W->a.getD (j*16+i) 0=cs.getD (j*16+i) 0+if p=(i:Int) then 1 else 0): Bm (CI W a j)=Bm (CI W cs j)+if p<(W:Int) then 1 else 0:=by
 induction W with
 | zero=>rw[hZ (by omega)];rfl
 | succ W d =>
  rw[Kj,Kj,Gl,Gl,d (λi e=>c i (by omega)),c W (by omega)];rw[Js,Js];split <;> split <;> split <;> omega
theorem eR.bump{c:Cfg}(k:c.rowed){R W:Nat}(u:c.rows=(R:Int))(r:c.width=(W:Int)){s:Int}{cs:List Int}(t:cs.length=48)(h:eR R W s cs)(key:Int): eR R W (s+1) (BK c key R cs):=by
 have w:=k.r1;have x:=k.w1;have z:=k.w0;have l:∀d,0<=AA c key d/\AA c key d<(W:Int):=λd=>by
  unfold AA;rw[r];exact⟨j8 _ (by omega),j1 _ (by omega)⟩
 have n:∀d e:Nat,e<16->(BK c key R cs).getD (d*16+e) 0=cs.getD (d*16+e) 0+if d<R/\AA c key d=(e:Int) then 1 else 0:=λd e q=>PC c k key cs t d e q R (by omega)
 have o:∀a,(BK c key R cs).getD a 0=cs.getD a 0+if a/16<R/\AA c key (a/16)=((a%16:Nat):Int) then 1 else 0:=λa=>by
  have:=n (a/16) (a%16) (by omega);rw[show a/16*16+a%16=a by omega]at this;exact this
 refine⟨λa=>?_,λa i=>?_,λd m=>?_⟩
 ·rw[o];have:=h.nn a;split <;> omega
 ·rw[o,h.ze a i,hZ (λv=>?_)]
  ·rfl
  have:=l (a/16);rcases i with i | i <;> omega
 rw[XA cs _ d W (AA c key d) (l d).1 (λa i=>by
      rw[n d a (by omega)];congr 1;by_cases j:AA c key d=(a:Int)
      ·rw[h9 ⟨m,j⟩,h9 j]
      rw[hZ (λh=>j h.2),hZ j]),h9 (l d).2,h.row d m]
structure OZ (c:Cfg) (R W:Nat) (rel:Int) (o:Pa.Pn) (cl:List Pa.Pn):Prop where
 cls:∀p∈cl,fG R W (sP W p) (sP W p) p.cs
 gP:eR R W (sP W o) o.cs
 pos:o.cs=Ax\/0<sP W o
 sum:Bm (cl.map (sP W))+sP W o<=rel
theorem K8(l:List Int)(c:∀a∈l,0<=a): 0<=Bm l:=by
 induction l with
 | nil=>exact iG _
 | cons a l e=>rw[Gd];have:=c a (by simp);have:=e (λy d=>c y (by simp[d]));omega
theorem Qo(l:List Int)(n:Nat)(c:∀a∈l,0<=a): Bm (l.drop n)<=Bm l:=by
 have d:=Gl (l.take n) (l.drop n);rw[List.take_append_drop]at d;have:=K8 (l.take n) (λa e=>c a (jn e));omega
theorem GL{W:Nat}{p:Pa.Pn}(a:p.cs=Ax): sP W p=0:=by unfold sP;rw[a];exact Ol W 0
theorem OZ.zero(c:Cfg)(R W:Nat): OZ c R W 0 Pa.pn0 []:=by
 have a:sP W Pa.pn0=0:=GL rfl;refine⟨λp d=>by simp at d,?_,.inl rfl,?_⟩
 ·rw[a];exact eR.zero R W
 rw[a];exact iG _
theorem OZ.turn{c:Cfg}{R W:Nat}{rel:Int}{o:Pa.Pn}{cl:List Pa.Pn}(a:OZ c R W rel o cl)(n:Int): OZ c R W rel (A8 o cl n).1 (A8 o cl n).2:=by
 unfold A8;split
 ·exact a
 have h:sP W (Ct n)=0:=GL rfl;have i:=a.sum;by_cases d:o.cs=Ax
 ·refine⟨?_,?_,.inl rfl,?_⟩
  ·show ∀p∈(if o.cs=Ax then cl else cl++[o]),_;rw[h9 d];exact a.cls
  ·show eR R W (sP W (Ct n)) Ax;rw[h];exact eR.zero R W
  show Bm ((if o.cs=Ax then cl else cl++[o]).map (sP W))+sP W (Ct n)<=rel;rw[h9 d,h];rw[GL d]at i;exact i
 have j:=a.pos.resolve_left d;refine⟨?_,?_,.inl rfl,?_⟩
 ·show ∀p∈(if o.cs=Ax then cl else cl++[o]),_;rw[hZ d];intro p k;rcases ig.1 k with e | e
  ·exact a.cls p e
  rw[ij]at e;subst e;exact a.gP.f j
 ·show eR R W (sP W (Ct n)) Ax;rw[h];exact eR.zero R W
 show Bm ((if o.cs=Ax then cl else cl++[o]).map (sP W))+sP W (Ct n)<=rel;rw[hZ d,h,iy,Gl];rw[iC,kh,Js];omega
theorem OZ.rel{c:Cfg}(k:c.rowed){R W:Nat}(q:c.rows=(R:Int))(r:c.width=(W:Int)){rel:Int}{o:Pa.Pn}{cl:List Pa.Pn}(l:OZ c R W rel o cl)(y:It)(m:Int): OZ c R W (rel+1) (Cg c o cl y m).1 (Cg c o cl y m).2:=by
 have a:=l.turn (y.t/Ag c);have w:=k.r0;have i:c.rows.toNat=R:=by omega
 have j:=a.gP.bump k q r (A8 o cl (y.t/Ag c)).1.len y.k;have e:sP W (Cg c o cl y m).1=sP W (A8 o cl (y.t/Ag c)).1+1:=by
  have:=j.row 0 (by omega);show Bm (CI W (BK c y.k c.rows.toNat _) 0)=_;rw[i];exact this
 have v:0<=sP W (A8 o cl (y.t/Ag c)).1:=by
  rcases a.pos with h | h
  ·rw[GL h];exact iG _
  omega
 refine⟨λp d=>a.cls p (iB d),?_,.inr (by rw[e];omega),?_⟩
 ·rw[e];show eR R W _ (BK c y.k c.rows.toNat _);rw[i];exact j
 rw[e];have t:=a.sum;have u:Bm (((A8 o cl (y.t/Ag c)).2.drop (B5 c (A8 o cl (y.t/Ag c)).2 (m-c.aB))).map (sP W))<=Bm ((A8 o cl (y.t/Ag c)).2.map (sP W)):=by
  rw[List.map_drop];refine Qo _ _ (λx s=>?_);obtain⟨p,d,rfl⟩:=iE.1 s;have:=(a.cls p d).s0;omega
 have n:(Cg c o cl y m).2=(A8 o cl (y.t/Ag c)).2.drop (B5 c (A8 o cl (y.t/Ag c)).2 (m-c.aB)):=rfl;rw[n];omega
theorem P0(ps:List Pa.Pn)(p:Pa.Pn)(h:(ps++[p]).Pairwise (λk b=>k.no<b.no))(i:∀a∈ps,a.cs≠Ax): Ea (ps++[p])=(p,ps):=by
 have m:∀j:Nat,∀(ps:List Pa.Pn) (p:Pa.Pn),ps.length=j->(ps++[p]).Pairwise (λk b=>k.no<b.no)->(∀a∈ps,a.cs≠Ax)->Ea (ps++[p])=(p,ps):=by
  intro j;induction j with
  | zero =>
   intro ps p c _ _;rw[iL.1 c];show(p,(A8 Pa.pn0 [] p.no).2)=(p,[]);congr 1;unfold A8;split
   ·rfl
   show(if Pa.pn0.cs=Ax then[] else[]++[Pa.pn0])=[];rw[h9 (show Pa.pn0.cs=Ax from rfl)]
  | succ j o =>
   intro ps p c h i;rcases lC ps with e | ⟨d,a,e⟩
   ·rw[e]at c;simp at c
   rw[lD]at e;subst e;have l:=o d a (by simpa using c) (h.sublist (List.sublist_append_left _ _)) (λq n=>i q (by simp[n]));unfold Ea at l ⊢;rw[jP,l];show(p,(A8 a d p.no).2)=(p,d++[a]);have r:a.no<p.no:=(iY.1 h).2.2 a (by simp) p (by simp);congr 1;unfold A8;rw[hZ (by omega)];show(if a.cs=Ax then d else d++[a])=_;rw[hZ (i a (by simp))]
 exact m _ ps p rfl h i
theorem UW{c:Cfg}{t:Int}(ps:List Pa.Pn)(m:ps.Pairwise (λk b=>k.no<b.no))(j:∀a∈ps,a.cs≠Ax)(i:∀a∈ps,t<AS c a): A4 c (Ea ps).1 (Ea ps).2 t=ps:=by
 rcases lC ps with d | ⟨e,a,d⟩
 ·rw[d,Gh];show[].dropWhile (B8 c t)++(if t<AS c Pa.pn0/\Pa.pn0.cs≠Ax then[Pa.pn0] else[])=[];rw[hZ (λl=>l.2 rfl)];rfl
 rw[lD]at d;subst d;rw[P0 e a m (λh n=>j h (by simp[n])),Gh];show e.dropWhile (B8 c t)++(if t<AS c a/\a.cs≠Ax then[a] else[])=e++[a];rw[h9 ⟨i a (by simp),j a (by simp)⟩];congr 1;cases e with
 | nil=>rfl
 | cons h o=>rw[km (by have:=i h (by simp);simp only[B8,iI];omega)]
theorem Lv{c:Cfg}{R W:Nat}{rel last t:Int}{o:Pa.Pn}{cl:List Pa.Pn}(h:OZ c R W rel o cl)(hi:cS c rel last o cl)(m:0<=Ag c):
  (A4 c o cl t).Pairwise (λi b=>i.no<b.no)/\(∀a∈A4 c o cl t,a.cs≠Ax/\t<AS c a/\fG R W (sP W a) (sP W a) a.cs/\(a∈cl\/a=o))/\Bm ((A4 c o cl t).map (sP W))<=rel:=by
 have s:∀a∈cl,a.cs≠Ax:=λa e d=>by
  have:=(h.cls a e).s0;rw[GL d]at this;omega
 have w:=h.sum;have u:Bm ((cl.drop (B5 c cl t)).map (sP W))<=Bm (cl.map (sP W)):=by
  rw[List.map_drop];refine Qo _ _ (λx r=>?_);obtain⟨p,q,rfl⟩:=iE.1 r;have:=(h.cls p q).s0;omega
 have v:0<=sP W o:=by
  rcases h.pos with d | d
  ·rw[GL d];exact iG _
  omega
 have l:∀a∈cl.drop (B5 c cl t),a.cs≠Ax/\t<AS c a/\fG R W (sP W a) (sP W a) a.cs/\(a∈cl\/a=o):=λa e =>
  ⟨s a (iB e),JY c m t cl hi.eF a e,h.cls a (iB e),.inl (iB e)⟩
 unfold A4;split
 ·rename_i j;refine⟨?_,λa e=>?_,?_⟩
  ·refine iY.2 ⟨hi.eF.sublist (jW _ _),ka _ _,λi n b k=>?_⟩;rw[ij]at k;subst k;exact(hi.lt i (iB n)).2
  ·rcases ig.1 e with d | d
   ·exact l a d
   rw[ij]at d;subst d;exact⟨j.2,j.1,h.gP.f (h.pos.resolve_left j.2),.inr rfl⟩
  rw[iy,Gl];rw[iC,kh,Js];omega
 rw[iz];exact⟨hi.eF.sublist (jW _ _),l,by omega⟩
theorem Ym{c:Cfg}{R W:Nat}{rel last t:Int}{o:Pa.Pn}{cl:List Pa.Pn}(k:OZ c R W rel o cl)(hi:cS c rel last o cl)(w:0<=Ag c)(D:0<=last)(E:1<=c.aM):
  cS c rel last (Ea (A4 c o cl t)).1 (Ea (A4 c o cl t)).2/\OZ c R W rel (Ea (A4 c o cl t)).1 (Ea (A4 c o cl t)).2:=by
 obtain⟨q,j,r⟩:=Lv (t:=t) k hi w;have hlen:((A4 c o cl t).length:Int)<=c.aM+1:=by
  have:=hi.len;unfold A4;rw[hY,iQ];split
  ·simp;omega
  simp;omega
 have F:0<=rel:=by
  have h:=k.sum;have B:=K8 (cl.map (sP W)) (λm v=>by obtain⟨p,d,rfl⟩:=iE.1 v;have:=(k.cls p d).s0;omega);have C:0<=sP W o:=by
   rcases k.pos with a | a
   ·rw[GL a];exact iG _
   omega
  omega
 have A:BF (A4 c o cl t)<=rel:=by
  have h:=Mb cl (B5 c cl t);have B:0<=Cl o:=GN _;have C:=hi.eZ;unfold A4;rw[GF];split
  ·simp only[BF];omega
  simp only[BF];omega
 generalize A4 c o cl t=z at *
 rcases lC z with a | ⟨l,i,a⟩
 ·rw[a];have e:=cS.zero c E;refine⟨⟨e.gG,by have:=e.fS;show Pa.pn0.no*Ag c<=last;simp[Pa.pn0];exact D,e.eF,e.lt,e.gF,λp d=>by simp[Ea]at d,by have:=e.eZ;show BF []+Cl Pa.pn0<=rel;omega,e.len⟩,?_⟩
  ·have n:=OZ.zero c R W;exact⟨n.cls,n.gP,n.pos,by have:=n.sum;show Bm ([].map (sP W))+sP W Pa.pn0<=rel;simp only[kh]at this ⊢;omega⟩
 rw[lD]at a;subst a;rw[P0 l i q (λm v=>(j m (by simp[v])).1)];have s:∀p∈l++[i],0<=p.no/\p.no*Ag c<=last/\∀m∈p.cs,0<=m:=λp d=>by
  rcases(j p d).2.2.2 with a | a
  ·have h:=hi.lt p a;refine⟨h.1,?_,hi.gD p a⟩;have:=jV (show p.no<=o.no by omega) w;have:=hi.fS;omega
  rw[a];exact⟨hi.gG,hi.fS,hi.gF⟩
 have u:=s i (by simp);refine⟨⟨u.1,u.2.1,q.sublist (List.sublist_append_left _ _),λp d=>⟨(s p (by simp[d])).1,(iY.1 q).2.2 p d i (by simp)⟩,u.2.2,λp d=>(s p (by simp[d])).2.2,?_,?_⟩,?_⟩
 ·have h:=A;rw[GF]at h;simp only[BF]at h;show BF l+Cl i<=rel;omega
 ·rw[hY,iZ]at hlen;show(l.length:Int)<=c.aM;omega
 have x:=(j i (by simp)).2.2.1;refine⟨λp d=>(j p (by simp[d])).2.2.1,x.p,.inr x.s0,?_⟩;rw[iy,Gl]at r;rw[iC,kh,Js]at r;exact r
def AB: List (List Int)->List Bk
 | []=>[]
 | g::gs=>g.map (λt=>⟨2 ^ gs.length,t⟩)++AB gs
def DZ: List (List Int)->List Int
 | []=>[]
 | g::gs=>(g.length:Int)::(g++DZ gs)
structure gS (K m rel:Int) (gs:List (List Int)):Prop where
 len:gs.length<=62
 bL:∀g,g∈gs->(g.length:Int)<=K+1
 fst:∀g,gs.head?=some g->1<=g.length
 hS:∀g,g∈gs.tail->K<=(g.length:Int)
 tm:∀b,b∈AB gs->0<=b.t/\b.t<=m
 gB:(AB gs).Pairwise (λa b=>a.t<=b.t)
 sum:An (AB gs)<=rel
 hR:(AB gs).length<=1000
structure CL (w:World) (d rr r:Nat) (og:Option Nat) (c:Cfg) (l:List Bk) (tl:List Nat) (og2:Option Nat) (wr:World):Prop where
 cr:bU wr d rr og2 c l
 rd:aR wr r tl
 kp:aA (λi=>i=r\/i=rr\/og=some i) w wr
 fo:og2=og\/∃k,og2=some k/\w.heap.size<=k
 ap:d≠r/\rr≠r/\og≠some r/\r<w.heap.size
theorem CL.g{w:World}{i m h:Nat}{k:Option Nat}{c:Cfg}{l:List Bk}{tl:List Nat}{e:Option Nat}{wr:World}(a:CL w i m h k c l tl e wr)(g:Nat)(d:e=some g): g≠h:=λj=>by
 rcases a.fo with f | ⟨o,f,n⟩
 ·exact a.ap.2.2.1 (by rw[<-f,d,j])
 rw[d]at f;have:=jA f;have:=a.ap.2.2.2;omega
theorem CL.still{w:World}{e k j:Nat}{h:Option Nat}{c:Cfg}{l:List Bk}{tl:List Nat}{i:Option Nat}{wr m:World}(a:CL w e k j h c l tl i wr)(d:lO wr m): CL w e k j h c l tl i m :=
 ⟨a.cr.still d,a.rd.keeps d id,a.kp.trans d (λ_ a _=>a.elim),a.fo,a.ap⟩
theorem CL.number{w:World}{e m d:Nat}{j:Option Nat}{c:Cfg}{l:List Bk}{n lo hi:Int}{tl:List Nat}{k:Option Nat}{wr:World}(a:CL w e m d j c l (enc n++tl) k wr)(u:0<=n)(n1:n<=9223372036854775807)(q:lo<=n)(r:n<=hi):
  Calls prog 77 #[.pointer (some ⟨d,0,none⟩),.int .i64 lo,.int .i64 hi] wr λh o=>h=.returned (.int .i64 n)/\CL w e m d j c l tl k o:=by
 refine(EJ d n lo hi tl wr a.rd u n1 q r).mono ?_;rintro h o ⟨rfl,t,i⟩;exact⟨rfl,⟨a.cr.keeps i a.ap.1 a.ap.2.1 (λg s=>a.g g s),t,a.kp.trans i (λ_ a _=>.inl a),a.fo,a.ap⟩⟩
theorem CL.put{w:World}{k j n:Nat}{u:Option Nat}{c:Cfg}{l:List Bk}{tl:List Nat}{h i:Option Nat}{wr o:World}{x:Bk}(d:CL w k j n u c l tl h wr)(z:aH o j i (l++[x]))(m:aA (λe=>e=j\/h=some e) wr o)(s:i=h\/∃e,i=some e/\wr.heap.size<=e): CL w k j n u c (l++[x]) tl i o:=by
 have C:=d.kp.size;refine⟨⟨d.cr.aF.keeps m (λa=>a.elim d.cr.dr (λa=>d.cr.dg k a rfl)),z,d.cr.dr,λg r=>?_⟩,d.rd.keeps m (λa=>a.elim (λa=>d.ap.2.1 a.symm) (λa=>d.g n a rfl)),d.kp.trans m (λA v B=>?_),?_,d.ap⟩
 ·rcases s with f | ⟨e,f,t⟩
  ·exact d.cr.dg g (by rw[<-f,r])
  rw[r]at f;have:=jA f;have:=d.cr.aF.lt;omega
 ·rcases v with a | a
  ·exact .inr (.inl a)
  rcases d.fo with f | ⟨e,f,t⟩
  ·exact .inr (.inr (by rw[<-f];exact a))
  have q:h=some A:=a;rw[f]at q;have:=jA q;omega
 rcases s with f | ⟨e,f,t⟩
 ·rw[f];exact d.fo
 exact .inr ⟨e,f,by omega⟩
theorem Qr(c:List (List Int)): ∀b,b∈AB c->1<=b.sz:=by
 induction c with
 | nil=>intro b a;simp[AB]at a
 | cons g c d =>
  intro b a;rw[AB,ig]at a;rcases a with a | a
  ·obtain⟨e,_,rfl⟩:=iE.1 a;show(1:Int)<=2 ^ c.length;exact Int.add_one_le_iff.2 (Int.pow_pos (by omega))
  exact d b a
theorem TY(r o k x:Nat)(n:Option Nat)(c:Cfg)(m acc rel:Int)(nv:Value)(j:List (List Int))(tl:List Nat)(w:World)(av:bU w r o n c [])(S:aR w k (Ae ((j.length:Int)::DZ j)++tl))(af:aD w x (IU m acc rel nv) 177)(P:r≠k/\o≠k/\n≠some k)(Q:x≠k/\x≠o/\n≠some x)(ad:gS c.k m rel j)(bc:1<=c.k)(bz:c.k<=10)(cd:m<=4611686018427387904)(cg:rel<=4611686018427387904):
  Calls prog 138 #[.pointer (some ⟨r,0,none⟩),.pointer (some ⟨k,0,none⟩),.pointer (some ⟨x,0,none⟩)] w λv F=>v=.returned (.tuple #[])/\∃s,CL w r o k n c (AB j) tl s F:=by
 have bs:=S.aF.lt
 have ag:=Aa (show ∀F,aA (λD=>D=k\/D=o\/n=some D) w F->F.cell? ⟨x,0,none⟩=some (.int .i64 m)/\F.cell? ⟨x,2,none⟩=some (.int .i64 rel) from λF a2=>by
    have a7:¬(x=k\/x=o\/n=some x):=λv=>v.elim Q.1 (λv=>v.elim Q.2.1 Q.2.2)
    exact⟨(af.keeps a2 a7).cell rfl,(af.keeps a2 a7).cell rfl⟩)
 have ah:=Aa (show CL w r o k n c [] (enc (j.length:Int)++(Ae (DZ j)++tl)) n w by
    rw[BN,List.append_assoc]at S
    exact⟨av,S,aA.refl _ _,.inl rfl,⟨P.1,P.2.1,P.2.2,bs⟩⟩)
 have z:=Aa ad;have az:=ad.len;obtain⟨K,aa⟩:∃K,c.k=K:=⟨_,rfl⟩;have L:=Aa aa;rw[aa]at bc bz;obtain⟨G,ab⟩:∃G,j.length=G:=⟨_,rfl⟩;have Y:=Aa ab;rw[ab]at az;clear av S af ad P Q aa ab;have ca:IntKind.i64.wrap ((G:Int)-1)=(G:Int)-1:=by rw[ic];omega
 go_enter func138,ntmps138;go_wp2_with fail
 refine((show CL w r o k n c [] (enc (G:Int)++(Ae (DZ j)++tl)) n w by rw[<-Y.o];exact ah.o).number (by omega) (by omega) (by omega) (by omega)).mono ?_;rintro v ch ⟨rfl,a3⟩;have bh:=Aa a3;clear a3 ah;go_wp2_with fail
 go_loopw [6,7,8,9] (λbl b a f wr=>∃(V i t:Int) (d:List (List Int)) (e:List Bk) (s:Option Nat),bl=.int .i64 V/\b=.int .i64 i/\a=.int .i64 t/\f=.int .i64 ((d.length:Int)-1)/\1<=V/\0<=i/\i<=rel/\0<=t/\d.length<=62/\Hid (e++AB d=AB j)/\Hid (An e=i)/\Hid (∀b,b∈AB d->t<=b.t)/\Hid (∀g,d.head?=some g->V<=(g.length:Int))/\Hid (∀g,g∈d.tail->K<=(g.length:Int))/\Hid (∀g,g∈d->(g.length:Int)<=K+1)/\Hid (CL w r o k n c e (Ae (DZ d)++tl) s wr)) (λ_ _ _ f _=>(intOf f+1).toNat)
 case atStart =>
  refine⟨1,0,0,j,[],_,rfl,rfl,rfl,by rw[Y.o],by omega,by omega,?_,by omega,by rw[Y.o];exact az,rfl,rfl,λb H=>(z.o.tm b H).1,λg I=>by have:=z.o.fst g I;omega,λg I=>?_,λg I=>?_,bh⟩
  ·have N:=z.o.sum;have Z:=Ee (Qr j);omega
  ·have:=z.o.hS g I;rw[L.o]at this;exact this
  have:=z.o.bL g I;rw[L.o]at this;exact this
 case round =>
  obtain⟨V,i,t,d,e,s,rfl,rfl,rfl,rfl,cc,T,U,W,bp,l,E,A,bj,ap,ai,q⟩:=hrel;cases d with
  | nil =>
   go_wp2;go_end0;have bm:e=AB j:=by have:=l.o;rw[AB,iz]at this;exact this
   refine⟨rfl,s,?_⟩;rw[<-bm];exact q.o
  | cons g d =>
   obtain⟨f,ae⟩:∃f,d.length=f:=⟨_,rfl⟩;have X:=Aa ae;have bo:f<=61:=by rw[iA]at bp;omega
   have au:(((g::d).length:Nat):Int)-1=(f:Int):=by rw[iA,ae];omega
   rw[au];have ay:=ai.o g (by simp);have a0:=bj.o g rfl;obtain⟨B,R⟩:∃B,g.length=B:=⟨_,rfl⟩;rw[R]at ay a0;have ao:=Aa R
   have an:=Aa (show CL w r o k n c e (enc (B:Int)++(Ae g++(Ae (DZ d)++tl))) s wr by
      have:=q.o;rw[DZ,BN,By,R]at this
      simpa only[List.append_assoc] using this)
   have ax:wr.cell? ⟨r,4,none⟩=some (.int .i64 K):=by rw[<-L.o];exact q.o.cr.aF.cell rfl
   have bx:IntKind.i64.wrap (K+1)=K+1:=by rw[ic];omega
   clear q ae R au;have b8:(0:Int)<=(f:Int):=by omega
   go_wp2_with fail
   refine(an.o.number (by omega) (by omega) a0 ay).mono ?_;rintro v ci ⟨rfl,a4⟩;have al:=Aa a4;clear a4 an ax bx;go_wp2_with fail
   have bd:=Gp f bo;obtain⟨u,O⟩:∃u,(2:Int) ^ f=u:=⟨_,rfl⟩;rw[O]at bd;obtain⟨ce,cf⟩:=bd;have b9:IntKind.i64.wrap u=u:=by rw[ic];omega
   go_loopw [7,8,26] (λb a D wr=>∃(i t:Int) (h:Nat) (e:List Bk) (s:Option Nat),b=.int .i64 i/\a=.int .i64 t/\D=.int .i64 (h:Int)/\h<=B/\0<=i/\i<=rel/\0<=t/\Hid (e++((g.drop h).map (λa=>(⟨2 ^ f,a⟩:Bk))++AB d)=AB j)/\Hid (An e=i)/\Hid (∀b,b∈(g.drop h).map (λa=>(⟨2 ^ f,a⟩:Bk))++AB d->t<=b.t)/\Hid (CL w r o k n c e (Ae (g.drop h)++(Ae (DZ d)++tl)) s wr)) (λ_ _ D _=>B-(intOf D).toNat)
   case atStart =>
    have bi:=Aa (show AB (g::d)=g.map (λa=>(⟨2 ^ f,a⟩:Bk))++AB d by rw[AB,X.o]);rw[bi.o]at l A;exact⟨i,t,0,e,s,rfl,rfl,rfl,iM _,T,U,W,l,E,A,al⟩
   case round =>
    clear al l E A T U W;obtain⟨i,t,h,e,s,rfl,rfl,rfl,b6,T,U,W,l,E,A,q⟩:=hrel;by_cases br:h<B
    ·obtain⟨a,bu⟩:∃a,g[h]?=some a:=⟨_,hX (by rw[ao.o];exact br)⟩
     have aj:=Aa (show g.drop h=a::g.drop (h+1) by
        have a6:=ik.1 bu
        rw[List.drop_eq_getElem_cons a6.1,a6.2])
     rw[aj.o,iC,List.cons_append]at l A;rw[aj.o,BN,List.append_assoc]at q;have ba:=A.o ⟨2 ^ f,a⟩ (by simp);have aw:(⟨2 ^ f,a⟩:Bk)∈AB j:=by rw[<-l.o];simp
     obtain⟨be,bg⟩:=z.o.tm _ aw
     have bk:=Aa (show ∀b,b∈(g.drop (h+1)).map (λa=>(⟨2 ^ f,a⟩:Bk))++AB d->a<=b.t by
        have:=z.o.gB;rw[<-l.o]at this;have Z:=(iY.1 this).2.1;intro b H
        exact(ji.1 Z).1 b H)
     have bt:i+u<=rel:=by
      have N:=z.o.sum;rw[<-l.o,show e++((⟨2 ^ f,a⟩:Bk)::((g.drop (h+1)).map (λa=>(⟨2 ^ f,a⟩:Bk))++AB d))=(e++[⟨2 ^ f,a⟩])++((g.drop (h+1)).map (λa=>(⟨2 ^ f,a⟩:Bk))++AB d) by simp,Fx,Fx,E.o]at N;have Z:0<=An ((g.drop (h+1)).map (λa=>(⟨2 ^ f,a⟩:Bk))++AB d):=Ee (λb H=>Qr j b (by rw[<-l.o];exact kW _ (j2 _ H)));have b5:An [(⟨2 ^ f,a⟩:Bk)]=u:=by rw[<-O];simp[An]
      omega
     have hlen:e.length<=4398046511104:=by
      have N:=z.o.hR;rw[<-l.o,hY]at N;omega
     have bf:0<=a:=be;have b1:a<=m:=bg;have bv:t<=a:=ba;clear be bg ba aw;obtain⟨aq,ar⟩:=ag.o wr q.o.kp;have b7:(h:Int)<(B:Int):=by omega
     go_wp2_with fail
     refine(q.o.number bf (by omega) bv b1).mono ?_;rintro v b2 ⟨rfl,a5⟩;have M:=Aa a5;clear a5 q aq ar;have bn:b2.cell? ⟨r,20,none⟩=some (.pointer (some ⟨o,0,none⟩)):=M.o.cr.aF.cell rfl;have C:=show(⟨2 ^ f,a⟩:Bk).val=.agg #[.int .i64 u,.int .i64 a] by rw[<-O];rfl
     go_wp2_with fail
     go_region_with (go_at_call 173;rw[<-C];refine(rowPut_any o s e ⟨2 ^ f,a⟩ _ (by exact M.o.cr.row.still (aA.refl _ _).drew) hlen).mono ?_;rintro v b3 ⟨rfl,b0,a9,a1,a8⟩)
     have am:=Aa ((M.o.still ((aA.refl _ _).drew)).put a9 a1 a8);clear a9 a1 a8 M bn;obtain⟨aq,ar⟩:=ag.o b3 am.o.kp;have cb:IntKind.i64.wrap (i+u)=i+u:=by rw[ic];omega
     go_wp2_with fail
     refine(Gc k _).mono ?_;rintro v b4 ⟨rfl,bb⟩;rw[bb];clear bb b4;go_wp2;go_roundw;case rel=>exact⟨i+u,a,h+1,e++[⟨2 ^ f,a⟩],b0,rfl,rfl,by go_num,by omega,by omega,bt,bf,by show _=_;rw[<-l.o];simp,by show An (e++[_])=_;rw[Fx,E.o,<-O];simp[An],bk,am⟩
     case measure=>simp[intOf];omega
    have bq:h=B:=by omega
    subst bq;have ak:=Aa (show g.drop h=[] by rw[<-ao.o];exact kE);rw[ak.o,kh,jt]at l A;rw[ak.o,Dm,jt]at q;have ax:wr.cell? ⟨r,4,none⟩=some (.int .i64 K):=by rw[<-L.o];exact q.o.cr.aF.cell rfl
    go_wp2;go_roundw;case rel=>exact⟨K,i,t,d,e,s,rfl,rfl,rfl,by rw[X.o],bc,T,U,W,by rw[X.o];omega,l,E,A,λJ C=>ap.o J (List.mem_of_mem_head? C),λJ C=>ap.o J (List.mem_of_mem_tail C),λJ C=>ai.o J (j2 _ C),q⟩
    case measure=>simp[intOf]
theorem OW: ∀a,Dh 0 a=AB a
 | []=>rfl
 | x::xs=>by unfold Dh AB;rw[OW xs,ja]
theorem WE{α:Type}{p:α->Bool}(a d:List α)(e:∀c∈a,p c=true)(h:∀c,d.head?=some c->p c=false): (a++d).takeWhile p=a:=by
 induction a with
 | nil =>
  cases d with
  | nil=>rfl
  | cons c d=>rw[jt,List.takeWhile_cons_of_neg (by rw[h c rfl];simp)]
 | cons c a j=>rw[List.cons_append,List.takeWhile_cons_of_pos (e c (by simp)),j (λy i=>e y (by simp[i]))]
theorem ZV(j:List (List Int)): ∀(pre:List Bk),EH (pre++AB j) j.length pre.length=DZ j:=by
 induction j with
 | nil=>intro pre;rfl
 | cons a c m =>
  intro pre;have l:(pre++AB (a::c)).drop pre.length=AB (a::c):=List.drop_left;have n:C9 (pre++AB (a::c)) (2 ^ c.length) pre.length=pre.length+a.length:=by
   unfold C9;rw[l];unfold AB
   rw[WE _ _ (λb k=>by obtain⟨h,_,rfl⟩:=iE.1 k;simp) (λb k=>by
        have d:b∈AB c:=List.mem_of_head? k;have:∃e,e<c.length/\b.sz=2 ^ e:=by
         clear m l k;induction c with
         | nil=>cases d
         | cons z v u =>
          unfold AB at d;rcases ig.1 d with d | d
          ·obtain⟨h,_,rfl⟩:=iE.1 d;exact⟨v.length,by simp,rfl⟩
          obtain⟨e,w,s⟩:=u d;exact⟨e,by simp;omega,s⟩
        obtain⟨e,x,t⟩:=this;simp only[decide_eq_false_iff_not];rw[t]
        exact λr=>Rh (g:=e) (i:=c.length) (by omega) r.symm),im]
  rw[iA,Ms,n,show pre.length+a.length-pre.length=a.length by omega,l];have o:(AB (a::c)).take a.length=a.map (λh=>(⟨2 ^ c.length,h⟩:Bk)):=by
   unfold AB;rw[iX (by simp),iq (by simp)]
  have q:EH (pre++AB (a::c)) c.length (pre.length+a.length)=DZ c:=by
   have:=m (pre++a.map (λh=>(⟨2 ^ c.length,h⟩:Bk)));rw[List.append_assoc,hY,im]at this;exact this
  rw[o,q,j9];show(a.length:Int)::(a.map id++DZ c)=(a.length:Int)::(a++DZ c);rw[List.map_id]
theorem zNi{K:Nat}{a:List (List Int)}(e:eQ K a): FU (AB a)=(a.length:Int)::DZ a:=by
 have h:DY (AB a)=a.length:=by
  unfold DY;cases a with
  | nil=>rfl
  | cons d c =>
   cases d with
   | nil=>exact absurd e.1 (by simp)
   | cons i d =>
    rw[hZ (by simp[AB])];show bitLen ((2:Int) ^ c.length).toNat=_;have:((2:Int) ^ c.length).toNat=2 ^ c.length:=by
     rw[show(2:Int) ^ c.length=((2 ^ c.length:Nat):Int) by simp];rfl
    rw[this,VO];rfl
 unfold FU;rw[h];congr 1;exact ZV a []
theorem Ys{K:Nat}: ∀e,eQ K e->(AB e).length<=e.length*(K+1)
 | [],_=>by simp[AB]
 | l::xs,a=>by
  have:∀c:List (List Int),(∀a,a∈c->a.length<=K+1)->(AB c).length<=c.length*(K+1):=by
   intro c;induction c with
   | nil=>intro _;simp[AB]
   | cons y c k =>
    intro h;have m:=k (λa j=>h a (by simp[j]));have n:=h y (by simp);unfold AB;rw[hY,im,iA,Nat.succ_mul];omega
  exact this (l::xs) (λg i=>by
     rcases iw.1 i with d | d
     ·subst d;exact a.2.1
     exact(a.2.2 g d).2)
def EA(lv:Nat->List Bk): Nat->Nat->List Int
 | 0,_=>[]
 | k+1,s=>((lv s).length:Int)::(C6 (lv s)++EA lv k (s+1))
def Dt(lv:Nat->List Bk): Nat->Nat->Nat
 | 0,_=>0
 | k+1,s=>(lv s).length+Dt lv k (s+1)
structure gT (m rel:Int) (n:Nat) (lv:Nat->List Bk):Prop where
 len:∀i,(lv i).length<=40
 tm:∀i b,b∈lv i->0<=b.sz/\b.sz<=m/\1<=b.t/\b.t<=40
 gB:∀i,(lv i).Pairwise (λa b=>a.sz<b.sz/\b.t<a.t)
 sum:(Dt lv n 0:Int)<=rel
structure DL (w:World) (d rg r:Nat) (qs0:List (Nat×Option Nat)) (c:Cfg) (ls:Nat->List Bk) (tl:List Nat) (qs:List (Nat×Option Nat)) (wr:World):Prop where
 dr:cZ wr d rg qs c ls
 rd:aR wr r tl
 ln:qs.length=qs0.length
 fo:∀i a,i<qs.length->qf (Aq qs i) a->(∃j,j<qs0.length/\qf (Aq qs0 j) a)\/w.heap.size<=a
 kp:aA (λa=>a=r\/∃j,j<qs0.length/\qf (Aq qs0 j) a) w wr
 ap:d≠r/\rg≠r/\(∀j,j<qs0.length->¬qf (Aq qs0 j) r)/\r<w.heap.size
theorem DL.apart{w:World}{j r h:Nat}{q:List (Nat×Option Nat)}{c:Cfg}{o:Nat->List Bk}{tl:List Nat}{e:List (Nat×Option Nat)}{wr:World}(d:DL w j r h q c o tl e wr)(i a:Nat)(hi:i<e.length)(m:qf (Aq e i) a): a≠h:=λk=>by
 rcases d.fo i a hi m with ⟨n,l,f⟩ | f
 ·exact d.ap.2.2.1 n l (by rw[<-k];exact f)
 have:=d.ap.2.2.2;omega
theorem DL.still{w:World}{e l k:Nat}{j:List (Nat×Option Nat)}{c:Cfg}{h:Nat->List Bk}{tl:List Nat}{i:List (Nat×Option Nat)}{wr m:World}(a:DL w e l k j c h tl i wr)(d:lO wr m): DL w e l k j c h tl i m :=
 ⟨a.dr.still d,a.rd.keeps d id,a.ln,a.fo,a.kp.trans d (λ_ a _=>a.elim),a.ap⟩
theorem DL.new{w:World}{i n m:Nat}{q:List (Nat×Option Nat)}{c:Cfg}{o:Nat->List Bk}{tl:List Nat}{h:List (Nat×Option Nat)}{wr r:World}{bx:Nat}(e:DL w i n m q c o tl h wr)(l:aA (λa=>a=bx) wr r)(j:bx≠i/\bx≠n/\bx≠m/\w.heap.size<=bx)(u:∀a,a<h.length->¬qf (Aq h a) bx): DL w i n m q c o tl h r :=
 ⟨e.dr.keeps l (λd=>j.1 d.symm) (λd=>j.2.1 d.symm) (λa s k t d=>u a k (by rw[<-show s=bx from d];exact t)),e.rd.keeps l (λd=>j.2.2.1 d.symm),e.ln,e.fo,e.kp.trans l (λa k x=>by have v:a=bx:=k;omega),e.ap⟩
theorem DL.number{w:World}{j q d:Nat}{o:List (Nat×Option Nat)}{c:Cfg}{l:Nat->List Bk}{n lo hi:Int}{tl:List Nat}{m:List (Nat×Option Nat)}{wr:World}(a:DL w j q d o c l (enc n++tl) m wr)(x:0<=n)(n1:n<=9223372036854775807)(s:lo<=n)(t:n<=hi):
  Calls prog 77 #[.pointer (some ⟨d,0,none⟩),.int .i64 lo,.int .i64 hi] wr λk i=>k=.returned (.int .i64 n)/\DL w j q d o c l tl m i/\aA (λh=>h=d) wr i:=by
 refine(EJ d n lo hi tl wr a.rd x n1 s t).mono ?_;rintro k i ⟨rfl,v,e⟩;exact⟨rfl,⟨a.dr.keeps e a.ap.1 a.ap.2.1 (λh r hi u=>a.apart h r hi u),v,a.ln,a.fo,a.kp.trans e (λ_ a _=>.inl a),a.ap⟩,e⟩
def J7(ls:Nat->List Bk)(i:Nat)(x:Bk): Nat->List Bk:=λj=>if j=i then ls i++[x] else ls j
theorem DL.put{w:World}{H M L:Nat}{O:List (Nat×Option Nat)}{c:Cfg}{J:Nat->List Bk}{tl:List Nat}{h:List (Nat×Option Nat)}{wr N:World}{i:Nat}{x:Bk}{o:Option Nat}(a:DL w H M L O c J tl h wr)(l:i<h.length)(R:Mk.aH N (Aq h i).1 o (J i++[x]))(t:aA (λu=>u=(Aq h i).1\/(Aq h i).2=some u) wr N)(Q:o=(Aq h i).2\/∃u,o=some u/\wr.heap.size<=u):
  DL w H M L O c (J7 J i x) tl (h.set i ((Aq h i).1,o)) N:=by
 have T:=a.kp.size;have C:∀d,d<h.length->Aq (h.set i ((Aq h i).1,o)) d=if d=i then((Aq h i).1,o) else Aq h d:=λd k=>by
  unfold Aq;simp only[List.getD_eq_getElem?_getD,jE];by_cases a:i=d
  ·subst a;simp[k]
  simp[a,lx a]
 have j:=a.dr;have A:∀e,qf ((Aq h i).1,o) e->qf (Aq h i) e\/wr.heap.size<=e:=λe n=>by
  rcases n with n | n
  ·exact .inl (.inl n)
  rcases Q with a | ⟨u,a,t⟩
  ·exact .inl (.inr (by rw[<-a];exact n))
  have I:o=some e:=n;rw[a]at I;injection I with I;exact .inr (by omega)
 have G:∀e,wr.heap.size<=e->e≠H/\e≠M/\∀d,d<h.length->¬qf (Aq h d) e:=λe n=>by
  refine⟨λa=>?_,λa=>?_,λd k a=>?_⟩
  ·have:=j.aF.lt;omega
  ·have:=j.fI.lt;omega
  rcases a with a | a
  ·have:=(j.row d k).lt.1;omega
  have:=((j.row d k).lt.2 e a).1;omega
 refine⟨⟨?_,?_,?_,?_,?_,j.dr⟩,a.rd.keeps t (λv=>a.apart i L l v rfl),by rw[jx];exact a.ln,?_,a.kp.trans t (λe n S=>?_),a.ap⟩
 ·rw[jx];exact j.aF.keeps t (λv=>(j.nd i l).1 v)
 ·have:CO (h.set i ((Aq h i).1,o))=CO h:=by
   unfold CO;rw[kH];apply j4;intro d;rw[jE];split
   ·rename_i a;subst a;split
    ·rename_i s;have:=H9 l;unfold CO at this;rw[this]
    rename_i s;simp at s;omega
   rfl
  rw[this];exact j.fI.keeps t (λv=>(j.nd i l).2 v)
 ·intro d k;rw[jx]at k;rw[C d k];unfold J7;by_cases B:d=i
  ·subst B;rw[h9 rfl,h9 rfl];exact R
  rw[hZ B,hZ B];exact(j.row d k).keeps t (λa=>B (j.dj d i _ k l (.inl rfl) a)) (λg P a=>B (j.dj d i g k l (.inr P) a))
 ·intro D E e z s q r;rw[jx]at z s;rw[C D z]at q;rw[C E s]at r;by_cases m:D=i <;> by_cases F:E=i
  ·omega
  ·rw[h9 m]at q;rw[hZ F]at r;rcases A e q with a | a
   ·exact m.trans (j.dj i E e l s a r)
   exact((G e a).2.2 E s r).elim
  ·rw[hZ m]at q;rw[h9 F]at r;rcases A e r with a | a
   ·exact(j.dj D i e z l q a).trans F.symm
   exact((G e a).2.2 D z q).elim
  rw[hZ m]at q;rw[hZ F]at r;exact j.dj D E e z s q r
 ·intro d k;rw[jx]at k;rw[C d k];by_cases m:d=i
  ·rw[h9 m];refine⟨λf=>?_,λf=>?_⟩
   ·rcases A _ f with a | a
    ·exact(j.nd i l).1 a
    exact(G _ a).1 rfl
   rcases A _ f with a | a
   ·exact(j.nd i l).2 a
   exact(G _ a).2.1 rfl
  rw[hZ m];exact j.nd d k
 ·intro d e k f;rw[jx]at k;rw[C d k]at f;by_cases m:d=i
  ·rw[h9 m]at f;rcases A e f with g | g
   ·exact a.fo i e l g
   exact .inr (by omega)
  rw[hZ m]at f;exact a.fo d e k f
 rcases a.fo i e l n with g | g
 ·exact .inr g
 omega
theorem zPb{c:List (Nat×Option Nat)}{wr:World}{i bx:Nat}{e:Option Nat}(m:e=(Aq c i).2\/∃j,e=some j/\wr.heap.size<=j)(n:bx<wr.heap.size)(h:∀a,a<c.length->¬qf (Aq c a) bx): ∀a,a<(c.set i ((Aq c i).1,e)).length->¬qf (Aq (c.set i ((Aq c i).1,e)) a) bx:=by
 intro a d f;rw[jx]at d;unfold Aq at f;simp only[List.getD_eq_getElem?_getD,jE]at f;by_cases k:i=a
 ·subst k;simp only[d,h9]at f;rcases f with f | f
  ·exact h i d (.inl f)
  rcases m with g | ⟨j,g,o⟩
  ·exact h i d (.inr (g ▸ f))
  have l:e=some bx:=f;rw[g]at l;have:=jA l;omega
 rw[hZ k]at f;exact h a d (by unfold Aq;rw[List.getD_eq_getElem?_getD];exact f)
