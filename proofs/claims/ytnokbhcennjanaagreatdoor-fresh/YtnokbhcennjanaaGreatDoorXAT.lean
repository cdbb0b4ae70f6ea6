import Derived.Test.YtnokbhcennjanaaGreatDoorXAR
open Go.RowKit Go.Proofs.Tryz
set_option maxRecDepth 100000
set_option maxHeartbeats 16000000
namespace Go.Proofs.YtnokbhcennjanaaGreatDoor
section
theorem QO: (prog.info? 155).map (λa=>(a.zero,a.size,a.bytes))=some (some (.agg #[ι 0,ι 0,.bool false,ι 0]),4,32):=by kernel_rfl
theorem aZ.aV{w:World}{e:Nat}{v:Value}{clock aC i m:Int}{ps:List (RB×aG)}(a:aZ w e v clock aC ps){w':World}(j:aA (λc=>c=e) w w')(n:aD w' e [ι i,ι m,v] 105): aZ w' e v i m ps :=
 ⟨n,An a.row j (λc h d=>a.ev (by rw[<-d];exact h)),λl k=>(a.bM l k).keeps j (λc h d=>(a.ef l k c h).1 d),a.apart,a.ev,a.ef⟩
theorem Kh{a c:RB}{wr e h:World}(i:a.next c wr.heap.size)(k:aA a.aQ wr e)(l:aA c.aQ e h): aA a.aQ wr h :=
 k.trans l (λm j n=>by rcases i.2 m j with d | d;exact d;omega)
theorem Mc{a c d:RB}{wr k:World}(i:a.next c wr.heap.size)(m:aA a.aQ wr k)(h:c.next d k.heap.size): a.next d wr.heap.size :=
 ⟨h.1.trans i.1,λj l=>by
    rcases h.2 j l with e | e
    ·exact i.2 j e
    exact .inr (by have:=m.size;omega)⟩
theorem SH(mark aC:Int)(h:aC≠0)(f:Nat): ∀(a:Nat) (y:aG),(Aq y.items).length<f->(Aq y.items).length<a->BX f y mark aC=BX a y mark aC:=by
 induction f with
 | zero=>intro a y c;omega
 | succ f i =>
  intro a y c k;obtain⟨a,rfl⟩:∃j,a=j+1:=⟨a-1,by omega⟩;unfold BX;rcases Ic y.items mark with ⟨l,_⟩ | ⟨m,d,e,_⟩
  ·rw[ij (by omega),ij (by omega)]
  rw[ig (by omega),ig (by omega)];have n:=Is aC h y.items _ d e;exact i a _ (by show(Aq (Bf _ _ _)).length<f;omega) (by show(Aq (Bf _ _ _)).length<a;omega)
theorem Kc(a done:List aG)(c i:List (RB×aG))(p:RB×aG)(k:Nat)(s:c.length=k)(r:done.length=k)(h:k<a.length)(d:(c++p::i).map (·.2)=done++a.drop k)(l:RB)(j:aG):
  (c++(l,j)::i).map (·.2)=(done++[j])++a.drop (k+1)/\a.drop k=p.2::a.drop (k+1):=by
 have q:(c.map (·.2)).length=done.length:=by simp;omega
 rw[iB]at d;obtain⟨m,e⟩:=List.append_inj d q;rw[δ h,iF]at e;injection e with n o;refine⟨?_,?_⟩
 ·rw[iB,iF,m,o];simp
 rw[δ h,n]
theorem W9(a:List (RB×aG))(k:Nat)(d:k<a.length): ∃c p e,a=c++p::e/\c.length=k:=by
 refine⟨a.take k,a[k],a.drop (k+1),?_,by simp;omega⟩;rw[<-δ d,τ]
theorem ZP{w i:World}{B:Obj}{b:RB}{y:aG}{j:dU}{gg n r:Nat}{nv:Value}(e:bN w b y)(z:y.events.length=n)(A:nv=σ gg (n+1) r)(C:i.ownsRow 0 155 4 nv (n+1) (Da y.events++j.cells))(u:(w.alloc B).grownBy i b.ev.ownBlock)(l:b.ev.ownBlock=some gg\/gg=w.heap.size+1):
  bN (i.setCell ⟨b.s,22,none⟩ nv) ⟨b.s,b.iv,nv⟩ { y with events:=y.events++[j] }/\aA b.aQ w (i.setCell ⟨b.s,22,none⟩ nv)/\b.next ⟨b.s,b.iv,nv⟩ w.heap.size:=by
 have k:nv.ownBlock=some gg:=by rw[A];rfl
 have o:aA (λc=>b.ev.ownBlock=some c) w i:=((aA.refl _ w).alloc B).grown u (λF x=>Or.inl x);have q:aA (λc=>c=b.s) i (i.setCell ⟨b.s,22,none⟩ nv):=(aA.refl (λc=>c=b.s) i).setCell (p:=⟨b.s,22,none⟩) (Or.inl rfl) _;have E:=e.aF.lt;have v:gg≠b.s:=by
  rcases l with h | h
  ·intro t;exact e.se (by rw[h,t])
  omega
 refine⟨⟨?_,?_,?_,e.si,?_,?_⟩,?_,rfl,?_⟩
 ·have:=(e.aF.keeps o (λd=>e.se d)).setCell 22 nv;rw[Ou b y nv (y.events++[j])]at this;exact this
 ·exact An (An e.bC o (λc a d=>e.ie c a d)) q (λc a d=>e.si (by rw[<-d];exact a))
 ·have s:=An C q (λc a d=>by rw[k]at a;injection a with a;omega);show World.ownsRow _ 0 155 4 nv (y.events++[j]).length (Da (y.events++[j]));rw[ic,z];have:Da (y.events++[j])=Da y.events++j.cells:=by simp[Da]
  rw[this];exact s
 ·show nv.ownBlock≠some b.s;rw[k];intro d;injection d with d;exact v d
 ·intro c a d;have m:gg=c:=by have:nv.ownBlock=some c:=d;rw[k]at this;injection this
  have D:=(e.bC.lt c a).2;rcases l with h | h
  ·exact e.ie c a (by rw[h,m])
  omega
 ·exact(o.mono (M':=b.aQ) (λc _ d=>.inr (.inr d))).trans q (λc a _=>.inl a)
 intro c a;rcases a with a | a | a
 ·exact .inl (.inl a)
 ·exact .inl (.inr (.inl a))
 have m:gg=c:=by have:nv.ownBlock=some c:=a;rw[k]at this;injection this
 rcases l with h | h
 ·exact .inl (.inr (.inr (by rw[h,m])))
 exact .inr (by omega)
theorem Tg{a c b:Int}{y:aG}{d:List aG}(e:y.c.kind≠1): BA a c b (y::d)=(Bl a c y::(BA a c b d).1,(BA a c b d).2):=by
 simp only[BA];rw[ig e]
theorem N4{a c b:Int}{y:aG}{d:List aG}(e:y.c.kind=1): BA a c b (y::d)=(F9 a b (Bl a c y)::(BA a c (b-min (Cb a (Bl a c y)) b) d).1,Cb a (Bl a c y)-min (Cb a (Bl a c y)) b+(BA a c (b-min (Cb a (Bl a c y)) b) d).2):=by
 simp only[BA];rw[ij e]
theorem XI(n:Int)(e:Nat)(v:Value)(clock aC t am:Int)(ps:List (RB×aG))(w:World)(h:aZ w e v clock aC ps)(hi:bZ n clock aC (ps.map (·.2)))(g3:n<1099511627776)(gb:0<=t)(gc:t<=4611686018427387904)(u0:0<=am)(u1:am<=100):
  Calls prog 62 #[.pointer (some ⟨e,0,none⟩),.int .i64 t,.int .i64 am] w λci a5=>ci=.returned (.int .i64 (BA (Av clock t) (aC+1) am (ps.map (·.2))).2)/\Dm w e v ps ⟨Av clock t,aC+1,(BA (Av clock t) (aC+1) am (ps.map (·.2))).1⟩ a5:=by
 have ck:=Aa h;have cl:=Aa hi;have fi:=h.aF.c0;have ao:=h.aF.frozen;have c0:=hi.c0;have c1:=hi.c1;have g7:=hi.t0;have g8:=hi.tn;clear h hi;go_enter func62,ntmps62;go_upto_if 19 with fail
 go_cut [] (λex=>Hid (aZ ex e v (Av clock t) aC ps)/\Hid (aA (λm=>m=e) w ex))
 case first =>
  by_cases ft:clock<t
  ·go_wp2;go_meet
   have bg:aA (λm=>m=e) w (w.setCell ⟨e,0,none⟩ (.int .i64 t)):=(aA.refl (λm=>m=e) w).setCell (p:=⟨e,0,none⟩) (Or.inl rfl) _;refine⟨?_,bg⟩;unfold Av;rw[ij ft];exact ck.o.aV bg (ck.o.aF.setCell 0 (.int .i64 t))
  go_wp2;go_meet
  refine⟨?_,aA.refl _ _⟩;unfold Av;rw[ig (by omega)];exact ck.o
 case rest =>
 obtain⟨a7,dq⟩:=hcut;clear fi ao;have fx:0<=Av clock t/\Av clock t<=4611686018427387904:=by unfold Av;split <;> omega
 obtain⟨dk,dl⟩:=fx;have e0:=Aa (show clock<=Av clock t by unfold Av;split <;> omega);generalize eh:Av clock t=x at *
 have e5:=Aa eh;clear eh c0 c1 gb gc;have f0:=a7.o.aF.c1;have ao:=a7.o.aF.frozen;have dh:IntKind.i64.wrap (aC+1)=aC+1:=GY (by omega) (by omega);go_wp2_with fail
 have J:aA (λm=>m=e) wc (wc.setCell ⟨e,1,none⟩ (.int .i64 (aC+1))):=(aA.refl (λm=>m=e) wc).setCell (p:=⟨e,1,none⟩) (Or.inl rfl) _;have O:=Aa (a7.o.aV J (a7.o.aF.setCell 1 (.int .i64 (aC+1))));have e2:=Aa ((dq.o.then J).mono (M':=bH e v ps) (λm _ ap=>.inl ap));clear J f0 ao a7 dq dh;generalize wc.setCell ⟨e,1,none⟩ (.int .i64 (aC+1))=ha at *
 have df:aC+1≠0:=by omega
 generalize el:aC+1=u at *
 have fd:=Aa el;clear el;obtain⟨bs,bt,f1,-,em,-⟩:=DZ O.o.row;have eo:(ps.map (·.2)).length=ps.length:=by simp
 generalize eg:ps.length=I at *
 have gg:=Aa eg;have a1:=Aa eo;have g2:I<=6:=by have:=cl.o.bX;omega
 have fe:=Aa em;clear eg em eo;subst f1;go_loopg [2,7,8] (I) (λg L f9 m wr=>∃(r:Nat) (ag:List (RB×aG)) (l all:Int) (done:List aG),g=I-r/\r<=I/\L=.int .i64 l/\f9=.int .i64 all/\m=.int .i64 r/\0<=l/\l<=100/\0<=all/\all<=r*4398046511104/\Hid (aZ wr e (.slice bs I bt) x u ag)/\Hid (done.length=r)/\Hid (ag.map (·.2)=done++(ps.map (·.2)).drop r)/\Hid (BA x u am (ps.map (·.2))=(done++(BA x u l ((ps.map (·.2)).drop r)).1,all+(BA x u l ((ps.map (·.2)).drop r)).2))/\Hid (aA (bH e (.slice bs I bt) ps) w wr)/\Hid (∀m,bH e (.slice bs I bt) ag m->bH e (.slice bs I bt) ps m\/w.heap.size<=m))
 case atStart=>exact⟨0,ps,am,0,[],by omega,by omega,rfl,rfl,rfl,u0,u1,by omega,by omega,O,rfl,rfl,by show _=_;simp,e2,λm hi=>.inl hi⟩
 case round =>
  obtain⟨W,f6⟩:∃W,W=wr:=⟨wr,rfl⟩;subst f6;obtain⟨d3,fs⟩:∃d3,d3=gk:=⟨gk,rfl⟩;subst fs;obtain⟨r,ag,l,all,done,gu,bg,rfl,rfl,rfl,gm,gn,gj,gl,P,Y,a0,b1,ak,ah⟩:=hrel;have ej:ag.length=I:=by
   have Q:=congrArg List.length a0.o;have a3:=a1.o;have b6:=Y.o;rw[ic,iu,iU,a3,b6]at Q;omega
  have e7:=Aa ej;clear ej;have d1:=P.o.aF.c2;by_cases bi:r<I
  ·obtain⟨au,c,av,bn,bh⟩:=W9 ag r (by rw[e7.o];exact bi);have cn:=Aa bn;have cm:=Aa bh;have cc:c∈ag:=by rw[bn];simp
   have gh:=Aa cc;have du:=Aa (P.o.bM c cc);have db:c.2∈ps.map (·.2):=by
    have:=a0.o;rw[bn]at this;have a3:=(Kc _ done au av c r bh Y.o (by rw[a1.o];exact bi) this c.1 c.2).2;exact iE (i:=r) (by rw[a3];simp)
   have ay:=Aa (cl.o.bD c.2 db)
   have ez:=Aa (show c.2.c.kind=1->eD x (Bl x u c.2) from λQ=>by
      obtain⟨di,dj,_,_,_,_⟩:=ay.o.common
      exact PH df (cl.o.bL c.2 db Q) e0.o (by have:=Ek (k:=1) ay.o.valid Q rfl;omega) (by omega))
   obtain⟨di,dj,_,_,_,_⟩:=ay.o.common;obtain⟨d2,fp⟩:=fe.o (by omega);subst fp;have fk:W.cell? ⟨d2,r,none⟩=some (.pointer (some ⟨c.1.s,0,none⟩)):=by
    obtain⟨gi,F,f2,-,-,fj⟩:=DZ P.o.row;injection f2 with Q a3 b6;refine(fj d2 Q.symm).1 r _ ?_;unfold E6;rw[bn,iB,iO (by simp[bh])];simp[bh]
   have a2:=P.o.aF.c0;have et:=du.o.aF.c2;have ei:¬c.1.aQ e:=λap=>(P.o.ef c cc e ap).1 rfl;have dt:=Aa ei;have gv:(c.2.items.length:Int)<=n:=ay.o.items;clear bn bh cc db ei;have g0:(0:Int)<=(r:Int):=by omega
   have ee:(r:Int)<(I:Int):=by omega
   go_wp2_with fail
   refine(J0 e c.1.s c.2.c.aL x W a2 et di dj dk dl).mono ?_;rintro ci gd ⟨rfl,J⟩;have co:=Aa (du.o.still J);have ds:=Aa (J.mono (M':=c.1.aQ) (λ_ _ h=>h.elim));have d0:=J.cell a2 id;clear J;go_wp2_with fail
   refine(Pz e x c.1 c.2 gd co.o d0 (by omega) di dj dk dl).mono ?_;rintro ci hd ⟨rfl,aq⟩;have e8:=Aa (co.o.still aq);have e4:=Aa (ds.o.trans aq (λ_ h _=>h.elim));clear aq d0 co ds;generalize bl:x-c.2.c.aL=mark at *
   have bz:=Aa bl;clear bl;have dg:=EC c.2.items;have fo:=ay.o.events
   have fc:=Aa (show Bl x u c.2=BX ((Aq c.2.items).length+1) c.2 mark u from by
      unfold Bl;rw[bz.o]
      exact SH mark u df _ _ _ (by omega) (by omega))
   have fm:(c.2.events.length:Int)+((Aq c.2.items).length:Int)<=(c.2.items.length:Int)+n:=by omega
   clear dg fo;go_wp2_with fail
   clear fk a2 et d1;go_loopg [11] ((Aq c.2.items).length) (λg f8 G=>∃(dz:RB) (aw:aG),Hid (bN G dz aw)/\Hid (c.1.next dz W.heap.size)/\Hid (aA c.1.aQ W G)/\f8=.int .i64 (C3 aw.items mark)/\(Aq aw.items).length=g/\aw.items.length=c.2.items.length/\(aw.events.length:Int)+(g:Int)<=(c.2.items.length:Int)+n/\Hid (aw.c=c.2.c)/\Hid (Bl x u c.2=BX (g+1) aw mark u))
   case atStart=>exact⟨c.1,c.2,e8,⟨rfl,λ_ h=>.inl h⟩,e4,rfl,rfl,rfl,fm,rfl,fc⟩
   case round =>
    obtain⟨G,f3⟩:∃G,G=wr:=⟨wr,rfl⟩;subst f3;obtain⟨g,bf⟩:∃g,g=gk:=⟨gk,rfl⟩;subst bf;obtain⟨o,d,aa,R,ai,rfl,fq,gw,gr,ax,dw⟩:=hrel;have cu:o.s=c.1.s:=R.o.1;have N:=Aa cu;have a6:=Aa (show aD G c.1.s (CB o d) 113 by rw[<-cu];exact aa.o.aF);clear cu;rcases Ic d.items mark with ⟨fy,_⟩ | ⟨eb,J,aq,ec⟩
    ·have ek:G.cell? ⟨c.1.s,1,none⟩=some (.int .i64 c.2.c.kind):=by
      rw[<-ax.o];exact a6.o.cell rfl
     rw[fy];have a9:=Aa (show Bl x u c.2=d from by rw[dw.o];unfold BX;rw[ij (by omega)]);by_cases a4:c.2.c.kind=1
     ·have bx:=Aa a4;rw[a4]at ek;have cw:=ez.o a4;rw[a9.o]at cw;have bo:=Ek (k:=1) ay.o.valid a4 rfl;have cv:fC d.c:=by rw[ax.o];exact⟨bo.1,bo.2.1,bo.2.2.1,bo.2.2.2⟩
      obtain⟨-,-,hb,hc⟩:=bo;have hlen:d.events.length<=2199023255552:=by omega
      have dm:=Aa (λ(b3:World) (bg:lX G b3)=>(show Calls prog 80 #[.pointer (some ⟨c.1.s,0,none⟩)] b3 λe a5=>∃ev,e=.returned ev/\BW a5 ev (A5 d.c d.events).reverse/\lX b3 a5 by
           have:=NV o d b3 (aa.o.still bg) cv cw.ok (by omega);rw[N.o]at this
           exact this))
      have ga:G.cell? ⟨c.1.s,6,none⟩=some (.int .i64 c.2.c.aB):=by
       rw[<-ax.o];exact a6.o.cell rfl
      have fh:(A5 d.c d.events).length<=2199023255552:=by
       have Q:=JX cv d.events;have a3:=Ja Q.one;have b6:=Q.sum;omega
      have fz:=pastN_le (A5 d.c d.events) (mark-c.2.c.aB);obtain⟨j,cx⟩:∃j:Int,j=(pastN (A5 d.c d.events) (mark-c.2.c.aB):Int):=⟨_,rfl⟩;have Lk:0<=j:=by omega
      have gp:j<=2199023255552:=by omega
      have bu:=Aa (show Cb x (Bl x u c.2)=j by
         rw[a9.o,cx];unfold Cb
         rw[ax.o,bz.o])
      have e1:=Aa cx;have ey:=Aa (show(A5 d.c d.events).length<=4398046511104 by omega);have dh:IntKind.i64.wrap (mark-c.2.c.aB)=mark-c.2.c.aB:=by have:=bz.o;rw[il];omega
      clear cx fz fh cv cw;go_wp2_with fail
      go_region_held3 (λa5=>a5.cell? ⟨c.1.s,6,none⟩=some (.int .i64 c.2.c.aB))
       (first | (simp[*];done) | exact da.cell (by assumption) id)
       (first | (go_at_call 80;refine(dm.o _ (by exact(aA.refl _ _).drew)).mono ?_;rintro e he ⟨g9,rfl,d5,da⟩) | (go_at_call 90;refine(Qh _ (A5 d.c d.events) (mark-c.2.c.aB) _ (by exact d5) ey.o).mono ?_;rintro d1 q ⟨rfl,rfl⟩;rw[<-e1.o]))
      all_goals
       have dr:=Aa (((aA.refl (λ_=>False) G).drew).then da);have S:=Aa (aa.o.still dr.o);have aj:=Aa (ai.o.trans dr.o (λ_ h _=>h.elim));clear d5 da dm ga ek aa ai a6 dh;have X:=Aa (show aD q c.1.s (CB o d) 113 by rw[<-N.o];exact S.o.aF);have br:q.cell? ⟨c.1.s,22,none⟩=some o.ev:=X.o.cell rfl;have ao:=X.o.frozen;have dc:=X.o.lt;have af:=S.o.eR;obtain⟨b4,b5,an⟩:∃L cr,o.ev=.slice L d.events.length cr:=by
        obtain⟨L,cq,ap,_⟩:=DZ af;exact⟨L,cq,ap⟩
       obtain⟨ch,b7,ce,cf,cg⟩:=jg QO;have cp:=Aa (show o.ev.ownBlock≠some c.1.s by rw[<-N.o];exact S.o.se);generalize bm:d.events.length=D at *
       have b0:=Aa bm;clear bm;have T:Hid (∀z C,(q.alloc z).grownBy C o.ev.ownBlock->C.cell? ⟨c.1.s,22,none⟩=some o.ev/\C.frozen? ⟨c.1.s,22,none⟩=false):=λz C bf=>by
        have bc:C.heap[c.1.s]?=q.heap[c.1.s]?:=by
         rw[bf.block c.1.s (by simp;omega) (λh=>cp.o h.symm)];show(q.alloc z).heap[c.1.s]?=_;rw[ju _ _ _ dc]
        exact⟨(jB (a:=⟨c.1.s,22,none⟩) bc).trans br,(jM (a:=⟨c.1.s,22,none⟩) bc).trans (ao 22)⟩
       have cb:Hid (∀z,(q.alloc z).heap[q.heap.size]?=some z):=λz=>iH q z
       have bv:=Aa (λ(gf:Int) (C:World) (E F:Nat) (z:Obj) (M:C.ownsRow 0 155 4 (.slice (some ⟨E,0,none⟩) (D+1) F) (D+1) (Da d.events++(⟨0,0,true,gf⟩:dU).cells)) (A:(q.alloc z).grownBy C o.ev.ownBlock) (H:o.ev.ownBlock=some E\/E=q.heap.size+1) =>
          ZP S.o b0.o rfl M A H)
       rw[an]at br af T;have b2:=Aa an;clear an;by_cases gq:l<j
       ·have bk:min j l=l:=by omega
        have f5:IntKind.i64.wrap (l-l)=l-l:=by rw[il];omega
        have f4:IntKind.i64.wrap (all+j)=all+j:=by rw[il];omega
        have dg:IntKind.i64.wrap (all+j-l)=all+j-l:=by rw[il];omega
        have a8:=Aa bk;clear bk;go_wp2_with (at_builtin;refine jf _ rfl _ _ _ rfl 0 155 ch _ 4 32 underlying110 b7 ce cf cg rfl (by omega) (.slice b4 D b5) D (Da d.events) rfl (af.alloc _) ⟨q.heap.size,0,none⟩ 1 1 [.int .i64 0,.int .i64 0,.bool true,.int .i64 l] rfl rfl (iJ (cs:=#[.int .i64 0,.int .i64 0,.bool true,.int .i64 l]) (t:=155) (fr:=(0,0)) (cb.out _)) (by simp[Value.oneCell']) (by omega) (by unfold maxLen;omega) (by omega) (by omega) (q.heap.size+1) (by simp) ?_;intro E F C M A H bj;have bd:=(T.out _ _ A).1;have be:=(T.out _ _ A).2)
        all_goals
         rw[<-b2.o]at A H;have O:=bv.o l _ _ _ _ M A H;rw[N.o]at O;obtain⟨ab,ad,ae⟩:=O;have az:=Aa ab;have Z:=Aa (Kh R.o aj.o ad);have al:=Aa (Mc R.o aj.o (show o.next ⟨c.1.s,o.iv,.slice (some ⟨E,0,none⟩) (D+1) F⟩ q.heap.size from⟨N.o.symm,ae.2⟩));clear ab ad ae M A H bj bd be;go_roundg (I-(r+1))
         case measure=>omega
         case rel =>
          have ba:=P.o;have V:=a0.o;have bb:=cn.o;subst bb;obtain⟨bp,bq⟩:=Kc _ done au av c r cm.o Y.o (by rw[a1.o];exact bi) V ((⟨c.1.s,o.iv,.slice (some ⟨E,0,none⟩) (D+1) F⟩:RB)) (({ d with events:=d.events++[⟨0,0,true,l⟩] }:aG));refine⟨r+1,au++((⟨c.1.s,o.iv,.slice (some ⟨E,0,none⟩) (D+1) F⟩:RB),({ d with events:=d.events++[⟨0,0,true,l⟩] }:aG))::av,l-l,all+j-l,done++[({ d with events:=d.events++[⟨0,0,true,l⟩] }:aG)],rfl,by omega,by first | rfl | go_num,by first | rfl | go_num,by go_num,by omega,by omega,by omega,by omega,ba.one Z.o az.o al.o,by show _=_;rw[ic,Y.o];rfl,bp,?_,?_,?_⟩
          ·show _=_;rw[b1.o,bq];rw[N4 bx.o,bu.o,a8.o];have ct:F9 x l (Bl x u c.2)=({ d with events:=d.events++[⟨0,0,true,l⟩] }:aG):=by
            unfold F9;rw[bu.o,a8.o,a9.o]
           rw[ct,List.append_assoc,kz];refine Prod.ext rfl ?_;show all+(j-l+_)=all+j-l+_;omega
          ·refine ak.o.trans Z.o (λm hi ef=>?_);rcases ah.o m (.inr (.inr ⟨c,by simp,hi⟩)) with h | h
           ·exact h
           omega
          intro m hi;rcases bH.one (w:=W) al.o m hi with h | h
          ·exact ah.o m h
          exact .inr (by have:=ak.o.size;omega)
       have bk:min j l=j:=by omega
       have f5:IntKind.i64.wrap (l-j)=l-j:=by rw[il];omega
       have f4:IntKind.i64.wrap (all+j)=all+j:=by rw[il];omega
       have dg:IntKind.i64.wrap (all+j-j)=all+j-j:=by rw[il];omega
       have a8:=Aa bk;clear bk;go_wp2_with (at_builtin;refine jf _ rfl _ _ _ rfl 0 155 ch _ 4 32 underlying110 b7 ce cf cg rfl (by omega) (.slice b4 D b5) D (Da d.events) rfl (af.alloc _) ⟨q.heap.size,0,none⟩ 1 1 [.int .i64 0,.int .i64 0,.bool true,.int .i64 j] rfl rfl (iJ (cs:=#[.int .i64 0,.int .i64 0,.bool true,.int .i64 j]) (t:=155) (fr:=(0,0)) (cb.out _)) (by simp[Value.oneCell']) (by omega) (by unfold maxLen;omega) (by omega) (by omega) (q.heap.size+1) (by simp) ?_;intro E F C M A H bj;have bd:=(T.out _ _ A).1;have be:=(T.out _ _ A).2)
       all_goals
        rw[<-b2.o]at A H;have O:=bv.o j _ _ _ _ M A H;rw[N.o]at O;obtain⟨ab,ad,ae⟩:=O;have az:=Aa ab;have Z:=Aa (Kh R.o aj.o ad);have al:=Aa (Mc R.o aj.o (show o.next ⟨c.1.s,o.iv,.slice (some ⟨E,0,none⟩) (D+1) F⟩ q.heap.size from⟨N.o.symm,ae.2⟩));clear ab ad ae M A H bj bd be;go_roundg (I-(r+1))
        case measure=>omega
        case rel =>
         have ba:=P.o;have V:=a0.o;have bb:=cn.o;subst bb;obtain⟨bp,bq⟩:=Kc _ done au av c r cm.o Y.o (by rw[a1.o];exact bi) V ((⟨c.1.s,o.iv,.slice (some ⟨E,0,none⟩) (D+1) F⟩:RB)) (({ d with events:=d.events++[⟨0,0,true,j⟩] }:aG));refine⟨r+1,au++((⟨c.1.s,o.iv,.slice (some ⟨E,0,none⟩) (D+1) F⟩:RB),({ d with events:=d.events++[⟨0,0,true,j⟩] }:aG))::av,l-j,all+j-j,done++[({ d with events:=d.events++[⟨0,0,true,j⟩] }:aG)],rfl,by omega,by first | rfl | go_num,by first | rfl | go_num,by go_num,by omega,by omega,by omega,by omega,ba.one Z.o az.o al.o,by show _=_;rw[ic,Y.o];rfl,bp,?_,?_,?_⟩
         ·show _=_;rw[b1.o,bq];rw[N4 bx.o,bu.o,a8.o];have ct:F9 x l (Bl x u c.2)=({ d with events:=d.events++[⟨0,0,true,j⟩] }:aG):=by
           unfold F9;rw[bu.o,a8.o,a9.o]
          rw[ct,List.append_assoc,kz];refine Prod.ext rfl ?_;show all+(j-j+_)=all+j-j+_;omega
         ·refine ak.o.trans Z.o (λm hi ef=>?_);rcases ah.o m (.inr (.inr ⟨c,by simp,hi⟩)) with h | h
          ·exact h
          omega
         intro m hi;rcases bH.one (w:=W) al.o m hi with h | h
         ·exact ah.o m h
         exact .inr (by have:=ak.o.size;omega)
     have g1:(c.2.c.kind !=1)=true:=by simpa using a4
     have bx:=Aa a4;go_wp2;go_roundg (I-(r+1))
     case measure=>omega
     case rel =>
      have ba:=P.o;have V:=a0.o;have bb:=cn.o;subst bb;obtain⟨bp,bq⟩:=Kc _ done au av c r cm.o Y.o (by rw[a1.o];exact bi) V (o) (d);refine⟨r+1,au++(o,d)::av,l,all,done++[d],rfl,by omega,rfl,rfl,by go_num,by omega,by omega,by omega,by omega,ba.one ai.o aa.o R.o,by show _=_;rw[ic,Y.o];rfl,bp,?_,?_,?_⟩
      ·show _=_;rw[b1.o,bq];rw[Tg bx.o,a9.o,List.append_assoc,kz]
      ·refine ak.o.trans ai.o (λm hi ef=>?_);rcases ah.o m (.inr (.inr ⟨c,by simp,hi⟩)) with h | h
       ·exact h
       omega
      intro m hi;rcases bH.one (w:=W) R.o m hi with h | h
      ·exact ah.o m h
      exact .inr (by have:=ak.o.size;omega)
    obtain⟨B,ca⟩:=jl eb;rw[ca]at J aq ec;rw[iM]at J aq ec;have dp:=Aa ca;rw[ca];clear ca eb
    have fa:=Aa (show Bl x u c.2=BX g { d with items:=Bf d.items B u,events:=d.events++[⟨(Aj d.items B).t,mark,false,0⟩] } mark u from by
       rw[dw.o]
       conv=>lhs;unfold BX
       rw[ig (by rw[dp.o];omega),dp.o,iM])
    have en:=Is u df d.items B J aq;obtain⟨f7,es,b9,-,d8,b8⟩:=DZ aa.o.bC;obtain⟨U,d7⟩:=d8 (by omega);obtain⟨d9,fu⟩:=b8 U d7;subst d7;have fv:G.cell? ⟨U,B*5+4,none⟩=some (.int .i64 (Aj d.items B).tick):=d9 _ _ (by rw[C8 _ _ _ J (by omega)];rfl);have eu:G.cell? ⟨c.1.s,21,none⟩=some (.slice (some ⟨U,0,none⟩) d.items.length es):=by rw[<-b9];exact a6.o.cell rfl
    have fg:G.cell? ⟨e,1,none⟩=some (.int .i64 u):=ai.o.cell (P.o.aF.cell rfl) dt.o;have dx:=Aa (YT aa.o b9 B J u);have gx:(0:Int)<=(B:Int):=by omega
    have dn:=Aa b9;clear d9 b9 b8 d8;go_wp2_with fail
    go_region
    obtain⟨d4,ed⟩:=dx.o;have d6:lX (G.setCell ⟨U,B*5+4,none⟩ (.int .i64 u)) (G.setCell ⟨U,B*5+4,none⟩ (.int .i64 u)).drew:=(aA.refl (λ_=>False) _).drew;have S:=Aa (d4.still d6);have aj:=Aa (Kh R.o ai.o ed.drew);clear d4 ed d6 fv eu fg fu dx aa ai a6;generalize(G.setCell ⟨U,B*5+4,none⟩ (.int .i64 u)).drew=q at *
    generalize ar:({ d with items:=Bf d.items B u }:aG)=s at *
    have g4:s.items.length=d.items.length:=by rw[<-ar];simp[Bf]
    have er:(Aj s.items B).t=(Aj d.items B).t:=by
     rw[<-ar];show(Aj (Bf d.items B u) B).t=_;rw[Cv _ _ (by simp[Bf];omega)];simp[Bf]
    have cd:s.events=d.events:=by rw[<-ar]
    have ep:s.c=d.c:=by rw[<-ar]
    have g5:(Aq s.items).length+1=g:=by rw[<-ar,<-fq];exact en
    have ff:=Aa ar;clear ar en
    have fb:=Aa (show Bl x u c.2=BX g { s with events:=s.events++[⟨(Aj s.items B).t,mark,false,0⟩] } mark u from by
       rw[fa.o,er,cd,<-ff.o])
    have X:=Aa (show aD q c.1.s (CB o s) 113 by rw[<-N.o];exact S.o.aF);have eu:q.cell? ⟨c.1.s,21,none⟩=some (.slice (some ⟨U,0,none⟩) d.items.length es):=by rw[<-dn.o];exact X.o.cell rfl
    have br:q.cell? ⟨c.1.s,22,none⟩=some o.ev:=X.o.cell rfl;have ao:=X.o.frozen;have dc:=X.o.lt;have af:=S.o.eR;have gz:q.cell? ⟨U,B*5,none⟩=some (.int .i64 (Aj s.items B).t):=by
     obtain⟨f7,g6,ea,-,-,b8⟩:=DZ S.o.bC;rw[dn.o]at ea;injection ea with Q a3 b6;have:=(b8 U Q.symm).1 (B*5+0) _ (by rw[C8 _ _ _ (by omega) (by omega)];rfl);exact this
    obtain⟨b4,b5,an⟩:∃L cr,o.ev=.slice L s.events.length cr:=by
     obtain⟨L,cq,ap,_⟩:=DZ af;exact⟨L,cq,ap⟩
    obtain⟨ch,b7,ce,cf,cg⟩:=jg QO;have gs:s.events.length<=2199023255552:=by rw[cd];omega
    have cp:=Aa (show o.ev.ownBlock≠some c.1.s by rw[<-N.o];exact S.o.se);have e6:=Aa (show s.events.length=d.events.length by rw[cd]);generalize bm:s.events.length=D at *
    have b0:=Aa bm;have dy:=Aa ep;clear bm cd er ep;generalize(Aj s.items B).t=cj at *
    have T:Hid (∀z C,(q.alloc z).drew.grownBy C o.ev.ownBlock->C.cell? ⟨c.1.s,22,none⟩=some o.ev/\C.frozen? ⟨c.1.s,22,none⟩=false):=λz C bf=>by
     have bc:C.heap[c.1.s]?=q.heap[c.1.s]?:=by
      rw[bf.block c.1.s (by simp;omega) (λh=>cp.o h.symm)];show(q.alloc z).heap[c.1.s]?=_;rw[ju _ _ _ dc]
     exact⟨(jB (a:=⟨c.1.s,22,none⟩) bc).trans br,(jM (a:=⟨c.1.s,22,none⟩) bc).trans (ao 22)⟩
    have cb:Hid (∀z,(q.alloc z).drew.heap[q.heap.size]?=some z):=λz=>iH q z
    have bv:=Aa (λ(C:World) (E F:Nat) (z:Obj) (M:C.ownsRow 0 155 4 (.slice (some ⟨E,0,none⟩) (D+1) F) (D+1) (Da s.events++(⟨cj,mark,false,0⟩:dU).cells)) (A:(q.alloc z).drew.grownBy C o.ev.ownBlock) (H:o.ev.ownBlock=some E\/E=q.heap.size+1) =>
       zN2 S.o b0.o rfl M A H)
    rw[an]at br af T;have b2:=Aa an;have gy:(B:Int)<(c.2.items.length:Int):=by omega
    clear an;go_wp2_with fail
    go_region_law
     ((refine kF _ (by rfl) _ _ _ (by rfl) 0 155 ch _ 4 32 underlying110 b7 ce cf cg rfl (by omega) (.slice b4 D b5) D (Da s.events) (by rfl) ((af.alloc _).drew)
           ⟨q.heap.size,0,none⟩ 1 1 [.int .i64 cj,.int .i64 mark,.bool false,.int .i64 0] (by rfl) (by rfl) (iJ (cs:=#[.int .i64 cj,.int .i64 mark,.bool false,.int .i64 0]) (t:=155) (fr:=(0,0)) (cb.out _)) (by simp[Value.oneCell'])
           (by omega) (by unfold maxLen;omega) (by omega) (by omega) (q.heap.size+1) (by simp) ?_;intro E F C M A H bj;have bd:=(T.out _ _ A).1;have be:=(T.out _ _ A).2))
    all_goals
     rw[<-b2.o]at A H;have O:=bv.o _ _ _ _ M A H;rw[N.o]at O;obtain⟨ab,ad,ae⟩:=O;have az:=Aa ab;have Z:=Aa (Kh R.o aj.o ad);have al:=Aa (Mc R.o aj.o (show o.next ⟨c.1.s,o.iv,.slice (some ⟨E,0,none⟩) (D+1) F⟩ q.heap.size from⟨N.o.symm,ae.2⟩));clear ab ad ae M A H bj bd be;generalize C.setCell ⟨c.1.s,22,none⟩ (.slice (some ⟨E,0,none⟩) (D+1) F)=ew at *
     have a2:ew.cell? ⟨e,0,none⟩=some (.int .i64 x):=Z.o.cell (P.o.aF.cell rfl) dt.o;have fw:s.c.aL=c.2.c.aL:=by rw[dy.o,ax.o]
     go_wp2_with fail
     refine(Pz e x ⟨c.1.s,o.iv,.slice (some ⟨E,0,none⟩) (D+1) F⟩ { s with events:=s.events++[⟨cj,mark,false,0⟩] } ew az.o a2 (by show s.items.length<=_;omega) (by show 0<=s.c.aL;omega) (by show s.c.aL<=100;omega) dk dl).mono ?_;rintro ci hf ⟨rfl,cy⟩;have e9:=Aa (az.o.still cy);have e3:=Aa (Z.o.trans cy (λ_ h _=>h.elim));have bl:x-s.c.aL=mark:=by rw[fw];exact bz.o
     rw[bl];clear cy bl a2;go_wp2_with fail
     go_roundg (g-1)
     case measure=>omega
     case rel=>exact⟨_,_,e9,al,e3,rfl,by show(Aq s.items).length=g-1;omega,by show s.items.length=_;omega,by show((s.events++[_]).length:Int)+((g-1:Nat):Int)<=_;rw[ic,b0.o];have:=e6.o;simp;omega,by show s.c=_;rw[dy.o];exact ax.o,by rw[show g-1+1=g by omega];exact fb.o⟩
  have ee:r=I:=by omega
  subst ee;go_wp2;go_ret;have fl:(ps.map (·.2)).drop r=[]:=iX (by rw[a1.o];exact ir _);have de:=b1.o;have V:=a0.o;rw[fl]at de V;simp only[BA,iC,kW]at de V;rw[e5.o,fd.o,de];exact⟨rfl,.slice bs r bt,ag,P.o,V,ak.o,ah.o⟩
end
section
attribute [local go_sem ↓] AH Bs
attribute [local go_sem] AI Bt A3 A4 AJ AL B8 B9 Bd B2
theorem zOu: (prog.info? 106).map (λa=>(a.zero,a.size,a.bytes))=some (some (.pointer none),1,8):=by kernel_rfl
theorem zL1(id:Int)(c:Cfg)(w:World):
  (Instr.build 113 #[(0,ι id),(1,.agg c.cells.toArray)]).run prog w=.ok (.agg (CB ⟨0,.slice none 0 0,.slice none 0 0⟩ (CP id c)).toArray) w:=by kernel_rfl
theorem Ny(ρ:Operand->Value)(dst:Option Tmp)(x:Array (Nat×Operand))(c:TypeId)(pos:String)(after:Array Edge)(guard:Option (Nat×Bool)):
  execOp ρ { dst,op:=.build 113 x,type:=c,pos,after,guard }=GT 113 (x.map λ(a,y)=>(a,ρ y)):=rfl
theorem O2(id:Int)(c:Cfg)(w:World):
  (GT 113 #[(0,ι id),(1,.agg c.cells.toArray)]).run prog w=.ok (.value (.agg (CB ⟨0,.slice none 0 0,.slice none 0 0⟩ (CP id c)).toArray)) w:=by
 unfold GT;rw[jq,zL1];rfl
attribute [local go_sem ↓] Ny
attribute [local go_sem] O2
theorem TN(a b:List (RB×aG)): E6 (a++b)=E6 a++E6 b:=by simp[E6]
theorem UB{i k:World}{O:Obj}{e:Nat}{v nv:Value}{clock aC:Int}{ps:List (RB×aG)}{b2:RB}{x:aG}{gg m F:Nat}(j:aZ i e v clock aC ps)(J:ps.length=m)(N:nv=σ gg (m+1) F)(A:b2=⟨i.heap.size,.slice none 0 0,.slice none 0 0⟩)(U:x.items=[])(V:x.events=[])(P:k.ownsRow 0 106 1 nv (m+1) (E6 ps++[π b2.s]))(l:((i.alloc (.cells (CB b2 x).toArray 113)).alloc O).drew.grownBy k v.ownBlock)(q:v.ownBlock=some gg\/gg=i.heap.size+2):
  aZ (k.setCell ⟨e,2,none⟩ nv) e nv clock aC (ps++[(b2,x)])/\aA (bH e v ps) i (k.setCell ⟨e,2,none⟩ nv)/\(∀a,bH e nv (ps++[(b2,x)]) a->bH e v ps a\/i.heap.size<=a):=by
 have R:bN (i.alloc (.cells (CB b2 x).toArray 113)) b2 x:=by
  subst A;refine⟨aD.new i _ 113,?_,?_,?_,?_,?_⟩
  ·rw[U];exact iy _ _ _ _
  ·rw[V];exact iy _ _ _ _
  ·intro d;cases d
  ·intro d;cases d
  intro a d;cases d
 have n:∀a,b2.aQ a->a=i.heap.size:=by
  intro a c;subst A;rcases c with c | c | c
  ·exact c
  ·cases c
  cases c
 generalize T:i.alloc (.cells (CB b2 x).toArray 113)=E at *
 have I:lX i E:=by rw[<-T];exact(aA.refl (λ_=>False) i).alloc _
 have s:nv.ownBlock=some gg:=by rw[N];rfl
 have w:aA (λa=>v.ownBlock=some a) i k:=(((I.mono (M':=λa=>v.ownBlock=some a) (λ_ _ d=>d.elim)).alloc O).drew).grown l (λD u=>Or.inl u);have r:aA (λa=>a=e) k (k.setCell ⟨e,2,none⟩ nv):=(aA.refl (λa=>a=e) k).setCell (p:=⟨e,2,none⟩) (Or.inl rfl) _;have W:=j.aF.lt;have H:gg≠e:=by
  rcases q with d | d
  ·intro G;exact j.ev (by rw[d,G])
  omega
 have C:∀a,v.ownBlock=some a->a<i.heap.size:=λa c=>j.lt a (.inr (.inl c));have S:bN k b2 x:=(R.still (((aA.refl (λ_=>False) E).alloc O).drew)).keeps (M:=λa=>v.ownBlock=some a) ⟨l.os,l.tape,l.output,l.size,λD u L=>l.block D u (λd=>L d.symm)⟩ (λa c d=>by have t:=n a c;have o:=C a d;omega);refine⟨⟨?_,?_,?_,?_,?_,?_⟩,?_,?_⟩
 ·exact(j.aF.keeps w (λd=>j.ev d)).setCell 2 nv
 ·have:=An P r (λa c d=>by rw[s]at c;injection c with c;omega);rw[TN,ic,J];exact this
 ·intro p h;rcases ik.1 h with h | h
  ·exact((j.bM p h).keeps w (λa c d=>(j.ef p h a c).2 d)).keeps r (λa c d=>(j.ef p h a c).1 d)
  rw[im]at h;subst h;exact S.keeps r (λa c d=>by have:=n a c;omega)
 ·refine jb.2 ⟨j.apart,j7 _ _,?_⟩;intro p h X B a c Q;rw[im]at B;subst B;have t:=(j.bM p h).lt a c;have o:=n a Q;omega
 ·rw[s];intro d;injection d with d;exact H d
 ·intro p h a c;rw[s];rcases ik.1 h with h | h
  ·refine⟨(j.ef p h a c).1,λd=>?_⟩;injection d with d;have t:=(j.bM p h).lt a c;rcases q with o | o
   ·exact(j.ef p h a c).2 (by rw[o,d])
   omega
  rw[im]at h;subst h;have t:=n a c;refine⟨by omega,λd=>?_⟩;injection d with d;rcases q with z | z
  ·have:=C gg z;omega
  omega
 ·exact(w.mono (M':=bH e v ps) (λa _ d=>.inr (.inl d))).trans r (λa c _=>.inl c)
 intro a c;rcases c with c | c | ⟨p,h,c⟩
 ·exact .inl (.inl c)
 ·rw[s]at c;injection c with c;rcases q with d | d
  ·exact .inl (.inr (.inl (by rw[d,c])))
  exact .inr (by omega)
 rcases ik.1 h with h | h
 ·exact .inl (.inr (.inr ⟨p,h,c⟩))
 rw[im]at h;subst h;exact .inr (by have:=n a c;omega)
theorem N5(ps:List (RB×aG))(clock aC:Int)(o:aO): CU ⟨clock,aC,ps.map (·.2)⟩ o =
  if Ab o.id 0 99=true/\(BL ps o.id)=none then(if Ak o.cfg=true then(if ps.length=6 then(⟨clock,aC,ps.map (·.2)⟩,4,[]) else(⟨clock,aC,ps.map (·.2)++[CP o.id o.cfg]⟩,0,[])) else(⟨clock,aC,ps.map (·.2)⟩,3,[])) else(⟨clock,aC,ps.map (·.2)⟩,2,[]):=by
 unfold CU;simp only[GF,iu];have:((BL ps o.id).map (·.2)).isNone=true↔BL ps o.id=none:=by cases BL ps o.id <;> simp
 simp only[this]
theorem VH(e:Nat)(v:Value)(clock aC:Int)(ps:List (RB×aG))(o:aO)(w:World)(a:aZ w e v clock aC ps)(P:ps.length<=1000)(C:¬(Ab o.id 0 99=true/\BL ps o.id=none/\Ak o.cfg=true/\ps.length≠6)):
  Calls prog 60 #[π e,o.val] w λu U=>u=.returned (ι (CU ⟨clock,aC,ps.map (·.2)⟩ o).2.1)/\(CU ⟨clock,aC,ps.map (·.2)⟩ o).2.2=[]/\Dm w e v ps (CU ⟨clock,aC,ps.map (·.2)⟩ o).1 U:=by
 have d:=Aa (N5 ps clock aC o);have i:o.cells[1]?=some (ι o.id):=rfl;have G:=Aa a;have t:lX w (w.alloc (.cells o.cells.toArray 48)):=(aA.refl (λ_=>False) w).alloc _;have z:=Aa (show aD (w.alloc (.cells o.cells.toArray 48)) w.heap.size o.cells 48 from aD.new w o.cells 48);have m:=Aa (a.still t);have H:=Aa t;have I:=Aa C;clear a t C;unfold aO.val;go_enter func60,ntmps60;go_wp2_with fail
 generalize w.alloc (.cells o.cells.toArray 48)=F at *
 generalize R:w.heap.size=T at *
 clear R;refine(Gm e v clock aC o.id ps F m.o P).mono ?_;rintro u l ⟨rfl,E⟩;rw[E];clear E l;obtain⟨S,N⟩:=El z.o 5 20 o.cfg.cells rfl rfl;go_wp2_with fail
 refine(OX o.cfg F).mono ?_;rintro u l ⟨rfl,k⟩;have o1:κ l T 1 (ι o.id):=k.cell (z.o.cell rfl) id;have J:κ l e 2 v:=k.cell (m.o.aF.cell rfl) id;have Q:∃q s,v=.slice q ps.length s:=by
  rcases m.o.row.2 with ⟨i,L⟩ | ⟨g,s,V,i,_⟩
  ·exact⟨none,0,by rw[i,L]⟩
  exact⟨some ⟨g,0,none⟩,s,i⟩
 have h:=Aa (H.o.then k);clear k S N i;have A:∀(x:World) (r:Int),lX w x->CU ⟨clock,aC,ps.map (·.2)⟩ o=(⟨clock,aC,ps.map (·.2)⟩,r,[])->Ending.returned (ι r)=.returned (ι (CU ⟨clock,aC,ps.map (·.2)⟩ o).2.1)/\(CU ⟨clock,aC,ps.map (·.2)⟩ o).2.2=[]/\Dm w e v ps (CU ⟨clock,aC,ps.map (·.2)⟩ o).1 x:=by
  intro x r O M;rw[M];exact⟨rfl,rfl,LJ G.o O⟩
 have c:=Aa A;clear A;by_cases W:o.id<0
 ·go_wp2;go_ret;exact c.o _ 2 h.o (by rw[d.o,ig (λa=>by obtain⟨q,b⟩:=Bu a.1;omega)])
 by_cases X:99<o.id
 ·go_wp2;go_ret;exact c.o _ 2 h.o (by rw[d.o,ig (λa=>by obtain⟨q,b⟩:=Bu a.1;omega)])
 have B:Ab o.id 0 99=true:=by simp[Ab];omega
 have n:=Aa B;clear B;cases hf:BL ps o.id with
 | some p =>
  unfold Fy;go_wp2;go_ret;exact c.o _ 2 h.o (by rw[d.o,ig (λa=>by rw[hf]at a;cases a.2)])
 | none =>
  unfold Fy;cases hv:Ak o.cfg with
  | false =>
   go_wp2;go_ret;exact c.o _ 3 h.o (by rw[d.o,ij ⟨n.o,hf⟩,hv];rfl)
  | true =>
   have j:ps.length=6:=by
    have:=I.o;by_cases j:ps.length=6
    ·exact j
    exact absurd ⟨n.o,hf,hv,j⟩ this
   obtain⟨Y,Z,D⟩:=Q;rw[D,j]at J;clear D;go_wp2;go_ret;exact c.o _ 4 h.o (by rw[d.o,ij ⟨n.o,hf⟩,hv,ij rfl,ij j])
end
section
attribute [local go_sem ↓] AH Bs
attribute [local go_sem] AI Bt A3 A4 AJ AL B8 B9 Bd B2
attribute [local go_sem ↓] Ny
attribute [local go_sem] O2
theorem UA(e:Nat)(v:Value)(clock aC:Int)(ps:List (RB×aG))(o:aO)(w:World)(d:aZ w e v clock aC ps)(a4:ps.length<6)(N:Ab o.id 0 99=true)(ab:BL ps o.id=none)(an:Ak o.cfg=true):
  Calls prog 60 #[π e,o.val] w λF ay=>F=.returned (ι 0)/\Dm w e v ps ⟨clock,aC,ps.map (·.2)++[CP o.id o.cfg]⟩ ay:=by
 have q:o.cells[1]?=some (ι o.id):=rfl;have C:lX w (w.alloc (.cells o.cells.toArray 48)):=(aA.refl (λ_=>False) w).alloc _;have I:=Aa (show aD (w.alloc (.cells o.cells.toArray 48)) w.heap.size o.cells 48 from aD.new w o.cells 48);have G:=Aa (d.still C);have V:=Aa C;obtain⟨a7,a8⟩:=Bu N;clear d C N;unfold aO.val;go_enter func60,ntmps60;go_wp2_with fail
 generalize w.alloc (.cells o.cells.toArray 48)=R at *
 generalize am:w.heap.size=a9 at *
 clear am;refine(Gm e v clock aC o.id ps R G.o (by omega)).mono ?_;rintro F c ⟨rfl,Q⟩;rw[Q,ab];clear Q c;unfold Fy;obtain⟨ao,af⟩:=El I.o 5 20 o.cfg.cells rfl rfl;go_wp2_with fail
 refine(OX o.cfg R).mono ?_;rintro F c ⟨rfl,s⟩;rw[an];have J:=Aa (I.o.keeps s id);have k:=Aa (G.o.still s);have H:=Aa (V.o.then s);clear s ao af q;have o1:=J.o.c1;have L:=k.o.aF.c2;have ad:=k.o.aF.frozen;have aa:=k.o.aF.lt;obtain⟨a6,a3⟩:=El J.o 5 20 o.cfg.cells rfl rfl;have P:=k.o.row;have U:=Aa k.o.ev;have aj:∃z A,v=.slice z ps.length A:=by
  rcases k.o.row.2 with ⟨q,Y⟩ | ⟨g,A,az,q,_⟩
  ·exact⟨none,0,by rw[q,Y]⟩
  exact⟨some ⟨g,0,none⟩,A,q⟩
 obtain⟨aw,ax,E⟩:=aj;obtain⟨av,ah,ap,aq,ar⟩:=jg zOu;generalize O:ps.length=m at *
 have W:=Aa O;clear O;have u:Hid (∀j h i,((c.alloc j).alloc h).drew.grownBy i v.ownBlock->κ i e 2 v/\i.frozen? ⟨e,2,none⟩=false):=λj h i ae=>by
  have M:i.heap[e]?=c.heap[e]?:=by
   rw[ae.block e (by simp;omega) (λd=>U.o d.symm)];show((c.alloc j).alloc h).heap[e]?=_;rw[ju _ _ _ (by simp;omega),ju _ _ _ aa]
  exact⟨(jB (a:=⟨e,2,none⟩) M).trans L,(jM (a:=⟨e,2,none⟩) M).trans (ad 2)⟩
 have ak:Hid (∀j h,((c.alloc j).alloc h).drew.heap[c.heap.size+1]?=some h):=λj h=>by
  have:=iH (c.alloc j) h;rwa [jR]at this
 have T:=Aa (λ(i:World) (n B:Nat) (h:Obj) (D:i.ownsRow 0 106 1 (σ n (m+1) B) (m+1) (E6 ps++[π c.heap.size])) (l:((c.alloc (.cells (CB ⟨0,.slice none 0 0,.slice none 0 0⟩ (CP o.id o.cfg)).toArray 113)).alloc h).drew.grownBy i v.ownBlock) (r:v.ownBlock=some n\/n=c.heap.size+2) =>
    UB (b2:=⟨c.heap.size,.slice none 0 0,.slice none 0 0⟩) (x:=CP o.id o.cfg) k.o W.o rfl rfl rfl rfl D l r)
 rw[E]at L P u;have X:=Aa E;have a0:((m:Int)==6)=false:=by simp;omega
 clear E;go_wp2_with fail
 go_region_law
  ((refine kF _ (by rfl) _ _ _ (by rfl) 0 106 av _ 1 8 underlying103 ah ap aq ar rfl (by omega) (.slice aw m ax) m (E6 ps) (by rfl) (((P.alloc _).alloc _).drew)
        ⟨c.heap.size+1,0,none⟩ 1 1 [π c.heap.size] (by rfl) (by rfl) (iJ (cs:=#[π c.heap.size]) (t:=106) (fr:=(0,0)) (ak.out _ _)) (by simp[Value.oneCell'])
        (by omega) (by unfold maxLen;omega) (by omega) (by omega) (c.heap.size+2) (by simp) ?_;intro n B i D l r a5;have a1:=(u.out _ _ _ l).1;have a2:=(u.out _ _ _ l).2))
 all_goals
  rw[<-X.o]at l r;have S:=T.o _ _ _ _ D l r;obtain⟨Z,ai,al⟩:=S;go_wp2;go_ret;refine⟨rfl,σ n (m+1) B,_,Z,by simp,?_,?_⟩
  ·exact(H.o.mono (M':=bH e v ps) (λ_ _ d=>d.elim)).then ai
  intro au ag;rcases al au ag with d | d
  ·exact .inl d
  exact .inr (by have:=H.o.size;omega)
