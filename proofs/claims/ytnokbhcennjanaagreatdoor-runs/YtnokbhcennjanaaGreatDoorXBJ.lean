import Derived.Test.YtnokbhcennjanaaGreatDoorXBG
open Go.RowKit Go.Proofs.Tryz
set_option maxRecDepth 100000
set_option maxHeartbeats 16000000
namespace Go.Proofs.YtnokbhcennjanaaGreatDoor
section
theorem Q4: (prog.info? 155).map (λa=>(a.zero,a.size,a.bytes))=some (some (.agg #[.int .i64 0,.int .i64 0,.bool false,.int .i64 0]),4,32):=by kernel_rfl
theorem aZ.aV{w:World}{e:Nat}{v:Value}{clock aC i m:Int}{ps:List (RB×aG)}(a:aZ w e v clock aC ps){w':World}(j:aA (λc=>c=e) w w')(n:aD w' e [.int .i64 i,.int .i64 m,v] 105): aZ w' e v i m ps :=
 ⟨n,A2 a.row j (λc h d=>a.ev (by rw[<-d];exact h)),λl k=>(a.bM l k).keeps j (λc h d=>(a.ef l k c h).1 d),a.apart,a.ev,a.ef⟩
theorem JZ{a c:RB}{wr e h:World}(i:a.next c wr.heap.size)(k:aA a.aQ wr e)(l:aA c.aQ e h): aA a.aQ wr h :=
 k.trans l (λm j n=>by rcases i.2 m j with d | d;exact d;omega)
theorem LD{a c d:RB}{wr k:World}(i:a.next c wr.heap.size)(m:aA a.aQ wr k)(h:c.next d k.heap.size): a.next d wr.heap.size :=
 ⟨h.1.trans i.1,λj l=>by
    rcases h.2 j l with e | e
    ·exact i.2 j e
    exact .inr (by have:=m.size;omega)⟩
theorem Si(mark aC:Int)(h:aC≠0)(f:Nat): ∀(a:Nat) (y:aG),(Ap y.items).length<f->(Ap y.items).length<a->BS f y mark aC=BS a y mark aC:=by
 induction f with
 | zero=>intro a y c;omega
 | succ f i =>
  intro a y c k;obtain⟨a,rfl⟩:∃j,a=j+1:=⟨a-1,by omega⟩;unfold BS;rcases Hv y.items mark with ⟨l,_⟩ | ⟨m,d,e,_⟩
  ·rw[h9 (by omega),h9 (by omega)]
  rw[hZ (by omega),hZ (by omega)];have n:=If aC h y.items _ d e;exact i a _ (by show(Ap (AZ _ _ _)).length<f;omega) (by show(Ap (AZ _ _ _)).length<a;omega)
theorem JJ(a done:List aG)(c i:List (RB×aG))(p:RB×aG)(k:Nat)(s:c.length=k)(r:done.length=k)(h:k<a.length)(d:(c++p::i).map (·.2)=done++a.drop k)(l:RB)(j:aG):
  (c++(l,j)::i).map (·.2)=(done++[j])++a.drop (k+1)/\a.drop k=p.2::a.drop (k+1):=by
 have q:(c.map (·.2)).length=done.length:=by simp;omega
 rw[iy]at d;obtain⟨m,e⟩:=List.append_inj d q;rw[List.drop_eq_getElem_cons h,iC]at e;injection e with n o;refine⟨?_,?_⟩
 ·rw[iy,iC,m,o];simp
 rw[List.drop_eq_getElem_cons h,n]
theorem W7(a:List (RB×aG))(k:Nat)(d:k<a.length): ∃c p e,a=c++p::e/\c.length=k:=by
 refine⟨a.take k,a[k],a.drop (k+1),?_,by simp;omega⟩;rw[<-List.drop_eq_getElem_cons d,List.take_append_drop]
theorem Zs{w i:World}{B:Obj}{b:RB}{y:aG}{k:dR}{j n s:Nat}{nv:Value}(e:bN w b y)(A:y.events.length=n)(C:nv=.slice (some ⟨j,0,none⟩) (n+1) s)(D:i.ownsRow 0 155 4 nv (n+1) (CR y.events++k.cells))(v:(w.alloc B).grownBy i b.ev.ownBlock)(m:b.ev.ownBlock=some j\/j=w.heap.size+1):
  bN (i.setCell ⟨b.s,22,none⟩ nv) ⟨b.s,b.iv,nv⟩ { y with events:=y.events++[k] }/\aA b.aQ w (i.setCell ⟨b.s,22,none⟩ nv)/\b.next ⟨b.s,b.iv,nv⟩ w.heap.size:=by
 have l:nv.ownBlock=some j:=by rw[C];rfl
 have q:aA (λc=>b.ev.ownBlock=some c) w i:=((aA.refl _ w).alloc B).grown v (λG z=>Or.inl z);have r:aA (λc=>c=b.s) i (i.setCell ⟨b.s,22,none⟩ nv):=(aA.refl (λc=>c=b.s) i).setCell (p:=⟨b.s,22,none⟩) (Or.inl rfl) _;have F:=e.aF.lt;have x:j≠b.s:=by
  rcases m with h | h
  ·intro u;exact e.se (by rw[h,u])
  omega
 refine⟨⟨?_,?_,?_,e.si,?_,?_⟩,?_,rfl,?_⟩
 ·have:=(e.aF.keeps q (λd=>e.se d)).setCell 22 nv;rw[NG b y nv (y.events++[k])]at this;exact this
 ·exact A2 (A2 e.bC q (λc a d=>e.ie c a d)) r (λc a d=>e.si (by rw[<-d];exact a))
 ·have t:=A2 D r (λc a d=>by rw[l]at a;injection a with a;omega);show World.ownsRow _ 0 155 4 nv (y.events++[k]).length (CR (y.events++[k]));rw[hY,A];have:CR (y.events++[k])=CR y.events++k.cells:=by simp[CR]
  rw[this];exact t
 ·show nv.ownBlock≠some b.s;rw[l];intro d;injection d with d;exact x d
 ·intro c a d;have o:j=c:=by have:nv.ownBlock=some c:=d;rw[l]at this;injection this
  have E:=(e.bC.lt c a).2;rcases m with h | h
  ·exact e.ie c a (by rw[h,o])
  omega
 ·exact(q.mono (M':=b.aQ) (λc _ d=>.inr (.inr d))).trans r (λc a _=>.inl a)
 intro c a;rcases a with a | a | a
 ·exact .inl (.inl a)
 ·exact .inl (.inr (.inl a))
 have o:j=c:=by have:nv.ownBlock=some c:=a;rw[l]at this;injection this
 rcases m with h | h
 ·exact .inl (.inr (.inr (by rw[h,o])))
 exact .inr (by omega)
theorem S2{a c b:Int}{y:aG}{d:List aG}(e:y.c.kind≠1): B6 a c b (y::d)=(Bd a c y::(B6 a c b d).1,(B6 a c b d).2):=by
 simp only[B6];rw[hZ e]
theorem Nr{a c b:Int}{y:aG}{d:List aG}(e:y.c.kind=1): B6 a c b (y::d)=(F5 a b (Bd a c y)::(B6 a c (b-min (BY a (Bd a c y)) b) d).1,BY a (Bd a c y)-min (BY a (Bd a c y)) b+(B6 a c (b-min (BY a (Bd a c y)) b) d).2):=by
 simp only[B6];rw[h9 e]
theorem Xp(n:Int)(e:Nat)(v:Value)(clock aC t am:Int)(ps:List (RB×aG))(w:World)(h:aZ w e v clock aC ps)(hi:bZ n clock aC (ps.map (·.2)))(g3:n<1099511627776)(gb:0<=t)(gc:t<=4611686018427387904)(u0:0<=am)(u1:am<=100):
  Calls prog 62 #[.pointer (some ⟨e,0,none⟩),.int .i64 t,.int .i64 am] w λci a5=>ci=.returned (.int .i64 (B6 (Au clock t) (aC+1) am (ps.map (·.2))).2)/\Dc w e v ps ⟨Au clock t,aC+1,(B6 (Au clock t) (aC+1) am (ps.map (·.2))).1⟩ a5:=by
 have ck:=Aa h;have cl:=Aa hi;have fi:=h.aF.c0;have ao:=h.aF.frozen;have c0:=hi.c0;have c1:=hi.c1;have g7:=hi.t0;have g8:=hi.tn;clear h hi;go_enter func62,ntmps62;go_upto_if 19 with fail
 go_cut [] (λex=>Hid (aZ ex e v (Au clock t) aC ps)/\Hid (aA (λm=>m=e) w ex))
 case first =>
  by_cases ft:clock<t
  ·go_wp2;go_meet
   have bg:aA (λm=>m=e) w (w.setCell ⟨e,0,none⟩ (.int .i64 t)):=(aA.refl (λm=>m=e) w).setCell (p:=⟨e,0,none⟩) (Or.inl rfl) _;refine⟨?_,bg⟩;unfold Au;rw[h9 ft];exact ck.o.aV bg (ck.o.aF.setCell 0 (.int .i64 t))
  go_wp2;go_meet
  refine⟨?_,aA.refl _ _⟩;unfold Au;rw[hZ (by omega)];exact ck.o
 case rest =>
 obtain⟨a7,dq⟩:=hcut;clear fi ao;have fx:0<=Au clock t/\Au clock t<=4611686018427387904:=by unfold Au;split <;> omega
 obtain⟨dk,dl⟩:=fx;have e0:=Aa (show clock<=Au clock t by unfold Au;split <;> omega);generalize eh:Au clock t=x at *
 have e5:=Aa eh;clear eh c0 c1 gb gc;have f0:=a7.o.aF.c1;have ao:=a7.o.aF.frozen;have dh:IntKind.i64.wrap (aC+1)=aC+1:=GJ (by omega) (by omega);go_wp2_with fail
 have J:aA (λm=>m=e) wc (wc.setCell ⟨e,1,none⟩ (.int .i64 (aC+1))):=(aA.refl (λm=>m=e) wc).setCell (p:=⟨e,1,none⟩) (Or.inl rfl) _;have O:=Aa (a7.o.aV J (a7.o.aF.setCell 1 (.int .i64 (aC+1))));have e2:=Aa ((dq.o.then J).mono (M':=bG e v ps) (λm _ ap=>.inl ap));clear J f0 ao a7 dq dh;generalize wc.setCell ⟨e,1,none⟩ (.int .i64 (aC+1))=ha at *
 have df:aC+1≠0:=by omega
 generalize el:aC+1=u at *
 have fd:=Aa el;clear el;obtain⟨bs,bt,f1,-,em,-⟩:=DU O.o.row;have eo:(ps.map (·.2)).length=ps.length:=by simp
 generalize eg:ps.length=I at *
 have gg:=Aa eg;have a1:=Aa eo;have g2:I<=6:=by have:=cl.o.bX;omega
 have fe:=Aa em;clear eg em eo;subst f1;go_loopg [2,7,8] (I) (λg L f9 m wr=>∃(r:Nat) (ag:List (RB×aG)) (l all:Int) (done:List aG),g=I-r/\r<=I/\L=.int .i64 l/\f9=.int .i64 all/\m=.int .i64 r/\0<=l/\l<=100/\0<=all/\all<=r*4398046511104/\Hid (aZ wr e (.slice bs I bt) x u ag)/\Hid (done.length=r)/\Hid (ag.map (·.2)=done++(ps.map (·.2)).drop r)/\Hid (B6 x u am (ps.map (·.2))=(done++(B6 x u l ((ps.map (·.2)).drop r)).1,all+(B6 x u l ((ps.map (·.2)).drop r)).2))/\Hid (aA (bG e (.slice bs I bt) ps) w wr)/\Hid (∀m,bG e (.slice bs I bt) ag m->bG e (.slice bs I bt) ps m\/w.heap.size<=m))
 case atStart=>exact⟨0,ps,am,0,[],by omega,by omega,rfl,rfl,rfl,u0,u1,by omega,by omega,O,rfl,rfl,by show _=_;simp,e2,λm hi=>.inl hi⟩
 case round =>
  obtain⟨W,f6⟩:∃W,W=wr:=⟨wr,rfl⟩;subst f6;obtain⟨d3,fs⟩:∃d3,d3=gk:=⟨gk,rfl⟩;subst fs;obtain⟨r,ag,l,all,done,gu,bg,rfl,rfl,rfl,gm,gn,gj,gl,P,Y,a0,b1,ak,ah⟩:=hrel;have ej:ag.length=I:=by
   have Q:=congrArg List.length a0.o;have a3:=a1.o;have b6:=Y.o;rw[hY,im,iQ,a3,b6]at Q;omega
  have e7:=Aa ej;clear ej;have d1:=P.o.aF.c2;by_cases bi:r<I
  ·obtain⟨au,c,av,bn,bh⟩:=W7 ag r (by rw[e7.o];exact bi);have cn:=Aa bn;have cm:=Aa bh;have cc:c∈ag:=by rw[bn];simp
   have gh:=Aa cc;have du:=Aa (P.o.bM c cc);have db:c.2∈ps.map (·.2):=by
    have:=a0.o;rw[bn]at this;have a3:=(JJ _ done au av c r bh Y.o (by rw[a1.o];exact bi) this c.1 c.2).2;exact iB (i:=r) (by rw[a3];simp)
   have ay:=Aa (cl.o.bD c.2 db)
   have ez:=Aa (show c.2.c.kind=1->eA x (Bd x u c.2) from λQ=>by
      obtain⟨di,dj,_,_,_,_⟩:=ay.o.common
      exact Pm df (cl.o.bL c.2 db Q) e0.o (by have:=Ef (k:=1) ay.o.valid Q rfl;omega) (by omega))
   obtain⟨di,dj,_,_,_,_⟩:=ay.o.common;obtain⟨d2,fp⟩:=fe.o (by omega);subst fp;have fk:W.cell? ⟨d2,r,none⟩=some (.pointer (some ⟨c.1.s,0,none⟩)):=by
    obtain⟨gi,F,f2,-,-,fj⟩:=DU P.o.row;injection f2 with Q a3 b6;refine(fj d2 Q.symm).1 r _ ?_;unfold E0;rw[bn,iy,iS (by simp[bh])];simp[bh]
   have a2:=P.o.aF.c0;have et:=du.o.aF.c2;have ei:¬c.1.aQ e:=λap=>(P.o.ef c cc e ap).1 rfl;have dt:=Aa ei;have gv:(c.2.items.length:Int)<=n:=ay.o.items;clear bn bh cc db ei;have g0:(0:Int)<=(r:Int):=by omega
   have ee:(r:Int)<(I:Int):=by omega
   go_wp2_with fail
   refine(Jj e c.1.s c.2.c.aK x W a2 et di dj dk dl).mono ?_;rintro ci gd ⟨rfl,J⟩;have co:=Aa (du.o.still J);have ds:=Aa (J.mono (M':=c.1.aQ) (λ_ _ h=>h.elim));have d0:=J.cell a2 id;clear J;go_wp2_with fail
   refine(Ps e x c.1 c.2 gd co.o d0 (by omega) di dj dk dl).mono ?_;rintro ci hd ⟨rfl,aq⟩;have e8:=Aa (co.o.still aq);have e4:=Aa (ds.o.trans aq (λ_ h _=>h.elim));clear aq d0 co ds;generalize bl:x-c.2.c.aK=mark at *
   have bz:=Aa bl;clear bl;have dg:=E6 c.2.items;have fo:=ay.o.events
   have fc:=Aa (show Bd x u c.2=BS ((Ap c.2.items).length+1) c.2 mark u from by
      unfold Bd;rw[bz.o]
      exact Si mark u df _ _ _ (by omega) (by omega))
   have fm:(c.2.events.length:Int)+((Ap c.2.items).length:Int)<=(c.2.items.length:Int)+n:=by omega
   clear dg fo;go_wp2_with fail
   clear fk a2 et d1;go_loopg [11] ((Ap c.2.items).length) (λg f8 G=>∃(dz:RB) (aw:aG),Hid (bN G dz aw)/\Hid (c.1.next dz W.heap.size)/\Hid (aA c.1.aQ W G)/\f8=.int .i64 (Cx aw.items mark)/\(Ap aw.items).length=g/\aw.items.length=c.2.items.length/\(aw.events.length:Int)+(g:Int)<=(c.2.items.length:Int)+n/\Hid (aw.c=c.2.c)/\Hid (Bd x u c.2=BS (g+1) aw mark u))
   case atStart=>exact⟨c.1,c.2,e8,⟨rfl,λ_ h=>.inl h⟩,e4,rfl,rfl,rfl,fm,rfl,fc⟩
   case round =>
    obtain⟨G,f3⟩:∃G,G=wr:=⟨wr,rfl⟩;subst f3;obtain⟨g,bf⟩:∃g,g=gk:=⟨gk,rfl⟩;subst bf;obtain⟨o,d,aa,R,ai,rfl,fq,gw,gr,ax,dw⟩:=hrel;have cu:o.s=c.1.s:=R.o.1;have N:=Aa cu;have a6:=Aa (show aD G c.1.s (C4 o d) 113 by rw[<-cu];exact aa.o.aF);clear cu;rcases Hv d.items mark with ⟨fy,_⟩ | ⟨eb,J,aq,ec⟩
    ·have ek:G.cell? ⟨c.1.s,1,none⟩=some (.int .i64 c.2.c.kind):=by
      rw[<-ax.o];exact a6.o.cell rfl
     rw[fy];have a9:=Aa (show Bd x u c.2=d from by rw[dw.o];unfold BS;rw[h9 (by omega)]);by_cases a4:c.2.c.kind=1
     ·have bx:=Aa a4;rw[a4]at ek;have cw:=ez.o a4;rw[a9.o]at cw;have bo:=Ef (k:=1) ay.o.valid a4 rfl;have cv:fA d.c:=by rw[ax.o];exact⟨bo.1,bo.2.1,bo.2.2.1,bo.2.2.2⟩
      obtain⟨-,-,hb,hc⟩:=bo;have hlen:d.events.length<=2199023255552:=by omega
      have dm:=Aa (λ(b3:World) (bg:lO G b3)=>(show Calls prog 80 #[.pointer (some ⟨c.1.s,0,none⟩)] b3 λe a5=>∃ev,e=.returned ev/\BW a5 ev (A3 d.c d.events).reverse/\lO b3 a5 by
           have:=N7 o d b3 (aa.o.still bg) cv cw.ok (by omega);rw[N.o]at this
           exact this))
      have ga:G.cell? ⟨c.1.s,6,none⟩=some (.int .i64 c.2.c.aB):=by
       rw[<-ax.o];exact a6.o.cell rfl
      have fh:(A3 d.c d.events).length<=2199023255552:=by
       have Q:=JF cv d.events;have a3:=IK Q.one;have b6:=Q.sum;omega
      have fz:=pastN_le (A3 d.c d.events) (mark-c.2.c.aB);obtain⟨j,cx⟩:∃j:Int,j=(pastN (A3 d.c d.events) (mark-c.2.c.aB):Int):=⟨_,rfl⟩;have KR:0<=j:=by omega
      have gp:j<=2199023255552:=by omega
      have bu:=Aa (show BY x (Bd x u c.2)=j by
         rw[a9.o,cx];unfold BY
         rw[ax.o,bz.o])
      have e1:=Aa cx;have ey:=Aa (show(A3 d.c d.events).length<=4398046511104 by omega);have dh:IntKind.i64.wrap (mark-c.2.c.aB)=mark-c.2.c.aB:=by have:=bz.o;rw[ic];omega
      clear cx fz fh cv cw;go_wp2_with fail
      go_region_held3 (λa5=>a5.cell? ⟨c.1.s,6,none⟩=some (.int .i64 c.2.c.aB))
       (first | (simp[*];done) | exact da.cell (by assumption) id)
       (first | (go_at_call 80;refine(dm.o _ (by exact(aA.refl _ _).drew)).mono ?_;rintro e he ⟨g9,rfl,d5,da⟩) | (go_at_call 90;refine(PF _ (A3 d.c d.events) (mark-c.2.c.aB) _ (by exact d5) ey.o).mono ?_;rintro d1 q ⟨rfl,rfl⟩;rw[<-e1.o]))
      all_goals
       have dr:=Aa (((aA.refl (λ_=>False) G).drew).then da);have S:=Aa (aa.o.still dr.o);have aj:=Aa (ai.o.trans dr.o (λ_ h _=>h.elim));clear d5 da dm ga ek aa ai a6 dh;have X:=Aa (show aD q c.1.s (C4 o d) 113 by rw[<-N.o];exact S.o.aF);have br:q.cell? ⟨c.1.s,22,none⟩=some o.ev:=X.o.cell rfl;have ao:=X.o.frozen;have dc:=X.o.lt;have af:=S.o.eP;obtain⟨b4,b5,an⟩:∃L cr,o.ev=.slice L d.events.length cr:=by
        obtain⟨L,cq,ap,_⟩:=DU af;exact⟨L,cq,ap⟩
       obtain⟨ch,b7,ce,cf,cg⟩:=jh Q4;have cp:=Aa (show o.ev.ownBlock≠some c.1.s by rw[<-N.o];exact S.o.se);generalize bm:d.events.length=D at *
       have b0:=Aa bm;clear bm;have T:Hid (∀z C,(q.alloc z).grownBy C o.ev.ownBlock->C.cell? ⟨c.1.s,22,none⟩=some o.ev/\C.frozen? ⟨c.1.s,22,none⟩=false):=λz C bf=>by
        have bc:C.heap[c.1.s]?=q.heap[c.1.s]?:=by
         rw[bf.block c.1.s (by simp;omega) (λh=>cp.o h.symm)];show(q.alloc z).heap[c.1.s]?=_;rw[jq _ _ _ dc]
        exact⟨(jw (a:=⟨c.1.s,22,none⟩) bc).trans br,(jH (a:=⟨c.1.s,22,none⟩) bc).trans (ao 22)⟩
       have cb:Hid (∀z,(q.alloc z).heap[q.heap.size]?=some z):=λz=>iJ q z
       have bv:=Aa (λ(gf:Int) (C:World) (E F:Nat) (z:Obj) (M:C.ownsRow 0 155 4 (.slice (some ⟨E,0,none⟩) (D+1) F) (D+1) (CR d.events++(⟨0,0,true,gf⟩:dR).cells)) (A:(q.alloc z).grownBy C o.ev.ownBlock) (H:o.ev.ownBlock=some E\/E=q.heap.size+1) =>
          Zs S.o b0.o rfl M A H)
       rw[an]at br af T;have b2:=Aa an;clear an;by_cases gq:l<j
       ·have bk:min j l=l:=by omega
        have f5:IntKind.i64.wrap (l-l)=l-l:=by rw[ic];omega
        have f4:IntKind.i64.wrap (all+j)=all+j:=by rw[ic];omega
        have dg:IntKind.i64.wrap (all+j-l)=all+j-l:=by rw[ic];omega
        have a8:=Aa bk;clear bk;go_wp2_with (at_builtin;refine jf _ rfl _ _ _ rfl 0 155 ch _ 4 32 underlying110 b7 ce cf cg rfl (by omega) (.slice b4 D b5) D (CR d.events) rfl (af.alloc _) ⟨q.heap.size,0,none⟩ 1 1 [.int .i64 0,.int .i64 0,.bool true,.int .i64 l] rfl rfl (iT (cs:=#[.int .i64 0,.int .i64 0,.bool true,.int .i64 l]) (t:=155) (fr:=(0,0)) (cb.out _)) (by simp[Value.oneCell']) (by omega) (by unfold maxLen;omega) (by omega) (by omega) (q.heap.size+1) (by simp) ?_;intro E F C M A H bj;have bd:=(T.out _ _ A).1;have be:=(T.out _ _ A).2)
        all_goals
         rw[<-b2.o]at A H;have O:=bv.o l _ _ _ _ M A H;rw[N.o]at O;obtain⟨ab,ad,ae⟩:=O;have az:=Aa ab;have Z:=Aa (JZ R.o aj.o ad);have al:=Aa (LD R.o aj.o (show o.next ⟨c.1.s,o.iv,.slice (some ⟨E,0,none⟩) (D+1) F⟩ q.heap.size from⟨N.o.symm,ae.2⟩));clear ab ad ae M A H bj bd be;go_roundg (I-(r+1))
         case measure=>omega
         case rel =>
          have ba:=P.o;have V:=a0.o;have bb:=cn.o;subst bb;obtain⟨bp,bq⟩:=JJ _ done au av c r cm.o Y.o (by rw[a1.o];exact bi) V ((⟨c.1.s,o.iv,.slice (some ⟨E,0,none⟩) (D+1) F⟩:RB)) (({ d with events:=d.events++[⟨0,0,true,l⟩] }:aG));refine⟨r+1,au++((⟨c.1.s,o.iv,.slice (some ⟨E,0,none⟩) (D+1) F⟩:RB),({ d with events:=d.events++[⟨0,0,true,l⟩] }:aG))::av,l-l,all+j-l,done++[({ d with events:=d.events++[⟨0,0,true,l⟩] }:aG)],rfl,by omega,by first | rfl | go_num,by first | rfl | go_num,by go_num,by omega,by omega,by omega,by omega,ba.one Z.o az.o al.o,by show _=_;rw[hY,Y.o];rfl,bp,?_,?_,?_⟩
          ·show _=_;rw[b1.o,bq];rw[Nr bx.o,bu.o,a8.o];have ct:F5 x l (Bd x u c.2)=({ d with events:=d.events++[⟨0,0,true,l⟩] }:aG):=by
            unfold F5;rw[bu.o,a8.o,a9.o]
           rw[ct,List.append_assoc,ko];refine Prod.ext rfl ?_;show all+(j-l+_)=all+j-l+_;omega
          ·refine ak.o.trans Z.o (λm hi ef=>?_);rcases ah.o m (.inr (.inr ⟨c,by simp,hi⟩)) with h | h
           ·exact h
           omega
          intro m hi;rcases bG.one (w:=W) al.o m hi with h | h
          ·exact ah.o m h
          exact .inr (by have:=ak.o.size;omega)
       have bk:min j l=j:=by omega
       have f5:IntKind.i64.wrap (l-j)=l-j:=by rw[ic];omega
       have f4:IntKind.i64.wrap (all+j)=all+j:=by rw[ic];omega
       have dg:IntKind.i64.wrap (all+j-j)=all+j-j:=by rw[ic];omega
       have a8:=Aa bk;clear bk;go_wp2_with (at_builtin;refine jf _ rfl _ _ _ rfl 0 155 ch _ 4 32 underlying110 b7 ce cf cg rfl (by omega) (.slice b4 D b5) D (CR d.events) rfl (af.alloc _) ⟨q.heap.size,0,none⟩ 1 1 [.int .i64 0,.int .i64 0,.bool true,.int .i64 j] rfl rfl (iT (cs:=#[.int .i64 0,.int .i64 0,.bool true,.int .i64 j]) (t:=155) (fr:=(0,0)) (cb.out _)) (by simp[Value.oneCell']) (by omega) (by unfold maxLen;omega) (by omega) (by omega) (q.heap.size+1) (by simp) ?_;intro E F C M A H bj;have bd:=(T.out _ _ A).1;have be:=(T.out _ _ A).2)
       all_goals
        rw[<-b2.o]at A H;have O:=bv.o j _ _ _ _ M A H;rw[N.o]at O;obtain⟨ab,ad,ae⟩:=O;have az:=Aa ab;have Z:=Aa (JZ R.o aj.o ad);have al:=Aa (LD R.o aj.o (show o.next ⟨c.1.s,o.iv,.slice (some ⟨E,0,none⟩) (D+1) F⟩ q.heap.size from⟨N.o.symm,ae.2⟩));clear ab ad ae M A H bj bd be;go_roundg (I-(r+1))
        case measure=>omega
        case rel =>
         have ba:=P.o;have V:=a0.o;have bb:=cn.o;subst bb;obtain⟨bp,bq⟩:=JJ _ done au av c r cm.o Y.o (by rw[a1.o];exact bi) V ((⟨c.1.s,o.iv,.slice (some ⟨E,0,none⟩) (D+1) F⟩:RB)) (({ d with events:=d.events++[⟨0,0,true,j⟩] }:aG));refine⟨r+1,au++((⟨c.1.s,o.iv,.slice (some ⟨E,0,none⟩) (D+1) F⟩:RB),({ d with events:=d.events++[⟨0,0,true,j⟩] }:aG))::av,l-j,all+j-j,done++[({ d with events:=d.events++[⟨0,0,true,j⟩] }:aG)],rfl,by omega,by first | rfl | go_num,by first | rfl | go_num,by go_num,by omega,by omega,by omega,by omega,ba.one Z.o az.o al.o,by show _=_;rw[hY,Y.o];rfl,bp,?_,?_,?_⟩
         ·show _=_;rw[b1.o,bq];rw[Nr bx.o,bu.o,a8.o];have ct:F5 x l (Bd x u c.2)=({ d with events:=d.events++[⟨0,0,true,j⟩] }:aG):=by
           unfold F5;rw[bu.o,a8.o,a9.o]
          rw[ct,List.append_assoc,ko];refine Prod.ext rfl ?_;show all+(j-j+_)=all+j-j+_;omega
         ·refine ak.o.trans Z.o (λm hi ef=>?_);rcases ah.o m (.inr (.inr ⟨c,by simp,hi⟩)) with h | h
          ·exact h
          omega
         intro m hi;rcases bG.one (w:=W) al.o m hi with h | h
         ·exact ah.o m h
         exact .inr (by have:=ak.o.size;omega)
     have g1:(c.2.c.kind !=1)=true:=by simpa using a4
     have bx:=Aa a4;go_wp2;go_roundg (I-(r+1))
     case measure=>omega
     case rel =>
      have ba:=P.o;have V:=a0.o;have bb:=cn.o;subst bb;obtain⟨bp,bq⟩:=JJ _ done au av c r cm.o Y.o (by rw[a1.o];exact bi) V (o) (d);refine⟨r+1,au++(o,d)::av,l,all,done++[d],rfl,by omega,rfl,rfl,by go_num,by omega,by omega,by omega,by omega,ba.one ai.o aa.o R.o,by show _=_;rw[hY,Y.o];rfl,bp,?_,?_,?_⟩
      ·show _=_;rw[b1.o,bq];rw[S2 bx.o,a9.o,List.append_assoc,ko]
      ·refine ak.o.trans ai.o (λm hi ef=>?_);rcases ah.o m (.inr (.inr ⟨c,by simp,hi⟩)) with h | h
       ·exact h
       omega
      intro m hi;rcases bG.one (w:=W) R.o m hi with h | h
      ·exact ah.o m h
      exact .inr (by have:=ak.o.size;omega)
    obtain⟨B,ca⟩:=jd eb;rw[ca]at J aq ec;rw[iH]at J aq ec;have dp:=Aa ca;rw[ca];clear ca eb
    have fa:=Aa (show Bd x u c.2=BS g { d with items:=AZ d.items B u,events:=d.events++[⟨(Aj d.items B).t,mark,false,0⟩] } mark u from by
       rw[dw.o]
       conv=>lhs;unfold BS
       rw[hZ (by rw[dp.o];omega),dp.o,iH])
    have en:=If u df d.items B J aq;obtain⟨f7,es,b9,-,d8,b8⟩:=DU aa.o.bC;obtain⟨U,d7⟩:=d8 (by omega);obtain⟨d9,fu⟩:=b8 U d7;subst d7;have fv:G.cell? ⟨U,B*5+4,none⟩=some (.int .i64 (Aj d.items B).tick):=d9 _ _ (by rw[C2 _ _ _ J (by omega)];rfl);have eu:G.cell? ⟨c.1.s,21,none⟩=some (.slice (some ⟨U,0,none⟩) d.items.length es):=by rw[<-b9];exact a6.o.cell rfl
    have fg:G.cell? ⟨e,1,none⟩=some (.int .i64 u):=ai.o.cell (P.o.aF.cell rfl) dt.o;have dx:=Aa (YW aa.o b9 B J u);have gx:(0:Int)<=(B:Int):=by omega
    have dn:=Aa b9;clear d9 b9 b8 d8;go_wp2_with fail
    go_region
    obtain⟨d4,ed⟩:=dx.o;have d6:lO (G.setCell ⟨U,B*5+4,none⟩ (.int .i64 u)) (G.setCell ⟨U,B*5+4,none⟩ (.int .i64 u)).drew:=(aA.refl (λ_=>False) _).drew;have S:=Aa (d4.still d6);have aj:=Aa (JZ R.o ai.o ed.drew);clear d4 ed d6 fv eu fg fu dx aa ai a6;generalize(G.setCell ⟨U,B*5+4,none⟩ (.int .i64 u)).drew=q at *
    generalize ar:({ d with items:=AZ d.items B u }:aG)=s at *
    have g4:s.items.length=d.items.length:=by rw[<-ar];simp[AZ]
    have er:(Aj s.items B).t=(Aj d.items B).t:=by
     rw[<-ar];show(Aj (AZ d.items B u) B).t=_;rw[Cq _ _ (by simp[AZ];omega)];simp[AZ]
    have cd:s.events=d.events:=by rw[<-ar]
    have ep:s.c=d.c:=by rw[<-ar]
    have g5:(Ap s.items).length+1=g:=by rw[<-ar,<-fq];exact en
    have ff:=Aa ar;clear ar en
    have fb:=Aa (show Bd x u c.2=BS g { s with events:=s.events++[⟨(Aj s.items B).t,mark,false,0⟩] } mark u from by
       rw[fa.o,er,cd,<-ff.o])
    have X:=Aa (show aD q c.1.s (C4 o s) 113 by rw[<-N.o];exact S.o.aF);have eu:q.cell? ⟨c.1.s,21,none⟩=some (.slice (some ⟨U,0,none⟩) d.items.length es):=by rw[<-dn.o];exact X.o.cell rfl
    have br:q.cell? ⟨c.1.s,22,none⟩=some o.ev:=X.o.cell rfl;have ao:=X.o.frozen;have dc:=X.o.lt;have af:=S.o.eP;have gz:q.cell? ⟨U,B*5,none⟩=some (.int .i64 (Aj s.items B).t):=by
     obtain⟨f7,g6,ea,-,-,b8⟩:=DU S.o.bC;rw[dn.o]at ea;injection ea with Q a3 b6;have:=(b8 U Q.symm).1 (B*5+0) _ (by rw[C2 _ _ _ (by omega) (by omega)];rfl);exact this
    obtain⟨b4,b5,an⟩:∃L cr,o.ev=.slice L s.events.length cr:=by
     obtain⟨L,cq,ap,_⟩:=DU af;exact⟨L,cq,ap⟩
    obtain⟨ch,b7,ce,cf,cg⟩:=jh Q4;have gs:s.events.length<=2199023255552:=by rw[cd];omega
    have cp:=Aa (show o.ev.ownBlock≠some c.1.s by rw[<-N.o];exact S.o.se);have e6:=Aa (show s.events.length=d.events.length by rw[cd]);generalize bm:s.events.length=D at *
    have b0:=Aa bm;have dy:=Aa ep;clear bm cd er ep;generalize(Aj s.items B).t=cj at *
    have T:Hid (∀z C,(q.alloc z).drew.grownBy C o.ev.ownBlock->C.cell? ⟨c.1.s,22,none⟩=some o.ev/\C.frozen? ⟨c.1.s,22,none⟩=false):=λz C bf=>by
     have bc:C.heap[c.1.s]?=q.heap[c.1.s]?:=by
      rw[bf.block c.1.s (by simp;omega) (λh=>cp.o h.symm)];show(q.alloc z).heap[c.1.s]?=_;rw[jq _ _ _ dc]
     exact⟨(jw (a:=⟨c.1.s,22,none⟩) bc).trans br,(jH (a:=⟨c.1.s,22,none⟩) bc).trans (ao 22)⟩
    have cb:Hid (∀z,(q.alloc z).drew.heap[q.heap.size]?=some z):=λz=>iJ q z
    have bv:=Aa (λ(C:World) (E F:Nat) (z:Obj) (M:C.ownsRow 0 155 4 (.slice (some ⟨E,0,none⟩) (D+1) F) (D+1) (CR s.events++(⟨cj,mark,false,0⟩:dR).cells)) (A:(q.alloc z).drew.grownBy C o.ev.ownBlock) (H:o.ev.ownBlock=some E\/E=q.heap.size+1) =>
       zNb S.o b0.o rfl M A H)
    rw[an]at br af T;have b2:=Aa an;have gy:(B:Int)<(c.2.items.length:Int):=by omega
    clear an;go_wp2_with fail
    go_region_law
     ((refine kz _ (by rfl) _ _ _ (by rfl) 0 155 ch _ 4 32 underlying110 b7 ce cf cg rfl (by omega) (.slice b4 D b5) D (CR s.events) (by rfl) ((af.alloc _).drew)
           ⟨q.heap.size,0,none⟩ 1 1 [.int .i64 cj,.int .i64 mark,.bool false,.int .i64 0] (by rfl) (by rfl) (iT (cs:=#[.int .i64 cj,.int .i64 mark,.bool false,.int .i64 0]) (t:=155) (fr:=(0,0)) (cb.out _)) (by simp[Value.oneCell'])
           (by omega) (by unfold maxLen;omega) (by omega) (by omega) (q.heap.size+1) (by simp) ?_;intro E F C M A H bj;have bd:=(T.out _ _ A).1;have be:=(T.out _ _ A).2))
    all_goals
     rw[<-b2.o]at A H;have O:=bv.o _ _ _ _ M A H;rw[N.o]at O;obtain⟨ab,ad,ae⟩:=O;have az:=Aa ab;have Z:=Aa (JZ R.o aj.o ad);have al:=Aa (LD R.o aj.o (show o.next ⟨c.1.s,o.iv,.slice (some ⟨E,0,none⟩) (D+1) F⟩ q.heap.size from⟨N.o.symm,ae.2⟩));clear ab ad ae M A H bj bd be;generalize C.setCell ⟨c.1.s,22,none⟩ (.slice (some ⟨E,0,none⟩) (D+1) F)=ew at *
     have a2:ew.cell? ⟨e,0,none⟩=some (.int .i64 x):=Z.o.cell (P.o.aF.cell rfl) dt.o;have fw:s.c.aK=c.2.c.aK:=by rw[dy.o,ax.o]
     go_wp2_with fail
     refine(Ps e x ⟨c.1.s,o.iv,.slice (some ⟨E,0,none⟩) (D+1) F⟩ { s with events:=s.events++[⟨cj,mark,false,0⟩] } ew az.o a2 (by show s.items.length<=_;omega) (by show 0<=s.c.aK;omega) (by show s.c.aK<=100;omega) dk dl).mono ?_;rintro ci hf ⟨rfl,cy⟩;have e9:=Aa (az.o.still cy);have e3:=Aa (Z.o.trans cy (λ_ h _=>h.elim));have bl:x-s.c.aK=mark:=by rw[fw];exact bz.o
     rw[bl];clear cy bl a2;go_wp2_with fail
     go_roundg (g-1)
     case measure=>omega
     case rel=>exact⟨_,_,e9,al,e3,rfl,by show(Ap s.items).length=g-1;omega,by show s.items.length=_;omega,by show((s.events++[_]).length:Int)+((g-1:Nat):Int)<=_;rw[hY,b0.o];have:=e6.o;simp;omega,by show s.c=_;rw[dy.o];exact ax.o,by rw[show g-1+1=g by omega];exact fb.o⟩
  have ee:r=I:=by omega
  subst ee;go_wp2;go_ret;have fl:(ps.map (·.2)).drop r=[]:=iU (by rw[a1.o];exact il _);have de:=b1.o;have V:=a0.o;rw[fl]at de V;simp only[B6,iz,kO]at de V;rw[e5.o,fd.o,de];exact⟨rfl,.slice bs r bt,ag,P.o,V,ak.o,ah.o⟩
