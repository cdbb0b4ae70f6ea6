import Derived.Test.YtnokbhcennjanaaGreatDoorXBH
open Go.RowKit Go.Proofs.Tryz
set_option maxRecDepth 100000
set_option maxHeartbeats 16000000
namespace Go.Proofs.YtnokbhcennjanaaGreatDoor
section
attribute [local go_sem ↓] AN
attribute [local go_sem] AO A5 A6 AI AJ BC BD
attribute [local go_sem ↓ 2000] Uy
theorem Wv{w:World}{base a:Nat}{v:Value}{n:Nat}{d:List Value}(c:w.ownsRow base 3 1 v n d)(e:a<=base): w.ownsRow a 3 1 v n d :=
 ⟨c.1,c.2.imp id λ⟨g,cap,cur,h1,h2,h3⟩=>⟨g,cap,cur,h1,jI e h2,h3⟩⟩
def gI(w:World)(g i:Nat)(z:bA): Prop:=w.cell? ⟨g,i*5,none⟩=some (.int .i64 z.t)/\w.cell? ⟨g,i*5+1,none⟩=some (.int .i64 z.k)/\w.cell? ⟨g,i*5+2,none⟩=some (.int .i64 z.d)/\w.cell? ⟨g,i*5+3,none⟩=some (.int .i64 z.n)/\w.cell? ⟨g,i*5+4,none⟩=some (.int .i64 z.tick)
theorem gI.keeps{w w':World}{g i:Nat}{d:bA}(a:gI w g i d)(c:lO w w'): gI w' g i d :=
 ⟨c.cell a.1 id,c.cell a.2.1 id,c.cell a.2.2.1 id,c.cell a.2.2.2.1 id,c.cell a.2.2.2.2 id⟩
theorem zO1{w:World}{base g n c:Nat}{l:List bA}(h:FW w base (.slice (some ⟨g,0,none⟩) n c) l)(i:Nat)(hi:i<l.length): gI w g i (Aj l i):=by
 obtain⟨k,m,d,_,_,j⟩:=DU h;injection d with e _ _;subst e;have a:=(j g rfl).1;refine⟨?_,?_,?_,?_,?_⟩
 ·have:=a (i*5+0) _ (by rw[C2 _ _ _ hi (by omega)];rfl);simpa using this
 ·exact a (i*5+1) _ (by rw[C2 _ _ _ hi (by omega)];rfl)
 ·exact a (i*5+2) _ (by rw[C2 _ _ _ hi (by omega)];rfl)
 ·exact a (i*5+3) _ (by rw[C2 _ _ _ hi (by omega)];rfl)
 exact a (i*5+4) _ (by rw[C2 _ _ _ hi (by omega)];rfl)
theorem Vj(b:RB)(y:aG)(m:Int)(w:World)(i:bN w b y)(b1:y.c.bH)(e6:1<=y.c.size)(e7:y.c.size<=5)(d3:y.items.length<=651562446090)(ce:∀af,af∈Bq y.items (-1) m->(0<=af.t/\af.t<=4611686018427387904)/\0<=af.d/\af.d<=2147483648)(bx:∀p c,(Bv y.c (Bq y.items (-1) m) p c).1.length<=100):
  Calls prog 58 #[.pointer (some ⟨b.s,0,none⟩),.int .i64 m] w λal e=>∃ch,al=.returned ch/\e.ownsRow w.heap.size 3 1 ch (GR y.c (Bq y.items (-1) m)).length (Af (GR y.c (Bq y.items (-1) m)))/\lO w e:=by
 obtain⟨h,ak⟩:∃h:Nat,y.c.size=(h:Int):=⟨y.c.size.toNat,by omega⟩;have es:h<=5:=by omega
 have ap:=Aa i;have bi:=Aa b1;have bp:=Aa ce;have bh:=Aa bx;clear i b1 ce bx;go_enter func58,ntmps58;go_wp2_with fail
 refine(L1 b y (-1) m w ap.o d3).mono ?_;rintro al s ⟨e5,rfl,aw,a0⟩;have cw:=Aa aw;have ey:(Bq y.items (-1) m).length<=651562446090:=by have:=JM y.items (-1) m;omega
 have bk:=Aa a0;have aq:=Aa (ap.o.still a0);generalize bz:Bq y.items (-1) m=a at *
 have cx:=Aa bz;obtain⟨cg,d9,dg⟩:=DC aw;generalize b7:a.length=A at *
 have M:=Aa b7;subst dg;have d8:=bk.o.size;clear aw a0 ap b7 bz;have cq:=Aa (aD.new s [.int .i64 0,.int .i64 0] 3);go_wp2_with fail
 go_loopw [6,7,8] (λP a7 a8 wr=>∃(p v u:Nat) (t:Option Addr) (r:Nat),p<=h+1/\a8=.int .i64 p/\P=.slice t v u/\a7=.slice (some ⟨r,0,none⟩) 2 2/\Hid (wr.ownsRow s.heap.size 3 1 P (Cw y.c a p).1.length (Af (Cw y.c a p).1))/\Hid (aD wr r [.int .i64 (Cw y.c a p).2.1,.int .i64 (Cw y.c a p).2.2] 3)/\Hid (s.heap.size<=r/\P.ownBlock≠some r)/\Hid (lO s wr)) (λ_ _ a8 _=>h+1-(intOf a8).toNat)
 case atStart=>exact⟨0,0,0,none,s.heap.size,by omega,rfl,rfl,rfl,ir _ _ _ _,cq,⟨il _,λi=>by cases i⟩,(aA.refl _ _).alloc _⟩
 case round=>as_aux_lemma =>
  obtain⟨p,v,u,t,r,ez,rfl,rfl,rfl,E,L,I,B⟩:=hrel;generalize wr=bb at *
  have bn:=Aa (aq.o.still B.o);have bs:bb.cell? ⟨b.s,11,none⟩=some (.int .i64 h):=by rw[<-ak];exact bn.o.aF.cell rfl
  by_cases e0:p<h+1
  ·have dr:decide ((p:Int)<=(h:Int))=true:=by simp;omega
   have dw:decide (p<=h)=true:=by simp;omega
   have bm:=Aa (show bb.ownsRow s.heap.size 3 1 (.slice t v u) (Bv y.c a p 0).1.length (Af (Bv y.c a p 0).1) from E.o);have bl:=Aa (show aD bb r [.int .i64 (Bv y.c a p 0).2.1,.int .i64 (Bv y.c a p 0).2.2] 3 from L.o);clear E L bn;go_wp2_with fail
   go_loopw [6,7,9] (λP a7 a5 wr=>∃(c v u:Nat) (t:Option Addr) (r:Nat),c<=A/\a5=.int .i64 c/\P=.slice t v u/\a7=.slice (some ⟨r,0,none⟩) 2 2/\Hid (wr.ownsRow s.heap.size 3 1 P (Bv y.c a p c).1.length (Af (Bv y.c a p c).1))/\Hid (aD wr r [.int .i64 (Bv y.c a p c).2.1,.int .i64 (Bv y.c a p c).2.2] 3)/\Hid (s.heap.size<=r/\P.ownBlock≠some r)/\Hid (lO s wr)) (λ_ _ a5 _=>A-(intOf a5).toNat)
   case atStart=>exact⟨0,v,u,t,r,by omega,rfl,rfl,rfl,bm,bl,I,B⟩
   case round=>as_aux_lemma =>
    clear bm bl I B bs;obtain⟨c,v,u,t,r,eu,rfl,rfl,rfl,E,L,I,B⟩:=hrel;generalize wr=ba at *
    by_cases az:c<A
    ·have d0:c<a.length:=by rw[M.o];exact az
     have ev:(0:Int)<=(c:Int):=by omega
     have ew:(c:Int)<(A:Int):=by omega
     have av:=Aa (Xs y.c a p c d0);have ax:FW ba w.heap.size (.slice cg A d9) a:=A2 cw.o B.o (λ_ _ i=>i);obtain⟨n,dy⟩:∃n,cg=some ⟨n,0,none⟩:=by
      obtain⟨ed,ee,O,_,d6,_⟩:=DU ax;injection O with df _ _;subst df;exact d6 (by rw[M.o];omega)
     subst dy;have am:=Aa (show ∀d,d<A->gI ba n d (Aj a d) from λd R=>zO1 ax d (by rw[M.o];exact R))
     have an:=Aa (show ∀d,d<A->Aj a d∈a from λd R=>by
        have ad:d<a.length:=by rw[M.o];exact R
        rw[Cq _ _ ad];exact jc ad)
     have ar:=Aa (aq.o.still B.o);have aj:=Aa (am.o c az);obtain⟨⟨co,be⟩,cm,cn⟩:=bp.o _ (an.o c az);obtain⟨bf,cf⟩:∃bf,Aj a c=bf:=⟨_,rfl⟩;rw[cf]at av aj co be cm cn;obtain⟨k,l,j,z,x⟩:=bf;clear ax cf;go_wp2_with fail
     go_loopw [10,11] (λea a6 wr=>∃d:Nat,d<=A/\a6=.int .i64 d/\ea=.int .i64 (BO y.c (a.take d) ⟨k,l,j,z,x⟩)/\Hid (lO ba wr)) (λ_ a6 _=>A-(intOf a6).toNat)
     case atStart=>exact⟨0,by omega,rfl,rfl,aA.refl _ _⟩
     case round=>as_aux_lemma =>
      obtain⟨d,R,rfl,rfl,C⟩:=hrel;generalize wr=q at *
      have ca:=Xi y.c (a.take d) ⟨k,l,j,z,x⟩;rw[iD]at ca;by_cases a3:d<A
      ·have ad:d<a.length:=by rw[M.o];exact a3
       obtain⟨⟨ck,cl⟩,ci,cj⟩:=bp.o _ (an.o d a3);have bj:=Aa (am.o d a3);have ai:=Aa (TC y.c a ⟨k,l,j,z,x⟩ d ad);obtain⟨bd,cd⟩:∃bd,Aj a d=bd:=⟨_,rfl⟩;rw[cd]at bj ai ck cl ci cj;obtain⟨X,V,T,W,U⟩:=bd;have J:=Aa (show ∀e,lO q e->(e.cell? ⟨n,d*5,none⟩=some (.int .i64 X)/\e.cell? ⟨n,d*5+1,none⟩=some (.int .i64 V)/\e.cell? ⟨n,d*5+2,none⟩=some (.int .i64 T)/\e.cell? ⟨n,d*5+3,none⟩=some (.int .i64 W)/\e.cell? ⟨n,d*5+4,none⟩=some (.int .i64 U))/\e.cell? ⟨n,c*5,none⟩=some (.int .i64 k)/\e.cell? ⟨n,c*5+1,none⟩=some (.int .i64 l)/\e.cell? ⟨n,c*5+2,none⟩=some (.int .i64 j)/\e.cell? ⟨n,c*5+3,none⟩=some (.int .i64 z)/\e.cell? ⟨n,c*5+4,none⟩=some (.int .i64 x) from λe S=>⟨bj.o.keeps (C.o.then S),aj.o.keeps (C.o.then S)⟩);have bo:=Aa (show ∀G,lO q G->Calls prog 86 #[.pointer (some ⟨b.s,0,none⟩),.agg #[.int .i64 X,.int .i64 V,.int .i64 T,.int .i64 W,.int .i64 U],.agg #[.int .i64 k,.int .i64 l,.int .i64 j,.int .i64 z,.int .i64 x]] G λO e=>O=.returned (.bool (FO y.c ⟨X,V,T,W,U⟩ ⟨k,l,j,z,x⟩))/\lO G e from λG b4=>Uj b y ⟨X,V,T,W,U⟩ ⟨k,l,j,z,x⟩ G (ar.o.still (C.o.then b4)) bi.o ck cl co be ci cj cm cn);obtain⟨a9,cc⟩:∃a9,FO y.c ⟨X,V,T,W,U⟩ ⟨k,l,j,z,x⟩=a9:=⟨_,rfl⟩;rw[cc]at bo ai;obtain⟨⟨eh,dl,ej,ek,el⟩,em,en,eo,ep,ei⟩:=J.o q (aA.refl _ _);have b4:(0:Int)<=(d:Int):=by omega
       have ex:(d:Int)<(A:Int):=by omega
       generalize BO y.c (a.take d) ⟨k,l,j,z,x⟩=o at *
       clear ad cd cc;go_wp2_with fail
       go_region_held3 (λe=>(e.cell? ⟨n,d*5,none⟩=some (.int .i64 X)/\e.cell? ⟨n,d*5+1,none⟩=some (.int .i64 V)/\e.cell? ⟨n,d*5+2,none⟩=some (.int .i64 T)/\e.cell? ⟨n,d*5+3,none⟩=some (.int .i64 W)/\e.cell? ⟨n,d*5+4,none⟩=some (.int .i64 U))/\e.cell? ⟨n,c*5,none⟩=some (.int .i64 k)/\e.cell? ⟨n,c*5+1,none⟩=some (.int .i64 l)/\e.cell? ⟨n,c*5+2,none⟩=some (.int .i64 j)/\e.cell? ⟨n,c*5+3,none⟩=some (.int .i64 z)/\e.cell? ⟨n,c*5+4,none⟩=some (.int .i64 x))
        (first | exact J.o _ D.o | exact J.o _ ((aA.refl (λ_=>False) q).drew) | exact J.o _ (aA.refl (λ_=>False) q) | (simp[*];done))
        (first | (go_at_call 86;refine(bo.o _ ((aA.refl (λ_=>False) q).drew)).mono ?_;rintro al ae ⟨rfl,a4⟩;have D:=Aa (((aA.refl (λ_=>False) q).drew).then a4)))
       cases a9
       ·go_wp2;go_roundw;case rel=>exact⟨d+1,by omega,by go_num,by rw[ai.o];simp,Aa (C.o.then D.o)⟩
        case measure=>simp[intOf];omega
       go_wp2;go_roundw;case rel=>exact⟨d+1,by omega,by go_num,by rw[ai.o];go_num,Aa (C.o.then D.o)⟩
       case measure=>simp[intOf];omega
      have d2:d=A:=by omega
      subst d2;have dx:decide ((d:Int)<(d:Int))=false:=by simp
      have b2:a.take d=a:=iq (by rw[M.o];exact il _);rw[b2]at ca ⊢;have ah:=Aa (show Bv y.c a p (c+1)=if BO y.c a ⟨k,l,j,z,x⟩=p then(if (p:Int)<y.c.size then((Bv y.c a p c).1++[k,l,j],(Bv y.c a p c).2) else if (p:Int)=y.c.size then((Bv y.c a p c).1,F6 y.c ⟨k,l,j,z,x⟩,j) else Bv y.c a p c) else Bv y.c a p c from av.o);have er:=bh.o p c;have Y:=Aa (B.o.then C.o);have b8:∀F,(Value.slice t v u).ownBlock=some F->s.heap.size<=F:=λF ab=>(E.o.lt F ab).1;have ag:=Aa (DT E.o C.o (λ_ _ i=>i));have ao:=Aa (L.o.keeps C.o id);have da:=Aa b8;have au:=Aa (ar.o.still C.o);have bs:q.cell? ⟨b.s,11,none⟩=some (.int .i64 h):=by rw[<-ak];exact au.o.aF.cell rfl
      obtain⟨bt,dh,di,dj,dk⟩:=aj.o.keeps C.o;rw[ak]at ah;generalize BO y.c a ⟨k,l,j,z,x⟩=o at *
      clear b8 b2 av E L ar an am aj;by_cases cb:o=p
      ·subst cb;have dq:((o:Int)==(o:Int))=true:=by simp
       by_cases b5:o<h
       ·have ds:decide ((o:Int)<(h:Int))=true:=by simp;omega
        have dt:decide (o<h)=true:=by simp;omega
        have du:((o:Int)==(h:Int))=false:=by simp;omega
        have N:=Aa (show Bv y.c a o (c+1)=((Bv y.c a o c).1++[k,l,j],(Bv y.c a o c).2) by rw[ah.o,h9 rfl,h9 (by omega)]);have e3:=Y.o.size
        have bg:=Aa (show ∃Q Z H,(∀eb,(J9 eb (.slice t v u) (.slice (some ⟨q.heap.size,0,none⟩) 3 3)).run prog (q.alloc (.cells #[.int .i64 k,.int .i64 l,.int .i64 j] 3)).drew=.ok (.value (.slice (some ⟨Q,0,none⟩) ((Bv y.c a o c).1.length+3) Z)) H)/\H.ownsRow s.heap.size 3 1 (.slice (some ⟨Q,0,none⟩) ((Bv y.c a o c).1.length+3) Z) ((Bv y.c a o c).1.length+3) (Af ((Bv y.c a o c).1++[k,l,j]))/\lO s H/\aD H r [.int .i64 (Bv y.c a o c).2.1,.int .i64 (Bv y.c a o c).2.2] 3/\Q≠r by
           have a2:lO q (q.alloc (.cells #[.int .i64 k,.int .i64 l,.int .i64 j] 3)).drew:=((aA.refl _ _).alloc _).drew;obtain⟨Q,Z,H,bu,bv,aa,dm⟩:=YG (q.alloc (.cells #[.int .i64 k,.int .i64 l,.int .i64 j] 3)).drew s.heap.size (.slice t v u) _ (Bv y.c a o c).1 q.heap.size k l j rfl (DT ag.o a2 (λ_ _ i=>i)) (iJ q _) (by omega) (by show s.heap.size<=(q.alloc _).heap.size;simp;omega);have b3:aA (λF=>(Value.slice t v u).ownBlock=some F) (q.alloc (.cells #[.int .i64 k,.int .i64 l,.int .i64 j] 3)).drew H:=⟨aa.os,aa.tape,aa.output,aa.size,λd R d4=>aa.block d R (λi=>d4 i.symm)⟩;refine⟨Q,Z,H,bu,bv,(Y.o.then a2).trans b3 (λF ab b5=>by have:=da.o F ab;omega),(ao.o.keeps a2 id).keeps b3 I.o.2,λO=>?_⟩;rcases dm with i | i
           ·exact I.o.2 (by rw[i,O])
           have:=ao.o.lt;have e2:(q.alloc (.cells #[.int .i64 k,.int .i64 l,.int .i64 j] 3)).drew.heap.size=q.heap.size+1:=by show(q.alloc _).heap.size=_;simp
           omega)
        obtain⟨Q,Z,H,e1,b9,a1,b0,b6⟩:=bg.o;have db:=Aa b9;have cu:=Aa a1;have cp:=Aa b0;have cy:=Aa b6;have ef:H.cell? ⟨b.s,11,none⟩=some (.int .i64 h):=by rw[<-ak];exact(aq.o.still a1).aF.cell rfl
        clear bg b9 a1 b0 b6;go_wp2_with fail
        go_region
        go_wp2;go_roundw;case rel=>exact⟨c+1,_,_,_,r,by omega,by go_num,rfl,rfl,Aa (by rw[N.o];show World.ownsRow _ _ _ _ _ ((Bv y.c a o c).1++[k,l,j]).length _;rw[hY];exact db.o),Aa (by rw[N.o];exact cp.o),Aa ⟨I.o.1,λi=>cy.o (by injection i)⟩,cu⟩
        case measure=>simp[intOf];omega
       have ds:decide ((o:Int)<(h:Int))=false:=by simp;omega
       have dt:decide (o<h)=false:=by simp;omega
       have dp:o=h:=by omega
       subst dp;have N:=Aa (show Bv y.c a o (c+1)=((Bv y.c a o c).1,F6 y.c ⟨k,l,j,z,x⟩,j) by rw[ah.o,h9 rfl,hZ (by omega),h9 rfl]);obtain⟨bq,br⟩:=Hw au.o.aF;have ay:=au.o.aF.lt;have de:=Aa (show ∀G,Calls prog 85 #[.agg y.c.cells.toArray,.int .i64 k] G λO e=>O=.returned (.int .i64 (F6 y.c ⟨k,l,j,z,x⟩))/\lO G e from λG=>Ht y.c k G bi.o (by omega) be);have J:=Aa (show ∀e,lO q e->Ao e b.s 1 20=.agg y.c.cells.toArray/\Ay e b.s 1 20=true/\e.cell? ⟨n,c*5,none⟩=some (.int .i64 k) from λe S=>⟨(Cb S id ay).1.trans bq,(Cb S id ay).2.trans br,S.cell bt id⟩);generalize F6 y.c ⟨k,l,j,z,x⟩=bc at *
       go_wp2_with fail
       go_region_held3 (λe=>Ao e b.s 1 20=.agg y.c.cells.toArray/\Ay e b.s 1 20=true/\e.cell? ⟨n,c*5,none⟩=some (.int .i64 k))
        (first | exact J.o _ D.o | exact J.o _ ((aA.refl (λ_=>False) q).drew) | exact J.o _ (aA.refl (λ_=>False) q) | (simp[*,A5,A6];done))
        (first | (go_at_call 85;refine(de.o _).mono ?_;rintro al ae ⟨rfl,a4⟩;have D:=Aa (((aA.refl (λ_=>False) q).drew).then a4)))
       have eg:=D.o.cell di id;have dc:=Aa (DT ag.o (D.o.alloc (.cells #[.int .i64 bc,.int .i64 j] 3)) (λ_ _ i=>i));have cr:=Aa (aD.new ae [.int .i64 bc,.int .i64 j] 3);have cv:=Aa ((Y.o.then D.o).alloc (.cells #[.int .i64 bc,.int .i64 j] 3));have ct:=Aa (show s.heap.size<=ae.heap.size/\(Value.slice t v u).ownBlock≠some ae.heap.size from⟨(Y.o.then D.o).size,λi=>by have bu:=(ag.o.lt _ i).2;have bv:=D.o.size;omega⟩);clear bq br ay bt dh dj dk;go_wp2;go_roundw;case rel=>exact⟨c+1,v,u,t,ae.heap.size,by omega,by go_num,rfl,rfl,Aa (by rw[N.o];exact dc.o),Aa (by rw[N.o];exact cr.o),ct,cv⟩
       case measure=>simp[intOf];omega
      have dq:((o:Int)==(p:Int))=false:=by simp;omega
      have N:=Aa (show Bv y.c a p (c+1)=Bv y.c a p c by rw[ah.o,hZ cb]);go_wp2_with fail
      go_roundw;case rel=>exact⟨c+1,v,u,t,r,by omega,by go_num,rfl,rfl,by rw[N.o];exact ag,by rw[N.o];exact ao,I,Y⟩
      case measure=>simp[intOf];omega
    have dz:c=A:=by omega
    subst dz;have dx:decide ((c:Int)<(c:Int))=false:=by simp
    rw[Qj y.c a p c (by rw[M.o];exact il _)]at E L;go_wp2_with fail
    go_roundw;case rel=>exact⟨p+1,v,u,t,r,by omega,by go_num,rfl,rfl,E,L,I,B⟩
    case measure=>simp[intOf];omega
  have d7:p=h+1:=by omega
  subst d7;have dr:decide (((h+1:Nat):Int)<=(h:Int))=false:=lf (by omega);have dw:decide (h+1<=h)=false:=by simp
  have du:decide ((h:Int)+1<=(h:Int))=false:=lf (by omega);have dn:=bh.o h A;rw[Qj y.c a h A (by rw[M.o];exact il _)]at dn;have cs:=Aa (show GR y.c a=(Cw y.c a (h+1)).1++[(Cw y.c a (h+1)).2.1,(Cw y.c a (h+1)).2.2] by unfold GR;rw[show y.c.size.toNat=h by omega]);have e4:=B.o.size;go_wp2_with (at_builtin;refine Fe rfl _ _ rfl s.heap.size (.slice t v u) (Cw y.c a (h+1)).1.length (Cw y.c a (h+1)).1 rfl E.o r 2 [(Cw y.c a (h+1)).2.1,(Cw y.c a (h+1)).2.2] rfl rfl L.o (by omega) (by omega) (by omega) ?_;intro dl c2 ec d5 d1 et)
  go_ret;refine⟨_,rfl,?_,?_⟩
  ·rw[cx.o,cs.o,hY];exact Wv d5 d8
  exact bk.o.then (B.o.trans d1 (λF ab b5=>by have:=(E.o.lt F ab).1;omega))
