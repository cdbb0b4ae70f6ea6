import Derived.Test.YtnokbhcennjanaaGreatDoorXBB
import Derived.Test.YtnokbhcennjanaaGreatDoorXBC
open Go.RowKit Go.Proofs.Tryz
set_option maxRecDepth 100000
set_option maxHeartbeats 16000000
namespace Go.Proofs.YtnokbhcennjanaaGreatDoor
section
theorem VN(all:List bA)(mark:Int)(i:Nat)(k:Int)(hi:i<all.length):
  Ey all mark (all.drop i) i k=Ey all mark (all.drop (i+1)) (i+1) (if (Aj all i).tick=0/\(Aj all i).t<=mark/\(k<0\/(Aj all i).t<(Aj all k.toNat).t) then(i:Int) else k):=by
 rw[List.drop_eq_getElem_cons hi,Ey,<-Cq all i hi]
theorem Ps(e:Nat)(clock:Int)(b:RB)(y:aG)(w:World)(a:bN w b y)(E:w.cell? ⟨e,0,none⟩=some (.int .i64 clock))(aw:y.items.length<=1152921504606846976)(P:0<=y.c.aK)(Q:y.c.aK<=100)(c0:0<=clock)(c1:clock<=4611686018427387904):
  Calls prog 89 #[.pointer (some ⟨e,0,none⟩),.pointer (some ⟨b.s,0,none⟩)] w λS ak=>S=.returned (.int .i64 (Cx y.items (clock-y.c.aK)))/\lO w ak:=by
 have L:=a.aF.c2;have s:w.cell? ⟨b.s,21,none⟩=some b.iv:=a.aF.cell rfl;obtain⟨am,an,O,-,D,F⟩:=DU a.bC;rw[O]at s;have U:=Aa F;have T:=Aa D;clear a F D O;generalize N:y.items.length=r at *
 have A:=Aa N;clear N;generalize b.s=aj at *
 generalize y.c.aK=R at *
 generalize y.items=all at *
 go_enter func89,ntmps89;go_wp2_with fail
 refine(Jj e aj R clock w E L P Q c0 c1).mono ?_;rintro S ay ⟨rfl,I⟩;generalize M:clock-R=mark at *
 have X:=Aa M;have V:=Aa s;have W:=Aa I;clear M s L E P Q c0 c1 I;go_wp2_with fail
 go_loopw [6,7] (λai B wr=>∃(d:Nat) (l:Int),d<=r/\B=.int .i64 d/\ai=.int .i64 l/\(l=-1\/(0<=l/\l<(r:Int)))/\Hid (lO w wr)/\Hid (Cx all mark=Ey all mark (all.drop d) d l)) (λ_ B _=>r-(intOf B).toNat)
 case atStart=>exact⟨0,-1,iM _,rfl,rfl,.inl rfl,W,rfl⟩
 case round =>
  obtain⟨d,l,ap,rfl,rfl,o,c,x⟩:=hrel;have s:=c.o.cell V.o id;by_cases ab:d<r
  ·obtain⟨g,G⟩:=T.o (by omega);have q:=(U.o g G).1;subst G;have n:d<all.length:=by rw[A.o];exact ab
   have al:=c.o.cell (q (d*5+0) _ (by rw[C2 _ _ _ n (by omega)];rfl)) id;have az:=c.o.cell (q (d*5+1) _ (by rw[C2 _ _ _ n (by omega)];rfl)) id;have a0:=c.o.cell (q (d*5+2) _ (by rw[C2 _ _ _ n (by omega)];rfl)) id;have a1:=c.o.cell (q (d*5+3) _ (by rw[C2 _ _ _ n (by omega)];rfl)) id;have a2:=c.o.cell (q (d*5+4) _ (by rw[C2 _ _ _ n (by omega)];rfl)) id;rw[kg]at al;have i:=Aa (by have:=x.o;rw[VN _ _ _ _ n]at this;exact this);have J:∀j:Nat,l=(j:Int)->j<r->wr.cell? ⟨g,j*5,none⟩=some (.int .i64 (Aj all j).t):=by
    intro j H aa;have:=c.o.cell (q (j*5+0) _ (by rw[C2 _ _ _ (by rw[A.o];exact aa) (by omega)];rfl)) id;rw[kg]at this;exact this
   have u:=Aa J;clear J q n x;have au:(0:Int)<=(d:Int):=by omega
   have av:(d:Int)<(r:Int):=by omega
   generalize af:Aj all d=h at *
   clear af;by_cases k:h.tick=0
   ·have Y:(h.tick==0)=true:=by simpa using k
    by_cases t:h.t<=mark
    ·have ad:decide (h.t<=mark)=true:=by simpa using t
     rcases o with o | ⟨ah,ax⟩
     ·subst o;have m:=Aa (by have:=i.o;rw[h9 ⟨k,t,.inl (by omega)⟩]at this;exact this);clear i k;go_wp2_with fail
      go_quiet (fail)
      go_wp2;go_roundw;case rel=>exact⟨d+1,d,by omega,by go_num,rfl,.inr ⟨by omega,by omega⟩,(by first | exact(c.o.alloc _).drew | exact c.o.alloc _ | exact(c.o.alloc _).then ⟨rfl,rfl,rfl,il _,λ_ _ _=>rfl⟩),m⟩
      case measure=>simp[intOf];omega
     obtain⟨j,rfl⟩:=jd ah;have H:=u.o j rfl (by omega);rw[iH]at i;generalize ag:Aj all j=C at *
     clear ag u;have aq:decide ((j:Int)<0)=false:=by simp
     have ao:=((aA.refl (λ_=>False) wr).alloc (.cells #[.int .i64 h.t,.int .i64 h.k,.int .i64 h.d,.int .i64 h.n,.int .i64 h.tick] 150)).cell s id;have ar:=((aA.refl (λ_=>False) wr).alloc (.cells #[.int .i64 h.t,.int .i64 h.k,.int .i64 h.d,.int .i64 h.n,.int .i64 h.tick] 150)).cell H id;by_cases v:h.t<C.t
     ·have ae:decide (h.t<C.t)=true:=by simpa using v
      have m:=Aa (by have:=i.o;rw[h9 ⟨k,t,.inr v⟩]at this;exact this);clear i k;go_wp2_with fail
      go_quiet (fail)
      go_wp2;go_roundw;case rel=>exact⟨d+1,d,by omega,by go_num,rfl,.inr ⟨by omega,by omega⟩,(by first | exact(c.o.alloc _).drew | exact c.o.alloc _ | exact(c.o.alloc _).then ⟨rfl,rfl,rfl,il _,λ_ _ _=>rfl⟩),m⟩
      case measure=>simp[intOf];omega
     have ae:decide (h.t<C.t)=false:=by simpa using v
     have m:=Aa (by have:=i.o;rw[hZ (λa=>by rcases a.2.2 with a | a;omega;exact v a)]at this;exact this);clear i k;go_wp2_with fail
     go_quiet (fail)
     go_wp2;go_roundw;case rel=>exact⟨d+1,j,by omega,by go_num,rfl,.inr ⟨by omega,by omega⟩,(by first | exact(c.o.alloc _).drew | exact c.o.alloc _ | exact(c.o.alloc _).then ⟨rfl,rfl,rfl,il _,λ_ _ _=>rfl⟩),m⟩
     case measure=>simp[intOf];omega
    have ad:decide (h.t<=mark)=false:=by simpa using t
    have m:=Aa (by have:=i.o;rw[hZ (λa=>t a.2.1)]at this;exact this);clear i k u;have z:=Aa o;clear o;go_wp2_with fail
    go_quiet (fail)
    go_wp2;go_roundw;case rel=>exact⟨d+1,l,by omega,by go_num,rfl,z.o,(by first | exact(c.o.alloc _).drew | exact c.o.alloc _ | exact(c.o.alloc _).then ⟨rfl,rfl,rfl,il _,λ_ _ _=>rfl⟩),m⟩
    case measure=>simp[intOf];omega
   have Y:(h.tick==0)=false:=by simpa using k
   have m:=Aa (by have:=i.o;rw[hZ (λa=>k a.1)]at this;exact this);clear i k u;have z:=Aa o;clear o;go_wp2_with fail
   go_quiet (fail)
   go_wp2;go_roundw;case rel=>exact⟨d+1,l,by omega,by go_num,rfl,z.o,(by first | exact(c.o.alloc _).drew | exact c.o.alloc _ | exact(c.o.alloc _).then ⟨rfl,rfl,rfl,il _,λ_ _ _=>rfl⟩),m⟩
   case measure=>simp[intOf];omega
  have Z:d=r:=by omega
  subst Z;have i:=Aa (show Cx all mark=l by rw[x.o,iU (by rw[A.o];exact il _)];rfl);go_wp2;go_ret;exact⟨by rw[X.o,i.o];rfl,c.o⟩
def RB.next(b b':RB)(size:Nat): Prop:=b'.s=b.s/\∀i,b'.aQ i->b.aQ i\/size<=i
theorem aZ.one{w w':World}{e:Nat}{v:Value}{clock aC:Int}{j k:List (RB×aG)}{p:RB×aG}{n:RB}{x':aG}(i:aZ w e v clock aC (j++p::k))(r:aA p.1.aQ w w')(F:bN w' n x')(t:p.1.next n w.heap.size): aZ w' e v clock aC (j++(n,x')::k):=by
 have s:p∈j++p::k:=by simp
 have q:=iY.1 i.apart;have x:=ji.1 q.2.1;have m:∀c,c∈j\/c∈k->c∈j++p::k/\∀d,c.1.aQ d->¬p.1.aQ d:=by
  intro c a;rcases a with a | a
  ·exact⟨by simp[a],λd h u=>q.2.2 c a p (by simp) d h u⟩
  exact⟨by simp[a],λd h u=>x.1 c a d u h⟩
 have z:∀c,c∈j\/c∈k->∀d,n.aQ d->¬c.1.aQ d:=by
  intro c a d h A;obtain⟨C,B⟩:=m c a;rcases t.2 d h with l | l
  ·exact B d A l
  have:=(i.bM c C).lt d A;omega
 have E:w'.ownsRow 0 106 1 v (j++p::k).length (E0 (j++p::k)):=A2 i.row r (λd h l=>(i.ef p s d l).2 h);have D:E0 (j++(n,x')::k)=E0 (j++p::k):=by
  simp only[E0,iy,iC];rw[t.1]
 refine⟨i.aF.keeps r (λl=>(i.ef p s e l).1 rfl),?_,?_,?_,i.ev,?_⟩
 ·rw[D,show(j++(n,x')::k).length=(j++p::k).length by simp];exact E
 ·intro c a;rcases ig.1 a with a | a
  ·exact(i.bM c (m c (.inl a)).1).keeps r (m c (.inl a)).2
  rcases iw.1 a with a | a
  ·subst a;exact F
  exact(i.bM c (m c (.inr a)).1).keeps r (m c (.inr a)).2
 ·refine iY.2 ⟨q.1,ji.2 ⟨λc a d h=>z c (.inr a) d h,x.2⟩,?_⟩;intro c a H o d h;rcases iw.1 o with o | o
  ·subst o;exact λl=>z c (.inl a) d l h
  exact q.2.2 c a H (by simp[o]) d h
 intro c a d h;rcases ig.1 a with a | a
 ·exact i.ef c (m c (.inl a)).1 d h
 rcases iw.1 a with a | a
 ·subst a;rcases t.2 d h with l | l
  ·exact i.ef p s d l
  have I:=i.lt e (.inl rfl);refine⟨by omega,λG=>?_⟩;have:=i.lt d (.inr (.inl G));omega
 exact i.ef c (m c (.inr a)).1 d h
theorem bG.one{w:World}{e:Nat}{v:Value}{h j:List (RB×aG)}{p:RB×aG}{d:RB}{x':aG}(l:p.1.next d w.heap.size)(i:Nat)(hi:bG e v (h++(d,x')::j) i):
  bG e v (h++p::j) i\/w.heap.size<=i:=by
 rcases hi with hi | hi | ⟨k,a,hi⟩
 ·exact .inl (.inl hi)
 ·exact .inl (.inr (.inl hi))
 rcases ig.1 a with a | a
 ·exact .inl (.inr (.inr ⟨k,by simp[a],hi⟩))
 rcases iw.1 a with a | a
 ·subst a;rcases l.2 i hi with c | c
  ·exact .inl (.inr (.inr ⟨p,by simp,c⟩))
  exact .inr c
 exact .inl (.inr (.inr ⟨k,by simp[a],hi⟩))
theorem NP{ps:List (RB×aG)}{id:Int}{p:RB×aG}(e:BI ps id=some p): ∃a c,ps=a++p::c/\∀y:aG,Di (ps.map (·.2)) id y=a.map (·.2)++y::c.map (·.2):=by
 obtain⟨l,a,c,h,i⟩:=List.find?_eq_some_iff_append.1 e;refine⟨a,c,h,λy=>?_⟩;subst h;clear e;induction a with
 | nil=>simp[Di,l]
 | cons d n m =>
  have j:(d.2.id==id)=false:=by simpa using i d (by simp)
  simp only[List.cons_append,iC,Di,j];rw[m (λb k=>i b (by simp[k]))];rfl
theorem G6(ps:List (RB×aG))(id:Int): EC (ps.map (·.2)) id=(BI ps id).map (·.2):=by
 unfold EC BI;induction ps with
 | nil=>rfl
 | cons a d c =>
  simp only[iC,kI];cases (a.2.id==id) with
  | true=>rfl
  | false=>exact c
def Dc(w:World)(e:Nat)(v:Value)(ps:List (RB×aG))(s':cT)(w':World): Prop :=
 ∃v' ps',aZ w' e v' s'.clock s'.aC ps'/\ps'.map (·.2)=s'.xs/\aA (bG e v ps) w w'/\(∀i,bG e v' ps' i->bG e v ps i\/w.heap.size<=i)
theorem Lz{w w':World}{e:Nat}{v:Value}{clock aC:Int}{ps:List (RB×aG)}(a:aZ w e v clock aC ps)(c:lO w w'): Dc w e v ps ⟨clock,aC,ps.map (·.2)⟩ w' :=
 ⟨v,ps,a.still c,rfl,c.mono (λ_ _ a=>a.elim),λ_ d=>.inl d⟩
theorem Uq(b:RB)(y:aG)(nv:Value)(bC:List bA): (C4 b y).set 21 nv=C4 ⟨b.s,nv,b.ev⟩ { y with items:=bC }:=rfl
theorem NG(b:RB)(y:aG)(nv:Value)(a:List dR): (C4 b y).set 22 nv=C4 ⟨b.s,b.iv,nv⟩ { y with events:=a }:=rfl
theorem zM6{w i:World}{B:Obj}{b:RB}{y:aG}{k:bA}{j n s:Nat}{nv:Value}(e:bN w b y)(A:y.items.length=n)(C:nv=.slice (some ⟨j,0,none⟩) (n+1) s)(D:i.ownsRow 0 150 5 nv (n+1) (Cy y.items++k.cells))(v:(w.alloc B).drew.grownBy i b.iv.ownBlock)(m:b.iv.ownBlock=some j\/j=w.heap.size+1):
  bN (i.setCell ⟨b.s,21,none⟩ nv) ⟨b.s,nv,b.ev⟩ { y with items:=y.items++[k] }/\aA b.aQ w (i.setCell ⟨b.s,21,none⟩ nv)/\b.next ⟨b.s,nv,b.ev⟩ w.heap.size:=by
 have l:nv.ownBlock=some j:=by rw[C];rfl
 have q:aA (λc=>b.iv.ownBlock=some c) w i:=(((aA.refl _ w).alloc B).drew).grown v (λG z=>Or.inl z);have r:aA (λc=>c=b.s) i (i.setCell ⟨b.s,21,none⟩ nv):=(aA.refl (λc=>c=b.s) i).setCell (p:=⟨b.s,21,none⟩) (Or.inl rfl) _;have F:=e.aF.lt;have x:j≠b.s:=by
  rcases m with h | h
  ·intro u;exact e.si (by rw[h,u])
  omega
 refine⟨⟨?_,?_,?_,?_,e.se,?_⟩,?_,rfl,?_⟩
 ·have:=(e.aF.keeps q (λd=>e.si d)).setCell 21 nv;rw[Uq b y nv (y.items++[k])]at this;exact this
 ·have t:=A2 D r (λc a d=>by rw[l]at a;injection a with a;omega);show World.ownsRow _ 0 150 5 nv (y.items++[k]).length (Cy (y.items++[k]));rw[hY,A];have:Cy (y.items++[k])=Cy y.items++k.cells:=by simp[Cy]
  rw[this];exact t
 ·exact A2 (A2 e.eP q (λc a d=>e.ie c d a)) r (λc a d=>e.se (by rw[<-d];exact a))
 ·show nv.ownBlock≠some b.s;rw[l];intro d;injection d with d;exact x d
 ·intro c a d;have o:j=c:=by have:nv.ownBlock=some c:=a;rw[l]at this;injection this
  have E:=(e.eP.lt c d).2;rcases m with h | h
  ·exact e.ie c (by rw[h,o]) d
  omega
 ·exact(q.mono (M':=b.aQ) (λc _ d=>.inr (.inl d))).trans r (λc a _=>.inl a)
 intro c a;rcases a with a | a | a
 ·exact .inl (.inl a)
 ·have o:j=c:=by have:nv.ownBlock=some c:=a;rw[l]at this;injection this
  rcases m with h | h
  ·exact .inl (.inr (.inl (by rw[h,o])))
  exact .inr (by omega)
 exact .inl (.inr (.inr a))
theorem zNb{w i:World}{B:Obj}{b:RB}{y:aG}{k:dR}{j n s:Nat}{nv:Value}(e:bN w b y)(A:y.events.length=n)(C:nv=.slice (some ⟨j,0,none⟩) (n+1) s)(D:i.ownsRow 0 155 4 nv (n+1) (CR y.events++k.cells))(v:(w.alloc B).drew.grownBy i b.ev.ownBlock)(m:b.ev.ownBlock=some j\/j=w.heap.size+1):
  bN (i.setCell ⟨b.s,22,none⟩ nv) ⟨b.s,b.iv,nv⟩ { y with events:=y.events++[k] }/\aA b.aQ w (i.setCell ⟨b.s,22,none⟩ nv)/\b.next ⟨b.s,b.iv,nv⟩ w.heap.size:=by
 have l:nv.ownBlock=some j:=by rw[C];rfl
 have q:aA (λc=>b.ev.ownBlock=some c) w i:=(((aA.refl _ w).alloc B).drew).grown v (λG z=>Or.inl z);have r:aA (λc=>c=b.s) i (i.setCell ⟨b.s,22,none⟩ nv):=(aA.refl (λc=>c=b.s) i).setCell (p:=⟨b.s,22,none⟩) (Or.inl rfl) _;have F:=e.aF.lt;have x:j≠b.s:=by
  rcases m with h | h
  ·intro u;exact e.se (by rw[h,u])
  omega
 refine⟨⟨?_,?_,?_,e.si,?_,?_⟩,?_,rfl,?_⟩
 ·have:=(e.aF.keeps q (λd=>e.se d)).setCell 22 nv;rw[NG b y nv (y.events++[k])]at this;exact this
 ·exact A2 (A2 e.bC q (λc a d=>e.ie c a d)) r (λc a d=>e.si (by rw[<-d];exact a))
 ·have t:=A2 D r (λc a d=>by rw[l]at a;injection a with a;omega);show World.ownsRow _ 0 155 4 nv (y.events++[k]).length (CR (y.events++[k]));rw[hY,A];have:CR (y.events++[k])=CR y.events++k.cells:=by simp[CR]
  rw[this];exact t
 ·show nv.ownBlock≠some b.s;rw[l];intro d;injection d with d;exact x d
 ·intro c a d;have o:j=c:=by have:nv.ownBlock=some c:=d;rw[l]at this;injection this
  have E:=(e.bC.lt c a).2;rcases m with h | h
  ·exact e.ie c a (by rw[h,o])
  omega
 ·exact(q.mono (M':=b.aQ) (λc _ d=>.inr (.inr d))).trans r (λc a _=>.inl a)
 intro c a;rcases a with a | a | a
 ·exact .inl (.inl a)
 ·exact .inl (.inr (.inl a))
 have o:j=c:=by have:nv.ownBlock=some c:=a;rw[l]at this;injection this
 rcases m with h | h
 ·exact .inl (.inr (.inr (by rw[h,o])))
 exact .inr (by omega)
theorem YW{w:World}{b:RB}{y:aG}{g m:Nat}(a:bN w b y)(i:b.iv=.slice (some ⟨g,0,none⟩) y.items.length m)(k:Nat)(r:k<y.items.length)(t:Int):
  bN (w.setCell ⟨g,k*5+4,none⟩ (.int .i64 t)) b { y with items:=AZ y.items k t }/\aA b.aQ w (w.setCell ⟨g,k*5+4,none⟩ (.int .i64 t)):=by
 have e:b.iv.ownBlock=some g:=by rw[i];rfl
 have h:aA (λd=>d=g) w (w.setCell ⟨g,k*5+4,none⟩ (.int .i64 t)):=(aA.refl (λd=>d=g) w).setCell (p:=⟨g,k*5+4,none⟩) (Or.inl rfl) _;have o:g≠b.s:=λn=>a.si (by rw[e,n]);refine⟨⟨a.aF.keeps h (λc=>o c.symm),?_,A2 a.eP h (λd q c=>a.ie g e (by rw[<-c];exact q)),a.si,a.se,a.ie⟩,h.mono (λd _ c=>.inr (.inl (by rw[e,c])))⟩;have j:=a.bC;rw[i]at j;have l:=Q7 j (k*5+4) (.int .i64 t);rw[UJ _ _ r]at l;show World.ownsRow _ 0 150 5 b.iv (AZ y.items k t).length (Cy (AZ y.items k t));rw[i,show(AZ y.items k t).length=y.items.length by simp[AZ]];exact l
theorem zM4{w:World}{b:RB}{y:aG}(d:bN w b y)(c:Nat)(a:Int):
  bN (w.setCell ⟨b.s,23+c,none⟩ (.int .i64 a)) b { y with ref:=y.ref.set c a }/\aA b.aQ w (w.setCell ⟨b.s,23+c,none⟩ (.int .i64 a)):=by
 have k:aA (λe=>e=b.s) w (w.setCell ⟨b.s,23+c,none⟩ (.int .i64 a)):=(aA.refl (λe=>e=b.s) w).setCell (p:=⟨b.s,23+c,none⟩) (Or.inl rfl) _;refine⟨⟨?_,A2 d.bC k (λe j h=>d.si (by rw[<-h];exact j)),A2 d.eP k (λe j h=>d.se (by rw[<-h];exact j)),d.si,d.se,d.ie⟩,k.mono (λe _ h=>.inl h)⟩;have:=d.aF.setCell (23+c) (.int .i64 a);have i:(C4 b y).set (23+c) (.int .i64 a)=C4 b { y with ref:=y.ref.set c a }:=by
  have i:(C4 b y).set (23+c) (.int .i64 a)=.int .i64 y.id::y.c.eD (b.iv::b.ev::(y.ref.map (.int .i64 ·)).set c (.int .i64 a)):=by
   rw[kT];rfl
  rw[i];unfold C4;simp only;rw[kH]
 rw[i]at this;exact this
end
section
attribute [local go_sem ↓] AN B2
attribute [local go_sem] AO B4 A5 A6 AI AJ BC BD Bf B3
theorem zMn: (prog.info? 150).map (λa=>(a.zero,a.size,a.bytes))=some (some (.agg #[.int .i64 0,.int .i64 0,.int .i64 0,.int .i64 0,.int .i64 0]),5,40):=by kernel_rfl
theorem Of(y:aG)(clock:Int)(o:aO): 0<=Ck y clock o/\Ck y clock o<=11:=by
 unfold Ck
 repeat (first | omega | split)
theorem zM8(e:Nat)(v:Value)(clock aC:Int)(ps:List (RB×aG))(o:aO)(w:World)(a:aZ w e v clock aC ps)(m:ps.length<=1000)(l:BI ps o.id=none):
  Calls prog 61 #[.pointer (some ⟨e,0,none⟩),o.val] w λh n=>h=.returned (.tuple #[.int .i64 0,.int .i64 2])/\Dc w e v ps ⟨clock,aC,ps.map (·.2)⟩ n:=by
 have s:o.cells[1]?=some (.int .i64 o.id):=rfl;have i:=Aa a;have c:lO w (w.alloc (.cells o.cells.toArray 48)):=(aA.refl (λ_=>False) w).alloc _;have j:=Aa (a.still c);have k:=Aa c;clear a c;unfold aO.val;go_enter func61,ntmps61;go_wp2_with fail
 generalize w.alloc (.cells o.cells.toArray 48)=q at *
 refine(Ge e v clock aC o.id ps q j.o m).mono ?_;rintro h r ⟨rfl,d⟩;rw[d,l];clear d r;unfold Fq;go_wp2;go_ret2;exact⟨rfl,Lz i.o k.o⟩
theorem YQ(n:Int)(e:Nat)(v:Value)(clock aC:Int)(ps:List (RB×aG))(o:aO)(w:World)(c:aZ w e v clock aC ps)(hi:bZ n clock aC (ps.map (·.2)))(ar:n<1152921504606846976)(p:RB×aG)(l:BI ps o.id=some p)(aa:Ck p.2 clock o≠0):
  Calls prog 61 #[.pointer (some ⟨e,0,none⟩),o.val] w λs ah=>s=.returned (.tuple #[.int .i64 0,.int .i64 (Ck p.2 clock o)])/\Dc w e v ps ⟨clock,aC,Di (ps.map (·.2)) o.id (He p.2 (Ck p.2 clock o).toNat)⟩ ah:=by
 have r:p∈ps:=iW l;have A:=Aa r;have C:=hi.bD p.2 (iF r);have k:=Aa C;have X:ps.length<=1000:=by have:=hi.bX;rw[im]at this;omega
 have ak:o.cells[1]?=some (.int .i64 o.id):=rfl;have ai:=Aa c;have m:lO w (w.alloc (.cells o.cells.toArray 48)):=(aA.refl (λ_=>False) w).alloc _;have P:=Aa (show aD (w.alloc (.cells o.cells.toArray 48)) w.heap.size o.cells 48 from aD.new w o.cells 48);have h:=Aa (c.still m);have O:=Aa m;obtain⟨ad,au⟩:=Of p.2 clock o;have U:=hi.c0;have V:=hi.c1;have x:=Aa l;clear c m C r hi l;unfold aO.val;go_enter func61,ntmps61;go_wp2_with fail
 generalize w.alloc (.cells o.cells.toArray 48)=M at *
 generalize Y:w.heap.size=av at *
 clear Y;refine(Ge e v clock aC o.id ps M h.o X).mono ?_;rintro s d ⟨rfl,G⟩;rw[G,x.o];clear G d;unfold Fq;obtain⟨ag,W⟩:=CE P.o 26 rfl;go_wp2_with fail
 refine(Py n e clock p.1 p.2 o M (h.o.bM p A.o) k.o (by omega) (h.o.aF.cell rfl) U V).mono ?_;rintro s d ⟨rfl,q⟩;have u:=Aa (h.o.still q);have z:=Aa (O.o.then q);clear q ag W;generalize B:Ck p.2 clock o=aj at *
 have t:=Aa B;clear B;obtain⟨a,rfl⟩:=jd ad;have al:((a:Int) !=0)=true:=by simpa using aa
 have i:=u.o.bM p A.o;have ab:=k.o.refl;have j:a<p.2.ref.length:=by omega
 have ap:d.cell? ⟨p.1.s,23+a,none⟩=some (.int .i64 (Ac p.2.ref a)):=by
  refine i.aF.cell ?_;have:(C4 p.1 p.2)[23+a]?=(p.2.ref.map (Value.int .i64 ·))[a]?:=by rw[kT];rfl
  rw[this,iP,hX j];unfold Ac;rw[List.getD_eq_getElem?_getD,hX j];rfl
 have aq:=i.aF.frozen;have T:=k.o.cL (Ac p.2.ref a) (by unfold Ac;rw[List.getD_eq_getElem?_getD,hX j];exact jc _);obtain⟨am,an⟩:=T;have N:=Aa (zM4 i a (Ac p.2.ref a+1));have ao:(a:Int)<15:=by omega
 clear i ab j;generalize F:Ac p.2.ref a=L at *
 have Q:=Aa F;clear F;go_wp2_with fail
 go_region
 go_wp2;go_ret2;obtain⟨R,D⟩:=N.o;refine⟨by rw[t.o];rfl,?_⟩;rw[t.o,iH];obtain⟨I,J,Z,af⟩:=NP x.o;subst Z;have E:p.1.next p.1 d.heap.size:=⟨rfl,λ_ hi=>.inl hi⟩;have ae:bN (d.setCell ⟨p.1.s,23+a,none⟩ (.int .i64 (L+1))).drew p.1 (He p.2 a):=by
  have:=R.still ((aA.refl (λ_=>False) (d.setCell ⟨p.1.s,23+a,none⟩ (.int .i64 (L+1)))).drew);unfold He;rw[Q.o];exact this
 have S:=u.o.one D.drew ae E;refine⟨v,I++(p.1,He p.2 a)::J,S,?_,?_,?_⟩
 ·simp only[af];simp
 ·refine(z.o.mono (M':=bG e v (I++p::J)) (λ_ _ c=>c.elim)).trans D.drew (λH hi _=>.inr (.inr ⟨p,by simp,hi⟩))
 intro H hi;rcases bG.one (w:=d) E H hi with c | c
 ·exact .inl c
 exact .inr (by have:=z.o.size;omega)
def Q9(w:World)(c:Int×List Int)(r:Ending)(w':World): Prop:=∃nv,r=.returned (Av c.1 nv)/\w'.ownsRow w.heap.size 3 1 nv c.2.length (ints c.2)/\lO w w'
theorem Wt(e:Nat)(v:Value)(clock aC:Int)(ps:List (RB×aG))(o:aO)(w:World)(a:aZ w e v clock aC ps)(C:ps.length<=1000)(A:BI ps o.id=none):
  Calls prog 31 #[.pointer (some ⟨e,0,none⟩),o.val] w λi D=>Q9 w (2,[]) i D:=by
 have G:o.cells[1]?=some (.int .i64 o.id):=rfl;have r:=Aa a;clear a;unfold aO.val;go_enter func31,ntmps31;go_wp2_with fail
 obtain⟨n,l,j,F,z⟩:=C5 w o.cells;have s:=Aa (r.o.still j.o);rw[<-l];clear l;generalize d:w.heap.size=L at *
 have x:=Aa d;clear d;refine(Ge e v clock aC o.id ps n s.o C).mono ?_;rintro i q ⟨rfl,m⟩;rw[m,A];clear m q;unfold Fq;go_wp2_with fail
 refine(Ju 2 n).mono ?_;rintro i q ⟨rfl,c⟩;unfold Av;have k:=Aa (z.o.keeps c id);have t:=Aa (j.o.then c);clear c;obtain⟨M,N,O,P⟩:=k.o.three;go_wp2;refine CZ k.o (λE h=>by simp[results,results31,go_sem,h.c0,h.c1,h.c2,Av]) rfl (λE B=>?_);have u:=Aa B;have d:=x.o;exact⟨_,rfl,ir _ _ _ _,t.o.trans u.o (λJ H I=>by omega)⟩
theorem Vw(b:RB)(y:aG)(c:Nat)(a:c<y.ref.length): (C4 b y)[23+c]?=some (.int .i64 (Ac y.ref c)):=by
 have:(C4 b y)[23+c]?=(y.ref.map (Value.int .i64 ·))[c]?:=by rw[kT];rfl
 rw[this,iP,hX a];unfold Ac;rw[List.getD_eq_getElem?_getD,hX a];rfl
theorem Vg(n:Int)(e:Nat)(v:Value)(clock aC:Int)(ps:List (RB×aG))(o:aO)(w:World)(h:aZ w e v clock aC ps)(hi:bZ n clock aC (ps.map (·.2)))(cg:n<1099511627776)(p:RB×aG)(J:BI ps o.id=some p):
  Calls prog 31 #[.pointer (some ⟨e,0,none⟩),o.val] w λO b8=>Q9 w (0,(p.2.items.length:Int)::((p.2.items.length:Int)-(Ap p.2.items).length)::AE.map (Ac p.2.ref)) O b8:=by
 have M:p∈ps:=iW J;have bd:=Aa M;have L:=hi.bD p.2 (iF M);have cd:=L.items;have bu:=L.refl;have bt:ps.length<=1000:=by have:=hi.bX;rw[im]at this;omega
 have ca:o.cells[1]?=some (.int .i64 o.id):=rfl;have a7:=Aa h;have a8:=Aa J;have ck:=E6 p.2.items;clear h L M hi J;unfold aO.val;go_enter func31,ntmps31;go_wp2_with fail
 obtain⟨s,a3,Q,b9,bh⟩:=C5 w o.cells;have P:=Aa (a7.o.still Q.o);rw[<-a3];clear a3;generalize H:w.heap.size=a at *
 have bf:=Aa H;clear H;refine(Ge e v clock aC o.id ps s P.o bt).mono ?_;rintro O c ⟨rfl,a4⟩;rw[a4,a8.o];clear a4 c;unfold Fq;have U:=Aa (P.o.bM p bd.o);have i:∀k,k<15->s.cell? ⟨p.1.s,23+k,none⟩=some (.int .i64 (Ac p.2.ref k)):=λk cb=>U.o.aF.cell (Vw p.1 p.2 k (by omega));have W:=i 0 (by omega);have X:=i 1 (by omega);have ae:=i 2 (by omega);have af:=i 3 (by omega);have ag:=i 4 (by omega);have ah:=i 5 (by omega);have ai:=i 6 (by omega);have aj:=i 7 (by omega);have ak:=i 8 (by omega);have al:=i 9 (by omega);have Y:=i 10 (by omega);have Z:=i 11 (by omega);have aa:=i 12 (by omega);have ab:=i 13 (by omega);have ad:=i 14 (by omega);clear i bu;simp only[Nat.reduceAdd]at W X ae af ag ah ai aj ak al Y Z aa ab ad;go_wp2_with fail
 have G:lO s (s.alloc (.cells ((List.range 15).map λk=>Value.int .i64 (Ac p.2.ref k)).toArray 111)):=(aA.refl (λ_=>False) s).alloc _;have l:=Aa (aD.new s ((List.range 15).map λk=>Value.int .i64 (Ac p.2.ref k)) 111);have D:=Aa (bh.o.keeps G id);have C:=Aa (U.o.still G);have R:=Aa (Q.o.then G);have V:((List.range 15).map λk=>Value.int .i64 (Ac p.2.ref k)).toArray=#[.int .i64 (Ac p.2.ref 0),.int .i64 (Ac p.2.ref 1),.int .i64 (Ac p.2.ref 2),.int .i64 (Ac p.2.ref 3),.int .i64 (Ac p.2.ref 4),.int .i64 (Ac p.2.ref 5),.int .i64 (Ac p.2.ref 6),.int .i64 (Ac p.2.ref 7),.int .i64 (Ac p.2.ref 8),.int .i64 (Ac p.2.ref 9),.int .i64 (Ac p.2.ref 10),.int .i64 (Ac p.2.ref 11),.int .i64 (Ac p.2.ref 12),.int .i64 (Ac p.2.ref 13),.int .i64 (Ac p.2.ref 14)]:=rfl;rw[V]at l D C R;clear V G W X ae af ag ah ai aj ak al Y Z aa ab ad;generalize s.alloc (.cells #[.int .i64 (Ac p.2.ref 0),.int .i64 (Ac p.2.ref 1),.int .i64 (Ac p.2.ref 2),.int .i64 (Ac p.2.ref 3),.int .i64 (Ac p.2.ref 4),.int .i64 (Ac p.2.ref 5),.int .i64 (Ac p.2.ref 6),.int .i64 (Ac p.2.ref 7),.int .i64 (Ac p.2.ref 8),.int .i64 (Ac p.2.ref 9),.int .i64 (Ac p.2.ref 10),.int .i64 (Ac p.2.ref 11),.int .i64 (Ac p.2.ref 12),.int .i64 (Ac p.2.ref 13),.int .i64 (Ac p.2.ref 14)] 111)=c at *
 generalize bq:s.heap.size=E at *
 refine(Ls p.1 p.2 c C.o (by omega)).mono ?_;rintro O q ⟨rfl,a5⟩;rw[a5];clear a5 q;have ao:=l.o.c5;have ap:=l.o.c6;have aq:=l.o.c7;have ar:=l.o.c8;have au:=l.o.c9;have am:c.cell? ⟨E,10,none⟩=some (.int .i64 (Ac p.2.ref 10)):=l.o.cell rfl;have an:c.cell? ⟨E,11,none⟩=some (.int .i64 (Ac p.2.ref 11)):=l.o.cell rfl;obtain⟨b2,b3,a0,-,-,-⟩:=DU C.o.bC;have b7:c.cell? ⟨p.1.s,21,none⟩=some (.slice b2 p.2.items.length b3):=by rw[<-a0];exact C.o.aF.cell rfl
 have ch:a+1<c.heap.size:=D.o.lt;have bv:a<=c.heap.size:=by omega
 clear a0;obtain⟨b1,br,bx,bz,b0⟩:=jh Fc;generalize av:p.2.items.length=d at *
 generalize ax:(Ap p.2.items).length=m at *
 have bb:=Aa av;have bl:=Aa ax;clear av ax bq;have cl:IntKind.i64.wrap ((d:Int)-(m:Int))=(d:Int)-(m:Int):=GJ (by omega) (by omega);go_wp2_with fail
 go_region
 have be:=Aa (show(c.alloc (.cells #[.int .i64 (d:Int),.int .i64 ((d:Int)-(m:Int))] 3)).drew.ownsRow a 3 1 (.slice (some ⟨c.heap.size,0,none⟩) 2 2) 2 [.int .i64 (d:Int),.int .i64 ((d:Int)-(m:Int))] from
    ⟨rfl,.inr ⟨c.heap.size,2,#[.int .i64 (d:Int),.int .i64 ((d:Int)-(m:Int))],rfl,bv,(aD.new c [.int .i64 (d:Int),.int .i64 ((d:Int)-(m:Int))] 3).drew,by omega,by unfold maxLen;omega,rfl,rfl⟩⟩)
 have F:lO c (c.alloc (.cells #[.int .i64 (d:Int),.int .i64 ((d:Int)-(m:Int))] 3)).drew:=((aA.refl (λ_=>False) c).alloc _).drew;have a2:(c.alloc (.cells #[.int .i64 (d:Int),.int .i64 ((d:Int)-(m:Int))] 3)).drew.heap.size=c.heap.size+1:=by simp
 have bi:=Aa (D.o.keeps F id);have x:=Aa (l.o.keeps F id);have ba:=Aa (R.o.then F);clear F ao ap aq ar au am an b7 D l;generalize(c.alloc (.cells #[.int .i64 (d:Int),.int .i64 ((d:Int)-(m:Int))] 3)).drew=q at *
 have ao:=x.o.c5;have ap:=x.o.c6;have aq:=x.o.c7;have ar:=x.o.c8;have au:=x.o.c9;have am:q.cell? ⟨E,10,none⟩=some (.int .i64 (Ac p.2.ref 10)):=x.o.cell rfl;have an:q.cell? ⟨E,11,none⟩=some (.int .i64 (Ac p.2.ref 11)):=x.o.cell rfl;generalize N:c.heap.size=B at *
 have bj:=Aa N;clear N;generalize aw:(d:Int)-(m:Int)=bm at *
 have bc:=Aa aw;clear aw;have a6:=Aa (iJ q);have bk:=Aa a2;have cj:a+1<q.heap.size:=by omega
 clear a2;go_wp2_with (at_builtin;refine jf _ rfl _ _ _ rfl a 3 b1 _ 1 8 underlying37 br bx bz b0 rfl (by omega) (.slice (some ⟨B,0,none⟩) 2 2) 2 [.int .i64 (d:Int),.int .i64 bm] rfl (be.o.alloc _) ⟨q.heap.size,0,none⟩ 7 7 [.int .i64 (Ac p.2.ref 5),.int .i64 (Ac p.2.ref 6),.int .i64 (Ac p.2.ref 7),.int .i64 (Ac p.2.ref 8),.int .i64 (Ac p.2.ref 10),.int .i64 (Ac p.2.ref 9),.int .i64 (Ac p.2.ref 11)] rfl rfl (iT (cs:=#[.int .i64 (Ac p.2.ref 5),.int .i64 (Ac p.2.ref 6),.int .i64 (Ac p.2.ref 7),.int .i64 (Ac p.2.ref 8),.int .i64 (Ac p.2.ref 10),.int .i64 (Ac p.2.ref 9),.int .i64 (Ac p.2.ref 11)]) (t:=3) (fr:=(0,0)) (a6.o _)) (by simp[Value.oneCell']) (by omega) (by unfold maxLen;omega) (by omega) (by simp;omega) (q.heap.size+1) (by simp) ?_;intro r z u a1 az ay cf;have bg:=Aa a1;have S:=Aa ((((aA.refl (λj=>j=B) q).alloc _).grown az (λcm bs=>.inl (by simpa[Value.ownBlock] using bs.symm))));have a9:=Aa (show r=B\/r=q.heap.size+1 by rcases ay with h | h;left;simpa[Value.ownBlock] using h.symm;right;exact h);have A:=Aa (bi.o.keeps S.o (λh=>by omega));clear a1 az ay;have cn:u.cell? ⟨a+1,0,none⟩=some (.int .i64 0):=A.o.cell rfl;have co:u.cell? ⟨a+1,1,none⟩=some (.slice none 0 0):=A.o.cell rfl;have cp:u.cell? ⟨a+1,2,none⟩=some (.string Ai):=A.o.cell rfl;have cq:=A.o.frozen)
 have I:=((A.o.setCell 0 (.int .i64 0)).setCell 1 (.slice (some ⟨r,0,none⟩) (2+7) z)).setCell 2 (.string Ai);have T:=Aa ((((aA.refl (λj=>j=a+1) u).setCell (p:=⟨a+1,0,none⟩) (Or.inl rfl) (.int .i64 0)).setCell (p:=⟨a+1,1,none⟩) (Or.inl rfl) (.slice (some ⟨r,0,none⟩) (2+7) z)).setCell (p:=⟨a+1,2,none⟩) (Or.inl rfl) (.string Ai));have bn:(((u.setCell ⟨a+1,0,none⟩ (.int .i64 0)).setCell ⟨a+1,1,none⟩ (.slice (some ⟨r,0,none⟩) 9 z)).setCell ⟨a+1,2,none⟩ (.string ⟨#[]⟩))=(((u.setCell ⟨a+1,0,none⟩ (.int .i64 0)).setCell ⟨a+1,1,none⟩ (.slice (some ⟨r,0,none⟩) (2+7) z)).setCell ⟨a+1,2,none⟩ (.string Ai)):=rfl;first | rw[bn] | skip
 generalize(((u.setCell ⟨a+1,0,none⟩ (.int .i64 0)).setCell ⟨a+1,1,none⟩ (.slice (some ⟨r,0,none⟩) (2+7) z)).setCell ⟨a+1,2,none⟩ (.string Ai))=cr at *
 have b4:=I.c0;have b5:=I.c1;have b6:=I.c2;refine iN (v:=Av 0 (.slice (some ⟨r,0,none⟩) 9 z)) (by simp[results,results31,go_sem,b4,b5,b6,Av]) rfl ?_;have H:=bf.o;have ci:=bk.o;have N:=bj.o;have cc:=a9.o;refine⟨_,rfl,?_,?_⟩
 ·have bp:=A2 bg.o T.o (λj hi h=>by
     have:r=j:=by simpa[Value.ownBlock] using hi
     omega)
  rw[bb.o,bl.o,bc.o,H];exact bp
 have bo:aA (λj=>j=B) w u:=(ba.o.mono (M':=λj=>j=B) (λ_ _ h=>h.elim)).then S.o;refine(bo.trans (M':=λj=>j=a+1) T.o (λj hi ce=>by omega)).mono (λj hi h=>by omega)
