import Derived.Test.YtnokbhcennjanaaGreatDoorXAO
import Derived.Test.YtnokbhcennjanaaGreatDoorXAP
open Go.RowKit Go.Proofs.Tryz
set_option maxRecDepth 100000
set_option maxHeartbeats 16000000
namespace Go.Proofs.YtnokbhcennjanaaGreatDoor
section
theorem VL(all:List bA)(mark:Int)(i:Nat)(k:Int)(hi:i<all.length):
  E4 all mark (all.drop i) i k=E4 all mark (all.drop (i+1)) (i+1) (if (Aj all i).tick=0/\(Aj all i).t<=mark/\(k<0\/(Aj all i).t<(Aj all k.toNat).t) then(i:Int) else k):=by
 rw[δ hi,E4,<-Cv all i hi]
theorem Pz(e:Nat)(clock:Int)(b:RB)(y:aG)(w:World)(a:bN w b y)(E:w.cell? ⟨e,0,none⟩=some (ι clock))(aw:y.items.length<=1152921504606846976)(P:0<=y.c.aL)(Q:y.c.aL<=100)(c0:0<=clock)(c1:clock<=4611686018427387904):
  Calls prog 89 #[π e,π b.s] w λS ak=>S=.returned (ι (C3 y.items (clock-y.c.aL)))/\lX w ak:=by
 have L:=a.aF.c2;have s:κ w b.s 21 b.iv:=a.aF.cell rfl;obtain⟨am,an,O,-,D,F⟩:=DZ a.bC;rw[O]at s;have U:=Aa F;have T:=Aa D;clear a F D O;generalize N:y.items.length=r at *
 have A:=Aa N;clear N;generalize b.s=aj at *
 generalize y.c.aL=R at *
 generalize y.items=all at *
 go_enter func89,ntmps89;go_wp2_with fail
 refine(J0 e aj R clock w E L P Q c0 c1).mono ?_;rintro S ay ⟨rfl,I⟩;generalize M:clock-R=mark at *
 have X:=Aa M;have V:=Aa s;have W:=Aa I;clear M s L E P Q c0 c1 I;go_wp2_with fail
 go_loopw [6,7] (λai B wr=>∃(d:Nat) (l:Int),d<=r/\B=ι d/\ai=ι l/\(l=-1\/(0<=l/\l<(r:Int)))/\Hid (lX w wr)/\Hid (C3 all mark=E4 all mark (all.drop d) d l)) (λ_ B _=>r-(intOf B).toNat)
 case atStart=>exact⟨0,-1,iT _,rfl,rfl,.inl rfl,W,rfl⟩
 case round =>
  obtain⟨d,l,ap,rfl,rfl,o,c,x⟩:=hrel;have s:=c.o.cell V.o id;by_cases ab:d<r
  ·obtain⟨g,G⟩:=T.o (by omega);have q:=(U.o g G).1;subst G;have n:d<all.length:=by rw[A.o];exact ab
   have al:=c.o.cell (q (d*5+0) _ (by rw[C8 _ _ _ n (by omega)];rfl)) id;have az:=c.o.cell (q (d*5+1) _ (by rw[C8 _ _ _ n (by omega)];rfl)) id;have a0:=c.o.cell (q (d*5+2) _ (by rw[C8 _ _ _ n (by omega)];rfl)) id;have a1:=c.o.cell (q (d*5+3) _ (by rw[C8 _ _ _ n (by omega)];rfl)) id;have a2:=c.o.cell (q (d*5+4) _ (by rw[C8 _ _ _ n (by omega)];rfl)) id;rw[j0]at al;have i:=Aa (by have:=x.o;rw[VL _ _ _ _ n]at this;exact this);have J:∀j:Nat,l=(j:Int)->j<r->κ wr g (j*5) (ι (Aj all j).t):=by
    intro j H aa;have:=c.o.cell (q (j*5+0) _ (by rw[C8 _ _ _ (by rw[A.o];exact aa) (by omega)];rfl)) id;rw[j0]at this;exact this
   have u:=Aa J;clear J q n x;have au:(0:Int)<=(d:Int):=by omega
   have av:(d:Int)<(r:Int):=by omega
   generalize af:Aj all d=h at *
   clear af;by_cases k:h.tick=0
   ·have Y:(h.tick==0)=true:=by simpa using k
    by_cases t:h.t<=mark
    ·have ad:decide (h.t<=mark)=true:=by simpa using t
     rcases o with o | ⟨ah,ax⟩
     ·subst o;have m:=Aa (by have:=i.o;rw[ij ⟨k,t,.inl (by omega)⟩]at this;exact this);clear i k;go_wp2_with fail
      go_quiet (fail)
      go_wp2;go_roundw;case rel=>exact⟨d+1,d,by omega,by go_num,rfl,.inr ⟨by omega,by omega⟩,(by first | exact(c.o.alloc _).drew | exact c.o.alloc _ | exact(c.o.alloc _).then ⟨rfl,rfl,rfl,ir _,λ_ _ _=>rfl⟩),m⟩
      case measure=>simp[intOf];omega
     obtain⟨j,rfl⟩:=jl ah;have H:=u.o j rfl (by omega);rw[iM]at i;generalize ag:Aj all j=C at *
     clear ag u;have aq:decide ((j:Int)<0)=false:=by simp
     have ao:=((aA.refl (λ_=>False) wr).alloc (.cells #[ι h.t,ι h.k,ι h.d,ι h.n,ι h.tick] 150)).cell s id;have ar:=((aA.refl (λ_=>False) wr).alloc (.cells #[ι h.t,ι h.k,ι h.d,ι h.n,ι h.tick] 150)).cell H id;by_cases v:h.t<C.t
     ·have ae:decide (h.t<C.t)=true:=by simpa using v
      have m:=Aa (by have:=i.o;rw[ij ⟨k,t,.inr v⟩]at this;exact this);clear i k;go_wp2_with fail
      go_quiet (fail)
      go_wp2;go_roundw;case rel=>exact⟨d+1,d,by omega,by go_num,rfl,.inr ⟨by omega,by omega⟩,(by first | exact(c.o.alloc _).drew | exact c.o.alloc _ | exact(c.o.alloc _).then ⟨rfl,rfl,rfl,ir _,λ_ _ _=>rfl⟩),m⟩
      case measure=>simp[intOf];omega
     have ae:decide (h.t<C.t)=false:=by simpa using v
     have m:=Aa (by have:=i.o;rw[ig (λa=>by rcases a.2.2 with a | a;omega;exact v a)]at this;exact this);clear i k;go_wp2_with fail
     go_quiet (fail)
     go_wp2;go_roundw;case rel=>exact⟨d+1,j,by omega,by go_num,rfl,.inr ⟨by omega,by omega⟩,(by first | exact(c.o.alloc _).drew | exact c.o.alloc _ | exact(c.o.alloc _).then ⟨rfl,rfl,rfl,ir _,λ_ _ _=>rfl⟩),m⟩
     case measure=>simp[intOf];omega
    have ad:decide (h.t<=mark)=false:=by simpa using t
    have m:=Aa (by have:=i.o;rw[ig (λa=>t a.2.1)]at this;exact this);clear i k u;have z:=Aa o;clear o;go_wp2_with fail
    go_quiet (fail)
    go_wp2;go_roundw;case rel=>exact⟨d+1,l,by omega,by go_num,rfl,z.o,(by first | exact(c.o.alloc _).drew | exact c.o.alloc _ | exact(c.o.alloc _).then ⟨rfl,rfl,rfl,ir _,λ_ _ _=>rfl⟩),m⟩
    case measure=>simp[intOf];omega
   have Y:(h.tick==0)=false:=by simpa using k
   have m:=Aa (by have:=i.o;rw[ig (λa=>k a.1)]at this;exact this);clear i k u;have z:=Aa o;clear o;go_wp2_with fail
   go_quiet (fail)
   go_wp2;go_roundw;case rel=>exact⟨d+1,l,by omega,by go_num,rfl,z.o,(by first | exact(c.o.alloc _).drew | exact c.o.alloc _ | exact(c.o.alloc _).then ⟨rfl,rfl,rfl,ir _,λ_ _ _=>rfl⟩),m⟩
   case measure=>simp[intOf];omega
  have Z:d=r:=by omega
  subst Z;have i:=Aa (show C3 all mark=l by rw[x.o,iX (by rw[A.o];exact ir _)];rfl);go_wp2;go_ret;exact⟨by rw[X.o,i.o];rfl,c.o⟩
def RB.next(b b':RB)(size:Nat): Prop:=b'.s=b.s/\∀i,b'.aQ i->b.aQ i\/size<=i
theorem aZ.one{w w':World}{e:Nat}{v:Value}{clock aC:Int}{j k:List (RB×aG)}{p:RB×aG}{n:RB}{x':aG}(i:aZ w e v clock aC (j++p::k))(r:aA p.1.aQ w w')(F:bN w' n x')(t:p.1.next n w.heap.size): aZ w' e v clock aC (j++(n,x')::k):=by
 have s:p∈j++p::k:=by simp
 have q:=jb.1 i.apart;have x:=jn.1 q.2.1;have m:∀c,c∈j\/c∈k->c∈j++p::k/\∀d,c.1.aQ d->¬p.1.aQ d:=by
  intro c a;rcases a with a | a
  ·exact⟨by simp[a],λd h u=>q.2.2 c a p (by simp) d h u⟩
  exact⟨by simp[a],λd h u=>x.1 c a d u h⟩
 have z:∀c,c∈j\/c∈k->∀d,n.aQ d->¬c.1.aQ d:=by
  intro c a d h A;obtain⟨C,B⟩:=m c a;rcases t.2 d h with l | l
  ·exact B d A l
  have:=(i.bM c C).lt d A;omega
 have E:w'.ownsRow 0 106 1 v (j++p::k).length (E6 (j++p::k)):=An i.row r (λd h l=>(i.ef p s d l).2 h);have D:E6 (j++(n,x')::k)=E6 (j++p::k):=by
  simp only[E6,iB,iF];rw[t.1]
 refine⟨i.aF.keeps r (λl=>(i.ef p s e l).1 rfl),?_,?_,?_,i.ev,?_⟩
 ·rw[D,show(j++(n,x')::k).length=(j++p::k).length by simp];exact E
 ·intro c a;rcases ik.1 a with a | a
  ·exact(i.bM c (m c (.inl a)).1).keeps r (m c (.inl a)).2
  rcases iA.1 a with a | a
  ·subst a;exact F
  exact(i.bM c (m c (.inr a)).1).keeps r (m c (.inr a)).2
 ·refine jb.2 ⟨q.1,jn.2 ⟨λc a d h=>z c (.inr a) d h,x.2⟩,?_⟩;intro c a H o d h;rcases iA.1 o with o | o
  ·subst o;exact λl=>z c (.inl a) d l h
  exact q.2.2 c a H (by simp[o]) d h
 intro c a d h;rcases ik.1 a with a | a
 ·exact i.ef c (m c (.inl a)).1 d h
 rcases iA.1 a with a | a
 ·subst a;rcases t.2 d h with l | l
  ·exact i.ef p s d l
  have I:=i.lt e (.inl rfl);refine⟨by omega,λG=>?_⟩;have:=i.lt d (.inr (.inl G));omega
 exact i.ef c (m c (.inr a)).1 d h
theorem bH.one{w:World}{e:Nat}{v:Value}{h j:List (RB×aG)}{p:RB×aG}{d:RB}{x':aG}(l:p.1.next d w.heap.size)(i:Nat)(hi:bH e v (h++(d,x')::j) i):
  bH e v (h++p::j) i\/w.heap.size<=i:=by
 rcases hi with hi | hi | ⟨k,a,hi⟩
 ·exact .inl (.inl hi)
 ·exact .inl (.inr (.inl hi))
 rcases ik.1 a with a | a
 ·exact .inl (.inr (.inr ⟨k,by simp[a],hi⟩))
 rcases iA.1 a with a | a
 ·subst a;rcases l.2 i hi with c | c
  ·exact .inl (.inr (.inr ⟨p,by simp,c⟩))
  exact .inr c
 exact .inl (.inr (.inr ⟨k,by simp[a],hi⟩))
theorem Oe{ps:List (RB×aG)}{id:Int}{p:RB×aG}(e:BL ps id=some p): ∃a c,ps=a++p::c/\∀y:aG,Do (ps.map (·.2)) id y=a.map (·.2)++y::c.map (·.2):=by
 obtain⟨l,a,c,h,i⟩:=List.find?_eq_some_iff_append.1 e;refine⟨a,c,h,λy=>?_⟩;subst h;clear e;induction a with
 | nil=>simp[Do,l]
 | cons d n m =>
  have j:(d.2.id==id)=false:=by simpa using i d (by simp)
  simp only[θ,iF,Do,j];rw[m (λb k=>i b (by simp[k]))];rfl
theorem GF(ps:List (RB×aG))(id:Int): EI (ps.map (·.2)) id=(BL ps id).map (·.2):=by
 unfold EI BL;induction ps with
 | nil=>rfl
 | cons a d c =>
  simp only[iF,kP];cases (a.2.id==id) with
  | true=>rfl
  | false=>exact c
def Dm(w:World)(e:Nat)(v:Value)(ps:List (RB×aG))(s':cV)(w':World): Prop :=
 ∃v' ps',aZ w' e v' s'.clock s'.aC ps'/\ps'.map (·.2)=s'.xs/\aA (bH e v ps) w w'/\(∀i,bH e v' ps' i->bH e v ps i\/w.heap.size<=i)
theorem LJ{w w':World}{e:Nat}{v:Value}{clock aC:Int}{ps:List (RB×aG)}(a:aZ w e v clock aC ps)(c:lX w w'): Dm w e v ps ⟨clock,aC,ps.map (·.2)⟩ w' :=
 ⟨v,ps,a.still c,rfl,c.mono (λ_ _ a=>a.elim),λ_ d=>.inl d⟩
theorem Uw(b:RB)(y:aG)(nv:Value)(bC:List bA): (CB b y).set 21 nv=CB ⟨b.s,nv,b.ev⟩ { y with items:=bC }:=rfl
theorem Ou(b:RB)(y:aG)(nv:Value)(a:List dU): (CB b y).set 22 nv=CB ⟨b.s,b.iv,nv⟩ { y with events:=a }:=rfl
theorem zNx{w i:World}{B:Obj}{b:RB}{y:aG}{j:bA}{gg n r:Nat}{nv:Value}(e:bN w b y)(z:y.items.length=n)(A:nv=σ gg (n+1) r)(C:i.ownsRow 0 150 5 nv (n+1) (C4 y.items++j.cells))(u:(w.alloc B).drew.grownBy i b.iv.ownBlock)(l:b.iv.ownBlock=some gg\/gg=w.heap.size+1):
  bN (i.setCell ⟨b.s,21,none⟩ nv) ⟨b.s,nv,b.ev⟩ { y with items:=y.items++[j] }/\aA b.aQ w (i.setCell ⟨b.s,21,none⟩ nv)/\b.next ⟨b.s,nv,b.ev⟩ w.heap.size:=by
 have k:nv.ownBlock=some gg:=by rw[A];rfl
 have o:aA (λc=>b.iv.ownBlock=some c) w i:=(((aA.refl _ w).alloc B).drew).grown u (λF x=>Or.inl x);have q:aA (λc=>c=b.s) i (i.setCell ⟨b.s,21,none⟩ nv):=(aA.refl (λc=>c=b.s) i).setCell (p:=⟨b.s,21,none⟩) (Or.inl rfl) _;have E:=e.aF.lt;have v:gg≠b.s:=by
  rcases l with h | h
  ·intro t;exact e.si (by rw[h,t])
  omega
 refine⟨⟨?_,?_,?_,?_,e.se,?_⟩,?_,rfl,?_⟩
 ·have:=(e.aF.keeps o (λd=>e.si d)).setCell 21 nv;rw[Uw b y nv (y.items++[j])]at this;exact this
 ·have s:=An C q (λc a d=>by rw[k]at a;injection a with a;omega);show World.ownsRow _ 0 150 5 nv (y.items++[j]).length (C4 (y.items++[j]));rw[ic,z];have:C4 (y.items++[j])=C4 y.items++j.cells:=by simp[C4]
  rw[this];exact s
 ·exact An (An e.eR o (λc a d=>e.ie c d a)) q (λc a d=>e.se (by rw[<-d];exact a))
 ·show nv.ownBlock≠some b.s;rw[k];intro d;injection d with d;exact v d
 ·intro c a d;have m:gg=c:=by have:nv.ownBlock=some c:=a;rw[k]at this;injection this
  have D:=(e.eR.lt c d).2;rcases l with h | h
  ·exact e.ie c (by rw[h,m]) d
  omega
 ·exact(o.mono (M':=b.aQ) (λc _ d=>.inr (.inl d))).trans q (λc a _=>.inl a)
 intro c a;rcases a with a | a | a
 ·exact .inl (.inl a)
 ·have m:gg=c:=by have:nv.ownBlock=some c:=a;rw[k]at this;injection this
  rcases l with h | h
  ·exact .inl (.inr (.inl (by rw[h,m])))
  exact .inr (by omega)
 exact .inl (.inr (.inr a))
theorem zN2{w i:World}{B:Obj}{b:RB}{y:aG}{j:dU}{gg n r:Nat}{nv:Value}(e:bN w b y)(z:y.events.length=n)(A:nv=σ gg (n+1) r)(C:i.ownsRow 0 155 4 nv (n+1) (Da y.events++j.cells))(u:(w.alloc B).drew.grownBy i b.ev.ownBlock)(l:b.ev.ownBlock=some gg\/gg=w.heap.size+1):
  bN (i.setCell ⟨b.s,22,none⟩ nv) ⟨b.s,b.iv,nv⟩ { y with events:=y.events++[j] }/\aA b.aQ w (i.setCell ⟨b.s,22,none⟩ nv)/\b.next ⟨b.s,b.iv,nv⟩ w.heap.size:=by
 have k:nv.ownBlock=some gg:=by rw[A];rfl
 have o:aA (λc=>b.ev.ownBlock=some c) w i:=(((aA.refl _ w).alloc B).drew).grown u (λF x=>Or.inl x);have q:aA (λc=>c=b.s) i (i.setCell ⟨b.s,22,none⟩ nv):=(aA.refl (λc=>c=b.s) i).setCell (p:=⟨b.s,22,none⟩) (Or.inl rfl) _;have E:=e.aF.lt;have v:gg≠b.s:=by
  rcases l with h | h
  ·intro t;exact e.se (by rw[h,t])
  omega
 refine⟨⟨?_,?_,?_,e.si,?_,?_⟩,?_,rfl,?_⟩
 ·have:=(e.aF.keeps o (λd=>e.se d)).setCell 22 nv;rw[Ou b y nv (y.events++[j])]at this;exact this
 ·exact An (An e.bC o (λc a d=>e.ie c a d)) q (λc a d=>e.si (by rw[<-d];exact a))
 ·have s:=An C q (λc a d=>by rw[k]at a;injection a with a;omega);show World.ownsRow _ 0 155 4 nv (y.events++[j]).length (Da (y.events++[j]));rw[ic,z];have:Da (y.events++[j])=Da y.events++j.cells:=by simp[Da]
  rw[this];exact s
 ·show nv.ownBlock≠some b.s;rw[k];intro d;injection d with d;exact v d
 ·intro c a d;have m:gg=c:=by have:nv.ownBlock=some c:=d;rw[k]at this;injection this
  have D:=(e.bC.lt c a).2;rcases l with h | h
  ·exact e.ie c a (by rw[h,m])
  omega
 ·exact(o.mono (M':=b.aQ) (λc _ d=>.inr (.inr d))).trans q (λc a _=>.inl a)
 intro c a;rcases a with a | a | a
 ·exact .inl (.inl a)
 ·exact .inl (.inr (.inl a))
 have m:gg=c:=by have:nv.ownBlock=some c:=a;rw[k]at this;injection this
 rcases l with h | h
 ·exact .inl (.inr (.inr (by rw[h,m])))
 exact .inr (by omega)
theorem YT{w:World}{b:RB}{y:aG}{g cap:Nat}(a:bN w b y)(i:b.iv=σ g y.items.length cap)(k:Nat)(q:k<y.items.length)(t:Int):
  bN (w.setCell ⟨g,k*5+4,none⟩ (ι t)) b { y with items:=Bf y.items k t }/\aA b.aQ w (w.setCell ⟨g,k*5+4,none⟩ (ι t)):=by
 have e:b.iv.ownBlock=some g:=by rw[i];rfl
 have h:aA (λd=>d=g) w (w.setCell ⟨g,k*5+4,none⟩ (ι t)):=(aA.refl (λd=>d=g) w).setCell (p:=⟨g,k*5+4,none⟩) (Or.inl rfl) _;have n:g≠b.s:=λm=>a.si (by rw[e,m]);refine⟨⟨a.aF.keeps h (λc=>n c.symm),?_,An a.eR h (λd o c=>a.ie g e (by rw[<-c];exact o)),a.si,a.se,a.ie⟩,h.mono (λd _ c=>.inr (.inl (by rw[e,c])))⟩;have j:=a.bC;rw[i]at j;have l:=Gy j (k*5+4) (ι t);rw[V7 _ _ q]at l;show World.ownsRow _ 0 150 5 b.iv (Bf y.items k t).length (C4 (Bf y.items k t));rw[i,show(Bf y.items k t).length=y.items.length by simp[Bf]];exact l
theorem zNv{w:World}{b:RB}{y:aG}(a:bN w b y)(c:Nat)(u:Int):
  bN (w.setCell ⟨b.s,23+c,none⟩ (ι u)) b { y with ref:=y.ref.set c u }/\aA b.aQ w (w.setCell ⟨b.s,23+c,none⟩ (ι u)):=by
 have j:aA (λd=>d=b.s) w (w.setCell ⟨b.s,23+c,none⟩ (ι u)):=(aA.refl (λd=>d=b.s) w).setCell (p:=⟨b.s,23+c,none⟩) (Or.inl rfl) _;refine⟨⟨?_,An a.bC j (λd i e=>a.si (by rw[<-e];exact i)),An a.eR j (λd i e=>a.se (by rw[<-e];exact i)),a.si,a.se,a.ie⟩,j.mono (λd _ e=>.inl e)⟩;have:=a.aF.setCell (23+c) (ι u);have h:(CB b y).set (23+c) (ι u)=CB b { y with ref:=y.ref.set c u }:=by
  have h:(CB b y).set (23+c) (ι u)=ι y.id::y.c.eC (b.iv::b.ev::(y.ref.map (ι ·)).set c (ι u)):=by
   rw[k6];rfl
  rw[h];unfold CB;simp only;rw[kO]
 rw[h]at this;exact this
end
section
attribute [local go_sem ↓] AH Bs
attribute [local go_sem] AI Bt A3 A4 AJ AL B8 B9 Bd B2
theorem zNe: (prog.info? 150).map (λa=>(a.zero,a.size,a.bytes))=some (some (.agg #[ι 0,ι 0,ι 0,ι 0,ι 0]),5,40):=by kernel_rfl
theorem Oo(y:aG)(clock:Int)(o:aO): 0<=Cp y clock o/\Cp y clock o<=11:=by
 unfold Cp
 repeat (first | omega | split)
theorem zNz(e:Nat)(v:Value)(clock aC:Int)(ps:List (RB×aG))(o:aO)(w:World)(a:aZ w e v clock aC ps)(m:ps.length<=1000)(l:BL ps o.id=none):
  Calls prog 61 #[π e,o.val] w λh n=>h=.returned (.tuple #[ι 0,ι 2])/\Dm w e v ps ⟨clock,aC,ps.map (·.2)⟩ n:=by
 have s:o.cells[1]?=some (ι o.id):=rfl;have i:=Aa a;have c:lX w (w.alloc (.cells o.cells.toArray 48)):=(aA.refl (λ_=>False) w).alloc _;have j:=Aa (a.still c);have k:=Aa c;clear a c;unfold aO.val;go_enter func61,ntmps61;go_wp2_with fail
 generalize w.alloc (.cells o.cells.toArray 48)=q at *
 refine(Gm e v clock aC o.id ps q j.o m).mono ?_;rintro h r ⟨rfl,d⟩;rw[d,l];clear d r;unfold Fy;go_wp2;go_ret2;exact⟨rfl,LJ i.o k.o⟩
theorem YO(n:Int)(e:Nat)(v:Value)(clock aC:Int)(ps:List (RB×aG))(o:aO)(w:World)(c:aZ w e v clock aC ps)(hi:bZ n clock aC (ps.map (·.2)))(ar:n<1152921504606846976)(p:RB×aG)(l:BL ps o.id=some p)(aa:Cp p.2 clock o≠0):
  Calls prog 61 #[π e,o.val] w λs ah=>s=.returned (.tuple #[ι 0,ι (Cp p.2 clock o)])/\Dm w e v ps ⟨clock,aC,Do (ps.map (·.2)) o.id (Hs p.2 (Cp p.2 clock o).toNat)⟩ ah:=by
 have r:p∈ps:=jc l;have A:=Aa r;have C:=hi.bD p.2 (iK r);have k:=Aa C;have X:ps.length<=1000:=by have:=hi.bX;rw[iu]at this;omega
 have ak:o.cells[1]?=some (ι o.id):=rfl;have ai:=Aa c;have m:lX w (w.alloc (.cells o.cells.toArray 48)):=(aA.refl (λ_=>False) w).alloc _;have P:=Aa (show aD (w.alloc (.cells o.cells.toArray 48)) w.heap.size o.cells 48 from aD.new w o.cells 48);have h:=Aa (c.still m);have O:=Aa m;obtain⟨ad,au⟩:=Oo p.2 clock o;have U:=hi.c0;have V:=hi.c1;have x:=Aa l;clear c m C r hi l;unfold aO.val;go_enter func61,ntmps61;go_wp2_with fail
 generalize w.alloc (.cells o.cells.toArray 48)=M at *
 generalize Y:w.heap.size=av at *
 clear Y;refine(Gm e v clock aC o.id ps M h.o X).mono ?_;rintro s d ⟨rfl,G⟩;rw[G,x.o];clear G d;unfold Fy;obtain⟨ag,W⟩:=CM P.o 26 rfl;go_wp2_with fail
 refine(PZ n e clock p.1 p.2 o M (h.o.bM p A.o) k.o (by omega) (h.o.aF.cell rfl) U V).mono ?_;rintro s d ⟨rfl,q⟩;have u:=Aa (h.o.still q);have z:=Aa (O.o.then q);clear q ag W;generalize B:Cp p.2 clock o=aj at *
 have t:=Aa B;clear B;obtain⟨a,rfl⟩:=jl ad;have al:((a:Int) !=0)=true:=by simpa using aa
 have i:=u.o.bM p A.o;have ab:=k.o.refl;have j:a<p.2.ref.length:=by omega
 have ap:κ d p.1.s (23+a) (ι (Ac p.2.ref a)):=by
  refine i.aF.cell ?_;have:(CB p.1 p.2)[23+a]?=(p.2.ref.map (Value.int .i64 ·))[a]?:=by rw[k6];rfl
  rw[this,iS,h9 j];unfold Ac;rw[γ,h9 j];rfl
 have aq:=i.aF.frozen;have T:=k.o.cN (Ac p.2.ref a) (by unfold Ac;rw[γ,h9 j];exact jk _);obtain⟨am,an⟩:=T;have N:=Aa (zNv i a (Ac p.2.ref a+1));have ao:(a:Int)<15:=by omega
 clear i ab j;generalize F:Ac p.2.ref a=L at *
 have Q:=Aa F;clear F;go_wp2_with fail
 go_region
 go_wp2;go_ret2;obtain⟨R,D⟩:=N.o;refine⟨by rw[t.o];rfl,?_⟩;rw[t.o,iM];obtain⟨I,J,Z,af⟩:=Oe x.o;subst Z;have E:p.1.next p.1 d.heap.size:=⟨rfl,λ_ hi=>.inl hi⟩;have ae:bN (d.setCell ⟨p.1.s,23+a,none⟩ (ι (L+1))).drew p.1 (Hs p.2 a):=by
  have:=R.still ((aA.refl (λ_=>False) (d.setCell ⟨p.1.s,23+a,none⟩ (ι (L+1)))).drew);unfold Hs;rw[Q.o];exact this
 have S:=u.o.one D.drew ae E;refine⟨v,I++(p.1,Hs p.2 a)::J,S,?_,?_,?_⟩
 ·simp only[af];simp
 ·refine(z.o.mono (M':=bH e v (I++p::J)) (λ_ _ c=>c.elim)).trans D.drew (λH hi _=>.inr (.inr ⟨p,by simp,hi⟩))
 intro H hi;rcases bH.one (w:=d) E H hi with c | c
 ·exact .inl c
 exact .inr (by have:=z.o.size;omega)
def QZ(w:World)(c:Int×List Int)(r:Ending)(w':World): Prop:=∃nv,r=.returned (Aw c.1 nv)/\w'.ownsRow w.heap.size 3 1 nv c.2.length (ints c.2)/\lX w w'
theorem Xb(e:Nat)(v:Value)(clock aC:Int)(ps:List (RB×aG))(o:aO)(w:World)(a:aZ w e v clock aC ps)(C:ps.length<=1000)(A:BL ps o.id=none):
  Calls prog 31 #[π e,o.val] w λi D=>QZ w (2,[]) i D:=by
 have G:o.cells[1]?=some (ι o.id):=rfl;have r:=Aa a;clear a;unfold aO.val;go_enter func31,ntmps31;go_wp2_with fail
 obtain⟨n,l,j,F,z⟩:=CC w o.cells;have s:=Aa (r.o.still j.o);rw[<-l];clear l;generalize d:w.heap.size=L at *
 have x:=Aa d;clear d;refine(Gm e v clock aC o.id ps n s.o C).mono ?_;rintro i q ⟨rfl,m⟩;rw[m,A];clear m q;unfold Fy;go_wp2_with fail
 refine(JE 2 n).mono ?_;rintro i q ⟨rfl,c⟩;unfold Aw;have k:=Aa (z.o.keeps c id);have t:=Aa (j.o.then c);clear c;obtain⟨M,N,O,P⟩:=k.o.three;go_wp2;refine Dj k.o (λE h=>by simp[results,results31,go_sem,h.c0,h.c1,h.c2,Aw]) rfl (λE B=>?_);have u:=Aa B;have d:=x.o;exact⟨_,rfl,iy _ _ _ _,t.o.trans u.o (λJ H I=>by omega)⟩
theorem VU(b:RB)(y:aG)(c:Nat)(a:c<y.ref.length): (CB b y)[23+c]?=some (ι (Ac y.ref c)):=by
 have:(CB b y)[23+c]?=(y.ref.map (Value.int .i64 ·))[c]?:=by rw[k6];rfl
 rw[this,iS,h9 a];unfold Ac;rw[γ,h9 a];rfl
theorem Ww(n:Int)(e:Nat)(v:Value)(clock aC:Int)(ps:List (RB×aG))(o:aO)(w:World)(h:aZ w e v clock aC ps)(hi:bZ n clock aC (ps.map (·.2)))(cg:n<1099511627776)(p:RB×aG)(J:BL ps o.id=some p):
  Calls prog 31 #[π e,o.val] w λO b8=>QZ w (0,(p.2.items.length:Int)::((p.2.items.length:Int)-(Aq p.2.items).length)::AE.map (Ac p.2.ref)) O b8:=by
 have M:p∈ps:=jc J;have bd:=Aa M;have L:=hi.bD p.2 (iK M);have cd:=L.items;have bu:=L.refl;have bt:ps.length<=1000:=by have:=hi.bX;rw[iu]at this;omega
 have ca:o.cells[1]?=some (ι o.id):=rfl;have a7:=Aa h;have a8:=Aa J;have ck:=EC p.2.items;clear h L M hi J;unfold aO.val;go_enter func31,ntmps31;go_wp2_with fail
 obtain⟨s,a3,Q,b9,bh⟩:=CC w o.cells;have P:=Aa (a7.o.still Q.o);rw[<-a3];clear a3;generalize H:w.heap.size=a at *
 have bf:=Aa H;clear H;refine(Gm e v clock aC o.id ps s P.o bt).mono ?_;rintro O c ⟨rfl,a4⟩;rw[a4,a8.o];clear a4 c;unfold Fy;have U:=Aa (P.o.bM p bd.o);have i:∀k,k<15->κ s p.1.s (23+k) (ι (Ac p.2.ref k)):=λk cb=>U.o.aF.cell (VU p.1 p.2 k (by omega));have W:=i 0 (by omega);have X:=i 1 (by omega);have ae:=i 2 (by omega);have af:=i 3 (by omega);have ag:=i 4 (by omega);have ah:=i 5 (by omega);have ai:=i 6 (by omega);have aj:=i 7 (by omega);have ak:=i 8 (by omega);have al:=i 9 (by omega);have Y:=i 10 (by omega);have Z:=i 11 (by omega);have aa:=i 12 (by omega);have ab:=i 13 (by omega);have ad:=i 14 (by omega);clear i bu;simp only[Nat.reduceAdd]at W X ae af ag ah ai aj ak al Y Z aa ab ad;go_wp2_with fail
 have G:lX s (s.alloc (.cells ((List.range 15).map λk=>Value.int .i64 (Ac p.2.ref k)).toArray 111)):=(aA.refl (λ_=>False) s).alloc _;have l:=Aa (aD.new s ((List.range 15).map λk=>Value.int .i64 (Ac p.2.ref k)) 111);have D:=Aa (bh.o.keeps G id);have C:=Aa (U.o.still G);have R:=Aa (Q.o.then G);have V:((List.range 15).map λk=>Value.int .i64 (Ac p.2.ref k)).toArray=#[ι (Ac p.2.ref 0),ι (Ac p.2.ref 1),ι (Ac p.2.ref 2),ι (Ac p.2.ref 3),ι (Ac p.2.ref 4),ι (Ac p.2.ref 5),ι (Ac p.2.ref 6),ι (Ac p.2.ref 7),ι (Ac p.2.ref 8),ι (Ac p.2.ref 9),ι (Ac p.2.ref 10),ι (Ac p.2.ref 11),ι (Ac p.2.ref 12),ι (Ac p.2.ref 13),ι (Ac p.2.ref 14)]:=rfl;rw[V]at l D C R;clear V G W X ae af ag ah ai aj ak al Y Z aa ab ad;generalize s.alloc (.cells #[ι (Ac p.2.ref 0),ι (Ac p.2.ref 1),ι (Ac p.2.ref 2),ι (Ac p.2.ref 3),ι (Ac p.2.ref 4),ι (Ac p.2.ref 5),ι (Ac p.2.ref 6),ι (Ac p.2.ref 7),ι (Ac p.2.ref 8),ι (Ac p.2.ref 9),ι (Ac p.2.ref 10),ι (Ac p.2.ref 11),ι (Ac p.2.ref 12),ι (Ac p.2.ref 13),ι (Ac p.2.ref 14)] 111)=c at *
 generalize bq:s.heap.size=E at *
 refine(L3 p.1 p.2 c C.o (by omega)).mono ?_;rintro O q ⟨rfl,a5⟩;rw[a5];clear a5 q;have ao:=l.o.c5;have ap:=l.o.c6;have aq:=l.o.c7;have ar:=l.o.c8;have au:=l.o.c9;have am:κ c E 10 (ι (Ac p.2.ref 10)):=l.o.cell rfl;have an:κ c E 11 (ι (Ac p.2.ref 11)):=l.o.cell rfl;obtain⟨b2,b3,a0,-,-,-⟩:=DZ C.o.bC;have b7:κ c p.1.s 21 (.slice b2 p.2.items.length b3):=by rw[<-a0];exact C.o.aF.cell rfl
 have ch:a+1<c.heap.size:=D.o.lt;have bv:a<=c.heap.size:=by omega
 clear a0;obtain⟨b1,br,bx,bz,b0⟩:=jg Ey;generalize av:p.2.items.length=d at *
 generalize ax:(Aq p.2.items).length=m at *
 have bb:=Aa av;have bl:=Aa ax;clear av ax bq;have cl:IntKind.i64.wrap ((d:Int)-(m:Int))=(d:Int)-(m:Int):=GY (by omega) (by omega);go_wp2_with fail
 go_region
 have be:=Aa (show(c.alloc (.cells #[ι (d:Int),ι ((d:Int)-(m:Int))] 3)).drew.ownsRow a 3 1 (σ c.heap.size 2 2) 2 [ι (d:Int),ι ((d:Int)-(m:Int))] from
    ⟨rfl,.inr ⟨c.heap.size,2,#[ι (d:Int),ι ((d:Int)-(m:Int))],rfl,bv,(aD.new c [ι (d:Int),ι ((d:Int)-(m:Int))] 3).drew,by omega,by unfold maxLen;omega,rfl,rfl⟩⟩)
 have F:lX c (c.alloc (.cells #[ι (d:Int),ι ((d:Int)-(m:Int))] 3)).drew:=((aA.refl (λ_=>False) c).alloc _).drew;have a2:(c.alloc (.cells #[ι (d:Int),ι ((d:Int)-(m:Int))] 3)).drew.heap.size=c.heap.size+1:=by simp
 have bi:=Aa (D.o.keeps F id);have x:=Aa (l.o.keeps F id);have ba:=Aa (R.o.then F);clear F ao ap aq ar au am an b7 D l;generalize(c.alloc (.cells #[ι (d:Int),ι ((d:Int)-(m:Int))] 3)).drew=q at *
 have ao:=x.o.c5;have ap:=x.o.c6;have aq:=x.o.c7;have ar:=x.o.c8;have au:=x.o.c9;have am:κ q E 10 (ι (Ac p.2.ref 10)):=x.o.cell rfl;have an:κ q E 11 (ι (Ac p.2.ref 11)):=x.o.cell rfl;generalize N:c.heap.size=B at *
 have bj:=Aa N;clear N;generalize aw:(d:Int)-(m:Int)=bm at *
 have bc:=Aa aw;clear aw;have a6:=Aa (iH q);have bk:=Aa a2;have cj:a+1<q.heap.size:=by omega
 clear a2;go_wp2_with (at_builtin;refine jf _ rfl _ _ _ rfl a 3 b1 _ 1 8 underlying37 br bx bz b0 rfl (by omega) (σ B 2 2) 2 [ι (d:Int),ι bm] rfl (be.o.alloc _) ⟨q.heap.size,0,none⟩ 7 7 [ι (Ac p.2.ref 5),ι (Ac p.2.ref 6),ι (Ac p.2.ref 7),ι (Ac p.2.ref 8),ι (Ac p.2.ref 10),ι (Ac p.2.ref 9),ι (Ac p.2.ref 11)] rfl rfl (iJ (cs:=#[ι (Ac p.2.ref 5),ι (Ac p.2.ref 6),ι (Ac p.2.ref 7),ι (Ac p.2.ref 8),ι (Ac p.2.ref 10),ι (Ac p.2.ref 9),ι (Ac p.2.ref 11)]) (t:=3) (fr:=(0,0)) (a6.o _)) (by simp[Value.oneCell']) (by omega) (by unfold maxLen;omega) (by omega) (by simp;omega) (q.heap.size+1) (by simp) ?_;intro r z u a1 az ay cf;have bg:=Aa a1;have S:=Aa ((((aA.refl (λj=>j=B) q).alloc _).grown az (λcm bs=>.inl (by simpa[Value.ownBlock] using bs.symm))));have a9:=Aa (show r=B\/r=q.heap.size+1 by rcases ay with h | h;left;simpa[Value.ownBlock] using h.symm;right;exact h);have A:=Aa (bi.o.keeps S.o (λh=>by omega));clear a1 az ay;have cn:κ u (a+1) 0 (ι 0):=A.o.cell rfl;have co:κ u (a+1) 1 (.slice none 0 0):=A.o.cell rfl;have cp:κ u (a+1) 2 (.string Ai):=A.o.cell rfl;have cq:=A.o.frozen)
 have I:=((A.o.setCell 0 (ι 0)).setCell 1 (σ r (2+7) z)).setCell 2 (.string Ai);have T:=Aa ((((aA.refl (λj=>j=a+1) u).setCell (p:=⟨a+1,0,none⟩) (Or.inl rfl) (ι 0)).setCell (p:=⟨a+1,1,none⟩) (Or.inl rfl) (σ r (2+7) z)).setCell (p:=⟨a+1,2,none⟩) (Or.inl rfl) (.string Ai));have bn:(((u.setCell ⟨a+1,0,none⟩ (ι 0)).setCell ⟨a+1,1,none⟩ (σ r 9 z)).setCell ⟨a+1,2,none⟩ (.string ⟨#[]⟩))=(((u.setCell ⟨a+1,0,none⟩ (ι 0)).setCell ⟨a+1,1,none⟩ (σ r (2+7) z)).setCell ⟨a+1,2,none⟩ (.string Ai)):=rfl;first | rw[bn] | skip
 generalize(((u.setCell ⟨a+1,0,none⟩ (ι 0)).setCell ⟨a+1,1,none⟩ (σ r (2+7) z)).setCell ⟨a+1,2,none⟩ (.string Ai))=cr at *
 have b4:=I.c0;have b5:=I.c1;have b6:=I.c2;refine iV (v:=Aw 0 (σ r 9 z)) (by simp[results,results31,go_sem,b4,b5,b6,Aw]) rfl ?_;have H:=bf.o;have ci:=bk.o;have N:=bj.o;have cc:=a9.o;refine⟨_,rfl,?_,?_⟩
 ·have bp:=An bg.o T.o (λj hi h=>by
     have:r=j:=by simpa[Value.ownBlock] using hi
     omega)
  rw[bb.o,bl.o,bc.o,H];exact bp
 have bo:aA (λj=>j=B) w u:=(ba.o.mono (M':=λj=>j=B) (λ_ _ h=>h.elim)).then S.o;refine(bo.trans (M':=λj=>j=a+1) T.o (λj hi ce=>by omega)).mono (λj hi h=>by omega)
theorem V0(c:Cfg)(l:List bA)(k:Nat)(hi lo:Int)(a:k<l.length): Dc c (l.drop k) hi lo=(if 0<(Aj l k).tick then Dc c (l.drop (k+1)) (hi+As (Am c (Aj l k).t)/2305843009213693952+(lo+As (Am c (Aj l k).t)%2305843009213693952)/2305843009213693952) ((lo+As (Am c (Aj l k).t)%2305843009213693952)%2305843009213693952) else Dc c (l.drop (k+1)) hi lo):=by
 rw[δ a,Dc,Cv _ _ a]
theorem T8(b:RB)(y:aG)(mark:Int)(w:World)(c:bN w b y)(L:y.c.bI)(an:y.items.length<=1099511627776)(P:∀j,j∈y.items->0<=j.t/\j.t<=4611686018427387904)(af:-100<=mark)(ag:mark<=4611686018427387904):
  Calls prog 57 #[π b.s,ι mark] w λD l=>∃g,D=.returned (σ g 3 3)/\w.heap.size<=g/\aD l g [ι (Dc y.c y.items 0 0).1,ι (Dc y.c y.items 0 0).2,ι (As (Am y.c mark))] 3/\lX w l:=by
 obtain⟨aa,I,R,-,J,M⟩:=DZ c.bC;have X:=Aa c;have F:=Aa M;have V:=Aa J;have Y:=Aa P;have G:=Aa L;have Z:=Aa R;clear c M J P L R;generalize O:y.items.length=k at *
 have H:=Aa O;clear O;go_enter func57,ntmps57;go_wp2_with fail
 go_loopw [5,6,7] (λc ae t wr=>∃(a:Nat) (e d:Int),a<=k/\c=ι e/\ae=ι d/\t=ι a/\0<=e/\e<=2*a/\0<=d/\d<2305843009213693952/\Hid (lX w wr)/\Hid (Dc y.c y.items 0 0=Dc y.c (y.items.drop a) e d)) (λ_ _ t _=>k-(intOf t).toNat)
 case atStart=>exact⟨0,0,0,by omega,rfl,rfl,rfl,by omega,by omega,by omega,by omega,aA.refl _ _,rfl⟩
 case round =>
  obtain⟨a,e,d,al,rfl,rfl,rfl,aj,ak,au,av,m,n⟩:=hrel;have s:=Aa (X.o.still m.o);have T:κ wr b.s 21 (.slice aa k I):=by
   have:=s.o.aF.cell (i:=21) (v:=b.iv) rfl;rw[Z.o]at this;exact this
  by_cases ab:a<k
  ·have o:a<y.items.length:=by rw[H.o];exact ab
   obtain⟨g,C⟩:=V.o (by omega);have U:=m.o.cell ((F.o g C).1 (a*5+0) _ (by rw[C8 _ _ _ o (by omega)];rfl)) id;have ai:=m.o.cell ((F.o g C).1 (a*5+4) _ (by rw[C8 _ _ _ o (by omega)];rfl)) id;rw[j0]at U;subst C;have ad:=Y.o (Aj y.items a) (by rw[Cv _ _ o];exact jk _);obtain⟨aw,ah⟩:=ad;have q:=Aa (V0 y.c y.items a e d o);have S:=Gn y.c (Aj y.items a).t;generalize Aj y.items a=j at *
   have am:(0:Int)<=(a:Int):=by omega
   have N:(a:Int)<(k:Int):=by omega
   clear o;by_cases Q:0<j.tick
   ·have x:=Aa (by have:=q.o;rw[ij Q]at this;exact n.o.trans this);obtain⟨z,A⟩:=Ie s.o.aF;have B:b.s<wr.heap.size:=s.o.aF.lt;clear q n;go_wp2_with fail
    go_region_held3 (λl=>Ap l b.s 1 20=.agg y.c.cells.toArray/\Az l b.s 1 20=true/\l.cell? ⟨b.s,21,none⟩=some (σ g k I)/\l.cell? ⟨g,a*5,none⟩=some (ι j.t))
     (first | (simp[*,A3,A4];done) | (go_split_ands;exact⟨(Cf h id (by exact B)).1.trans (by assumption),(Cf h id (by exact B)).2.trans (by assumption),h.cell (by assumption) id,h.cell (by assumption) id⟩))
     (first | (go_at_call 85;refine(Ia y.c j.t _ G.o (by omega) ah).mono ?_;rintro D E ⟨rfl,h⟩))
    have r:=Aa (m.o.then (((aA.refl (λ_=>False) wr).drew).then h));clear h z A T U ai B;obtain⟨ax,ay⟩:=S;generalize As (Am y.c j.t)=u at *
    have ao:0<=u/2305843009213693952:=by omega
    have ap:u/2305843009213693952<=1:=by omega
    have aq:0<=(d+u%2305843009213693952)/2305843009213693952:=by omega
    have ar:(d+u%2305843009213693952)/2305843009213693952<=1:=by omega
    go_wp2;go_roundw;case rel=>exact⟨a+1,_,_,by omega,rfl,rfl,by go_num,by omega,by omega,by omega,by omega,r,x.o⟩
    case measure=>simp[intOf];omega
   have x:=Aa (by have:=q.o;rw[ig Q]at this;exact n.o.trans this);clear q n S;go_wp2;go_roundw;case rel=>exact⟨a+1,e,d,by omega,rfl,rfl,by go_num,by omega,by omega,by omega,by omega,m,x.o⟩
   case measure=>simp[intOf];omega
  have N:a=k:=by omega
  subst N;have W:=Aa (show Dc y.c y.items 0 0=(e,d) by rw[n.o,iX (by rw[H.o];exact ir _)];rfl);obtain⟨z,A⟩:=Ie s.o.aF;go_wp2_with fail
  refine(Ia y.c mark wr G.o af ag).mono ?_;rintro D E ⟨rfl,h⟩;have r:=Aa (m.o.then h);clear h z A T;go_wp2;go_ret;rw[W.o];exact⟨E.heap.size,rfl,r.o.size,aD.new E [ι e,ι d,ι (As (Am y.c mark))] 3,r.o.alloc _⟩
end
section
structure PB (q:List Bk):Prop where
 sorted:∀i j,i<=j->j<q.length->(Ad q j).sz<=(Ad q i).sz
 pow:∀i,i<q.length->∃k:Nat,(Ad q i).sz=(2:Int) ^ k
structure PI (q:List Bk) (sz:Int) (e:Nat):Prop where
 pb:PB q
 he:e<=q.length
 hi:∀i,i<e->sz<=(Ad q i).sz
 lo:∀i,e<=i->i<q.length->(Ad q i).sz<sz
 hZ:∃k:Nat,sz=(2:Int) ^ k
theorem Gt(k:Nat): (1:Int)<=2 ^ k:=by
 induction k with
 | zero=>decide
 | succ k a=>rw[Int.pow_succ];omega
theorem zM9{a b:Nat}(l:(2:Int) ^ a<2 ^ b): 2*(2:Int) ^ a<=2 ^ b:=by
 have k:a<b:=by
  rcases kC a b with d | d
  ·exact d
  exfalso;obtain⟨c,rfl⟩:=Nat.exists_eq_add_of_le d;have h:(2:Int) ^ (b+c)=2 ^ b*2 ^ c:=Int.pow_add 2 b c;have e:=Gt c;have i:=Gt b;have j:(2:Int) ^ b*1<=2 ^ b*2 ^ c:=jt e (by omega);omega
 obtain⟨c,rfl⟩:=Nat.exists_eq_add_of_le k;have h:(2:Int) ^ (a+1+c)=2 ^ a*2*2 ^ c:=by rw[Int.pow_add,Int.pow_succ]
 have e:=Gt c;have i:=Gt a;have j:(2:Int) ^ a*2*1<=2 ^ a*2*2 ^ c:=jt e (by omega);rw[h];omega
theorem GD(a b:List Bk)(i:Nat)(c:i<a.length): Ad (a++b) i=Ad a i:=by
 unfold Ad;rw[γ,γ,iN c]
theorem Hz(a b:List Bk)(i:Nat)(c:a.length<=i): Ad (a++b) i=Ad b (i-a.length):=by
 unfold Ad;rw[γ,γ,iO c]
theorem Xu(l:List Bk)(n i:Nat)(a:i<n): Ad (l.take n) i=Ad l i:=by
 unfold Ad;rw[γ,γ,iW,ij a]
theorem If(l:List Bk)(n i:Nat): Ad (l.drop n) i=Ad l (n+i):=by
 unfold Ad;rw[γ,γ,j5]
theorem Po(l:List Bk)(s:Nat)(x:Bk)(e:s+2<=l.length)(i:Nat): Ad (BJ l s x) i=if i<s then Ad l i else if i=s then x else Ad l (i+1):=by
 have d:(l.take s).length=s:=by simp;omega
 unfold BJ;by_cases a:i<s
 ·rw[ij a,ε,GD _ _ _ (by omega),Xu _ _ _ a]
 rw[ig a];by_cases c:i=s
 ·rw[ij c,ε,Hz _ _ _ (by omega),d,c,j9];rfl
 rw[ig c,Hz _ _ _ (by simp;omega),If];congr 1;simp;omega
theorem PB.drop{c:List Bk}(a:PB c)(n:Nat): PB (c.drop n):=by
 refine⟨λh j i e=>?_,λh d=>?_⟩
 ·rw[If,If];exact a.sorted _ _ (by omega) (by rw[iU]at e;omega)
 rw[If];exact a.pow _ (by rw[iU]at d;omega)
theorem PI.start{c:List Bk}(l:PB c)(t:Int): PI (c++[⟨1,t⟩]) 1 (c++[(⟨1,t⟩:Bk)]).length:=by
 have k:∀a,a<(c++[(⟨1,t⟩:Bk)]).length->∃e:Nat,(Ad (c++[⟨1,t⟩]) a).sz=(2:Int) ^ e:=by
  intro a i;by_cases d:a<c.length
  ·rw[GD _ _ _ d];exact l.pow a d
  rw[Hz _ _ _ (by omega)];have:a-c.length=0:=by simp at i;omega
  rw[this];exact⟨0,rfl⟩
 refine⟨⟨λa h m n=>?_,k⟩,ir _,λa i=>?_,λa d o=>by omega,0,rfl⟩
 ·by_cases d:h<c.length
  ·rw[GD _ _ _ d,GD _ _ _ (by omega)];exact l.sorted a h m d
  have:h-c.length=0:=by simp at n;omega
  rw[Hz _ _ h (by omega),this];show(1:Int)<=_;obtain⟨e,j⟩:=k a (by omega);rw[j];exact Gt e
 obtain⟨e,j⟩:=k a i;rw[j];exact Gt e
theorem NS{a:List Bk}{c:Int}{e:Nat}(d:PI a c e)(i:Nat)(hi:i<AC a c e): c<(Ad a i).sz:=by
 have o:=J2 a c e;have j:=d.hi i (by omega);have q:(Ad a (AC a c e-1)).sz≠c:=by
  generalize h:AC a c e=r at *
  clear j d;induction e with
  | zero=>simp[AC]at h;omega
  | succ e l =>
   unfold AC at h;split at h
   ·exact l h (by have:=J2 a c e;omega)
   rename_i k;rw[<-h];exact k
 have m:=d.hi (AC a c e-1) (by omega);have n:=d.pb.sorted i (AC a c e-1) (by omega) (by have:=d.he;omega);omega
theorem PI.step{j:List Bk}{h:Int}{e:Nat}(k:PI j h e)(F:AC j h e+2<=e)(t:Int): PI (BJ j (AC j h e) ⟨2*h,t⟩) (2*h) (AC j h e+1):=by
 have B:=NS k;have D:=Iq j h e;obtain⟨u,s⟩:=k.hZ;have J:=Gt u;generalize AC j h e=d at *
 have hlen:=Fo (⟨2*h,t⟩:Bk) (l:=j) (i:=d) (by have:=k.he;omega);have G:=k.he;have m:=Po j d ⟨2*h,t⟩ (by omega);have q:∀a,a<d->2*h<=(Ad j a).sz:=by
  intro a r;obtain⟨L,E⟩:=k.pb.pow a (by omega);have:=B a r;rw[E,s]at this ⊢;exact zM9 this
 have x:∀a,d<=a->a<j.length->(Ad j a).sz<=h:=by
  intro a v w;have:=k.pb.sorted d a v w;rw[D d (ir _) (by omega)]at this;exact this
 refine⟨⟨λa o C H=>?_,λa r=>?_⟩,by omega,λa r=>?_,λa v w=>?_,u+1,by rw[Int.pow_succ,<-s];omega⟩
 ·rw[m,m];by_cases z:o<d
  ·rw[ij z,ij (by omega)];exact k.pb.sorted a o C (by omega)
  rw[ig z];by_cases A:o=d
  ·rw[ij A];by_cases c:a<d
   ·rw[ij c];exact q a c
   rw[ig c,ij (by omega)];exact iL _
  rw[ig A];have I:=x (o+1) (by omega) (by omega);by_cases c:a<d
  ·rw[ij c];have:=q a c;omega
  rw[ig c];by_cases n:a=d
  ·rw[ij n];show _<=2*h;omega
  rw[ig n];exact k.pb.sorted (a+1) (o+1) (by omega) (by omega)
 ·rw[m];by_cases c:a<d
  ·rw[ij c];exact k.pb.pow a (by omega)
  rw[ig c];by_cases n:a=d
  ·rw[ij n];exact⟨u+1,by show 2*h=_;rw[Int.pow_succ,<-s];omega⟩
  rw[ig n];exact k.pb.pow (a+1) (by omega)
 ·rw[m];by_cases c:a<d
  ·rw[ij c];exact q a c
  rw[ig c,ij (by omega)];exact iL _
 rw[m,ig (by omega),ig (by omega)];have:=x (a+1) (by omega) (by omega);omega
theorem Zn{K:Int}(i:0<=K)(f:Nat)(c:List Bk)(d:Int)(e:Nat)(a:PI c d e): PB (joinL K f c d e):=by
 induction f generalizing c d e with
 | zero=>exact a.pb
 | succ f h =>
  unfold joinL;split
  ·exact a.pb
  exact h _ _ _ (a.step (by omega) _)
theorem zMo{c:Cfg}(e:0<=c.k){a:List Bk}(d:PB a)(t m:Int): PB (C7 c a t m):=by
 unfold C7 C5 EG;exact Zn e _ _ _ _ (PI.start (d.drop _) t)
def FE(l:List Bk)(sz:Int): Nat->Nat
 | 0=>0
 | i+1=>FE l sz i+(if (Ad l i).sz=sz then 1 else 0)
def FF(l:List Bk)(sz:Int): Nat->Nat
 | 0=>0
 | i+1=>if (Ad l i).sz=sz then i+1 else FF l sz i
theorem GH(a:List Bk)(i:Nat)(c:i<a.length): Ad a.reverse i=Ad a (a.length-1-i):=by
 unfold Ad;rw[γ,γ,List.getElem?_reverse c]
theorem zOd{a:List Bk}{d:Int}{e:Nat}(j:PI a d e): ∀c,c<=a.length ->
  FE a.reverse d c=min c (a.length-AC a d e)-min c (a.length-e)/\FF a.reverse d c=(if a.length-e<c/\AC a d e<e then min c (a.length-AC a d e) else 0):=by
 have n:=NS j;have q:=Iq a d e;have z:=J2 a d e;have w:=j.he;have r:=j.lo;generalize AC a d e=k at *
 intro c;induction c with
 | zero=>intro _;simp[FE,FF]
 | succ c u =>
  intro x;obtain⟨s,t⟩:=u (by omega);have m:=GH a c (by omega);have l:((Ad a.reverse c).sz=d)↔(a.length-e<=c/\c<a.length-k):=by
   rw[m];constructor
   ·intro A;constructor
    ·rcases kC c (a.length-e) with h | h
     ·have:=r (a.length-1-c) (by omega) (by omega);omega
     exact h
    rcases kC c (a.length-k) with h | h
    ·exact h
    have:=n (a.length-1-c) (by omega);omega
   rintro ⟨h,v⟩;exact q _ (by omega) (by omega)
  unfold FE FF;rw[s,t];by_cases i:(Ad a.reverse c).sz=d
  ·have o:=l.1 i;rw[ij i,ij i,ij (by omega)];omega
  have o:¬(a.length-e<=c/\c<a.length-k):=λj=>i (l.2 j);rw[ig i,ig i];refine⟨by omega,?_⟩;by_cases h:a.length-e<c/\k<e
  ·rw[ij h,ij (by omega)];omega
  rw[ig h,ig (by omega)]
theorem T9(a:List Bk)(s:Nat)(x:Bk)(c:s+2<=a.length): a.reverse.take (a.length-s-2)++[x]++a.reverse.drop (a.length-s)=(BJ a s x).reverse:=by
 unfold BJ;rw[List.reverse_append,List.reverse_append,List.take_reverse,List.drop_reverse];rw[show a.length-(a.length-s-2)=s+2 by omega,show a.length-(a.length-s)=s by omega];simp
theorem Tl(a:List Bk)(n:Nat)(c:n<a.length): Ad a.reverse (a.length-1-n)=Ad a n:=by
 rw[GH _ _ (by omega)];congr 1;omega
theorem V9(a:List Bk)(t:Int)(n:Nat)(c:pastN a t=n+pastN (a.drop n) t)(e:n<a.length): (if (Ad a n).t<=t then pastN a t=(n+1)+pastN (a.drop (n+1)) t else pastN a t=n):=by
 rw[Gj a n e]at c;unfold pastN at c ⊢;rw[jE]at c;split
 ·rename_i d;rw[ij (by simpa using d)]at c;simp only[iD]at c;omega
 rename_i d;rw[ig (by simpa using d)]at c;simpa using c
abbrev OB(w:World)(base:Nat)(v:Value)(l:List Bk): Prop:=w.ownsRow base 146 2 v l.length (A2 l)
def BW(w:World)(v:Value)(l:List Bk): Prop:=((∃a c,v=.slice a 0 c)/\l=[])\/∃g off cap,v=.slice (some ⟨g,off,none⟩) l.length cap/\l.length<=cap/\cap<=maxLen/\(∀j u,(A2 l)[j]?=some u->w.cell? ⟨g,off+j,none⟩=some u)/\g<w.heap.size
theorem BW.keeps{w w':World}{v:Value}{l:List Bk}(a:BW w v l)(c:lX w w'): BW w' v l:=by
 rcases a with a | ⟨g,n,d,e,h,j,i,q⟩
 ·exact .inl a
 exact .inr ⟨g,n,d,e,h,j,λm o k=>c.cell (i m o k) id,by have:=c.size;omega⟩
theorem OB.bw{w:World}{base:Nat}{v:Value}{l:List Bk}(k:OB w base v l): BW w v l:=by
 rcases k.2 with ⟨a,d⟩ | ⟨g,i,j,a,d,e,m,n,s,o⟩
 ·exact .inl ⟨⟨_,_,a⟩,iR.1 d⟩
 refine .inr ⟨g,0,i,a,m,n,λh r c=>?_,(js.1 e).1⟩;have q:h<l.length*2:=by have:=(iq.1 c).1;rwa [F1]at this
 have:j[h]?=some r:=by
  rw[<-o,iW,ij q]at c;simpa using c
 rw[ja];simp[World.cell?,e,this]
theorem K7{w:World}{g off n cap:Nat}{l:List Bk}(h:l.length=n)(j:BW w (.slice (some ⟨g,off,none⟩) n cap) l)(i:Nat)(hi:i<n):
  w.cell? ⟨g,off+i*2,none⟩=some (ι (Ad l i).sz)/\w.cell? ⟨g,off+i*2+1,none⟩=some (ι (Ad l i).t):=by
 rcases j with ⟨⟨c,m,a⟩,d⟩ | ⟨q,s,o,a,d,_,e,r⟩
 ·rw[d]at h;simp at h;omega
 injection a with a _ _;injection a with a;injection a with a k;subst a k;obtain⟨c,b⟩:=M9 l i (by omega);exact⟨e _ _ c,by have:=e _ _ b;rwa [<-Nat.add_assoc]at this⟩
theorem Re{w:World}{v:Value}{l:List Bk}(e:BW w v l): ∃a c,v=.slice a l.length c:=by
 rcases e with ⟨⟨a,d,rfl⟩,rfl⟩ | ⟨g,h,c,rfl,_⟩
 ·exact⟨a,d,rfl⟩
 exact⟨_,_,rfl⟩
theorem JD{w:World}{a:Option Addr}{n cap:Nat}{l:List Bk}(e:BW w (.slice a n cap) l)(u:0<n): ∃g d,a=some ⟨g,d,none⟩/\l.length=n/\n<=cap/\cap<=maxLen/\g<w.heap.size:=by
 rcases e with ⟨⟨m,o,c⟩,h⟩ | ⟨g,d,q,c,h,t,_,i⟩
 ·injection c with _ r _;omega
 injection c with j k s;exact⟨g,d,j,k.symm,by omega,by omega,i⟩
theorem zO4: (prog.info? 146).map (λa=>(a.zero,a.size,a.bytes))=some (some (.agg #[ι 0,ι 0]),2,16):=by kernel_rfl
theorem RU{w:World}{I:Array Oper}{rest:List Oper}{o:Oper}{a:Act}{v:Exit->Act->World->Prop}(C:o.guard=none)(s x:Operand)(E:o.op=.call { callee:=.builtin .append,args:=#[s,x],argTypes:=#[143,143] })(base:Nat)(k:Value)(d:List Bk)(F:a.eval s=k)(n:OB w base k d)(u:Value)(c:List Bk)(G:a.eval x=u)(B:BW w u c)(hlen:d.length+c.length<=8796093022208)(Q:base<=w.heap.size)(h:∀j e l,OB l base (.slice j (d.length+c.length) e) (d++c)->aA (λi=>k.ownBlock=some i) w l->(∀i,(Value.slice j (d.length+c.length) e).ownBlock=some i->k.ownBlock=some i\/w.heap.size<=i)->wpList prog I v rest (a.put o.dst (.slice j (d.length+c.length) e)) l): wpList prog I v (o::rest) a w:=by
 obtain⟨H,D,Y,Z,aa⟩:=jg zO4;by_cases q:c=[]
 ·subst q;have W:∃j e,u=.slice j 0 e:=by
   rcases B with ⟨h,_⟩ | ⟨J,L,z,h,_⟩
   ·exact h
   exact⟨_,_,h⟩
  obtain⟨j,e,rfl⟩:=W;obtain⟨N,M,t⟩:=BI n;refine JU C s x 143 E base 146 H 2 underlying143 D k d.length (A2 d) F n j e G ?_;have:=h N M w (by rw[iC];rw[t]at n;exact n) (aA.refl _ _) (by rw[t];exact λi r=>.inl r);rw[t];exact this
 rcases B with ⟨_,O⟩ | ⟨J,L,z,rfl,af,ai,V,ag⟩
 ·exact absurd O q
 have U:0<c.length:=jK.2 q;refine jf w C s x 143 E base 146 H (.agg #[ι 0,ι 0]) 2 16 underlying143 D Y Z aa (by rfl) (by omega) k d.length (A2 d) F n ⟨J,L,none⟩ c.length z (A2 c) G (F1 c) ?_ (K2 c) U (by unfold maxLen;omega) (by omega) Q w.heap.size rfl ?_
 ·intro ab ae X;rw[kl];exact V ab ae X
 intro g e l T m P ah;refine h (some ⟨g,0,none⟩) e l ?_ ?_ ?_
 ·show l.ownsRow base 146 2 _ (d++c).length (A2 (d++c));rw[H7,ic];exact T
 ·exact⟨m.os,m.tape,m.output,m.size,λad R S=>m.block ad R (λh=>S h.symm)⟩
 intro i r;have:g=i:=by simpa[Value.ownBlock] using r
 subst this;rcases P with A | A
 ·exact .inl A
 exact .inr (by omega)
theorem Qh(v:Value)(d:List Bk)(t:Int)(w:World)(l:BW w v d.reverse)(O:d.length<=4398046511104):
  Calls prog 90 #[v,ι t] w λB F=>B=.returned (ι (pastN d t))/\F=w:=by
 obtain⟨G,H,z⟩:=Re l;rw[jJ]at z;subst z;have o:=Aa l;clear l;generalize u:d.length=c at *
 have e:=Aa u;clear u;go_enter func90,ntmps90;go_wp2;go_loop [5] (λn=>∃a:Nat,n=ι a/\a<=c/\Hid (pastN d t=a+pastN (d.drop a) t)) (λn=>c-(intOf n).toNat)
 case atStart=>exact⟨0,rfl,iT _,by show _=_;simp⟩
 case round =>
  obtain⟨a,rfl,M,q⟩:=hrel;by_cases s:a<c
  ·obtain⟨g,P,rfl,_,C,E,_⟩:=JD o.o (by omega);have i:=K7 (by rw[jJ];exact e.o) o.o (c-1-a) (by omega);have m:=Tl d a (by rw[e.o];exact s);rw[e.o]at m;rw[m]at i;have x:=Aa (V9 d t a q.o (by rw[e.o];exact s));obtain⟨h,r⟩:∃h,h=c-1-a:=⟨_,rfl⟩;rw[<-r]at i;have Q:=i.2;have I:(c:Int)-1-(a:Int)=(h:Int):=by omega
   have J:(0:Int)<=(h:Int):=by omega
   have L:(h:Int)<(c:Int):=by omega
   have N:(a:Int)<(c:Int):=by omega
   clear i m r C E;generalize Ad d a=A at *
   by_cases j:A.t<=t
   ·have k:=Aa j;go_wp2;go_round;case rel=>exact⟨a+1,by go_num,by omega,by have:=x.o;rw[ij k.o]at this;exact this⟩
    case measure=>simp[intOf];omega
   have k:=Aa j;have D:decide (A.t<=t)=false:=by simpa using j
   clear j;go_wp2;go_ret;have:=x.o;rw[ig (by have:=k.o;omega)]at this;exact⟨by rw[this];rfl,rfl⟩
  have D:decide ((a:Int)<(c:Int))=false:=by simp;omega
  go_wp2;go_ret;refine⟨?_,rfl⟩;rw[q.o,iX (by rw[e.o];omega)];simp[pastN]
theorem QU{w:World}{g off n cap k:Nat}{l:List Bk}(e:l.length=n)(h:BW w (.slice (some ⟨g,off,none⟩) n cap) l)(z:k<=n): BW w (.slice (some ⟨g,off,none⟩) k cap) (l.take k):=by
 rcases h with ⟨⟨t,u,a⟩,d⟩ | ⟨x,A,v,a,d,q,i,j⟩
 ·subst d;have:k=0:=by simp at e;omega
  subst this;exact .inl ⟨⟨_,_,rfl⟩,by simp⟩
 injection a with a _ o;injection a with a;injection a with a m;subst a m o;refine .inr ⟨g,off,cap,by simp[e];omega,by simp;omega,q,λr s c=>?_,j⟩;rw[Km,iW]at c;split at c
 ·exact i r s c
 cases c
theorem zMv{w:World}{g n cap k:Nat}{l:List Bk}(e:l.length=n)(i:BW w (σ g n cap) l)(v:k<=n)(z:0<n): BW w (.slice (if cap=k then some ⟨g,0,none⟩ else some ⟨g,k*2,none⟩) (n-k) (cap-k)) (l.drop k):=by
 rcases i with ⟨⟨r,s,a⟩,c⟩ | ⟨u,B,t,a,c,x,j,m⟩
 ·subst c;simp at e;omega
 injection a with a _ q;injection a with a;injection a with a o;subst a o q;by_cases d:cap=k
 ·rw[ij d];have:n-k=0:=by omega
  rw[this];exact .inl ⟨⟨_,_,rfl⟩,iX (by omega)⟩
 rw[ig d];refine .inr ⟨g,k*2,cap-k,by simp[e],by simp;omega,by omega,λA C h=>?_,m⟩;rw[Ku,j5]at h;have:=j _ _ h;rwa [ja]at this
theorem PY{w w':World}{g off n cap:Nat}{l:List Bk}{M:Nat->Prop}(c:BW w (.slice (some ⟨g,off,none⟩) n cap) l)(d:aA M w w')(m:¬M g): BW w' (.slice (some ⟨g,off,none⟩) n cap) l:=by
 rcases c with c | ⟨u,x,t,a,e,o,h,v⟩
 ·exact .inl c
 injection a with a j k;injection a with a;injection a with a i;subst a i k;exact .inr ⟨g,off,cap,by rw[j],e,o,λr s q=>d.cell (h r s q) m,by have:=d.size;omega⟩
theorem Rr(w:World)(x:Bk): BW (w.alloc (.cells #[ι x.sz,ι x.t] 146)) (σ w.heap.size 1 1) [x] :=
 .inr ⟨w.heap.size,0,1,rfl,by simp,by unfold maxLen;omega,λc d a=>by rw[ja];exact(aD.new w [ι x.sz,ι x.t] 146).cell a,by simp⟩
theorem GC{w:World}{q:Array Oper}{rest:List Oper}{o:Oper}{a:Act}{n:Exit->Act->World->Prop}(v:o.guard=none)(s x:Operand)(A:o.op=.call { callee:=.builtin .append,args:=#[s,x],argTypes:=#[143,143] })(base:Nat)(e:Value)(h:List Bk)(C:a.eval s=e)(B:OB w base e h)(l:Value)(i:List Bk)(D:a.eval x=l)(t:BW w l i)(d:Nat)(z:h.length+i.length=d)(hlen:d<=8796093022208)(u:base<=w.heap.size)(r:∀j k m,OB m base (.slice j d k) (h++i)->aA (λc=>e.ownBlock=some c) w m->(∀c,(Value.slice j d k).ownBlock=some c->e.ownBlock=some c\/w.heap.size<=c)->wpList prog q n rest (a.put o.dst (.slice j d k)) m): wpList prog q n (o::rest) a w:=by
 subst z;exact RU v s x A base e h C B l i D t hlen u r
theorem Kz{w w':World}{base:Nat}{v:Value}{l:List Bk}(d:OB w base v l){M:Nat->Prop}(h:aA (λa=>v.ownBlock=some a) w w'){c:World}(i:aA M c w)(j:c.heap.size<=base): aA M c w' :=
 i.trans h (λa e k=>by
    have:=(d.lt a e).1
    omega)
theorem zKv(v:Value)(s:List Bk)(t K:Int)(w:World)(n:BW w v s.reverse)(bx:PB s)(hi:cP s)(ao:Ao s+1<=4398046511104)(dw:1<=K)(dx:K<=10):
  Calls prog 129 #[v,ι t,ι (K+1)] w λq b2=>∃b1,q=.returned b1/\OB b2 w.heap.size b1 (joinL K ((s++[(⟨1,t⟩:Bk)]).length+1) (s++[(⟨1,t⟩:Bk)]) 1 (s++[(⟨1,t⟩:Bk)]).length).reverse/\lX w b2:=by
 have b5:=Aa n;have dn:=hi.len;have cc:=Aa (PI.start bx t)
 have b6:=Aa (show cP (s++[⟨1,t⟩]) from by
    refine⟨λb G=>?_,by rw[F3];show Ao s+(1+0)<=_;omega,by have:=Ja hi.one;rw[ic,jh];omega⟩;rcases ik.1 G with G | G
    ·exact hi.one b G
    rw[im]at G;rw[G];exact iL _)
 have cd:=Aa (show(s++[(⟨1,t⟩:Bk)]).reverse=[⟨1,t⟩]++s.reverse by simp);have ah:(s++[(⟨1,t⟩:Bk)]).length=s.length+1:=by simp
 have cf:=Aa ah;generalize s++[(⟨1,t⟩:Bk)]=V at *
 clear n bx hi ao ah;generalize ah:s.length=ap at *
 have ce:=Aa ah;clear ah;go_enter func129,ntmps129;go_wp2_with (at_builtin;refine GC rfl _ _ rfl w.heap.size (σ w.heap.size 1 1) [⟨1,t⟩] rfl ⟨rfl,.inr ⟨w.heap.size,1,_,rfl,ir _,aD.new w [ι 1,ι t] 146,by simp,by unfold maxLen;omega,rfl,rfl⟩⟩ v s.reverse rfl (b5.o.keeps ((aA.refl (λ_=>False) w).alloc _)) (ap+1) (by rw[jJ,ce.o];simp;omega) (by omega) (by simp) ?_;intro bl bm b3 bv bs cq)
 have cb:=Aa (show OB b3 w.heap.size (.slice bl (ap+1) bm) V.reverse by rw[cd.o];exact bv);have b9:=Aa (show lX w b3 from((aA.refl (λ_=>False) w).alloc (.cells #[ι 1,ι t] 146)).trans bs (λr hi dq=>by simp[Value.ownBlock]at hi;omega));clear bv bs cq;go_loopg [7,8,9,10,11,12] (ap+1) (λg ch ci _ _ _ _ wr=>∃(a:List Bk) (d:Int) (q x:Nat) (a9:Option Addr) (o:Nat),ch=.slice a9 x o/\ci=ι d/\x=g/\1<=d/\d<=4611686018427387904/\x<=4398046511105/\Hid (a.length=x)/\Hid (PI a d q)/\Hid (cP a)/\Hid (OB wr w.heap.size (.slice a9 x o) a.reverse)/\Hid (lX w wr)/\Hid (joinL K (V.length+1) V 1 V.length=joinL K (q+1) a d q))
 case atStart=>exact⟨V,1,V.length,ap+1,bl,bm,rfl,rfl,rfl,by omega,by omega,by omega,cf,cc,b6,cb,b9,rfl⟩
 case round =>
  obtain⟨a,d,q,x,a9,o,rfl,rfl,bu,da,d0,ds,k,ay,b7,B,L,au⟩:=hrel;have bg:=Aa bu;clear bu;have b8:=Aa (zOd ay.o);go_wp2_with fail
  go_loop [9,10,11] (λcg b r=>∃c:Nat,r=ι c/\c<=x/\cg=ι (FE a.reverse d c)/\b=ι (FF a.reverse d c)/\FE a.reverse d c<=c) (λ_ _ r=>x-(intOf r).toNat)
  case atStart=>exact⟨0,rfl,iT _,rfl,rfl,iT _⟩
  case round =>
   obtain⟨c,rfl,dj,rfl,rfl,cr⟩:=hrel;by_cases br:c<x
   ·obtain⟨g,ba,rfl,_,a2,an,_⟩:=JD B.o.bw (by omega);have a6:ba=0:=by
     rcases B.o.2 with ⟨j,_⟩ | ⟨co,cj,ck,j,_⟩
     ·cases j
     injection j with j _ _;injection j with j;injection j
    subst a6;have H:=K7 (by rw[jJ];exact k.o) B.o.bw c br;rw[ja]at H;have dz:=H.1;have dk:(0:Int)<=(c:Int):=by omega
    have dl:(c:Int)<(x:Int):=by omega
    have aj:=Aa (show FE a.reverse d (c+1)=FE a.reverse d c+(if (Ad a.reverse c).sz=d then 1 else 0) from rfl);have F:=Aa (show FF a.reverse d (c+1)=if (Ad a.reverse c).sz=d then c+1 else FF a.reverse d c from rfl);clear H a2 an;generalize Ad a.reverse c=u at *
    generalize cs:FE a.reverse d c=db at *
    generalize aa:FF a.reverse d c=m at *
    clear cs aa;by_cases U:u.sz=d
    ·have M:=Aa U;have G:(u.sz==d)=true:=by simpa using U
     clear U;go_wp2;go_round;case rel=>exact⟨c+1,by go_num,by omega,by rw[aj.o,ij M.o];go_num,by rw[F.o,ij M.o];go_num,by rw[aj.o,ij M.o];omega⟩
     case measure=>simp[intOf];omega
    have M:=Aa U;have G:(u.sz==d)=false:=by simpa using U
    clear U;go_wp2;go_round;case rel=>exact⟨c+1,by go_num,by omega,by rw[aj.o,ig M.o];rfl,by rw[F.o,ig M.o],by rw[aj.o,ig M.o];omega⟩
    case measure=>simp[intOf];omega
   have cu:c=x:=by omega
   subst cu;clear br;have am:=b8.o c (by rw[k.o];exact ir _);rw[k.o]at am;have cw:=J2 a d q;have ct:q<=c:=by have:=ay.o.he;rw[k.o]at this;exact this
   have bi:=Aa ay.o.step;generalize ao:AC a d q=h at *
   have bo:FE a.reverse d c=q-h:=by rw[am.1];omega
   have a3:h<q->FF a.reverse d c=c-h:=λn=>by rw[am.2,ij (by omega)];omega
   rw[bo]at cr ⊢;have al:=Aa ao;clear am bo ao;by_cases a4:(q:Int)-(h:Int)<=K+1
   ·have cv:((q-h:Nat):Int)<=K+1:=by omega
    generalize q-h=cl at *
    generalize FF a.reverse d c=m at *
    clear a3;go_wp2;go_ret;refine⟨_,rfl,?_,L.o⟩;rw[au.o];unfold joinL;rw[al.o,ij a4];exact B.o
   have bz:h+3<=q:=by omega
   rw[a3 (by omega)];obtain⟨m,aa⟩:∃m,m=c-h:=⟨_,rfl⟩;obtain⟨e,bp⟩:∃e,e=c-h-2:=⟨_,rfl⟩;rw[<-aa];have cv:¬((q-h:Nat):Int)<=K+1:=by omega
   have dp:K+1<((q-h:Nat):Int):=by omega
   have bf:=Aa a4;have S:=Aa bz;have ak:=Aa bp;have F:=Aa aa;have dy:(m:Int)-2=(e:Int):=by omega
   obtain⟨g,ba,rfl,_,a2,an,di⟩:=JD B.o.bw (by omega);have a6:ba=0:=by
    rcases B.o.2 with ⟨j,_⟩ | ⟨co,cj,ck,j,_⟩
    ·cases j
    injection j with j _ _;injection j with j;injection j
   subst a6;have H:=K7 (by rw[jJ];exact k.o) B.o.bw e (by omega);rw[ja]at H;have bn:Ad a.reverse e=Ad a (h+1):=by
    rw[GH _ _ (by rw[k.o];omega),k.o];congr 1;omega
   rw[bn]at H;have b4:=H.2;have av:=Aa (Pf (t:=(Ad a (h+1)).t) b7.o al.o.symm (by rw[k.o];exact ct) (by omega) da);have bh:=Aa (bi.o (by omega) (Ad a (h+1)).t);have be:=Aa (T9 a h ⟨2*d,(Ad a (h+1)).t⟩ (by rw[k.o];omega));generalize b0:Ad a (h+1)=u at *
   have bk:=Aa b0;have dt:=av.o.2.1;have dr:o<=9223372036854775807:=by unfold maxLen at an;omega
   have cm:m<=c:=by omega
   have cn:e<=c:=by omega
   have dc:(0:Int)<=(e:Int):=by omega
   have de:(e:Int)<(c:Int):=by omega
   have df:e<=o:=by omega
   have dg:m<=o:=by omega
   have dm:h<=c:=by omega
   clear H bn a4 bz aa bp b0 bi a3 a2 an cw;generalize q-h=cl at *
   obtain⟨P,bq⟩:∃P,P=e+1:=⟨_,rfl⟩;have bd:=Aa bq;have dh:P<=c:=by omega
   clear bq;have bj:=Aa (show BW wr (σ g e o) (a.reverse.take e) from QU (by rw[jJ];exact k.o) B.o.bw cn);have bc:=Aa (show ∀N,BW N (σ g c o) a.reverse->BW N (.slice (if o=m then some ⟨g,0,none⟩ else some ⟨g,m*2,none⟩) (c-m) (o-m)) (a.reverse.drop m) from λN Z=>zMv (by rw[jJ];exact k.o) Z cm (by omega));have T:=Aa (show(a.reverse.take e).length=e by rw[iG,jJ,k.o];omega);have bb:=Aa (show(a.reverse.drop m).length=h by rw[iU,jJ,k.o,F.o];omega);have du:IntKind.i64.wrap (2*d)=2*d:=by rw[il];omega
   obtain⟨J,bt⟩:∃J,J=c-1:=⟨_,rfl⟩;have A:=Aa bt;clear bt;by_cases a5:o=m
   ·have I:=λN Z=>bc.o N Z;rw[ij a5]at I;subst a5;rw[j9]at I;have aq:=Aa I;clear I
    go_wp2_with (at_builtin;first
       | (refine GC rfl _ _ rfl w.heap.size (.slice none 0 0) [] rfl (iy _ _ _ _) (σ g e o) (a.reverse.take e) rfl bj.o e (by rw[T.o];simp) (by omega) L.o.size ?_;intro O c1 z ae ab ai;have X:=Aa (show OB z w.heap.size (.slice O e c1) (a.reverse.take e) from ae);have C:=Aa (show lX wr z from ab.mono (λr _ n=>by simp[Value.ownBlock]at n));have az:=Aa (show ∀r,(Value.slice O e c1).ownBlock=some r->wr.heap.size<=r from λr hi=>(ai r hi).resolve_left (λn=>by simp[Value.ownBlock]at n));clear ae ab ai;have cy:=C.o.cell b4 id)
       | (refine GC rfl _ _ rfl w.heap.size (.slice O e c1) (a.reverse.take e) rfl (X.o.alloc _) (σ z.heap.size 1 1) [⟨2*d,u.t⟩] rfl (Rr z ⟨2*d,u.t⟩) P (by rw[T.o,bd.o];simp) (by omega) (by have j:=L.o.size;have D:=C.o.size;simp;omega) ?_;intro a0 c2 R af E a7;have Y:=Aa af;have ca:=Aa E;have aw:=Aa (show BW R (σ g c o) a.reverse from PY ((B.o.bw.keeps C.o).keeps ((aA.refl (λ_=>False) z).alloc _)) E (λn=>by have:=az.o g n;omega));have W:=Aa (show lX w R from Kz (X.o.alloc _) E ((L.o.then C.o).alloc _) (ir _));clear af E a7)
       | (refine GC rfl _ _ rfl w.heap.size (.slice a0 P c2) (a.reverse.take e++[⟨2*d,u.t⟩]) rfl Y.o (σ g (c-o) 0) (a.reverse.drop o) rfl (aq.o R aw.o) J (by rw[ic,T.o,bb.o];have j:=ak.o;have D:=A.o;have cp:=S.o;simp;omega) (by have:=A.o;omega) W.o.size ?_;intro a1 c3 cx ag ad a8;have ax:=Aa ag;have ar:=Aa (Kz Y.o ad W.o (ir _));clear ag ad a8))
    go_roundg (J)
    case measure=>have j:=bg.o;have D:=A.o;omega
    case rel =>
     refine⟨BJ a h ⟨2*d,u.t⟩,2*d,h+1,J,a1,c3,rfl,rfl,rfl,by omega,by omega,by have:=A.o;omega,?_,bh.o,av.o.1,?_,ar,?_⟩
     ·show _=_;have:=Fo (⟨2*d,u.t⟩:Bk) (l:=a) (i:=h) (by rw[k.o];have:=S.o;omega);rw[k.o]at this;have D:=A.o;omega
     ·have:=ax.o;have Q:=be.o;rw[k.o,<-F.o]at Q;rw[show o-2=e by have j:=ak.o;have D:=F.o;omega]at Q;rw[Q]at this;exact this
     show _=_;rw[au.o]
     conv=>lhs;unfold joinL
     rw[al.o,ig (by have:=bf.o;omega),bk.o];exact Mm (by omega) _ _ _ _ _ (by have:=S.o;omega) (by omega)
   have I:=λN Z=>bc.o N Z;rw[ig a5]at I;have aq:=Aa I;clear I
   go_wp2_with (at_builtin;first
      | (refine GC rfl _ _ rfl w.heap.size (.slice none 0 0) [] rfl (iy _ _ _ _) (σ g e o) (a.reverse.take e) rfl bj.o e (by rw[T.o];simp) (by omega) L.o.size ?_;intro O c1 z ae ab ai;have X:=Aa (show OB z w.heap.size (.slice O e c1) (a.reverse.take e) from ae);have C:=Aa (show lX wr z from ab.mono (λr _ n=>by simp[Value.ownBlock]at n));have az:=Aa (show ∀r,(Value.slice O e c1).ownBlock=some r->wr.heap.size<=r from λr hi=>(ai r hi).resolve_left (λn=>by simp[Value.ownBlock]at n));clear ae ab ai;have cy:=C.o.cell b4 id)
      | (refine GC rfl _ _ rfl w.heap.size (.slice O e c1) (a.reverse.take e) rfl (X.o.alloc _) (σ z.heap.size 1 1) [⟨2*d,u.t⟩] rfl (Rr z ⟨2*d,u.t⟩) P (by rw[T.o,bd.o];simp) (by omega) (by have j:=L.o.size;have D:=C.o.size;simp;omega) ?_;intro a0 c2 R af E a7;have Y:=Aa af;have ca:=Aa E;have aw:=Aa (show BW R (σ g c o) a.reverse from PY ((B.o.bw.keeps C.o).keeps ((aA.refl (λ_=>False) z).alloc _)) E (λn=>by have:=az.o g n;omega));have W:=Aa (show lX w R from Kz (X.o.alloc _) E ((L.o.then C.o).alloc _) (ir _));clear af E a7)
      | (refine GC rfl _ _ rfl w.heap.size (.slice a0 P c2) (a.reverse.take e++[⟨2*d,u.t⟩]) rfl Y.o (.slice (some ⟨g,m*2,none⟩) (c-m) (o-m)) (a.reverse.drop m) rfl (aq.o R aw.o) J (by rw[ic,T.o,bb.o];have j:=ak.o;have D:=A.o;have cp:=S.o;simp;omega) (by have:=A.o;omega) W.o.size ?_;intro a1 c3 cx ag ad a8;have ax:=Aa ag;have ar:=Aa (Kz Y.o ad W.o (ir _));clear ag ad a8))
   go_roundg (J)
   case measure=>have j:=bg.o;have D:=A.o;omega
   case rel =>
    refine⟨BJ a h ⟨2*d,u.t⟩,2*d,h+1,J,a1,c3,rfl,rfl,rfl,by omega,by omega,by have:=A.o;omega,?_,bh.o,av.o.1,?_,ar,?_⟩
    ·show _=_;have:=Fo (⟨2*d,u.t⟩:Bk) (l:=a) (i:=h) (by rw[k.o];have:=S.o;omega);rw[k.o]at this;have D:=A.o;omega
    ·have:=ax.o;have Q:=be.o;rw[k.o,<-F.o]at Q;rw[show m-2=e by have j:=ak.o;have D:=F.o;omega]at Q;rw[Q]at this;exact this
    show _=_;rw[au.o]
    conv=>lhs;unfold joinL
    rw[al.o,ig (by have:=bf.o;omega),bk.o];exact Mm (by omega) _ _ _ _ _ (by have:=S.o;omega) (by omega)
