import Derived.Test.YtnokbhcennjanaaGreatDoorXAM
import Derived.Deep.Slices
import Derived.OpenShut
import Derived.ProofKit
import Derived.SizedLaws
import Derived.Deep.DeepHandedRow
import Derived.Lib.LaidTab
import Derived.SevenTiedAt
import Derived.Test.YtnokbhcennjanaaGreatDoorCards
import Derived.Test.YtnokbhcennjanaaGreatDoorTie
import Derived.ArgAppend
import Derived.Laws.OwnMore
open Go.RowKit Go.Proofs.Tryz
set_option maxRecDepth 100000
set_option maxHeartbeats 16000000
namespace Go.Proofs.YtnokbhcennjanaaGreatDoor
section
attribute [local go_sem ↓] AH Bs
attribute [local go_sem] AI Bt A3 A4 AJ AL B8 B9 Bd B2
theorem zPy(e:Nat)(v:Value)(clock:Int)(ps:List (SB×aJ))(o:aO)(w:World)(c:aX w e v clock ps)(a:o.kind=6)(t:∀B,B∈ps.map (·.2)->dL B)(bX:ps.length<=6)(c0:0<=clock)(c1:clock<=4611686018427387904):
  Calls prog 15 #[π e,o.val] w λz J=>Kx w e v ps clock (ps.map (·.2)) 0 [] (DC clock (ps.map (·.2))) z J:=by
 have N:o.cells[0]?=some (ι o.kind):=rfl;have P:(o.kind==1)=false:=by simp[a]
 have Q:(o.kind==2)=false:=by simp[a]
 have R:(o.kind==3)=false:=by simp[a]
 have S:(o.kind==4)=false:=by simp[a]
 have T:(o.kind==5)=false:=by simp[a]
 have U:(o.kind==6)=true:=by simp[a]
 have m:=Aa c;have H:=Aa t;clear c a t;unfold aO.val;go_enter func15,ntmps15;go_wp2_with fail
 obtain⟨L,u,n,M,I⟩:=CC w o.cells;have D:=Aa (m.o.still n.o);rw[<-u];clear u;generalize k:w.heap.size=V at *
 have G:=Aa k;clear k;refine(Py e v clock ps L D.o H.o bX c0 c1).mono ?_;rintro z aa ⟨rfl,i⟩;have q:=Aa (I.o.keeps i id);have E:=Aa (n.o.then i);clear i;obtain⟨r,h⟩:∃r,DC clock (ps.map (·.2))=r:=⟨_,rfl⟩;rw[h];have C:=Aa h;clear h;obtain⟨W,X,Y,Z⟩:=q.o.three;go_wp2;refine Qo q.o (λA l=>by simp[results,results15,go_sem,l.c0,l.c1,l.c2,Hq]) rfl (λA j=>?_);have F:=Aa j;have j:=F.o;have k:=G.o;have s:lX w A:=E.o.trans j (λx d O=>by omega);exact⟨.slice none 0 0,v,ps,by rw[C.o],m.o.still s,rfl,iy _ _ _ _,s.mono (λ_ _ c=>c.elim),λx d=>.inl d,λx d=>by cases d⟩
end
section
theorem Zh(n:Int)(e:Nat)(v:Value)(clock:Int)(ps:List (SB×aJ))(o:aO)(w:World)(a:aX w e v clock ps)(hi:bQ n clock (ps.map (·.2)))(A:n<=4611686018427387904)(F:eG w)(G:¬aN e v ps 2)(D:o.kind≠7)(q:o.kind=6->∀B,B∈ps.map (·.2)->dL B):
  Calls prog 15 #[π e,o.val] w λL M =>
   Kx w e v ps (Ax ⟨clock,ps.map (·.2)⟩ o).1.clock (Ax ⟨clock,ps.map (·.2)⟩ o).1.xs (Ax ⟨clock,ps.map (·.2)⟩ o).2.1 (Ax ⟨clock,ps.map (·.2)⟩ o).2.2 (E3 ⟨clock,ps.map (·.2)⟩ o) L M:=by
 by_cases k:o.kind=6
 ·have h:Ax ⟨clock,ps.map (·.2)⟩ o=(⟨clock,ps.map (·.2)⟩,0,[]):=by unfold Ax;rw[ig (by omega),ig (by omega),ig (by omega),ig (by omega),ig (by omega),ij k]
  have E:E3 ⟨clock,ps.map (·.2)⟩ o=DC clock (ps.map (·.2)):=by unfold E3 Cx;rw[ij k]
  rw[h,E];exact zPy e v clock ps o w a k (q k) (by have:=hi.bX;rw[iu]at this;exact this) hi.c0 hi.c1
 have t:o.kind≠6/\o.kind≠7:=⟨k,D⟩;have H:E3 ⟨clock,ps.map (·.2)⟩ o=Ai:=by unfold E3;rw[ig t.1]
 rw[H];have i:=Uq ps o.id;by_cases j:o.kind=1
 ·have h:Ax ⟨clock,ps.map (·.2)⟩ o=Dk ⟨clock,ps.map (·.2)⟩ o:=by unfold Ax;rw[ij j]
  rw[h];refine(Hb (.inl ⟨rfl,rfl⟩) e v clock ps o w a j _ _ _ _ (λd c _=>?_)).mono (λ_ _ a=>a.b);cases hid:Ab o.id 0 99
  ·have:Dk ⟨clock,ps.map (·.2)⟩ o=(⟨clock,ps.map (·.2)⟩,2,[]):=by unfold Dk;rw[ig (by rw[hid];simp)]
   rw[this];exact XU n e v clock ps o d c hi hid
  cases hf:Cj ps o.id with
  | some p =>
   have:Dk ⟨clock,ps.map (·.2)⟩ o=(⟨clock,ps.map (·.2)⟩,2,[]):=by unfold Dk;rw[ig (by simp only;rw[i,hf];simp)]
   rw[this];exact T6 n e v clock ps o d c hi hid p hf
  | none =>
   have u:(Ab o.id 0 99=true/\(Ca (⟨clock,ps.map (·.2)⟩:WS).xs o.id).isNone=true):=⟨hid,by simp only;rw[i,hf];rfl⟩;cases hv:Ak o.cfg
   ·have:Dk ⟨clock,ps.map (·.2)⟩ o=(⟨clock,ps.map (·.2)⟩,3,[]):=by unfold Dk;rw[ij u,ig (by rw[hv];simp)]
    rw[this];exact SQ n e v clock ps o d c hi hid hf hv
   by_cases q:ps.length<6
   ·have:Dk ⟨clock,ps.map (·.2)⟩ o=(⟨clock,ps.map (·.2)++[AT o.id o.cfg o.cfg.kind.toNat]⟩,0,[]):=by unfold Dk;rw[ij u,ij hv,ij (by simpa using q)]
    rw[this];exact Vz n e v clock ps o d c hi hid hf hv q
   have:Dk ⟨clock,ps.map (·.2)⟩ o=(⟨clock,ps.map (·.2)⟩,4,[]):=by unfold Dk;rw[ij u,ij hv,ig (by simpa using q)]
   rw[this];have k:ps.length=6:=by have:=hi.bX;rw[iu]at this;omega
   exact Ux n e v clock ps o d c hi hid hf hv k
 by_cases l:o.kind=2
 ·have h:Ax ⟨clock,ps.map (·.2)⟩ o=C6 ⟨clock,ps.map (·.2)⟩ o:=by unfold Ax;rw[ig j,ij l]
  rw[h];refine(Hb (.inr (.inl ⟨rfl,rfl⟩)) e v clock ps o w a l _ _ _ _ (λd c _=>?_)).mono (λ_ _ a=>a.b);cases hf:Cj ps o.id with
  | none =>
   have:C6 ⟨clock,ps.map (·.2)⟩ o=(⟨clock,ps.map (·.2)⟩,2,[]):=by unfold C6;simp only;rw[i,hf];rfl
   rw[this];exact ZA n e v clock ps o d c hi hf
  | some p =>
   by_cases x:bO p.2 clock o.item=0
   ·have:C6 ⟨clock,ps.map (·.2)⟩ o=(⟨clock,BD (ps.map (·.2)) o.id (cD p.2 o.item)⟩,0,[p.2.acc+1]):=by unfold C6;simp only;rw[i,hf];simp only[ko];rw[ij x]
    rw[this];exact zM1 n e v clock ps o d c hi p hf x (by omega)
   have:C6 ⟨clock,ps.map (·.2)⟩ o=(⟨clock,BD (ps.map (·.2)) o.id (cG p.2 (bO p.2 clock o.item).toNat)⟩,bO p.2 clock o.item,[]):=by unfold C6;simp only;rw[i,hf];simp only[ko];rw[ig x]
   rw[this];have J:=Jo p.2 clock o.item;obtain⟨C,z⟩:=jl J.1;rw[z,iM];exact zPz n e v clock ps o d c hi p C hf z (by omega) (by omega)
 by_cases m:o.kind=3
 ·have h:Ax ⟨clock,ps.map (·.2)⟩ o=DT ⟨clock,ps.map (·.2)⟩ o:=by unfold Ax;rw[ig j,ig l,ij m]
  rw[h];refine(Hb (.inr (.inr (.inl ⟨rfl,rfl⟩))) e v clock ps o w a m _ _ _ _ (λd c I=>?_)).mono (λ_ _ a=>a.b);cases ha:Ab o.a 0 4611686018427387904
  ·have:DT ⟨clock,ps.map (·.2)⟩ o=(⟨clock,ps.map (·.2)⟩,5,[]):=by unfold DT;rw[ig (by rw[ha];simp)]
   rw[this];exact Y8 n e v clock ps o d c hi ha
  cases hb:Ab o.b 0 100
  ·have:DT ⟨clock,ps.map (·.2)⟩ o=(⟨clock,ps.map (·.2)⟩,12,[]):=by unfold DT;rw[ij ha,ig (by rw[hb];simp)]
   rw[this];exact Vg n e v clock ps o d c hi ha hb
  have:DT ⟨clock,ps.map (·.2)⟩ o=(⟨Av clock o.a,(Bw (Av clock o.a) o.b ((ps.map (·.2)).map (AS (Av clock o.a)))).1⟩,0,[(Bw (Av clock o.a) o.b ((ps.map (·.2)).map (AS (Av clock o.a)))).2]):=by unfold DT;rw[ij ha,ij hb]
  rw[this];exact zKn n e v clock ps o d c hi ha hb A (F.keeps I id) G
 by_cases r:o.kind=4
 ·have h:Ax ⟨clock,ps.map (·.2)⟩ o=Eb ⟨clock,ps.map (·.2)⟩ o:=by unfold Ax;rw[ig j,ig l,ig m,ij r]
  rw[h];refine(Hb (.inr (.inr (.inr (.inl ⟨rfl,rfl⟩)))) e v clock ps o w a r _ _ _ _ (λd c _=>?_)).mono (λ_ _ a=>a.b);cases hf:Cj ps o.id with
  | none =>
   have:Eb ⟨clock,ps.map (·.2)⟩ o=(⟨clock,ps.map (·.2)⟩,2,[]):=by unfold Eb;simp only;rw[i,hf];rfl
   rw[this];exact VP n e v clock ps o d c hi hf
  | some p =>
   have:Eb ⟨clock,ps.map (·.2)⟩ o=(⟨clock,ps.map (·.2)⟩,Bc p.2.k p.2.c p.2.nt o.a (clock-p.2.c.aL)):=by unfold Eb;simp only;rw[i,hf];rfl
   rw[this];exact VW n e v clock ps o d c hi A p hf
 by_cases s:o.kind=5
 ·have h:Ax ⟨clock,ps.map (·.2)⟩ o=E2 ⟨clock,ps.map (·.2)⟩ o:=by unfold Ax;rw[ig j,ig l,ig m,ig r,ij s]
  rw[h];refine(Hb (.inr (.inr (.inr (.inr (.inl ⟨rfl,rfl⟩))))) e v clock ps o w a s _ _ _ _ (λd c _=>?_)).mono (λ_ _ a=>a.b);cases hf:Cj ps o.id with
  | none =>
   have:E2 ⟨clock,ps.map (·.2)⟩ o=(⟨clock,ps.map (·.2)⟩,2,[]):=by unfold E2;simp only;rw[i,hf];rfl
   rw[this];exact ZM n e v clock ps o d c hi hf
  | some p =>
   have:E2 ⟨clock,ps.map (·.2)⟩ o=(⟨clock,ps.map (·.2)⟩,0,BM p.2):=by unfold E2;simp only;rw[i,hf];rfl
   rw[this];exact XT n e v clock ps o d c hi p hf
 have h:Ax ⟨clock,ps.map (·.2)⟩ o=(⟨clock,ps.map (·.2)⟩,1,[]):=by unfold Ax;rw[ig j,ig l,ig m,ig r,ig s,ig t.1,ig t.2]
 rw[h];exact(zNr e v clock ps o w a (by omega)).mono (λ_ _ a=>a.b)
def c0: Cfg:=⟨4,0,9,8,0,0,0,0,0,0,0,0,0,0,0,0,0,0,0,0⟩
def cz: Cfg:=⟨0,0,0,0,0,0,0,0,0,0,0,0,0,0,0,0,0,0,0,0⟩
def o1: aO:=⟨1,7,0,0,0,c0,Ai⟩
theorem zH0(ρ:Operand->Value)(dst:Option Tmp)(x:Array (Nat×Operand))(c:TypeId)(pos:String)(after:Array Edge)(guard:Option (Nat×Bool)):
  execOp ρ { dst,op:=.build 46 x,type:=c,pos,after,guard }=GT 46 (x.map λ(a,y)=>(a,ρ y)):=rfl
def RE(ty:TypeId)(n:Nat)(ps:Array (Nat×Value)): Sem Next:=do pure (.value (<-Instr.buildSlice ty n ps))
theorem Nw(ρ:Operand->Value)(dst:Option Tmp)(n:Nat)(x:Array (Nat×Operand))(c:TypeId)(pos:String)(after:Array Edge)(guard:Option (Nat×Bool)):
  execOp ρ { dst,op:=.buildSlice 22 n x,type:=c,pos,after,guard }=RE 22 n (x.map λ(a,y)=>(a,ρ y)):=rfl
theorem JS(ρ:Operand->Value)(dst:Option Tmp)(x y:Operand)(a:TypeId)(pos:String)(after:Array Edge)(guard:Option (Nat×Bool)):
  execOp ρ { dst,op:=.store 46 x y,type:=a,pos,after,guard }=E0 46 (ρ x) (ρ y):=rfl
theorem UC(w:World)(a:List Value)(cs:List Value)(k:a.length=20)(d:cs.length=20)(e:cs.toArray.all (·.oneCell')=true):
  (E0 46 (π w.heap.size) (.agg cs.toArray)).run prog (w.alloc (.cells a.toArray 46))=.ok .skip (w.alloc (.cells cs.toArray 46)):=by
 unfold E0;have j:(w.alloc (.cells a.toArray 46)).there w.heap.size 0 cs.toArray.size:=by
  intro l h;have i:l<20:=by simpa[d] using h
  rw[ja,kQ,World.frozen?_alloc_new];simp[k,i]
 rw[jq,lq _ w.heap.size 0 46 cs.toArray j (by rw[Lc];simp[d]) e];have c:=H9 cs [] a (by omega);simp only[jv,j4]at c;rw[L9,ly,c];rfl
theorem Dr.cO{P:Dr.It->Prop}(e:P ⟨0,0,0,0,0⟩){l:List Dr.It}(c:∀y,y∈l->P y)(i j:Nat): ∀y,y∈Dr.swapL l i j->P y:=by
 have d:∀i,P (Dr.itAt l i):=by
  intro i;unfold Dr.itAt;rw[γ];cases hi:l[i]? with
  | none=>exact e
  | some h=>exact c h (iz hi)
 intro y a;unfold Dr.swapL at a;rcases jx a with a | a
 ·rcases jx a with a | a
  ·exact c y a
  subst a;exact d j
 subst a;exact d i
theorem Dr.cM{P:Dr.It->Prop}(c:P ⟨0,0,0,0,0⟩){l:List Dr.It}(a:∀y,y∈l->P y)(i:Nat): P (Dr.itAt l i):=by
 unfold Dr.itAt;rw[γ];cases hi:l[i]? with
 | none=>exact c
 | some d=>exact a d (iz hi)
theorem Dr.eI{P:Dr.It->Prop}(c:P ⟨0,0,0,0,0⟩)(f:Nat)(l:List Dr.It)(i:Nat)(a:∀y,y∈l->P y): ∀y,y∈Dr.riseL f l i->P y:=by
 induction f generalizing l i with
 | zero=>exact a
 | succ f d =>
  unfold Dr.riseL;split
  ·exact a
  split
  ·exact d _ _ (Dr.cO c a _ _)
  exact a
theorem Dr.dW{P:Dr.It->Prop}(c:P ⟨0,0,0,0,0⟩)(f:Nat)(l:List Dr.It)(i:Nat)(a:∀y,y∈l->P y): ∀y,y∈Dr.sinkL f l i->P y:=by
 induction f generalizing l i with
 | zero=>exact a
 | succ f d =>
  unfold Dr.sinkL;split
  ·exact a
  split
  ·exact d _ _ (Dr.cO c a _ _)
  exact a
theorem Dr.dF{P:Dr.It->Prop}(d:P ⟨0,0,0,0,0⟩)(l:List Dr.It)(c:∀y,y∈l->P y): ∀y,y∈Dr.takeL l->P y:=by
 unfold Dr.takeL;refine Dr.dW d _ _ _ (λy a=>?_);have a:=iZ a;rcases jx a with a | a
 ·exact c y a
 subst a;exact Dr.cM d c _
theorem Dr.dD{P:Dr.It->Prop}(d:P ⟨0,0,0,0,0⟩): ∀(f:Nat) (l:List Dr.It),(∀y,y∈l->P y)->∀y,y∈Dr.allL f l->P y
 | 0,_,_=>λy a=>by simp[Dr.allL]at a
 | f+1,l,h=>λy a=>by
  unfold Dr.allL at a;split at a
  ·cases a
  rcases iA.1 a with c | c
  ·rw[c];exact Dr.cM d h 0
  exact Dr.dD d f _ (Dr.dF d l h) y c
theorem Qi.dD{P:It->Prop}(d:P ⟨0,0,0,0⟩): ∀(f:Nat) (l:List It),(∀y,y∈l->P y)->∀y,y∈Qi.allL f l->P y
 | 0,_,_=>λy a=>by simp[Qi.allL]at a
 | f+1,l,h=>λy a=>by
  unfold Qi.allL at a;split at a
  ·cases a
  rcases iA.1 a with c | c
  ·rw[c];exact cM d h 0
  exact Qi.dD d f _ (dF d l h) y c
def I1(z:Dr.It): Prop:=(0<=z.t/\z.t<=4611686018427387904)/\(0<=z.k/\z.k<=4611686018427387904)/\(0<=z.d/\z.d<=4611686018427387904)/\(0<=z.n/\z.n<=4611686018427387904)
structure NX (k:Nat) (nt:aU):Prop where
 bt:∀b∈nt.bs,0<=b.t/\b.t<=4611686018427387904
 rt:∀i,∀b∈nt.rg i,0<=b.sz/\b.sz<=4611686018427387904
 rf:∀i,dP (nt.rg i)
 tt:k=5->∀z∈nt.tk,I1 z
theorem Xf{P:Int->Prop}(d:P 0)(K:Int)(f:Nat)(l:List Bk)(c:Int)(e:Nat)(a:∀b∈l,P b.t): ∀b∈joinL K f l c e,P b.t:=by
 induction f generalizing l c e with
 | zero=>exact a
 | succ f h =>
  unfold joinL;split
  ·exact a
  refine h _ _ _ (Kp (P:=λb=>P b.t) l _ _ a ?_);show P (Ad l _).t;unfold Ad;rw[γ];cases hi:l[AC l c e+1]? with
  | none=>exact d
  | some b=>exact a b (iz hi)
theorem zMf{k:Nat}{c:Cfg}{h:aU}(a:NX k h)(y:It)(m:Int)(n:0<=y.t)(o:y.t<=4611686018427387904)(u:k=5->(0<=y.k/\y.k<=4611686018427387904)/\(0<=y.d/\y.d<=4611686018427387904)/\(0<=y.n/\y.n<=4611686018427387904)): NX k (BE k c h y m):=by
 unfold BE;split
 ·exact⟨a.bt,a.rt,a.rf,a.tt⟩
 split
 ·refine⟨?_,a.rt,a.rf,a.tt⟩;refine Xf (P:=λt=>0<=t/\t<=4611686018427387904) (by omega) _ _ _ _ _ (λb d=>?_);unfold C5 at d;rcases ik.1 d with d | d
  ·exact a.bt b (iE d)
  rw[im]at d;rw[d];exact⟨n,o⟩
 split
 ·refine⟨a.bt,λi b d=>?_,λi=>?_,a.tt⟩
  ·have e:b∈BU c (B1 c) h.rg y m i:=d;unfold BU at e;split at e
   ·rcases Jy e with e | e
    ·exact a.rt i b (iE e)
    rw[e];exact⟨n,o⟩
   exact a.rt i b e
  show dP (BU c (B1 c) h.rg y m i);unfold BU;split
  ·exact Pd _ ((a.rf i).drop _)
  exact a.rf i
 split
 ·exact⟨a.bt,a.rt,a.rf,a.tt⟩
 split
 ·rename_i r;refine⟨a.bt,a.rt,a.rf,λ_=>?_⟩;have s:I1 ⟨0,0,0,0,0⟩:=⟨⟨by simp,by simp⟩,⟨by simp,by simp⟩,⟨by simp,by simp⟩,⟨by simp,by simp⟩⟩
  have q:∀l,l∈Dr.riseL (h.tk.length+1) (h.tk++[tick c y]) h.tk.length->I1 l:=Dr.eI s _ _ _ (λl j=>by
     rcases ik.1 j with j | j
     ·exact a.tt r l j
     rw[im]at j;rw[j];exact⟨⟨n,o⟩,u r⟩)
  show ∀l∈AY c h.tk y,I1 l;unfold AY;split
  ·exact Dr.dF s _ q
  exact q
 exact a
structure SX (x:aJ):Prop where
 fS:0<=x.id/\x.id<=99
 fQ:x.acc<=4611686018427387904
 aI:∀y,y∈x.l->0<=y.n/\y.n<=4611686018427387904
 fA:∀v,v∈x.ref->v<=4611686018427387904
 note:NX x.k x.nt
theorem Mh{c:Cfg}{k:Nat}{y:It}(d:AP c k y=0)(i:k=5): (0<=y.k/\y.k<=4611686018427387904)/\(0<=y.d/\y.d<=4611686018427387904):=by
 subst i;have a:EF c y=0:=d;unfold EF at a;split at a
 ·split at a
  ·rename_i e;split at a
   ·rename_i h;have j:=Bu e;have b:=Bu h;omega
   omega
  omega
 omega
theorem X2{n:Int}{x:aJ}(a:SX x)(hi:aT n x)(e:x.l≠[])(m:Int): SX (BS x m):=by
 have c:=Gr e;have h:=hi.times _ c;refine⟨a.fS,a.fQ,λy j=>a.aI y (Ky hi.heap e j),a.fA,?_⟩
 exact zMf a.note _ _ h.1 h.2 (λi=>by
    have d:=Mh (hi.fits _ c) i
    exact⟨d.1,d.2,a.aI _ c⟩)
theorem zNh(f:Nat){n:Int}{x:aJ}(a:SX x)(hi:aT n x)(m:Int): SX (relS f x m):=by
 induction f generalizing x with
 | zero=>exact a
 | succ f h =>
  unfold relS;split
  ·exact a
  rename_i d;have c:x.l≠[]:=by simpa using d
  split
  ·exact a
  rename_i e;exact h (X2 a hi c m) (Ig hi c m e)
theorem zL2{x:aJ}(clock b:Int)(a:SX x): SX (Dz clock b x):=by
 refine⟨a.fS,a.fQ,a.aI,a.fA,?_⟩;show NX x.k (Bj x.k x.c x.nt (clock-x.c.aL) b).1;unfold Bj;split
 ·exact⟨λd c=>a.note.bt d (iE c),a.note.rt,a.note.rf,a.note.tt⟩
 exact a.note
theorem zOf{n:Int}{x:aJ}(a:SX x)(hi:aT n x)(y:It)(j:x.acc<4611686018427387904): SX (cD x y):=by
 have i:=hi.eL;have d:=put_heap x.l (Ah y (x.acc+1)) hi.heap;refine⟨a.fS,by show x.acc+1<=_;omega,λh e=>?_,a.fA,a.note⟩;rcases iA.1 (d.2.subset e) with c | c
 ·rw[c];show 0<=x.acc+1/\x.acc+1<=_;omega
 exact a.aI h c
theorem zNp{x:aJ}(a:SX x)(c:Nat): SX (cG x c):=by
 refine⟨a.fS,a.fQ,a.aI,λe d=>?_,a.note⟩;rcases jx d with d | d
 ·exact a.fA e d
 rw[d];unfold FG;split <;> omega
theorem Yy(id:Int)(c:Cfg)(k:Nat)(d:0<=id/\id<=99): SX (AT id c k):=by
 refine⟨d,by show(0:Int)<=_;omega,λy h=>(by cases h),λl e=>?_,⟨λb a=>(by cases a),λj b a=>(by cases a),λj=>ν,λ_ m i=>(by cases i)⟩⟩;have:l=0:=by simpa[AT] using e
 omega
def EX(s:WS): Prop:=∀x,x∈s.xs->SX x
def I7(o:aO): Prop:=o.kind=7->∀s',Nu o.bytes=some s'->EX s'
theorem Zx{n:Int}{s:WS}(o:aO)(a:EX s)(hi:bQ n s.clock s.xs)(j:I7 o): EX (Ax s o).1:=by
 unfold Ax;split
 ·unfold Dk;split
  ·rename_i l;split
   ·split
    ·intro e c;rcases ik.1 c with c | c
     ·exact a e c
     rw[im]at c;rw[c];exact Yy _ _ _ (Bu l.1)
    exact a
   exact a
  exact a
 split
 ·unfold C6;split
  ·exact a
  rename_i e m;have c:e∈s.xs:=jc m;split
  ·rename_i q;obtain⟨_,_,_,_,_,_,k⟩:=K3 q;intro h d;rcases F4 d with d | d
   ·exact a h d
   rw[d];exact zOf (a e c) (hi.bD e c) _ k
  intro h d;rcases F4 d with d | d
  ·exact a h d
  rw[d];exact zNp (a e c) _
 split
 ·unfold DT;split
  ·split
   ·refine Jk (P:=SX) _ (λb e c=>zL2 _ b c) _ _ (λh d=>?_);obtain⟨e,c,rfl⟩:=iI.1 d;exact zNh _ (a e c) (hi.bD e c) _
   exact a
  exact a
 split
 ·unfold Eb;split <;> exact a
 split
 ·unfold E2;split <;> exact a
 split
 ·exact a
 split
 ·rename_i i;unfold Lg;split
  ·exact a
  rename_i t r;exact j i t r
 exact a
theorem Wy{c:Cfg}{k:Nat}(i:Ak c=true)(n:c.kind=k)(x:1<=k)(z:k<=5): (∀e,e∈BV k c->0<=e/\e<=9223372036854775807)/\0<=Bh k c/\Bh k c<=3:=by
 have D:0<=c.aL/\c.aL<=100/\0<=c.bF/\c.bF<=100/\1<=c.cap/\c.cap<=8:=by
  have:=i;simp only[Ak,B5,Ab,iQ,iP]at this;omega
 have u:c.kind.toNat=k:=by omega
 have q:Gs c k=true:=by
  have:=i;simp only[Ak,iQ]at this;rw[<-u];exact this.2.2
 rcases Au x z with a | a | a | a | a <;> subst a
 ·obtain⟨B,r,s,t⟩:=Ek i n rfl;refine⟨λe d=>?_,by simp[Bh],by simp[Bh]⟩;simp[BV,Cm,Bh,Bg,Cfg.num,Cfg.aI]at d;omega
 ·obtain⟨⟨E,F,G,H⟩,r,s,t,C⟩:=FJ i n rfl;refine⟨λe d=>?_,by simp[Bh],by simp[Bh]⟩;simp[BV,Cm,Bh,Bg,Cfg.num,Cfg.aI,kg]at d;omega
 ·obtain⟨l,v,_⟩:=D5 i n rfl;obtain⟨N,O,P,Q,h⟩:=v;have I:=l.w0;have J:=l.w1;have L:=l.p0;have M:=l.p1
  refine⟨λe d=>?_,by simp[Bh];omega,by simp[Bh];omega⟩;have w:c.rows=1\/c.rows=2\/c.rows=3:=by omega
  rcases w with a | a | a
  ·have j:=h 0 (by omega);simp[BV,Cm,Bh,Bg,Cfg.num,Cfg.aI,a,kg]at d;simp[De,Df]at j;omega
  ·have j:=h 0 (by omega);have o:=h 1 (by omega);simp[BV,Cm,Bh,Bg,Cfg.num,Cfg.aI,a,kg]at d;simp[De,Df]at j o;omega
  have j:=h 0 (by omega);have o:=h 1 (by omega);have A:=h 2 (by omega);simp[BV,Cm,Bh,Bg,Cfg.num,Cfg.aI,a,kg]at d;simp[De,Df]at j o A;omega
 ·have m:CV c=true:=q;simp only[CV,Ab,iQ,iP]at m;refine⟨λe d=>?_,by simp[Bh],by simp[Bh]⟩;simp[BV,Cm,Bh,Bg,Cfg.num,Cfg.aI]at d;omega
 have m:Fz c=true:=q;simp only[Fz,CV,Ab,iQ,iP]at m;refine⟨λe d=>?_,by simp[Bh],by simp[Bh]⟩;simp[BV,Cm,Bh,Bg,Cfg.num,Cfg.aI]at d;omega
theorem MC{n:Int}{x:aJ}(e:SX x)(hi:aT n x)(J:x.rel<=4611686018427387904): dL x:=by
 obtain⟨D,E,F⟩:=Wy hi.valid hi.kind hi.k1 hi.k5;have U:=hi.common;have S:=hi.cap;have hlen:x.l.length<=8:=by omega
 have c:=hi.note;have X:=hi.dJ;have H:=c.fR J;refine⟨by have:=e.fS;omega,D,E,F,hi.bS,λC B=>by have u:=hi.cN C B;have v:=e.fA C B;omega,by omega,hlen,?_,?_,hi.valid,hi.kind,hi.k1,hi.k5⟩
 ·intro M l;unfold Bq at l;obtain⟨y,d,z⟩:=lj.1 l
  have q:=Qi.dD (P:=λy=>(0<=y.n/\y.n<=4611686018427387904)/\(0<=y.t/\y.t<=4611686018427387904)/\(x.k=2\/x.k=3\/x.k=5->0<=y.k/\y.k<=4611686018427387904)/\(x.k=5->0<=y.d/\y.d<=4611686018427387904)) (by simp) (x.l.length+1) x.l (λy d=>⟨e.aI y d,hi.times y d,λi=>by
       rcases i with a | a | a
       ·have:=M2 (hi.fits y d) (.inl a);omega
       ·have:=M2 (hi.fits y d) (.inr a);omega
       exact(Mh (hi.fits y d) a).1,λa=>(Mh (hi.fits y d) a).2⟩) y d
  obtain⟨Y,Z,N,O⟩:=q;unfold Fc at z;rcases iA.1 z with a | a
  ·rw[a];omega
  obtain⟨r,w,rfl⟩:=iI.1 a;have V:=hi.k1;have W:=hi.k5
  have I:r=0\/(r=1/\(x.k=2\/x.k=3\/x.k=5))\/(r=2/\x.k=5):=by
   have i:x.k=1\/x.k=2\/x.k=3\/x.k=4\/x.k=5:=by omega
   rcases i with a | a | a | a | a <;> rw[a]at w <;> simp[CW]at w <;> omega
  rcases I with a | ⟨a,i⟩ | ⟨a,i⟩
  ·subst a;show 0<=y.t/\y.t<=_;omega
  ·subst a;have:=N i;show 0<=y.k/\y.k<=_;omega
  subst a;have:=O i;show 0<=y.d/\y.d<=_;omega
 refine⟨by have:=c.q0;have:=c.qn;omega,by have:=c.r0;have:=c.r1;omega,by omega,λb h=>⟨c.one b h,H.2 b h⟩,λb h=>by have:=e.note.bt b h;omega,λj=>?_,λj b h=>by have u:=e.note.rt j b h;have v:=c.rk j b h;omega,λa=>?_,λa=>?_,λa M l=>?_⟩
 ·have:=Kd (x.nt.rg j) 40 (e.note.rf j) (c.rk j);omega
 ·obtain⟨G,Q,s,t,R⟩:=D5 hi.valid hi.kind a;have m:=c.oi a;have T:x.nt.cl.length<=8:=by have:=m.len;have:=G.p1;omega
  exact⟨by omega,m.hE hi.dR s t,m.hG hi.dR s t,λk o=>by have:=m.hA.1 k o;omega,λp L k o=>by have:=m.hA.2 p L k o;omega⟩
 ·have u:=c.tl a;have v:=(EA hi.valid hi.kind a).2;omega
 unfold Cz at l;obtain⟨k,o,A⟩:=lj.1 l;have q:I1 k:=Dr.dD (P:=I1) ⟨⟨by simp,by simp⟩,⟨by simp,by simp⟩,⟨by simp,by simp⟩,⟨by simp,by simp⟩⟩ _ _ (e.note.tt a) k o;obtain⟨aa,ab,ad,ae⟩:=q;simp at A;rcases A with a | a | a | a <;> rw[a] <;> omega
theorem zMj{w:World}{base:Nat}{v:Value}{l:List cH}(h:cC w base v l)(q:l≠[]): ∃g d,v=σ g l.length d/\∀a c,(CS l)[a]?=some c->w.cell? ⟨g,a,none⟩=some c:=by
 rcases h.row.2 with ⟨_,k⟩ | ⟨g,d,i,j,_,m,r,s,t,n⟩
 ·exact absurd (iR.1 k) q
 refine⟨g,d,j,λa c e=>?_⟩;have o:a<l.length*3:=by have:=(iq.1 e).1;have:=h.row.1;omega
 have:i[a]?=some c:=by
  rw[<-n,iW,ij o]at e;simpa using e
 simp[World.cell?,m,this]
theorem XK{n:Int}{s:WS}(o:aO)(d:bQ n s.clock s.xs): (Ax s o).2.2.length<=17:=by
 unfold Ax;split
 ·unfold Dk;(repeat' split) <;> simp
 split
 ·unfold C6;(repeat' split) <;> simp
 split
 ·unfold DT;(repeat' split) <;> simp
 split
 ·unfold Eb;split
  ·simp
  rename_i a i;have c:=d.bD a (jc i);show(Bc a.k a.c a.nt o.a (s.clock-a.c.aL)).2.length<=17;unfold Bc;split
  ·simp
  split
  ·split <;> simp
  split
  ·rename_i e;obtain⟨_,_,j,_,_⟩:=FJ c.valid c.kind e;unfold Gb;split
   ·show(Cw _ _ _++[_]).length<=17;rw[ic,Je,jh];have:B1 a.c<=16:=jr (n:=2) (by omega) (show a.c.bits.toNat<=4 by omega);omega
   simp
  split
  ·split <;> simp
  split
  ·rename_i h;have k:=EA c.valid c.kind h;show(DK a.c a.nt.tk).length<=17;unfold DK;simp only[ic,Gf,iG];simp;omega
  simp
 split
 ·unfold E2;(repeat' split) <;> simp[BM,AE]
 split
 ·simp
 split
 ·unfold Lg;split <;> simp
 simp
theorem LN(l:List cH)(i j:Nat)(x:cH)(c:l[i]?=some x)(h:j<3): (CS l)[i*3+j]?=x.cells[j]?:=by
 induction l generalizing i with
 | nil=>simp at c
 | cons a l e =>
  have d:CS (a::l)=a.cells++CS l:=by simp[CS]
  rw[d];cases i with
  | zero =>
   have:a=x:=by simpa using c
   subst this;rw[iN (by simp[cH.cells];omega)];simp
  | succ i =>
   rw[iO (by simp[cH.cells];omega)];have:=e i (by simpa using c);rw[<-this];congr 1;simp[cH.cells];omega
theorem BI{w:World}{base T c:Nat}{v:Value}{n:Nat}{l:List Value}(h:w.ownsRow base T c v n l): ∃e d,v=.slice e n d:=by
 rcases h.2 with ⟨a,i⟩ | ⟨g,d,j,a,_⟩
 ·exact⟨none,0,by rw[a,i]⟩
 exact⟨_,_,a⟩
theorem Ik{w:World}{base:Nat}{a:Option Addr}{n cap:Nat}{l:List cH}(d:cC w base (.slice a n cap) l)(i:Nat)(x:cH)(c:l[i]?=some x):
  ∃g,a=some ⟨g,0,none⟩/\w.cell? ⟨g,i*3,none⟩=some (ι x.code)/\w.cell? ⟨g,i*3+1,none⟩=some x.nv/\w.cell? ⟨g,i*3+2,none⟩=some (.string x.bs):=by
 obtain⟨g,k,j,e⟩:=zMj d (by intro d;rw[d]at c;simp at c);injection j with h m o;exact⟨g,h,e _ _ (LN l i 0 x c (by omega)),e _ _ (LN l i 1 x c (by omega)),e _ _ (LN l i 2 x c (by omega))⟩
end
section
open Go.ChangeShapes Go.WideShapes Go.ChangeAt Go.RowKit Go.Deep
def GB(V:Nat->Int)(b:ByteArray): aO:=⟨V 0,V 1,V 2,V 3,V 4,⟨V 5,V 6,V 7,V 8,V 9,V 10,V 11,V 12,V 13,V 14,V 15,V 16,V 17,V 18,V 19,V 20,V 21,V 22,V 23,V 24⟩,b⟩
theorem WY(a:Nat->Int)(b:ByteArray): (GB a b).cells=(List.range 25).map (λc=>ι (a c))++[.string b]:=rfl
theorem cells3: prog.cellsOf 3=1:=by kernel_rfl
theorem zNw: prog.cellsOf 43=2:=by kernel_rfl
theorem Nb: prog.cellsOf 48=26:=by kernel_rfl
theorem zMx: prog.bytesOf 48=216:=by kernel_rfl
section
variable {H:Type} {enc:TypeId×Value->H} {w:World} {base:Nat} {spare:Nat->Bool} {held:Bool}
def dK(cs:List Value)(i:Nat): Prop:=∃n,cs[i]?=some (ι n)/\(Lit.int .i64 n).wf=true
theorem Rx{cs:List Value}{off n i:Nat}{v:Value}(a:((cs.drop off).take n)[i]?=some v): cs[off+i]?=some v:=by
 rw[iW]at a;split at a
 ·rw[j5]at a;exact a
 cases a
theorem dK.sub{cs:List Value}{off n i:Nat}(a:dK ((cs.drop off).take n) i): dK cs (off+i):=by
 obtain⟨e,c,d⟩:=a;exact⟨e,Rx c,d⟩
theorem Np{m:Nat}{cs:List Value}{x:DataW H×List MemPlace}(a:DataW.trod enc prog w base spare held m 3 cs=some x): dK cs 0:=by
 obtain⟨d,rfl,_,c⟩:=DataW.trod_int underlying3 a;exact⟨d,rfl,c⟩
theorem GZ{α:Type}{a:List α}{n i:Nat}(d:a.length=n)(hi:i<n): ∃c,a[i]?=some c:=⟨a[i],h9 (by omega)⟩
theorem zMt{m:Nat}{cs:List Value}{x:DataW H×List MemPlace}(c:DataW.trod enc prog w base spare held m 43 cs=some x)(i:Nat)(hi:i<2): dK cs i:=by
 obtain⟨k,j,_,_,_,d,e⟩:=DataW.trod_array underlying43 c;obtain⟨y,h⟩:=GZ d hi;have a:=e i hi;rw[h,cells3,Nat.mul_one]at a;have:=(Np a).sub;simpa using this
theorem zNl{m:Nat}{cs:List Value}{x:DataW H×List MemPlace}(d:DataW.trod enc prog w base spare held m 44 cs=some x)(i:Nat)(hi:i<6): dK cs i:=by
 obtain⟨l,k,_,_,_,e,h⟩:=DataW.trod_array underlying44 d;have c:i/2<3:=by omega
 obtain⟨y,j⟩:=GZ e c;have a:=h (i/2) c;rw[j,zNw]at a;have:=(zMt a (i%2) (by omega)).sub;rwa [show i/2*2+i%2=i by omega]at this
theorem zO2{m:Nat}{cs:List Value}{x:DataW H×List MemPlace}(n:DataW.trod enc prog w base spare held m 46 cs=some x)(i:Nat)(hi:i<20): dK cs i:=by
 obtain⟨h,l,_,_,_,r,k⟩:=DataW.trod_struct underlying46 n;have j:h.length=15:=r;have one:∀(a:Nat) (f:Field),(Option.map (λf:Field=>(f.type,f.offset)) (some f))=some (3,a)->a<14->DataW.trod enc prog w base spare held l f.type ((cs.drop f.offset).take (prog.cellsOf f.type))=h[a]?->dK cs a:=by
  intro a f d s c;obtain⟨y,e⟩:=GZ j (show a<15 by omega);simp only[ko,lU,Prod.mk.injEq]at d;rw[d.1,d.2,e]at c;have:=(Np c).sub;simpa using this
 by_cases o:i<14
 ·have q:i=0\/i=1\/i=2\/i=3\/i=4\/i=5\/i=6\/i=7\/i=8\/i=9\/i=10\/i=11\/i=12\/i=13:=by omega
  rcases q with rfl | rfl | rfl | rfl | rfl | rfl | rfl | rfl | rfl | rfl | rfl | rfl | rfl | rfl <;> exact one _ _ rfl o (k _ _ rfl)
 obtain⟨y,e⟩:=GZ j (show 14<15 by omega);have c:DataW.trod enc prog w base spare held l 44 ((cs.drop 14).take (prog.cellsOf 44))=h[14]?:=k 14 _ rfl;rw[e]at c;have:=(zNl c (i-14) (by omega)).sub;rwa [show 14+(i-14)=i by omega]at this
theorem zLs{m:Nat}{cs:List Value}{x:DataW H×List MemPlace}(t:DataW.trod enc prog w base spare held m 48 cs=some x):
  ∃(h:Nat->Int) (b:ByteArray),cs=(GB h b).cells/\(∀a,a<25->(Lit.int .i64 (h a)).wf=true)/\b.size<=maxLen:=by
 obtain⟨k,q,_,_,hlen,D,o⟩:=DataW.trod_struct underlying48 t;rw[Nb]at hlen;have n:k.length=7:=D;have one:∀(c:Nat) (f:Field),(Option.map (λf:Field=>(f.type,f.offset)) (some f))=some (3,c)->c<5->DataW.trod enc prog w base spare held q f.type ((cs.drop f.offset).take (prog.cellsOf f.type))=k[c]?->dK cs c:=by
  intro c f l j d;obtain⟨y,e⟩:=GZ n (show c<7 by omega);simp only[ko,lU,Prod.mk.injEq]at l;rw[l.1,l.2,e]at d;have:=(Np d).sub;simpa using this
 have hints:∀a,a<25->dK cs a:=by
  intro a s;by_cases u:a<5
  ·have B:a=0\/a=1\/a=2\/a=3\/a=4:=by omega
   rcases B with rfl | rfl | rfl | rfl | rfl <;> exact one _ _ rfl u (o _ _ rfl)
  obtain⟨y,e⟩:=GZ n (show 5<7 by omega);have d:DataW.trod enc prog w base spare held q 46 ((cs.drop 5).take (prog.cellsOf 46))=k[5]?:=o 5 _ rfl;rw[e]at d;have:=(zO2 d (a-5) (by omega)).sub;rwa [show 5+(a-5)=a by omega]at this
 obtain⟨h,r⟩:=choose_lt (α:=Int) hints;obtain⟨y,e⟩:=GZ n (show 6<7 by omega);have d:DataW.trod enc prog w base spare held q 9 ((cs.drop 25).take (prog.cellsOf 9))=k[6]?:=o 6 _ rfl;rw[e]at d;obtain⟨b,v,_,A⟩:=DataW.trod_string underlying9 d;have z:cs[25]?=some (.string b):=Rx (off:=25) (i:=0) (by rw[v];rfl);refine⟨h,b,?_,λa s=>(r a s).2,A⟩;rw[WY];apply ke;intro c;by_cases j:c<25
 ·rw[(r c j).1,iN (by simpa using j)];simp[j]
 by_cases C:c=25
 ·subst C;rw[z];rfl
 rw[jC (by omega),jC (by simp;omega)]
end
end
section
open Go.ChangeShapes Go.WideShapes Go.ChangeAt Go.RowKit Go.Deep
theorem Ls: ownKnob prog.godebug=none:=by kernel_rfl
theorem Z2: laidOutB prog=true:=by kernel_rfl
theorem aA.below{w w':World}(a:lX w w'): Below w.heap.size w w':=⟨a.os,a.tape,a.output,a.size,λd c=>a.block d c id⟩
end
section
def BN(l:List aO): List Value:=l.flatMap aO.cells
theorem Tb(a b:List aO): BN (a++b)=BN a++BN b:=by simp[BN]
theorem Gg(l:List aO): (BN l).length=l.length*26:=by
 induction l with
 | nil=>rfl
 | cons a l d =>
  have c:BN (a::l)=a.cells++BN l:=by simp[BN]
  rw[c,ic,d,iD];have:a.cells.length=26:=rfl;omega
theorem OD(l:List aO)(i j:Nat)(x:aO)(c:l[i]?=some x)(h:j<26): (BN l)[i*26+j]?=x.cells[j]?:=by
 induction l generalizing i with
 | nil=>simp at c
 | cons a l e =>
  have d:BN (a::l)=a.cells++BN l:=by simp[BN]
  have k:a.cells.length=26:=rfl;rw[d];cases i with
  | zero =>
   have:a=x:=by simpa using c
   subst this;rw[iN (by omega)];simp
  | succ i =>
   rw[iO (by omega)];have:=e i (by simpa using c);rw[<-this];congr 1;omega
theorem Pg(l:List aO)(u:Value)(a:u∈BN l): u.oneCell'=true:=by
 obtain⟨d,_,c⟩:=lj.1 a;have:=Jl d;simp only[List.all_toArray,kt]at this;exact this u c
abbrev C0(w:World)(base:Nat)(v:Value)(ops:List aO): Prop:=w.ownsRow base 48 26 v ops.length (BN ops)
def bG(w:World)(v:Value)(ops:List aO): Prop:=((∃a c,v=.slice a 0 c)/\ops=[])\/∃sb so cap,v=.slice (some ⟨sb,so,none⟩) ops.length cap/\ops.length<=cap/\dC w sb so ops/\sb<w.heap.size
theorem dC.keeps{w w':World}{d e:Nat}{c:List aO}(a:dC w d e c)(h:lX w w'): dC w' d e c :=
 λk m i l n j=>h.cell (a k m i l n j) id
theorem bG.keeps{w w':World}{v:Value}{d:List aO}(a:bG w v d)(c:lX w w'): bG w' v d:=by
 rcases a with a | ⟨k,l,e,h,i,j,m⟩
 ·exact .inl a
 exact .inr ⟨k,l,e,h,i,j.keeps c,by have:=c.size;omega⟩
theorem OF{w:World}{base:Nat}{v:Value}{a:List aO}(o:C0 w base v a): (v=.slice none 0 0/\a=[])\/∃g c,v=σ g a.length c/\a.length<=c/\dC w g 0 a/\g<w.heap.size/\base<=g/\c<=maxLen:=by
 rcases o.2 with ⟨d,e⟩ | ⟨g,c,n,d,e,j,q,r,A,s⟩
 ·exact .inl ⟨d,iR.1 e⟩
 refine .inr ⟨g,c,d,q,?_,(js.1 j).1,e,r⟩;intro h x l i z m;have u:i<26:=by have:=(iq.1 m).1;exact this
 have B:h<a.length:=(iq.1 l).1;have k:=OD a h i x l u;have t:n[h*26+i]?=some z:=by
  rw[<-s,iW,ij (by omega),m]at k;simpa using k
 rw[ja];simp[World.cell?,j,t]
theorem FK{w:World}{base:Nat}{v:Value}{d:List aO}(h:C0 w base v d): bG w v d:=by
 rcases OF h with ⟨a,c⟩ | ⟨g,e,a,c,i,j,_,_⟩
 ·exact .inl ⟨⟨_,_,a⟩,c⟩
 exact .inr ⟨g,0,e,a,c,i,j⟩
def Nv: List Value:=(⟨0,0,0,0,0,cz,Ai⟩:aO).cells
theorem No: (prog.info? 48).map (λa=>(a.zero,a.size,a.bytes))=some (some (.agg Nv.toArray),26,216):=by kernel_rfl
theorem IY{w:World}{O:Array Oper}{rest:List Oper}{o:Oper}{a:Act}{A:Exit->Act->World->Prop}(F:o.guard=none)(s x:Operand)(H:o.op=.call { callee:=.builtin .append,args:=#[s,x],argTypes:=#[22,22] })(base:Nat)(l:Value)(e:List aO)(J:a.eval s=l)(q:C0 w base l e)(z:Value)(c:List aO)(L:a.eval x=z)(D:bG w z c)(hlen:e.length+c.length<=651562446089)(U:base<=w.heap.size)(i:∀k h m,C0 m base (.slice k (e.length+c.length) h) (e++c)->aA (λj=>l.ownBlock=some j) w m->(∀j,(Value.slice k (e.length+c.length) h).ownBlock=some j->l.ownBlock=some j\/w.heap.size<=j)->wpList prog O A rest (a.put o.dst (.slice k (e.length+c.length) h)) m): wpList prog O A (o::rest) a w:=by
 obtain⟨N,G,ab,ad,ae⟩:=jg No;by_cases t:c=[]
 ·subst t;have aa:∃k h,z=.slice k 0 h:=by
   rcases D with ⟨i,_⟩ | ⟨P,r,B,i,_⟩
   ·exact i
   exact⟨_,_,i⟩
  obtain⟨k,h,rfl⟩:=aa;obtain⟨R,Q,v⟩:=BI q;refine JU F s x 22 H base 48 N 26 underlying22 G l e.length (BN e) J q k h L ?_;have:=i R Q w (by rw[iC];rw[v]at q;exact q) (aA.refl _ _) (by rw[v];exact λj u=>.inl u);rw[v];exact this
 rcases D with ⟨_,S⟩ | ⟨P,r,B,rfl,ah,Z,aj⟩
 ·exact absurd S t
 have Y:0<c.length:=jK.2 t;refine jf w F s x 22 H base 48 N (.agg Nv.toArray) 26 216 underlying22 G ab ad ae (by rfl) (by omega) l e.length (BN e) J q ⟨P,r,none⟩ c.length B (BN c) L (Gg c) ?_ (Pg c) Y (by unfold maxLen;omega) (by omega) U w.heap.size rfl ?_
 ·intro d ag M;have ai:d<c.length*26:=by have:=(iq.1 M).1;rwa [Gg]at this
  have I:d/26<c.length:=by omega
  have E:=OD c (d/26) (d%26) c[d/26] (h9 I) (by omega);rw[show d/26*26+d%26=d by omega,M]at E;have:=Z (d/26) c[d/26] (h9 I) (d%26) ag E.symm;rw[Go.WideShapes.add_plain,show r+d=r+d/26*26+d%26 by omega];exact this
 intro g h m X n T ak;refine i (some ⟨g,0,none⟩) h m ?_ ?_ ?_
 ·show m.ownsRow base 48 26 _ (e++c).length (BN (e++c));rw[Tb,ic];exact X
 ·exact⟨n.os,n.tape,n.output,n.size,λaf V W=>n.block af V (λi=>W i.symm)⟩
 intro j u;have:g=j:=by simpa[Value.ownBlock] using u
 subst this;rcases T with C | C
 ·exact .inl C
 exact .inr (by omega)
theorem Oj(w:World)(o:aO): (RE 22 1 #[(0,.agg o.cells.toArray)]).run prog w=.ok (.value (σ w.heap.size 1 1)) (w.alloc (.cells o.cells.toArray 48)):=by kernel_rfl
theorem LU{w:World}{b:Nat}{o:aO}(a:aD w b o.cells 48): bG w (σ b 1 1) [o]:=by
 refine .inr ⟨b,0,1,rfl,by simp,?_,a.lt⟩;intro h i c j k e;have d:h=0:=by have:=(iq.1 c).1;simp at this;omega
 subst d;have:o=i:=by simpa using c
 subst this;have:=a.cell e;simpa using this
end
section
open Go.ChangeShapes Go.WideShapes Go.ChangeAt Go.RowKit Go.Deep
theorem IA: prog.globalNamed "math/bits.deBruijn64tab"=some 2:=by kernel_rfl
theorem zKg: (prog.globals[2]?).map (·.type)=some 283:=by kernel_rfl
theorem zN7: prog.cellsOf 283=64:=by kernel_rfl
theorem zN6: prog.cellsOf 5=1:=by kernel_rfl
theorem zMy: prog.underlying 5=some (.int .u8):=by kernel_rfl
def KR: List Int:=Lib.deBruijn64tab.map λ(n:Nat)=>(n:Int)
def zL7: Array Value:=(KR.map (.int .u8 ·)).toArray
theorem zP7{W:World}(c:laidMetH prog [("math/bits.deBruijn64tab",Rows.laid_math_bits_deBruijn64tab)] W): eG W:=by
 have e:Lib.TabIs prog W "math/bits.deBruijn64tab" .u8 KR:=Lib.tabIs_of_head (rest:=[]) IA zKg underlying283 zMy zN6 zN7 c
 intro h a;have d:=e.cell IA h (by simpa[KR] using a);rw[d];unfold KR;rw[γ,γ,iS,h9 a];rfl
noncomputable def Mp(os:Os): World :=
 { World.holding prog os ⟨#[],#[],[]⟩ with heap:=(World.holding prog os ⟨#[],#[],[]⟩).heap.modify 2 fun
     | .cells _ t frozen=>.cells zL7 t frozen
     | o=>o }
theorem Ts{q:Type}{enc:TypeId×Value->q}{W:World}{fuel:Nat}{s:Option Addr}{len cap:Nat}{t:DataW q}{p:List MemPlace}(H:DataW.trod enc prog W 0 (λ_=>true) true fuel 22 (Value.slice s len cap).cells.toList=some (t,p))(M:∀S∈p,S.block<W.heap.size):
  ∃o,bG W (.slice s len cap) o/\o.length=len/\(len≠0->∃elems spare,t=.slice elems spare/\len<=elems.length+spare.length)/\∀a,a∈o->-9223372036854775808<=a.a/\a.a<=9223372036854775807:=by
 by_cases z:len=0
 ·subst z;exact⟨[],.inl ⟨⟨_,_,rfl⟩,rfl⟩,rfl,λF=>absurd rfl F,λa d=>by cases d⟩
 rcases open_slice underlying22 H with ⟨e,m⟩ | ⟨C,Y,V,R,Z,T,U,e,_,L,X,J,m,l⟩
 ·simp[Value.cells]at e;exact absurd e.2.1 z
 simp[Value.cells]at e;obtain⟨rfl,rfl,rfl⟩:=e;simp only[Prod.mk.injEq]at m;obtain⟨rfl,rfl⟩:=m;simp only[lQ]at J;subst R;rw[Nb]at l;obtain⟨b,n,spot⟩:=C;have O:spot=none:=by
  obtain⟨E,k,_⟩:=l 0 (by omega);obtain⟨_,u,v⟩:=World.cells?_some k;have i:=v 0 (by omega);rw[h9 (by omega)]at i;simpa[Addr.add] using World.cell?_spot i
 subst O;have G:b<W.heap.size:=M (.cell b n) (List.mem_append_left _ (MemPlace.mem_row.2 ⟨0,by rw[Nb];omega,by simp⟩));have N:∀c,c<len->∃a:aO,W.rangeAt b (n+c*26) a.cells/\-9223372036854775808<=a.a/\a.a<=9223372036854775807:=by
  intro c h;obtain⟨E,k,u⟩:=l c (by omega);obtain⟨j,D,rfl,Q,_⟩:=zLs u;obtain⟨_,v,i⟩:=World.cells?_some k;have P:=Q 2 (by omega)
  refine⟨GB j D,λB aa A=>?_,by
     have w:IntKind.i64.min<=j 2/\j 2<=IntKind.i64.max:=by simpa[Lit.wf] using P
     rw[show IntKind.i64.min=-9223372036854775808 by rfl,show IntKind.i64.max=9223372036854775807 by rfl]at w
     exact w⟩
  have I:B<26:=by have:=(iq.1 A).1;omega
  have:=i B I;rw[add_add,add_plain,A,<-Nat.add_assoc]at this;exact this
 haveI:Inhabited aO:=⟨o1⟩
 obtain⟨r,x⟩:=choose_lt (α:=aO) N;refine⟨(List.range len).map r,.inr ⟨b,n,cap,by simp,by simpa using L,?_,G⟩,by simp,λ_=>⟨_,_,rfl,by simp⟩,λa d=>?_⟩
 ·intro c a d;have h:c<len:=by have:=(iq.1 d).1;simpa using this
  have:r c=a:=by simpa[h] using d
  rw[<-this];exact(x c h).1
 obtain⟨c,h,rfl⟩:=iI.1 d;exact(x c (lA.1 h)).2
end
section
def AZ(el:List Value)(n:Nat): List Value:=(List.replicate n el).flatten
theorem Fs(a:List Value)(n:Nat): (AZ a n).length=n*a.length:=by simp[AZ]
theorem GV(a:List Value)(n m:Nat): AZ a (n+m)=AZ a n++AZ a m:=by unfold AZ;rw[<-List.flatten_append,List.replicate_append_replicate]
theorem zKu(a:List Value){j n:Nat}(d:j<=n): (AZ a n).take (j*a.length)=AZ a j:=by
 obtain⟨c,rfl⟩:∃c,n=j+c:=⟨n-j,by omega⟩;rw[GV,<-Fs,List.take_left]
theorem zMm{a:List Value}{n:Nat}{u:Value}(c:u∈AZ a n): u∈a:=by
 unfold AZ at c;obtain⟨h,e,d⟩:=List.mem_flatten.1 c;rw[(kj.1 e).2]at d;exact d
theorem VX{w w':World}{base e size g n cap:Nat}{a:List Value}(r:a.length=size)(D:w'.ownsRow base e size (σ g n cap) n (AZ a n))(C:w.grownBy w' (some g)){k:Nat}{L:List Value}(hold:w.ownsRow base e size (σ g k cap) k L){u:Value}{j:Nat}(t:j<=n)(v:w.ownsRow base e size u j (AZ a j)): w'.ownsRow base e size u j (AZ a j):=by
 refine⟨v.1,?_⟩;rcases v.2 with c | ⟨d,i,z,rfl,l,h,m,o,q,B⟩
 ·exact .inl c
 by_cases s:d=g
 ·subst s;rcases hold.2 with ⟨c,_⟩ | ⟨Q,N,O,F,_,x,_,_,G,_⟩
  ·cases c
  cases F;rw[h]at x;cases x;rcases D.2 with ⟨c,_⟩ | ⟨P,M,A,E,_,H,_,_,I,J⟩
  ·cases c
  cases E;refine .inr ⟨d,i,A,rfl,l,H,m,o,by rw[I,<-G,q],?_⟩;have:=congrArg (List.take (j*size)) J;rw[kv,jG (Nat.mul_le_mul_right _ t),<-r,zKu a t,r]at this;exact this
 exact .inr ⟨d,i,z,rfl,l,by rw[C.block d (js.1 h).1 (by simpa using s)];exact h,m,o,q,B⟩
theorem Pb{w w':World}{base e size:Nat}{u:Value}{j:Nat}{d:List Value}{row:Option Nat}(c:w.grownBy w' row)(m:w.ownsRow base e size u j d)(l:∀a,u.ownBlock=some a->row≠some a): w'.ownsRow base e size u j d :=
 An m (M:=λa=>row=some a) ⟨c.os,c.tape,c.output,c.size,λa i k=>c.block a i (λh=>k h.symm)⟩ l
theorem H0{P:Program}(w:World){ad:Array Oper}{rest:List Oper}{o:Oper}{a:Act}{R:Exit->Act->World->Prop}(ah:o.guard=none)(s x:Operand)(t:TypeId)(aj:o.op=.call { callee:=.builtin .append,args:=#[s,x],argTypes:=#[t,t] })(base:Nat)(n:TypeId)(z:TypeInfo)(G:Value)(size bytes:Nat)(Q:P.underlying t=some (.slice n))(J:P.info? n=some z)(aa:z.zero=some G)(O:z.size=size)(W:z.bytes=bytes)(ab:G.cells.size=size)(Z:0<size)(l:List Value)(Y:l.length=size)(A:Value)(j:Nat)(ak:a.eval s=A)(C:w.ownsRow base n size A j (AZ l j))(B:Addr)(d D:Nat)(am:a.eval x=.slice (some B) d D)(M:∀c e,(AZ l d)[c]?=some e->w.cell? (B.add c)=some e)(ae:∀e∈l,e.oneCell'=true)(U:j+d<=maxLen)(X:(j+d)*bytes<=140737488355328)(V:base<=w.heap.size)(S:∀m h,h.ownsRow base n size m (j+d) (AZ l (j+d))->w.grownBy h A.ownBlock->(∀i,m.ownBlock=some i->A.ownBlock=some i\/w.heap.size<=i) ->
     (∀e c,c<=j+d->w.ownsRow base n size e c (AZ l c)->h.ownsRow base n size e c (AZ l c))->wpList P ad R rest (a.put o.dst m) h): wpList P ad R (o::rest) a w:=by
 have L:(AZ l d).length=d*size:=by rw[Fs,Y]
 have T:∀e∈AZ l d,e.oneCell'=true:=λe v=>ae e (zMm v);rw[GV]at S
 suffices N:∃m h,(Builtin.append_ #[t,t] o.type #[A,.slice (some B) d D]).run P w=.ok m h/\h.ownsRow base n size m (j+d) (AZ l j++AZ l d)/\w.grownBy h A.ownBlock/\(∀i,m.ownBlock=some i->A.ownBlock=some i\/w.heap.size<=i)/\(∀e c,c<=j+d->w.ownsRow base n size e c (AZ l c)->h.ownsRow base n size e c (AZ l c)) by
  obtain⟨m,h,u,r,k,an,ao⟩:=N;refine wpList_plain ah λK af=>?_;unfold Oper.wp;simp[execOp,aj,resolve,invoke,builtin,ak,am,u,Result.andThen];exact af _ _ (S m h r k an ao)
 rcases C.2 with ⟨rfl,rfl⟩ | ⟨g,H,ap,rfl,aq,ag,av,ar,au,al⟩
 ·obtain⟨m,h,u,r,k,_,F⟩:=run_append_own_at (P:=P) w base t o.type n z G size bytes Q J aa O W ab Z (.slice none 0 0) 0 _ C B d D _ L M T U X V;refine⟨m,h,u,r,k,λi q=>?_,λe c _ v=>Pb k v (λi _ I=>by cases I)⟩;rcases F with F | F
  ·left;rw[<-F,q]
  rw[F]at q;cases q;exact .inr (ir _)
 by_cases N:j+d<=H
 ·obtain⟨h,u,r,k⟩:=run_append_fits (P:=P) w base t o.type n z size Q J O g j H _ C B d D _ L M T N;exact⟨_,h,u,r,k,λi q=>.inl q,λe c E v=>VX Y (by rw[GV];exact r) k C E v⟩
 obtain⟨m,h,u,r,k⟩:=run_append_arg_grows (P:=P) w t o.type n z G size bytes Q J aa O W ab Z ⟨g,0,none⟩ j H _ C.1 (λc e E=>by
    have ai:c<j*size:=by have:=(iq.1 E).1;rw[C.1]at this;exact this
    rw[kl,ja];rw[<-al,iW,ij ai]at E;simp only[World.cell?,ag]
    simpa using E) B d D _ L M (by omega) U X
 exact⟨m,h,u,EQ r V,⟨k.os,k.tape,k.output,k.size,λi q _=>k.block i q (by simp)⟩,λi q=>.inr (r.lt i q).1,λe c _ v=>Pb k v (λi _ I=>by cases I)⟩
def Cc(bv:Value)(L:List Value)(i:Nat): Prop:=bv.ownBlock=some i\/∃v,v∈L/\v.ownBlock=some i
structure dO (w:World) (base T S size:Nat) (el:Int->List Value) (bv:Value) (L:List Value):Prop where
 row:w.ownsRow base T 1 bv L.length L
 full:∀i v,L[i]?=some v->∃n,w.ownsRow base S size v n (AZ (el (77+(i/4:Nat))) n)
 ap:∀v,v∈L->∀i,v.ownBlock=some i->bv.ownBlock≠some i
theorem dO.keeps{M:Nat->Prop}{w w':World}{base T h size:Nat}{i:Int->List Value}{d:Value}{c:List Value}(e:dO w base T h size i d c)(j:aA M w w')(k:∀a,Cc d c a->¬M a): dO w' base T h size i d c :=
 ⟨An e.row j (λa o=>k a (.inl o)),λa m l=>by
    obtain⟨s,n⟩:=e.full a m l
    exact⟨s,An n j (λr q=>k r (.inr ⟨m,iz l,q⟩))⟩,e.ap⟩
theorem dO.lt{w:World}{base T e size:Nat}{h:Int->List Value}{c:Value}{a:List Value}(d:dO w base T e size h c a)(i:Nat)(hi:Cc c a i): base<=i/\i<w.heap.size:=by
 rcases hi with hi | ⟨n,l,hi⟩
 ·exact d.row.lt i hi
 obtain⟨m,k⟩:=List.mem_iff_getElem?.1 l;obtain⟨o,j⟩:=d.full m n k;exact j.lt i hi
theorem dO.four{M:Nat->Prop}{w w':World}{base T i size m:Nat}{k:Int->List Value}{n j:Value}{d:List Value}{l:List Value}(o:dO w base T i size k n d)(A:d.length=4*m)(u:l.length=4)(t:aA M w w')(v:∀a,a∈d->∀c,a.ownBlock=some c->¬M c)(x:w'.ownsRow base T 1 j (d.length+4) (d++l))(s:∀a,a∈l->∃h,w'.ownsRow base i size a h (AZ (k (77+(m:Nat))) h))(r:∀a,a∈d++l->∀c,a.ownBlock=some c->j.ownBlock≠some c): dO w' base T i size k j (d++l):=by
 refine⟨by rw[ic,u];exact x,λc a e=>?_,r⟩;rw[List.getElem?_append]at e;split at e
 ·obtain⟨h,q⟩:=o.full c a e;exact⟨h,An q t (v a (iz e))⟩
 have z:=(iq.1 e).1;rw[show c/4=m by omega];exact s a (iz e)
theorem zN9(a:List Value){n i j:Nat}{u:Value}(hi:i<n)(c:a[j]?=some u): (AZ a n)[i*a.length+j]?=some u:=by
 have e:=(iq.1 c).1;obtain⟨d,rfl⟩:∃d,n=i+(1+d):=⟨n-i-1,by omega⟩;rw[GV,iO (by rw[Fs];omega),Fs,kH,GV,iN (by rw[Fs];omega)];simpa[AZ] using c
theorem Gw{w:World}{base T size g n cap:Nat}{e:List Value}(d:w.ownsRow base T size (σ g n cap) n e){i:Nat}{u:Value}(c:e[i]?=some u): w.cell? ⟨g,i,none⟩=some u:=by
 rcases d.2 with ⟨a,_⟩ | ⟨o,l,m,a,q,h,r,s,t,j⟩
 ·cases a
 cases a;have k:i<n*size:=by have:=(iq.1 c).1;have:=d.1;omega
 rw[<-j,iW,ij k]at c;simp only[World.cell?,h];simpa using c
theorem YJ(c:Value)(k:Nat)(x:Value)(a:List Value): (AZ [c] k++x::a).set k c=AZ [c] (k+1)++a:=by
 have d:(AZ [c] k).length=k:=by rw[Fs];simp
 rw[jU _ _ (by omega),d,j9,GV];simp[AZ]
theorem Yo(a b c:Value)(k:Nat)(x y h:Value)(d:List Value): (((AZ [a,b,c] k++x::y::h::d).set (k*3) a).set (k*3+1) b).set (k*3+2) c=AZ [a,b,c] (k+1)++d:=by
 have e:(AZ [a,b,c] k).length=k*3:=by rw[Fs];simp
 rw[jU _ _ (by omega),jU _ _ (by omega),jU _ _ (by omega),e,j9,kH,kH,GV];simp[AZ]
theorem QH{w W4 W5:World}{O:Obj}{base T s size P j gg n cap f:Nat}{C:TypeId}{t:Int->List Value}{k lv:Value}{o l cs:List Value}(D:aD w j cs C)(m:dO w base T s size t k o)(W:o.length=4*P)(U:l.length=4)(q:aA (λa=>lv.ownBlock=some a) w W4)(F:∀d,d∈l->∃n,W4.ownsRow base s size d n (AZ (t (77+(P:Nat))) n))(G:∀d,d∈l->∀a,d.ownBlock=some a->lv.ownBlock=some a\/w.heap.size<=a)(B:¬Cc k o j)(H:lv.ownBlock≠some j)(E:∀a,lv.ownBlock=some a->¬Cc k o a)(V:W5.ownsRow base T 1 (σ gg n cap) (o.length+4) (o++l))(S:(W4.alloc O).grownBy W5 k.ownBlock)(i:k.ownBlock=some gg\/gg=W4.heap.size+1){r:World}(Q:r=W5.setCell ⟨j,f,none⟩ (σ gg n cap)):
  aD r j (cs.set f (σ gg n cap)) C/\dO r base T s size t (σ gg n cap) (o++l)/\aA (λa=>a=j\/k.ownBlock=some a\/lv.ownBlock=some a) w r/\∀a,Cc (σ gg n cap) (o++l) a->Cc k o a\/lv.ownBlock=some a\/w.heap.size<=a:=by
 subst Q;have Z:=q.size;have Y:=D.lt;have R:∀a,k.ownBlock=some a->a<w.heap.size:=λa c=>(m.row.lt a c).2;have L:aA (λa=>k.ownBlock=some a) W4 W5:=((aA.refl (λa=>k.ownBlock=some a) W4).alloc O).grown S (λaa q=>.inl q);have M:aA (λa=>a=j) W5 (W5.setCell ⟨j,f,none⟩ (σ gg n cap)):=(aA.refl (λa=>a=j) W5).setCell (.inl rfl) _;have X:gg≠j:=λh=>by
  rcases i with i | i
  ·exact B (.inl (by rw[i,h]))
  omega
 have J:=(L.mono (M':=λa=>k.ownBlock=some a\/a=j) (λ_ _ m=>.inl m)).trans M (λa c _=>.inr c);have N:aA (λa=>a=j\/k.ownBlock=some a\/lv.ownBlock=some a) w (W5.setCell ⟨j,f,none⟩ (σ gg n cap)) :=
  (q.mono (M':=λa=>a=j\/k.ownBlock=some a\/lv.ownBlock=some a) (λ_ _ m=>.inr (.inr m))).trans J (λa c _=>c.elim (λm=>.inr (.inl m)) .inl)
 have v:∀d,d∈l->∀a,d.ownBlock=some a->k.ownBlock≠some a/\a≠j:=λd e a c=>by
  rcases G d e a c with u | u
  ·exact⟨λh=>E a u (.inl h),λh=>H (by rw[u,h])⟩
  exact⟨λh=>by have:=R a h;omega,by omega⟩
 refine⟨((D.keeps q H).keeps L (λh=>B (.inl h))).setCell f _,m.four W U N (λd e a c z=>?_) (An V M (λa c h=>?_)) (λd e=>?_) (λd e a c h=>?_),N,λa c=>?_⟩
 ·rcases z with h | h | h
  ·exact B (.inr ⟨d,e,by rw[c,h]⟩)
  ·exact m.ap d e a c h
  exact E a h (.inr ⟨d,e,c⟩)
 ·have:gg=a:=by simpa[Value.ownBlock] using c
  omega
 ·obtain⟨I,A⟩:=F d e;exact⟨I,An A J (λa c z=>z.elim (v d e a c).1 (v d e a c).2)⟩
 ·have x:gg=a:=by simpa[Value.ownBlock] using h
  subst x;rcases ik.1 e with e | e
  ·rcases i with i | i
   ·exact m.ap d e gg c i
   have:=(m.lt gg (.inr ⟨d,e,c⟩)).2;omega
  rcases i with i | i
  ·exact(v d e gg c).1 i
  obtain⟨I,A⟩:=F d e;have:=(A.lt gg c).2;omega
 rcases c with c | ⟨d,e,c⟩
 ·have x:gg=a:=by simpa[Value.ownBlock] using c
  subst x;rcases i with i | i
  ·exact .inl (.inl i)
  exact .inr (.inr (by omega))
 rcases ik.1 e with e | e
 ·exact .inl (.inr ⟨d,e,c⟩)
 exact .inr (G d e a c)
structure bA where
 t:Int
 k:Int
 d:Int
 n:Int
 tick:Int
structure dU where
 t:Int
 m:Int
 fE:Bool
 throw:Int
structure aG where
 id:Int
 c:Cfg
 items:List bA
 events:List dU
 ref:List Int
structure cV where
 clock:Int
 aC:Int
 xs:List aG
def Aq(l:List bA): List Int:=(l.filter (λz=>z.tick==0)).map (·.t)
def Bb(l:List bA): List Int:=(l.filter (λz=>!(z.tick==0))).map (·.t)
def Aj(l:List bA)(i:Nat): bA:=l.getD i ⟨0,0,0,0,0⟩
def FT(c:Cfg)(a:Int): Int:=if (c.kind==4||c.kind==5)&&Ab a 0 4611686018427387904 then As (Am c a) else 1
def He(c:Cfg): Bool:=c.kind==2||(c.kind==3||c.kind==5)
def Cp(y:aG)(clock:Int)(o:aO): Int :=
 if Ab o.a 0 4611686018427387904 then
  if o.a<=clock-y.c.aL then 6
  else if clock<o.a-y.c.bF then 7
  else if FT y.c o.a=0 then 8
  else if He y.c&&!Ab o.b 0 2147483648 then 10
  else if y.c.kind==5&&!Ab o.c 1 2147483648 then 9
  else if y.c.cap<=(Aq y.items).length then 11 else 0
 else 5
def E4(all:List bA)(mark:Int): List bA->Nat->Int->Int
 | [],_,k=>k
 | x::r,i,k=>E4 all mark r (i+1) (if x.tick=0/\x.t<=mark/\(k<0\/x.t<(Aj all k.toNat).t) then(i:Int) else k)
def C3(all:List bA)(mark:Int): Int:=E4 all mark all 0 (-1)
def Bf(l:List bA)(i:Nat)(aC:Int): List bA:=l.set i { Aj l i with tick:=aC }
def BX: Nat->aG->Int->Int->aG
 | 0,y,_,_=>y
 | f+1,y,mark,aC=>if C3 y.items mark<0 then y
  else BX f { y with items:=Bf y.items (C3 y.items mark).toNat aC,events:=y.events++[⟨(Aj y.items (C3 y.items mark).toNat).t,mark,false,0⟩] } mark aC
def Bl(clock aC:Int)(y:aG): aG:=BX (y.items.length+1) y (clock-y.c.aL) aC
def FU(c:Cfg)(l:List Bk)(e:dU): List Bk:=if e.fE then l.drop e.throw.toNat else C7 c l e.t e.m
def A5(c:Cfg)(eR:List dU): List Bk:=eR.foldl (FU c) []
structure fV (c:Cfg) (eR:List dU):Prop where
 hQ:∀(i:Nat) e,eR[i]?=some e->e.fE=true->0<=e.throw/\e.throw<=(A5 c (eR.take i)).length
 mark:∀e,e∈eR->-100<=e.m/\e.m<=4611686018427387904
def TS(q:List Bk): Prop:=∀i j,i<=j->j<q.length->(Ad q i).t<=(Ad q j).t
structure eD (clock:Int) (y:aG):Prop where
 ok:fV y.c y.events
 ts:TS (A5 y.c y.events)
 le:∀b,b∈A5 y.c y.events->b.t<=clock-y.c.aL
 wt:∀t,t∈Aq y.items->clock-y.c.aL<t
def Cb(clock:Int)(y:aG): Int:=pastN (A5 y.c y.events) (clock-y.c.aL-y.c.aB)
def F9(clock b:Int)(y:aG): aG:={ y with events:=y.events++[⟨0,0,true,min (Cb clock y) b⟩] }
def BA(clock aC:Int): Int->List aG->List aG×Int
 | _,[]=>([],0)
 | b,y::ys=>if y.c.kind=1 then
   (F9 clock b (Bl clock aC y)::(BA clock aC (b-min (Cb clock (Bl clock aC y)) b) ys).1,
      Cb clock (Bl clock aC y)-min (Cb clock (Bl clock aC y)) b+(BA clock aC (b-min (Cb clock (Bl clock aC y)) b) ys).2)
  else(Bl clock aC y::(BA clock aC b ys).1,(BA clock aC b ys).2)
def Do: List aG->Int->aG->List aG
 | [],_,_=>[]
 | x::r,id,y=>if x.id==id then y::r else x::Do r id y
def EI(xs:List aG)(id:Int): Option aG:=xs.find? (λx=>x.id==id)
def CP(id:Int)(c:Cfg): aG:=⟨id,c,[],[],List.replicate 15 0⟩
def Hs(x:aG)(c:Nat): aG:={ x with ref:=x.ref.set c (Ac x.ref c+1) }
def Fh(x:aG)(o:aO): aG:={ x with items:=x.items++[⟨o.a,o.b,o.c,x.items.length+1,0⟩] }
def CU(s:cV)(o:aO): cV×Int×List Int :=
 if Ab o.id 0 99=true/\(EI s.xs o.id).isNone=true then
  if Ak o.cfg=true then(if s.xs.length=6 then(s,4,[]) else(⟨s.clock,s.aC,s.xs++[CP o.id o.cfg]⟩,0,[])) else(s,3,[])
 else(s,2,[])
def Fi(s:cV)(o:aO): cV×Int×List Int :=
 match EI s.xs o.id with
 | none=>(s,2,[])
 | some y=>if Cp y s.clock o=0 then(⟨s.clock,s.aC,Do s.xs o.id (Fh y o)⟩,0,[(y.items.length:Int)+1])
  else(⟨s.clock,s.aC,Do s.xs o.id (Hs y (Cp y s.clock o).toNat)⟩,Cp y s.clock o,[])
def Ix(s:cV)(o:aO): cV×Int×List Int :=
 if Ab o.a 0 4611686018427387904=true then
  if Ab o.b 0 100=true then(⟨Av s.clock o.a,s.aC+1,(BA (Av s.clock o.a) (s.aC+1) o.b s.xs).1⟩,0,[(BA (Av s.clock o.a) (s.aC+1) o.b s.xs).2]) else(s,12,[])
 else(s,5,[])
def BP(s:cV)(o:aO): cV×Int×List Int :=
 if o.kind=1 then CU s o else if o.kind=2 then Fi s o else if o.kind=3 then Ix s o else(s,1,[])
def Dc(c:Cfg): List bA->Int->Int->Int×Int
 | [],hi,lo=>(hi,lo)
 | z::r,hi,lo=>if 0<z.tick then Dc c r (hi+As (Am c z.t)/2305843009213693952+(lo+As (Am c z.t)%2305843009213693952)/2305843009213693952) ((lo+As (Am c z.t)%2305843009213693952)%2305843009213693952) else Dc c r hi lo
def Ld(s:cV)(o:aO): Int×List Int :=
 match EI s.xs o.id with
 | none=>(2,[])
 | some y=>(0,(y.items.length:Int)::((y.items.length:Int)-(Aq y.items).length)::AE.map (Ac y.ref))
def Hw(s:cV)(o:aO): Int×List Int:=if o.kind=5 then Ld s o else(BP s o).2
def EO(s:cV)(o:aO): cV:=if o.kind=4\/o.kind=5 then s else(BP s o).1
def Br: cV:=⟨0,0,[]⟩
def Dy(f:Int->Int): List Int->Int
 | []=>0
 | a::l=>f a+Dy f l
theorem Ud(f:Int->Int)(a b:List Int): Dy f (a++b)=Dy f a+Dy f b:=by
 induction a with
 | nil=>simp[Dy]
 | cons d a c=>simp only[θ,Dy,c];omega
theorem P9(f:Int->Int){a b:List Int}(c:a.Perm b): Dy f a=Dy f b:=by
 induction c with
 | nil=>rfl
 | cons e _ d=>simp only[Dy,d]
 | swap e y l=>simp only[Dy];omega
 | trans _ _ h1 h2=>exact h1.trans h2
def BG(m aC:Int)(z:bA): bA:=if z.tick=0/\z.t<=m then { z with tick:=aC } else z
theorem Wv(m aC:Int)(n:aC≠0)(l:List bA): Aq (l.map (BG m aC))=(Aq l).filter (λj=>decide (m<j)):=by
 induction l with
 | nil=>rfl
 | cons a l o =>
  have i:(List.filter (λa=>a.tick==0) (l.map (BG m aC))).map (·.t)=(Aq l).filter (λj=>decide (m<j)):=o;unfold Aq;rw[iF,iY];by_cases c:a.tick=0
  ·by_cases k:a.t<=m
   ·have:BG m aC a={ a with tick:=aC }:=by unfold BG;rw[ij ⟨c,k⟩]
    rw[this,iY];have e:(aC==0)=false:=by simpa using n
    have h:decide (m<a.t)=false:=by simp;omega
    simp only[e,c,beq_self_eq_true,lQ,iF,iY,h,Bool.false_eq_true,if_false];exact i
   have:BG m aC a=a:=by unfold BG;rw[ig (λd=>k d.2)]
   rw[this,iY];have h:decide (m<a.t)=true:=by simp;omega
   simp only[c,beq_self_eq_true,lQ,iF,iY,h];rw[i];rfl
  have:BG m aC a=a:=by unfold BG;rw[ig (λd=>c d.1)]
  have e:(a.tick==0)=false:=by simpa using c
  rw[this,iY];simp only[e,Bool.false_eq_true,if_false];exact i
theorem WH(m aC:Int)(n:aC≠0)(l:List bA): (Bb (l.map (BG m aC))).Perm (Bb l++(Aq l).filter (λo=>decide (o<=m))):=by
 induction l with
 | nil=>exact jj _
 | cons a l k =>
  by_cases c:a.tick=0
  ·have h:Bb (a::l)=Bb l:=by unfold Bb;rw[iY];simp[c]
   have i:Aq (a::l)=a.t::Aq l:=by unfold Aq;rw[iY];simp[c]
   rw[h,i,iF,iY];by_cases e:a.t<=m
   ·have:BG m aC a={ a with tick:=aC }:=by unfold BG;rw[ij ⟨c,e⟩]
    have d:Bb (BG m aC a::l.map (BG m aC))=a.t::Bb (l.map (BG m aC)):=by
     rw[this];unfold Bb;rw[iY];simp[n]
    rw[d,ij (by simpa using e)];exact(List.Perm.cons _ k).trans lh.symm
   have:BG m aC a=a:=by unfold BG;rw[ig (λj=>e j.2)]
   have d:Bb (BG m aC a::l.map (BG m aC))=Bb (l.map (BG m aC)):=by
    rw[this];unfold Bb;rw[iY];simp[c]
   rw[d,ig (by simpa using e)];exact k
  have h:Bb (a::l)=a.t::Bb l:=by unfold Bb;rw[iY];simp[c]
  have i:Aq (a::l)=Aq l:=by unfold Aq;rw[iY];simp[c]
  have:BG m aC a=a:=by unfold BG;rw[ig (λj=>c j.1)]
  have d:Bb (BG m aC a::l.map (BG m aC))=a.t::Bb (l.map (BG m aC)):=by
   rw[this];unfold Bb;rw[iY];simp[c]
  rw[h,i,iF,d,θ];exact List.Perm.cons _ k
theorem EC(l:List bA): (Aq l).length+(Bb l).length=l.length:=by
 induction l with
 | nil=>rfl
 | cons c l a =>
  unfold Aq Bb at *
  rw[iY,iY];cases (c.tick==0) <;> simp at a ⊢ <;> omega
theorem Cv(l:List bA)(j:Nat)(a:j<l.length): Aj l j=l[j]:=by
 unfold Aj;rw[γ,h9 a];rfl
def JQ(all:List bA)(mark:Int)(k:Int): Prop:=(0<=k/\k.toNat<all.length/\(Aj all k.toNat).tick=0/\(Aj all k.toNat).t<=mark)
theorem WX(all:List bA)(mark:Int)(l:List bA): ∀(i:Nat) (k:Int),l=all.drop i->(k=-1\/JQ all mark k)->(k=-1->∀a,a<i->a<all.length->(Aj all a).tick=0->mark<(Aj all a).t) ->
  (E4 all mark l i k=-1/\∀a,a<all.length->(Aj all a).tick=0->mark<(Aj all a).t)\/JQ all mark (E4 all mark l i k):=by
 induction l with
 | nil =>
  intro i k e c j;have hlen:all.length<=i:=by
   have:=congrArg List.length e;simp at this;omega
  unfold E4;rcases c with c | c
  ·exact .inl ⟨c,λa r=>j c a (by omega) r⟩
  exact .inr c
 | cons h z t =>
  intro i k e c j;have m:i<all.length:=by
   have:=congrArg List.length e;simp at this;omega
  rw[δ m]at e;injection e with x s;have o:Aj all i=h:=by rw[Cv _ _ m,x]
  unfold E4;by_cases d:h.tick=0/\h.t<=mark/\(k<0\/h.t<(Aj all k.toNat).t)
  ·rw[ij d];refine t (i+1) i s (.inr ⟨by omega,by simpa using m,?_,?_⟩) (λq=>by omega)
   ·rw[iM,o];exact d.1
   rw[iM,o];exact d.2.1
  rw[ig d];refine t (i+1) k s c (λq a r v n=>?_);by_cases w:a=i
  ·subst w;rw[o]at n ⊢;by_cases u:h.t<=mark
   ·exact absurd ⟨n,u,.inl (by omega)⟩ d
   omega
  exact j q a (by omega) v n
theorem Ic(all:List bA)(mark:Int): (C3 all mark=-1/\∀c,c∈all->c.tick=0->mark<c.t)\/JQ all mark (C3 all mark):=by
 rcases WX all mark all 0 (-1) rfl (.inl rfl) (λ_ e a=>absurd a (by omega)) with ⟨d,h⟩ | d
 ·refine .inl ⟨d,λc j i=>?_⟩;obtain⟨e,a,rfl⟩:=jX.1 j;have:=h e a;rw[Cv _ _ a]at this;exact this i
 exact .inr d
theorem Y7(mark aC:Int)(all:List bA)(c:∀a,a∈all->a.tick=0->mark<a.t): all.map (BG mark aC)=all:=by
 conv=>rhs;rw[<-List.map_id all]
 refine jT λa e=>?_;unfold BG;rw[ig (λd=>by have:=c a e d.1;omega)];rfl
theorem zKd(mark aC:Int)(l:aC≠0)(all:List bA)(k:Nat)(c:k<all.length)(i:(Aj all k).tick=0)(j:(Aj all k).t<=mark): (Bf all k aC).map (BG mark aC)=all.map (BG mark aC):=by
 unfold Bf;rw[kO];have d:BG mark aC (Aj all k)={ Aj all k with tick:=aC }:=by unfold BG;rw[ij ⟨i,j⟩]
 have e:BG mark aC { Aj all k with tick:=aC }={ Aj all k with tick:=aC }:=by unfold BG;rw[ig (λh=>l h.1)]
 rw[e,<-d,Cv _ _ c];apply ke;intro m;rw[jI];by_cases a:k=m
 ·subst a;simp[c]
 rw[ig a]
theorem Is(aC:Int)(d:aC≠0)(all:List bA)(k:Nat)(a:k<all.length)(c:(Aj all k).tick=0): (Aq (Bf all k aC)).length+1=(Aq all).length:=by
 unfold Bf Aq;rw[Cv _ _ a]at c ⊢;rw[List.set_eq_take_append_cons_drop,ij a]
 conv=>rhs;rw[<-τ k all,δ a]
 rw[jo,jo,iY,iY];simp[d,c];omega
theorem L0(mark aC:Int)(d:aC≠0)(f:Nat): ∀y:aG,(Aq y.items).length<f ->
  (BX f y mark aC).items=y.items.map (BG mark aC)/\(BX f y mark aC).id=y.id/\(BX f y mark aC).c=y.c/\(BX f y mark aC).ref=y.ref:=by
 induction f with
 | zero=>intro y e;omega
 | succ f n =>
  intro y q;unfold BX;rcases Ic y.items mark with ⟨e,i⟩ | ⟨o,a,c,h⟩
  ·rw[ij (by omega)];exact⟨(Y7 mark aC _ i).symm,rfl,rfl,rfl⟩
  rw[ig (by omega)];have r:=Is aC d y.items _ a c;obtain⟨j,k,l,m⟩:=n { y with items:=Bf y.items (C3 y.items mark).toNat aC,events:=y.events++[⟨(Aj y.items (C3 y.items mark).toNat).t,mark,false,0⟩] } (by show(Aq (Bf _ _ _)).length<f;omega);exact⟨j.trans (zKd mark aC d _ _ a c h),k,l,m⟩
def bA.cells(z:bA): List Value:=[ι z.t,ι z.k,ι z.d,ι z.n,ι z.tick]
def dU.cells(z:dU): List Value:=[ι z.t,ι z.m,.bool z.fE,ι z.throw]
def C4(l:List bA): List Value:=l.flatMap bA.cells
def Da(l:List dU): List Value:=l.flatMap dU.cells
theorem Uf{α:Type}(f:α->List Value)(d:Nat)(c:∀x,(f x).length=d)(l:List α)(i j:Nat)(x:α)(a:l[i]?=some x)(k:j<d): (l.flatMap f)[i*d+j]?=(f x)[j]?:=by
 induction l generalizing i with
 | nil=>simp at a
 | cons h l e =>
  rw[jz];cases i with
  | zero =>
   simp at a;subst a;rw[iN (by rw[c];omega)];congr 1;omega
  | succ i =>
   rw[iO (by rw[c];rw[lO];omega),c];have:=e i (by simpa using a);rw[<-this];congr 1;rw[lO];omega
theorem UI{α:Type}(f:α->List Value)(a:Nat)(c:∀e,(f e).length=a)(l:List α): (l.flatMap f).length=l.length*a:=by
 induction l with
 | nil=>simp
 | cons h l d=>rw[jz,ic,d,c,iD,lO];omega
theorem UO{α:Type}(f:α->List Value)(d:Nat)(c:∀x,(f x).length=d)(l:List α)(i j:Nat)(x y:α)(a:l[i]?=some x)(u:Value)(m:j<d)(e:f y=(f x).set j u): (l.flatMap f).set (i*d+j) u=(l.set i y).flatMap f:=by
 induction l generalizing i with
 | nil=>simp at a
 | cons k l h =>
  rw[jz];cases i with
  | zero =>
   simp at a;subst a;rw[List.set_append_left _ _ (by rw[c];omega),List.set_cons_zero,jz,e];congr 2;omega
  | succ i =>
   rw[jU _ _ (by rw[c,lO];omega),c,List.set_cons_succ,jz];have:=h i (by simpa using a);rw[<-this];congr 2;rw[lO];omega
theorem C8(l:List bA)(i j:Nat)(hi:i<l.length)(a:j<5): (C4 l)[i*5+j]?=(Aj l i).cells[j]? :=
 Uf bA.cells 5 (λ_=>rfl) l i j _ (by rw[Cv _ _ hi];exact h9 hi) a
theorem V7(l:List bA)(i:Nat)(hi:i<l.length)(aC:Int): (C4 l).set (i*5+4) (ι aC)=C4 (Bf l i aC) :=
 UO bA.cells 5 (λ_=>rfl) l i 4 (Aj l i) _ (by rw[Cv _ _ hi];exact h9 hi) _ (by omega) rfl
theorem DZ{w:World}{base T o:Nat}{v:Value}{n:Nat}{q:List Value}(k:w.ownsRow base T o v n q):
  ∃d h,v=.slice d n h/\(∀g,d=some g->g=⟨g.block,0,none⟩)/\(0<n->∃g,d=some ⟨g,0,none⟩)/\∀g,d=some ⟨g,0,none⟩->(∀a e,q[a]?=some e->w.cell? ⟨g,a,none⟩=some e)/\∀a,w.frozen? ⟨g,a,none⟩=false:=by
 rcases k.2 with ⟨i,l⟩ | ⟨g,h,r,i,l,m,x,z,A,t⟩
 ·exact⟨none,0,by rw[i,l],λg c=>by(cases c),λB=>by omega,λg c=>by(cases c)⟩
 refine⟨some ⟨g,0,none⟩,h,i,λs c=>by cases c;rfl,λ_=>⟨g,rfl⟩,λs c=>?_⟩;cases c;refine⟨λa e j=>?_,λa=>by simp[World.frozen?,m]⟩;have u:a<n*o:=by have:=(iq.1 j).1;have:=k.1;omega
 have:r[a]?=some e:=by
  rw[<-t,iW,ij u]at j;simpa using j
 simp[World.cell?,m,this]
theorem Gy{w:World}{base T d g n cap:Nat}{e:List Value}(c:w.ownsRow base T d (σ g n cap) n e)(i:Nat)(u:Value):
  (w.setCell ⟨g,i,none⟩ u).ownsRow base T d (σ g n cap) n (e.set i u):=by
 refine⟨by rw[jw];exact c.1,?_⟩;rcases c.2 with ⟨a,_⟩ | ⟨s,r,h,a,j,k,l,m,o,q⟩
 ·cases a
 cases a;refine .inr ⟨g,cap,h.set! i u,rfl,j,?_,l,m,by simp[o],?_⟩
 ·simp[World.setCell,Array.getElem?_modify,k]
 rw[<-q];simp[List.take_set]
structure RB where
 s:Nat
 iv:Value
 ev:Value
def RB.aQ(b:RB)(i:Nat): Prop:=i=b.s\/b.iv.ownBlock=some i\/b.ev.ownBlock=some i
def CB(b:RB)(y:aG): List Value:=ι y.id::y.c.eC (b.iv::b.ev::y.ref.map (ι ·))
structure bN (w:World) (b:RB) (y:aG):Prop where
 aF:aD w b.s (CB b y) 113
 bC:w.ownsRow 0 150 5 b.iv y.items.length (C4 y.items)
 eR:w.ownsRow 0 155 4 b.ev y.events.length (Da y.events)
 si:b.iv.ownBlock≠some b.s
 se:b.ev.ownBlock≠some b.s
 ie:∀i,b.iv.ownBlock=some i->b.ev.ownBlock≠some i
theorem bN.keeps{M:Nat->Prop}{w w':World}{b:RB}{y:aG}(a:bN w b y)(e:aA M w w')(h:∀c,b.aQ c->¬M c): bN w' b y :=
 ⟨a.aF.keeps e (h _ (.inl rfl)),An a.bC e (λc d=>h c (.inr (.inl d))),An a.eR e (λc d=>h c (.inr (.inr d))),a.si,a.se,a.ie⟩
theorem bN.still{w w':World}{b:RB}{y:aG}(a:bN w b y)(c:lX w w'): bN w' b y:=a.keeps c (λ_ _ a=>a)
theorem bN.lt{w:World}{b:RB}{y:aG}(a:bN w b y)(i:Nat)(hi:b.aQ i): i<w.heap.size:=by
 rcases hi with hi | hi | hi
 ·subst hi;exact a.aF.lt
 ·exact(a.bC.lt i hi).2
 exact(a.eR.lt i hi).2
structure dZ (n:Int) (y:aG):Prop where
 valid:Ak y.c=true
 items:(y.items.length:Int)<=n
 events:(y.events.length:Int)<=(Bb y.items).length+n
 refl:y.ref.length=15
 cN:∀v,v∈y.ref->0<=v/\v<=n
 times:∀z,z∈y.items->0<=z.t/\z.t<=4611686018427387904
theorem dZ.common{n:Int}{y:aG}(a:dZ n y): 0<=y.c.aL/\y.c.aL<=100/\0<=y.c.bF/\y.c.bF<=100/\1<=y.c.cap/\y.c.cap<=8:=by
 obtain⟨i,h,d,e,c,_⟩:=F2 a.valid;simp only[B5,Ab,iQ,iP]at c;omega
def E6(ps:List (RB×aG)): List Value:=ps.map λp=>π p.1.s
structure aZ (w:World) (e:Nat) (v:Value) (clock aC:Int) (ps:List (RB×aG)):Prop where
 aF:aD w e [ι clock,ι aC,v] 105
 row:w.ownsRow 0 106 1 v ps.length (E6 ps)
 bM:∀p,p∈ps->bN w p.1 p.2
 apart:ps.Pairwise (λp q=>∀i,p.1.aQ i->¬q.1.aQ i)
 ev:v.ownBlock≠some e
 ef:∀p,p∈ps->∀i,p.1.aQ i->i≠e/\v.ownBlock≠some i
def bH(e:Nat)(v:Value)(ps:List (RB×aG))(i:Nat): Prop:=i=e\/v.ownBlock=some i\/∃p,p∈ps/\p.1.aQ i
theorem aZ.lt{w:World}{e:Nat}{v:Value}{clock aC:Int}{ps:List (RB×aG)}(a:aZ w e v clock aC ps)(i:Nat)(hi:bH e v ps i): i<w.heap.size:=by
 rcases hi with hi | hi | ⟨p,c,hi⟩
 ·subst hi;exact a.aF.lt
 ·exact(a.row.lt i hi).2
 exact(a.bM p c).lt i hi
theorem aZ.keeps{M:Nat->Prop}{w w':World}{e:Nat}{v:Value}{clock aC:Int}{ps:List (RB×aG)}(a:aZ w e v clock aC ps)(h:aA M w w')(i:∀c,bH e v ps c->¬M c): aZ w' e v clock aC ps :=
 ⟨a.aF.keeps h (i _ (.inl rfl)),An a.row h (λc d=>i c (.inr (.inl d))),λp j=>(a.bM p j).keeps h (λc d=>i c (.inr (.inr ⟨p,j,d⟩))),a.apart,a.ev,a.ef⟩
theorem aZ.still{w w':World}{e:Nat}{v:Value}{clock aC:Int}{ps:List (RB×aG)}(a:aZ w e v clock aC ps)(c:lX w w'): aZ w' e v clock aC ps:=a.keeps c (λ_ _ a=>a)
structure bZ (n:Int) (clock aC:Int) (xs:List aG):Prop where
 c0:0<=clock
 c1:clock<=4611686018427387904
 t0:0<=aC
 tn:aC<=n
 bX:xs.length<=6
 bD:∀x,x∈xs->dZ n x
 bL:∀y,y∈xs->y.c.kind=1->eD clock y
def BL(ps:List (RB×aG))(id:Int): Option (RB×aG):=ps.find? (λp=>p.2.id==id)
def Fy: Option (RB×aG)->Value
 | some p=>π p.1.s
 | none=>.pointer none
theorem Gm(e:Nat)(v:Value)(clock aC id:Int)(ps:List (RB×aG))(w:World)(i:aZ w e v clock aC ps)(J:ps.length<=1000):
  Calls prog 51 #[π e,ι id] w λz A=>z=.returned (Fy (BL ps id))/\A=w:=by
 have D:=i.aF.c2;obtain⟨B,C,rfl,-,o,q⟩:=DZ i.row;have u:=Aa q;have t:=Aa o;have x:=Aa (show ∀p,p∈ps->κ w p.1.s 0 (ι p.2.id) from λp c=>(i.bM p c).aF.cell rfl);clear i q o;generalize s:ps.length=k at *
 have h:=Aa s;clear s;go_enter func51,ntmps51;go_wp2;go_loop [5] (λn=>∃a:Nat,a<=k/\n=ι a/\Hid (BL ps id=BL (ps.drop a) id)) (λn=>k-(intOf n).toNat)
 case atStart=>exact⟨0,iT _,rfl,rfl⟩
 case round =>
  obtain⟨a,G,rfl,l⟩:=hrel;by_cases m:a<k
  ·obtain⟨p,c⟩:∃p,ps[a]?=some p:=⟨ps[a]'(by rw[h.o];exact m),h9 _⟩;have j:ps.drop a=p::ps.drop (a+1):=by
    rw[δ (by rw[h.o];exact m)];rw[h9 (by rw[h.o];exact m)]at c;cases c;rfl
   obtain⟨g,r⟩:=t.o (by omega);have E:κ w g a (π p.1.s):=(u.o g r).1 a _ (by unfold E6;rw[iS,c];rfl);subst r;have F:=x.o p (iz c);have H:(0:Int)<=(a:Int):=by omega
   have I:(a:Int)<(k:Int):=by omega
   cases hb:(p.2.id==id)
   ·have d:=Aa (show BL ps id=BL (ps.drop (a+1)) id by rw[l.o,j];unfold BL;rw[kP];rw[hb]);clear j c;go_wp2;go_round;case rel=>exact⟨a+1,by omega,by go_num,d⟩
    case measure=>simp[intOf];omega
   have d:=Aa (show BL ps id=some p by rw[l.o,j];unfold BL;rw[kP];rw[hb]);clear j c;go_wp2;go_ret;exact⟨by rw[d.o];rfl,rfl⟩
  have d:=Aa (show BL ps id=none by rw[l.o,iX (by rw[h.o];omega)];rfl);go_wp2;go_ret;exact⟨by rw[d.o];rfl,rfl⟩
theorem J0(e s:Nat)(a clock:Int)(w:World)(i:w.cell? ⟨e,0,none⟩=some (ι clock))(h:w.cell? ⟨s,2,none⟩=some (ι a))(j:0<=a)(k:a<=100)(c0:0<=clock)(c1:clock<=4611686018427387904):
  Calls prog 52 #[π e,π s] w λc d=>c=.returned (ι (clock-a))/\lX w d:=by
 go_enter func52,ntmps52;go_wp2_with fail
 go_region
 go_wp2;go_ret;exact⟨rfl,(aA.refl _ _).drew⟩
theorem V8(l:List bA)(k:Nat)(a:k<l.length): (Aq (l.take (k+1))).length=(Aq (l.take k)).length+(if (Aj l k).tick=0 then 1 else 0):=by
 rw[jm a,Cv _ _ a];unfold Aq;rw[jo,iB,ic];congr 1;by_cases c:l[k].tick=0 <;> simp[c]
theorem L3(b:RB)(y:aG)(w:World)(i:bN w b y)(N:y.items.length<=1152921504606846976):
  Calls prog 59 #[π b.s] w λE F=>E=.returned (ι (Aq y.items).length)/\F=w:=by
 have C:κ w b.s 21 b.iv:=i.aF.cell rfl;obtain⟨G,H,D,-,n,o⟩:=DZ i.bC;rw[D]at C;have x:=Aa o;have v:=Aa n;clear i o n;generalize t:y.items.length=d at *
 have h:=Aa t;clear t;generalize b.s=P at *
 go_enter func59,ntmps59;go_wp2;go_loop [3,4] (λB k=>∃a c:Nat,a<=d/\k=ι a/\B=ι c/\c<=a/\Hid ((Aq (y.items.take a)).length=c)) (λ_ k=>d-(intOf k).toNat)
 case atStart=>exact⟨0,0,iT _,rfl,rfl,ir _,rfl⟩
 case round =>
  obtain⟨a,c,L,rfl,rfl,O,l⟩:=hrel;by_cases s:a<d
  ·have j:=V8 y.items a (by rw[h.o];exact s);obtain⟨g,q⟩:=v.o (by omega);have J:κ w g (a*5+4) (ι (Aj y.items a).tick):=(x.o g q).1 _ _ (by rw[C8 _ _ _ (by rw[h.o];exact s) (by omega)];rfl);subst q;have M:(0:Int)<=(a:Int):=by omega
   have r:(a:Int)<(d:Int):=by omega
   rw[l.o]at j;have m:=Aa j;clear j;generalize(Aj y.items a).tick=u at *
   by_cases e:u=0
   ·subst e;go_wp2;go_round;case rel=>exact⟨a+1,c+1,by omega,by go_num,by go_num,by omega,by rw[m.o];rfl⟩
    case measure=>simp[intOf];omega
   have I:(u==0)=false:=by simpa using e
   have A:=Aa e;clear e;go_wp2;go_round;case rel=>exact⟨a+1,c,by omega,by go_num,rfl,by omega,by rw[m.o,ig A.o];rfl⟩
   case measure=>simp[intOf];omega
  have r:a=d:=by omega
  subst r;have z:=Aa (show(Aq y.items).length=c by rw[<-l.o,iw (by rw[h.o];exact ir _)]);go_wp2;go_ret;exact⟨by rw[z.o];rfl,rfl⟩
theorem zO1: (prog.info? 37).map (λa=>(a.zero,a.size,a.bytes))=some (some (.slice none 0 0),1,24):=by kernel_rfl
abbrev JM(w:World)(base:Nat)(nv:Value)(N:List Value): Prop:=dO w base 37 3 1 (λk=>[ι k]) nv N
theorem Kr{w:World}{base T size g n cap:Nat}{e:List Value}(c:w.ownsRow base T size (σ g n cap) n e)(i:Nat): w.frozen? ⟨g,i,none⟩=false:=by
 rcases c.2 with ⟨a,_⟩ | ⟨k,h,j,a,l,d,m,o,q,r⟩
 ·cases a
 cases a;simp[World.frozen?,d]
theorem Vb(base u j:Nat)(nv bd lv:Value)(q:List Value)(aI:List Int)(w:World)(V:aD w u [nv,bd] 31)(U:JM w base nv q)(W:q.length=4*j)(cl:j<=1303124892160)(E:w.ownsRow base 3 1 lv aI.length (ints aI))(ck:aI.length<=1000)(cf:base<=w.heap.size)(ap:¬Cc nv q u)(aq:lv.ownBlock≠some u)(ak:∀c,lv.ownBlock=some c->¬Cc nv q c):
  Calls prog 18 #[π u,lv] w λbv a4=>bv=.returned (.tuple #[])/\∃a3 ae,ae.length=4*(j+1)/\aD a4 u [a3,bd] 31/\JM a4 base a3 ae/\aA (λc=>c=u\/nv.ownBlock=some c\/lv.ownBlock=some c) w a4/\(∀c,Cc a3 ae c->Cc nv q c\/lv.ownBlock=some c\/w.heap.size<=c):=by
 obtain⟨a1,ao,ay,az,a0⟩:=jg Ey;obtain⟨b6,b0,b3,b4,b5⟩:=jg zO1;have bn:=Aa (λ(bb bc:World) (ba:Obj) (S d C:Nat) (a2:List Value) (E:a2.length=4) s hf hfr aw hg ai=>QH (f:=0) (W4:=bb) (W5:=bc) (O:=ba) (gg:=S) (n:=d) (cap:=C) (l:=a2) V U W E s hf hfr ap aq ak aw hg ai rfl);have br:=Aa U.row;obtain⟨aa,ab,rfl⟩:=BI U.row;obtain⟨h,i,rfl⟩:=Iv E;have a5:=Aa V;have ad:=Aa E;have a9:=Aa aq;have bq:=Aa ap;have bm:=Aa ak;have x:=Aa W;have c0:κ w u 0 (.slice aa (4*j) ab):=by rw[<-W];exact V.c0
 have bz:Int.tdiv ((4*j:Nat):Int) 4=(j:Int):=by rw[jd (by omega)];omega
 generalize bk:Value.slice h aI.length i=lv at *
 generalize bx:Value.slice aa q.length ab=bu at *
 generalize b2:aI.length=d at *
 have b9:=Aa bk;have cb:=Aa b2;have A:=Aa bx;clear V U E aq ap ak W;subst bk;go_enter func18,ntmps18;go_wp2_with fail
 generalize bl:(77+(j:Int))=e at *
 have ca:=Aa bl;clear bl bz c0;go_loopw [5] (λc wr=>∃a:Nat,a<=d/\c=ι a/\Hid (wr.ownsRow base 3 1 (.slice h d i) d (AZ [ι e] a++(ints aI).drop a))/\Hid (aA (λc=>(Value.slice h d i).ownBlock=some c) w wr)) (λc _=>d-(intOf c).toNat)
 case atStart=>exact⟨0,by omega,rfl,ad,aA.refl _ _⟩
 case round =>
  obtain⟨a,s,rfl,k,v⟩:=hrel;by_cases ch:a<d
  ·obtain⟨g,C,af,_,_⟩:=k.o.form (by omega);injection af with ag be ah;subst ag ah;obtain⟨M,N,ax⟩:∃M N,(ints aI).drop a=M::N:=by
    have hlen:((ints aI).drop a).length=d-a:=by rw[iU,ad.o.1];omega
    match hh:(ints aI).drop a with
    | []=>rw[hh]at hlen;simp at hlen;omega
    | M::N=>exact⟨M,N,rfl⟩
   have bt:=Aa ax;rw[ax]at k;have cc:κ wr g a M:=Gw k.o (by rw[iO (by rw[Fs];simp),Fs];simp);have ce:wr.frozen? ⟨g,a,none⟩=false:=Kr k.o a;have cg:(0:Int)<=(a:Int):=by omega
   have ci:(a:Int)<(d:Int):=by omega
   clear ax;go_wp2_with fail
   go_roundw;case rel =>
    refine⟨a+1,by omega,by go_num,?_,Aa (v.o.setCell (p:=⟨g,a,none⟩) (.inl rfl) _)⟩;have D:=Gy k.o a (ι e);rw[YJ]at D;have T:(ints aI).drop (a+1)=N:=by rw[<-List.drop_drop,bt.o];rfl
    rw[T];exact Aa D
   case measure=>simp[intOf];omega
  have b1:a=d:=by omega
  subst b1;have T:(ints aI).drop a=[]:=iX (by rw[ad.o.1];omega);rw[T,iC]at k;clear T;have b8:=Aa v.o.size
  go_wp2_with (at_builtin;first
     | (refine H0 _ rfl _ _ _ rfl base 3 a1 _ 1 8 underlying37 ao ay az a0 rfl (by omega) [ι e] rfl _ a rfl (k.o.alloc _) ⟨wr.heap.size,0,none⟩ 1 1 rfl (λH I F=>iJ (cs:=#[ι e]) (t:=3) (fr:=(0,0)) (iH wr _) H I F) (by simp[Value.oneCell']) (by unfold maxLen;omega) (by omega) (by have:=v.o.size;simp;omega) ?_;intro cn J ar al bf X;obtain⟨P,c1,rfl⟩:=BI ar;have cq:wr.heap.size<J.heap.size:=by have:=al.size;simp at this;omega)
     | (refine H0 _ rfl _ _ _ rfl base 3 a1 _ 1 8 underlying37 ao ay az a0 rfl (by omega) [ι e] rfl _ a rfl ((X _ _ (by omega) (k.o.alloc _)).alloc _) ⟨J.heap.size,0,none⟩ 2 2 rfl (λH I F=>iJ (cs:=#[ι e,ι e]) (t:=3) (fr:=(0,0)) (iH J _) H I F) (by simp[Value.oneCell']) (by unfold maxLen;omega) (by omega) (by have:=v.o.size;simp;omega) ?_;intro co L au am bg Y;obtain⟨Q,c2,rfl⟩:=BI au;have cr:J.heap.size<L.heap.size:=by have:=am.size;simp at this;omega)
     | (refine H0 _ rfl _ _ _ rfl base 3 a1 _ 1 8 underlying37 ao ay az a0 rfl (by omega) [ι e] rfl _ a rfl ((Y _ _ (by omega) ((X _ _ (by omega) (k.o.alloc _)).alloc _)).alloc _) ⟨L.heap.size,0,none⟩ 3 3 rfl (λH I F=>iJ (cs:=#[ι e,ι e,ι e]) (t:=3) (fr:=(0,0)) (iH L _) H I F) (by simp[Value.oneCell']) (by unfold maxLen;omega) (by omega) (by have:=v.o.size;simp;omega) ?_;intro cp o av an bh Z;obtain⟨R,c3,rfl⟩:=BI av
        have ct:L.heap.size<o.heap.size:=by have:=an.size;simp at this;omega
        have a6:=Aa (((aA.refl (λc=>(Value.slice h a i).ownBlock=some c) wr).alloc _).grown al (λa s=>.inl s));have a7:=Aa (((aA.refl (λc=>(Value.slice h a i).ownBlock=some c) J).alloc _).grown am (λa s=>.inl s));have a8:=Aa (((aA.refl (λc=>(Value.slice h a i).ownBlock=some c) L).alloc _).grown an (λa s=>.inl s));have B:=Aa (v.o.then (a6.o.then (a7.o.then a8.o)));have c0:κ o u 0 (.slice aa (4*j) ab):=by rw[<-x.o,A.o];exact B.o.cell a5.o.c0 a9.o
        have bs:=Aa (show o.ownsRow base 37 1 (.slice aa (4*j) ab) (4*j) q by
           have D:=An br.o B.o (λc r m=>bm.o c m (.inl r));rw[<-A.o,x.o]at D
           exact D)
        have bo:=Aa (show ∀z,z∈[Value.slice h a i,.slice P (a+1) c1,.slice Q (a+2) c2,.slice R (a+3) c3]->∃d,o.ownsRow base 3 1 z d (AZ [ι e] d) by
           intro z G;simp only[iA,ks,or_false]at G;rcases G with rfl | rfl | rfl | rfl
           ·exact⟨_,Z _ a (by omega) ((Y _ a (by omega) ((X _ a (by omega) (k.o.alloc _)).alloc _)).alloc _)⟩
           ·exact⟨_,Z _ _ (by omega) ((Y _ _ (by omega) (ar.alloc _)).alloc _)⟩
           ·exact⟨_,Z _ _ (by omega) (au.alloc _)⟩
           exact⟨_,av⟩)
        have bp:=Aa (show ∀z,z∈[Value.slice h a i,.slice P (a+1) c1,.slice Q (a+2) c2,.slice R (a+3) c3]->∀c,z.ownBlock=some c->(Value.slice h a i).ownBlock=some c\/w.heap.size<=c by
           have cm:=v.o.size;intro z G c r;simp only[iA,ks,or_false]at G;rcases G with rfl | rfl | rfl | rfl
           ·exact .inl r
           ·exact(bf c r).imp_right (λm=>by simp at m;omega)
           ·exact(bg c r).imp_right (λm=>by simp at m;omega)
           exact(bh c r).imp_right (λm=>by simp at m;omega))
        clear ar au av bf bg bh X Y Z al am an a6 a7 a8)
     | (refine jf _ rfl _ _ _ rfl base 37 b6 _ 1 24 underlying28 b0 b3 b4 b5 rfl (by omega) _ (4*j) q rfl (bs.o.alloc _) ⟨o.heap.size,0,none⟩ 4 4 [.slice h a i,.slice P (a+1) c1,.slice Q (a+2) c2,.slice R (a+3) c3] rfl rfl (iJ (cs:=#[.slice h a i,.slice P (a+1) c1,.slice Q (a+2) c2,.slice R (a+3) c3]) (t:=37) (fr:=(0,0)) (iH o _)) (by simp[Value.oneCell']) (by omega) (by unfold maxLen;omega) (by omega) (by have:=B.o.size;simp;omega) (o.heap.size+1) (by simp) ?_;intro S C b7 aw bi ai cj
        have bj:=(((aA.refl (λc=>bu.ownBlock=some c) o).alloc _).grown bi (λc r=>.inl (by rw[<-A.o,x.o];exact r)));have aj:=(a5.o.keeps B.o a9.o).keeps bj (λm=>bq.o (.inl m));have c4:=aj.c0;have cd:=aj.frozen 0
        clear bj aj))
  go_end0;obtain⟨af,ag,be,ah⟩:=bn.o o b7 _ S _ C _ rfl B.o bo.o bp.o (by rw[x.o];exact aw) (by rw[<-A.o,x.o];exact bi) (by rw[<-A.o,x.o];exact ai);exact⟨rfl,_,_,by simp[x.o];omega,af,ag,be,ah⟩
theorem Xs(n k:Nat)(e:k<=61): Bo 2 n (2 ^ k)=if 61<k+n then none else some (2 ^ (k+n)):=by
 induction n generalizing k with
 | zero=>rw[ig (by omega)];rfl
 | succ n h =>
  show(if 2305843009213693952/2<(2:Int) ^ k then none else Bo 2 n (2 ^ k*2))=_;by_cases d:k=61
  ·subst d;rw[ij (by decide),ij (by omega)]
  have i:=G0 k e;have c:(2:Int) ^ k<=1152921504606846976:=by
   have a:(2:Int) ^ k=((2 ^ k:Nat):Int):=by simp
   have c:2 ^ k<=2 ^ 60:=jr (by omega) (by omega);rw[a];omega
  rw[ig (by omega),<-Int.pow_succ,h (k+1) (by omega),show k+1+n=k+(n+1) by omega]
theorem UQ(c:Cfg)(t:Int)(h:¬t<c.mark)(i:0<=c.half):
  Am c t=if 0<c.half then Bo 2 ((t-c.mark)/c.half).toNat 1 else Bo (t-c.mark+1) c.degree.toNat 1:=by
 unfold Am;rw[ig h];by_cases a:c.half=0
 ·rw[ij a,ig (by rw[a];decide)]
 have j:0<=(t-c.mark)/c.half:=jO (by omega) (by omega);rw[ig a,ij (show 0<c.half by omega)];have:=Xs ((t-c.mark)/c.half).toNat 0 (by omega);rw[ja,Int.pow_zero]at this;rw[this];generalize(t-c.mark)/c.half=d at *
 by_cases e:61<d
 ·rw[ij e,ij (show 61<d.toNat by omega)]
 rw[ig e,ig (show ¬61<d.toNat by omega)]
theorem JE(code:Int)(w:World):
  Calls prog 28 #[ι code] w λa c=>a=.returned (Aw code (.slice none 0 0))/\lX w c:=by
 go_enter func28,ntmps28;go_wp2;refine iV (v:=Aw code (.slice none 0 0)) (by simp[results,results28,go_sem,Aw];rfl) rfl ⟨rfl,?_⟩
 repeat (first | exact aA.refl _ _ | apply aA.alloc)
theorem Q7(code:Int)(w:World): Calls prog 19 #[ι code] w λa c=>a=.returned (ι code)/\c=w:=by
 go_enter func19,ntmps19;go_wp2;go_ret;exact⟨rfl,rfl⟩
theorem EV(n lo hi:Int)(w:World):
  Calls prog 53 #[ι n,ι lo,ι hi] w λd e=>d=.returned (.bool (Ab n lo hi))/\e=w:=by
 by_cases a:lo<=n
 ·go_enter func53,ntmps53;go_wp2;go_ret;exact⟨by simp[Ab,a],rfl⟩
 have h:decide (lo<=n)=false:=by simpa using a
 have c:Hid (false=Ab n lo hi):=by simp[Hid,Ab,a]
 go_enter func53,ntmps53;go_wp2;go_ret;exact⟨B4 c.out,rfl⟩
theorem Ia(c:Cfg)(t:Int)(w:World)(h:c.bI)(ad:-100<=t)(ae:t<=4611686018427387904):
  Calls prog 85 #[c.val,ι t] w λI T=>I=.returned (ι (As (Am c t)))/\lX w T:=by
 obtain⟨U,V,J,D,aa,ab⟩:=h;have C:=Aa ((aA.refl (λ_=>False) w).alloc (.cells c.cells.toArray 46));by_cases G:t<c.mark
 ·have n:=Aa (show Am c t=none by unfold Am;rw[ij G]);unfold Cfg.val Cfg.cells at *
  go_enter func85,ntmps85;go_wp2;go_ret;exact⟨by rw[n.o];rfl,C.o⟩
 have n:=Aa (UQ c t G J);obtain⟨b,a,M,W,X,F,r⟩:∃(b:Int) (a:Nat),1<=b/\b<=4611686018427387905/\(a:Int)<=4611686018427387904/\((0<c.half/\b=2/\(t-c.mark).tdiv c.half=a)\/(c.half=0/\b=t-c.mark+1/\c.degree=a))/\Hid (Am c t=Bo b a 1):=by
  by_cases o:0<c.half
  ·have Z:0<=(t-c.mark)/c.half:=jO (by omega) (by omega);have Y:(t-c.mark)/c.half<=4611686018427387904:=by
    have:=jS c.half (show 0<=t-c.mark by omega);omega
   have q:=n.o;rw[ij o]at q;have H:(t-c.mark).tdiv c.half=(t-c.mark)/c.half:=jd (by omega);refine⟨2,((t-c.mark)/c.half).toNat,by omega,by omega,by omega,.inl ⟨o,rfl,?_⟩,q⟩;rw[H];omega
  have q:=n.o;rw[ig o]at q;exact⟨t-c.mark+1,c.degree.toNat,by omega,by omega,by omega,.inr ⟨by omega,rfl,by omega⟩,q⟩
 have A:=Aa (show ∀p:Int,¬2305843009213693952/b<p->1<=p->1<=p*b/\p*b<=2305843009213693952 from λp D L=>Lb p b L M D);clear n;have B:=Aa F;rcases F with ⟨o,rfl,H⟩ | ⟨o,E,N⟩
 ·have O:(c.half==0)=false:=by simp;omega
  unfold Cfg.val Cfg.cells at *
  go_enter func85,ntmps85;go_wp2_with fail
  clear B;go_loopw [7,8] (λp l wr=>∃(d:Nat) (e:Int),d<=a/\l=ι d/\p=ι e/\1<=e/\e<=2305843009213693952/\Hid (Bo 2 (a-d) e=Bo 2 a 1)/\Hid (lX w wr)) (λ_ l _=>a-(intOf l).toNat)
  case atStart=>exact⟨0,1,by omega,rfl,rfl,by omega,by omega,rfl,C⟩
  case round =>
   obtain⟨d,e,P,rfl,rfl,z,S,j,i⟩:=hrel;by_cases Q:d<a
   ·have R:(d:Int)<(a:Int):=by omega
    have m:=Aa (show Bo 2 (a-d) e=if 2305843009213693952/2<e then none else Bo 2 (a-(d+1)) (e*2) by
       rw[show a-d=(a-(d+1))+1 by omega];rfl)
    by_cases h:(1152921504606846976:Int)<e
    ·have k:=Aa (show As (Am c t)=0 by rw[r.o,<-j.o,m.o,ij (by first | exact h | omega)];rfl);go_wp2;go_ret;exact⟨A9 k.o.symm,i.o⟩
    have s:=Aa (show Bo 2 (a-(d+1)) (e*2)=Bo 2 a 1 by rw[<-j.o,m.o,ig (by first | exact h | omega)]);obtain⟨v,x⟩:=A.o e (by first | exact h | exact Int.not_lt.1 h | omega) z;go_wp2;go_roundw;case rel=>exact⟨d+1,e*2,by omega,by go_num,by go_num,v,x,s,i⟩
    case measure=>simp[intOf];omega
   have u:d=a:=by omega
   subst u;have k:=Aa (show As (Am c t)=e by rw[r.o,<-j.o,j9];rfl);go_wp2;go_ret;exact⟨A9 k.o.symm,i.o⟩
 have O:(c.half==0)=true:=by simp;omega
 unfold Cfg.val Cfg.cells at *
 go_enter func85,ntmps85;go_wp2_with fail
 try rw[<-E]
 clear B E N;go_loopw [7,8] (λp l wr=>∃(d:Nat) (e:Int),d<=a/\l=ι d/\p=ι e/\1<=e/\e<=2305843009213693952/\Hid (Bo b (a-d) e=Bo b a 1)/\Hid (lX w wr)) (λ_ l _=>a-(intOf l).toNat)
 case atStart=>exact⟨0,1,by omega,rfl,rfl,by omega,by omega,rfl,Aa ((aA.refl (λ_=>False) w).alloc _)⟩
 case round =>
  obtain⟨d,e,P,rfl,rfl,z,S,j,i⟩:=hrel;by_cases Q:d<a
  ·have R:(d:Int)<(a:Int):=by omega
   have m:=Aa (show Bo b (a-d) e=if 2305843009213693952/b<e then none else Bo b (a-(d+1)) (e*b) by
      rw[show a-d=(a-(d+1))+1 by omega];rfl)
   by_cases h:(2305843009213693952/b:Int)<e
   ·have k:=Aa (show As (Am c t)=0 by rw[r.o,<-j.o,m.o,ij (by first | exact h | omega)];rfl);go_wp2;go_ret;exact⟨A9 k.o.symm,i.o⟩
   have s:=Aa (show Bo b (a-(d+1)) (e*b)=Bo b a 1 by rw[<-j.o,m.o,ig (by first | exact h | omega)]);obtain⟨v,x⟩:=A.o e (by first | exact h | exact Int.not_lt.1 h | omega) z;go_wp2;go_roundw;case rel=>exact⟨d+1,e*b,by omega,by go_num,by go_num,v,x,s,i⟩
   case measure=>simp[intOf];omega
  have u:d=a:=by omega
  subst u;have k:=Aa (show As (Am c t)=e by rw[r.o,<-j.o,j9];rfl);go_wp2;go_ret;exact⟨A9 k.o.symm,i.o⟩
