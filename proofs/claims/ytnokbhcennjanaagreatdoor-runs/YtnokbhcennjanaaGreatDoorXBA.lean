import Derived.Test.YtnokbhcennjanaaGreatDoorXAZ
import Derived.Deep.Slices
import Derived.OpenShut
import Derived.ProofKit
import Derived.SizedLaws
import Derived.Deep.DeepHandedRow
import Derived.Lib.LaidTab
import Derived.SevenTiedAt
import Derived.Test.YtnokbhcennjanaaGreatDoorCards
import Derived.Test.YtnokbhcennjanaaGreatDoorTie
open Go.RowKit Go.Proofs.Tryz
set_option maxRecDepth 100000
set_option maxHeartbeats 16000000
namespace Go.Proofs.YtnokbhcennjanaaGreatDoor
section
attribute [local go_sem ↓] AN B2
attribute [local go_sem] AO B4 A5 A6 AI AJ BC BD Bf B3
theorem zO4(e:Nat)(v:Value)(clock:Int)(ps:List (SB×aI))(o:aO)(w:World)(c:aX w e v clock ps)(a:o.kind=6)(t:∀B,B∈ps.map (·.2)->dK B)(bX:ps.length<=6)(c0:0<=clock)(c1:clock<=4611686018427387904):
  Calls prog 15 #[.pointer (some ⟨e,0,none⟩),o.val] w λz J=>Kc w e v ps clock (ps.map (·.2)) 0 [] (D4 clock (ps.map (·.2))) z J:=by
 have N:o.cells[0]?=some (.int .i64 o.kind):=rfl;have P:(o.kind==1)=false:=by simp[a]
 have Q:(o.kind==2)=false:=by simp[a]
 have R:(o.kind==3)=false:=by simp[a]
 have S:(o.kind==4)=false:=by simp[a]
 have T:(o.kind==5)=false:=by simp[a]
 have U:(o.kind==6)=true:=by simp[a]
 have m:=Aa c;have H:=Aa t;clear c a t;unfold aO.val;go_enter func15,ntmps15;go_wp2_with fail
 obtain⟨L,u,n,M,I⟩:=C5 w o.cells;have D:=Aa (m.o.still n.o);rw[<-u];clear u;generalize k:w.heap.size=V at *
 have G:=Aa k;clear k;refine(Pr e v clock ps L D.o H.o bX c0 c1).mono ?_;rintro z aa ⟨rfl,i⟩;have q:=Aa (I.o.keeps i id);have E:=Aa (n.o.then i);clear i;obtain⟨r,h⟩:∃r,D4 clock (ps.map (·.2))=r:=⟨_,rfl⟩;rw[h];have C:=Aa h;clear h;obtain⟨W,X,Y,Z⟩:=q.o.three;go_wp2;refine Qk q.o (λA l=>by simp[results,results15,go_sem,l.c0,l.c1,l.c2,Hd]) rfl (λA j=>?_);have F:=Aa j;have j:=F.o;have k:=G.o;have s:lO w A:=E.o.trans j (λx d O=>by omega);exact⟨.slice none 0 0,v,ps,by rw[C.o],m.o.still s,rfl,ir _ _ _ _,s.mono (λ_ _ c=>c.elim),λx d=>.inl d,λx d=>by cases d⟩
end
section
theorem YB(n:Int)(e:Nat)(v:Value)(clock:Int)(ps:List (SB×aI))(o:aO)(w:World)(a:aX w e v clock ps)(hi:bQ n clock (ps.map (·.2)))(A:n<=4611686018427387904)(F:eE w)(G:¬aN e v ps 2)(D:o.kind≠7)(q:o.kind=6->∀B,B∈ps.map (·.2)->dK B):
  Calls prog 15 #[.pointer (some ⟨e,0,none⟩),o.val] w λL M =>
   Kc w e v ps (Aw ⟨clock,ps.map (·.2)⟩ o).1.clock (Aw ⟨clock,ps.map (·.2)⟩ o).1.xs (Aw ⟨clock,ps.map (·.2)⟩ o).2.1 (Aw ⟨clock,ps.map (·.2)⟩ o).2.2 (Ex ⟨clock,ps.map (·.2)⟩ o) L M:=by
 by_cases k:o.kind=6
 ·have h:Aw ⟨clock,ps.map (·.2)⟩ o=(⟨clock,ps.map (·.2)⟩,0,[]):=by unfold Aw;rw[hZ (by omega),hZ (by omega),hZ (by omega),hZ (by omega),hZ (by omega),h9 k]
  have E:Ex ⟨clock,ps.map (·.2)⟩ o=D4 clock (ps.map (·.2)):=by unfold Ex Cs;rw[h9 k]
  rw[h,E];exact zO4 e v clock ps o w a k (q k) (by have:=hi.bX;rw[im]at this;exact this) hi.c0 hi.c1
 have t:o.kind≠6/\o.kind≠7:=⟨k,D⟩;have H:Ex ⟨clock,ps.map (·.2)⟩ o=Ai:=by unfold Ex;rw[hZ t.1]
 rw[H];have i:=TK ps o.id;by_cases j:o.kind=1
 ·have h:Aw ⟨clock,ps.map (·.2)⟩ o=Da ⟨clock,ps.map (·.2)⟩ o:=by unfold Aw;rw[h9 j]
  rw[h];refine(GI (.inl ⟨rfl,rfl⟩) e v clock ps o w a j _ _ _ _ (λd c _=>?_)).mono (λ_ _ a=>a.b);cases hid:Ab o.id 0 99
  ·have:Da ⟨clock,ps.map (·.2)⟩ o=(⟨clock,ps.map (·.2)⟩,2,[]):=by unfold Da;rw[hZ (by rw[hid];simp)]
   rw[this];exact X3 n e v clock ps o d c hi hid
  cases hf:Cf ps o.id with
  | some p =>
   have:Da ⟨clock,ps.map (·.2)⟩ o=(⟨clock,ps.map (·.2)⟩,2,[]):=by unfold Da;rw[hZ (by simp only;rw[i,hf];simp)]
   rw[this];exact SF n e v clock ps o d c hi hid p hf
  | none =>
   have u:(Ab o.id 0 99=true/\(BX (⟨clock,ps.map (·.2)⟩:WS).xs o.id).isNone=true):=⟨hid,by simp only;rw[i,hf];rfl⟩;cases hv:Ak o.cfg
   ·have:Da ⟨clock,ps.map (·.2)⟩ o=(⟨clock,ps.map (·.2)⟩,3,[]):=by unfold Da;rw[h9 u,hZ (by rw[hv];simp)]
    rw[this];exact S7 n e v clock ps o d c hi hid hf hv
   by_cases q:ps.length<6
   ·have:Da ⟨clock,ps.map (·.2)⟩ o=(⟨clock,ps.map (·.2)++[AQ o.id o.cfg o.cfg.kind.toNat]⟩,0,[]):=by unfold Da;rw[h9 u,h9 hv,h9 (by simpa using q)]
    rw[this];exact US n e v clock ps o d c hi hid hf hv q
   have:Da ⟨clock,ps.map (·.2)⟩ o=(⟨clock,ps.map (·.2)⟩,4,[]):=by unfold Da;rw[h9 u,h9 hv,hZ (by simpa using q)]
   rw[this];have k:ps.length=6:=by have:=hi.bX;rw[im]at this;omega
   exact Ur n e v clock ps o d c hi hid hf hv k
 by_cases l:o.kind=2
 ·have h:Aw ⟨clock,ps.map (·.2)⟩ o=C0 ⟨clock,ps.map (·.2)⟩ o:=by unfold Aw;rw[hZ j,h9 l]
  rw[h];refine(GI (.inr (.inl ⟨rfl,rfl⟩)) e v clock ps o w a l _ _ _ _ (λd c _=>?_)).mono (λ_ _ a=>a.b);cases hf:Cf ps o.id with
  | none =>
   have:C0 ⟨clock,ps.map (·.2)⟩ o=(⟨clock,ps.map (·.2)⟩,2,[]):=by unfold C0;simp only;rw[i,hf];rfl
   rw[this];exact Zf n e v clock ps o d c hi hf
  | some p =>
   by_cases x:bO p.2 clock o.item=0
   ·have:C0 ⟨clock,ps.map (·.2)⟩ o=(⟨clock,BB (ps.map (·.2)) o.id (cC p.2 o.item)⟩,0,[p.2.acc+1]):=by unfold C0;simp only;rw[i,hf];simp only[ke];rw[h9 x]
    rw[this];exact zMc n e v clock ps o d c hi p hf x (by omega)
   have:C0 ⟨clock,ps.map (·.2)⟩ o=(⟨clock,BB (ps.map (·.2)) o.id (cF p.2 (bO p.2 clock o.item).toNat)⟩,bO p.2 clock o.item,[]):=by unfold C0;simp only;rw[i,hf];simp only[ke];rw[hZ x]
   rw[this];have J:=Je p.2 clock o.item;obtain⟨C,z⟩:=jd J.1;rw[z,iH];exact zO5 n e v clock ps o d c hi p C hf z (by omega) (by omega)
 by_cases m:o.kind=3
 ·have h:Aw ⟨clock,ps.map (·.2)⟩ o=DJ ⟨clock,ps.map (·.2)⟩ o:=by unfold Aw;rw[hZ j,hZ l,h9 m]
  rw[h];refine(GI (.inr (.inr (.inl ⟨rfl,rfl⟩))) e v clock ps o w a m _ _ _ _ (λd c I=>?_)).mono (λ_ _ a=>a.b);cases ha:Ab o.a 0 4611686018427387904
  ·have:DJ ⟨clock,ps.map (·.2)⟩ o=(⟨clock,ps.map (·.2)⟩,5,[]):=by unfold DJ;rw[hZ (by rw[ha];simp)]
   rw[this];exact Yf n e v clock ps o d c hi ha
  cases hb:Ab o.b 0 100
  ·have:DJ ⟨clock,ps.map (·.2)⟩ o=(⟨clock,ps.map (·.2)⟩,12,[]):=by unfold DJ;rw[h9 ha,hZ (by rw[hb];simp)]
   rw[this];exact U5 n e v clock ps o d c hi ha hb
  have:DJ ⟨clock,ps.map (·.2)⟩ o=(⟨Au clock o.a,(Br (Au clock o.a) o.b ((ps.map (·.2)).map (AP (Au clock o.a)))).1⟩,0,[(Br (Au clock o.a) o.b ((ps.map (·.2)).map (AP (Au clock o.a)))).2]):=by unfold DJ;rw[h9 ha,h9 hb]
  rw[this];exact ZH n e v clock ps o d c hi ha hb A (F.keeps I id) G
 by_cases r:o.kind=4
 ·have h:Aw ⟨clock,ps.map (·.2)⟩ o=DW ⟨clock,ps.map (·.2)⟩ o:=by unfold Aw;rw[hZ j,hZ l,hZ m,h9 r]
  rw[h];refine(GI (.inr (.inr (.inr (.inl ⟨rfl,rfl⟩)))) e v clock ps o w a r _ _ _ _ (λd c _=>?_)).mono (λ_ _ a=>a.b);cases hf:Cf ps o.id with
  | none =>
   have:DW ⟨clock,ps.map (·.2)⟩ o=(⟨clock,ps.map (·.2)⟩,2,[]):=by unfold DW;simp only;rw[i,hf];rfl
   rw[this];exact VR n e v clock ps o d c hi hf
  | some p =>
   have:DW ⟨clock,ps.map (·.2)⟩ o=(⟨clock,ps.map (·.2)⟩,AY p.2.k p.2.c p.2.nt o.a (clock-p.2.c.aK)):=by unfold DW;simp only;rw[i,hf];rfl
   rw[this];exact Vz n e v clock ps o d c hi A p hf
 by_cases s:o.kind=5
 ·have h:Aw ⟨clock,ps.map (·.2)⟩ o=Ew ⟨clock,ps.map (·.2)⟩ o:=by unfold Aw;rw[hZ j,hZ l,hZ m,hZ r,h9 s]
  rw[h];refine(GI (.inr (.inr (.inr (.inr (.inl ⟨rfl,rfl⟩))))) e v clock ps o w a s _ _ _ _ (λd c _=>?_)).mono (λ_ _ a=>a.b);cases hf:Cf ps o.id with
  | none =>
   have:Ew ⟨clock,ps.map (·.2)⟩ o=(⟨clock,ps.map (·.2)⟩,2,[]):=by unfold Ew;simp only;rw[i,hf];rfl
   rw[this];exact YL n e v clock ps o d c hi hf
  | some p =>
   have:Ew ⟨clock,ps.map (·.2)⟩ o=(⟨clock,ps.map (·.2)⟩,0,BJ p.2):=by unfold Ew;simp only;rw[i,hf];rfl
   rw[this];exact X1 n e v clock ps o d c hi p hf
 have h:Aw ⟨clock,ps.map (·.2)⟩ o=(⟨clock,ps.map (·.2)⟩,1,[]):=by unfold Aw;rw[hZ j,hZ l,hZ m,hZ r,hZ s,hZ t.1,hZ t.2]
 rw[h];exact(zM0 e v clock ps o w a (by omega)).mono (λ_ _ a=>a.b)
def c0: Cfg:=⟨4,0,9,8,0,0,0,0,0,0,0,0,0,0,0,0,0,0,0,0⟩
def cz: Cfg:=⟨0,0,0,0,0,0,0,0,0,0,0,0,0,0,0,0,0,0,0,0⟩
def o1: aO:=⟨1,7,0,0,0,c0,Ai⟩
theorem zHc(ρ:Operand->Value)(dst:Option Tmp)(x:Array (Nat×Operand))(c:TypeId)(pos:String)(after:Array Edge)(guard:Option (Nat×Bool)):
  execOp ρ { dst,op:=.build 46 x,type:=c,pos,after,guard }=GC 46 (x.map λ(a,y)=>(a,ρ y)):=rfl
def Rm(ty:TypeId)(n:Nat)(ps:Array (Nat×Value)): Sem Next:=do pure (.value (<-Instr.buildSlice ty n ps))
theorem Na(ρ:Operand->Value)(dst:Option Tmp)(n:Nat)(x:Array (Nat×Operand))(c:TypeId)(pos:String)(after:Array Edge)(guard:Option (Nat×Bool)):
  execOp ρ { dst,op:=.buildSlice 22 n x,type:=c,pos,after,guard }=Rm 22 n (x.map λ(a,y)=>(a,ρ y)):=rfl
theorem JC(ρ:Operand->Value)(dst:Option Tmp)(x y:Operand)(a:TypeId)(pos:String)(after:Array Edge)(guard:Option (Nat×Bool)):
  execOp ρ { dst,op:=.store 46 x y,type:=a,pos,after,guard }=Eu 46 (ρ x) (ρ y):=rfl
theorem TB(w:World)(a:List Value)(cs:List Value)(k:a.length=20)(d:cs.length=20)(e:cs.toArray.all (·.oneCell')=true):
  (Eu 46 (.pointer (some ⟨w.heap.size,0,none⟩)) (.agg cs.toArray)).run prog (w.alloc (.cells a.toArray 46))=.ok .skip (w.alloc (.cells cs.toArray 46)):=by
 unfold Eu;have j:(w.alloc (.cells a.toArray 46)).there w.heap.size 0 cs.toArray.size:=by
  intro l h;have i:l<20:=by simpa[d] using h
  rw[ja,kJ,World.frozen?_alloc_new];simp[k,i]
 rw[jm,k8 _ w.heap.size 0 46 cs.toArray j (by rw[KG];simp[d]) e];have c:=Hr cs [] a (by omega);simp only[jt,jZ]at c;rw[Lo,lg,c];rfl
theorem Dr.cM{P:Dr.It->Prop}(e:P ⟨0,0,0,0,0⟩){l:List Dr.It}(c:∀y,y∈l->P y)(i j:Nat): ∀y,y∈Dr.swapL l i j->P y:=by
 have d:∀i,P (Dr.itAt l i):=by
  intro i;unfold Dr.itAt;rw[List.getD_eq_getElem?_getD];cases hi:l[i]? with
  | none=>exact e
  | some h=>exact c h (iu hi)
 intro y a;unfold Dr.swapL at a;rcases js a with a | a
 ·rcases js a with a | a
  ·exact c y a
  subst a;exact d j
 subst a;exact d i
theorem Dr.cK{P:Dr.It->Prop}(c:P ⟨0,0,0,0,0⟩){l:List Dr.It}(a:∀y,y∈l->P y)(i:Nat): P (Dr.itAt l i):=by
 unfold Dr.itAt;rw[List.getD_eq_getElem?_getD];cases hi:l[i]? with
 | none=>exact c
 | some d=>exact a d (iu hi)
theorem Dr.eG{P:Dr.It->Prop}(c:P ⟨0,0,0,0,0⟩)(f:Nat)(l:List Dr.It)(i:Nat)(a:∀y,y∈l->P y): ∀y,y∈Dr.riseL f l i->P y:=by
 induction f generalizing l i with
 | zero=>exact a
 | succ f d =>
  unfold Dr.riseL;split
  ·exact a
  split
  ·exact d _ _ (Dr.cM c a _ _)
  exact a
theorem Dr.dT{P:Dr.It->Prop}(c:P ⟨0,0,0,0,0⟩)(f:Nat)(l:List Dr.It)(i:Nat)(a:∀y,y∈l->P y): ∀y,y∈Dr.sinkL f l i->P y:=by
 induction f generalizing l i with
 | zero=>exact a
 | succ f d =>
  unfold Dr.sinkL;split
  ·exact a
  split
  ·exact d _ _ (Dr.cM c a _ _)
  exact a
theorem Dr.dE{P:Dr.It->Prop}(d:P ⟨0,0,0,0,0⟩)(l:List Dr.It)(c:∀y,y∈l->P y): ∀y,y∈Dr.takeL l->P y:=by
 unfold Dr.takeL;refine Dr.dT d _ _ _ (λy a=>?_);have a:=jn a;rcases js a with a | a
 ·exact c y a
 subst a;exact Dr.cK d c _
theorem Dr.dC{P:Dr.It->Prop}(d:P ⟨0,0,0,0,0⟩): ∀(f:Nat) (l:List Dr.It),(∀y,y∈l->P y)->∀y,y∈Dr.allL f l->P y
 | 0,_,_=>λy a=>by simp[Dr.allL]at a
 | f+1,l,h=>λy a=>by
  unfold Dr.allL at a;split at a
  ·cases a
  rcases iw.1 a with c | c
  ·rw[c];exact Dr.cK d h 0
  exact Dr.dC d f _ (Dr.dE d l h) y c
theorem Qi.dC{P:It->Prop}(d:P ⟨0,0,0,0⟩): ∀(f:Nat) (l:List It),(∀y,y∈l->P y)->∀y,y∈Qi.allL f l->P y
 | 0,_,_=>λy a=>by simp[Qi.allL]at a
 | f+1,l,h=>λy a=>by
  unfold Qi.allL at a;split at a
  ·cases a
  rcases iw.1 a with c | c
  ·rw[c];exact cK d h 0
  exact Qi.dC d f _ (dE d l h) y c
def Il(z:Dr.It): Prop:=(0<=z.t/\z.t<=4611686018427387904)/\(0<=z.k/\z.k<=4611686018427387904)/\(0<=z.d/\z.d<=4611686018427387904)/\(0<=z.n/\z.n<=4611686018427387904)
structure NX (k:Nat) (nt:aU):Prop where
 bt:∀b∈nt.bs,0<=b.t/\b.t<=4611686018427387904
 rt:∀i,∀b∈nt.rg i,0<=b.sz/\b.sz<=4611686018427387904
 rf:∀i,dN (nt.rg i)
 tt:k=5->∀z∈nt.tk,Il z
theorem Wx{P:Int->Prop}(d:P 0)(K:Int)(f:Nat)(l:List Bk)(c:Int)(e:Nat)(a:∀b∈l,P b.t): ∀b∈joinL K f l c e,P b.t:=by
 induction f generalizing l c e with
 | zero=>exact a
 | succ f h =>
  unfold joinL;split
  ·exact a
  refine h _ _ _ (JU (P:=λb=>P b.t) l _ _ a ?_);show P (Ad l _).t;unfold Ad;rw[List.getD_eq_getElem?_getD];cases hi:l[AC l c e+1]? with
  | none=>exact d
  | some b=>exact a b (iu hi)
theorem zLr{k:Nat}{c:Cfg}{h:aU}(a:NX k h)(y:It)(m:Int)(n:0<=y.t)(o:y.t<=4611686018427387904)(u:k=5->(0<=y.k/\y.k<=4611686018427387904)/\(0<=y.d/\y.d<=4611686018427387904)/\(0<=y.n/\y.n<=4611686018427387904)): NX k (B9 k c h y m):=by
 unfold B9;split
 ·exact⟨a.bt,a.rt,a.rf,a.tt⟩
 split
 ·refine⟨?_,a.rt,a.rf,a.tt⟩;refine Wx (P:=λt=>0<=t/\t<=4611686018427387904) (by omega) _ _ _ _ _ (λb d=>?_);unfold Cz at d;rcases ig.1 d with d | d
  ·exact a.bt b (iB d)
  rw[ij]at d;rw[d];exact⟨n,o⟩
 split
 ·refine⟨a.bt,λi b d=>?_,λi=>?_,a.tt⟩
  ·have e:b∈BQ c (Bw c) h.rg y m i:=d;unfold BQ at e;split at e
   ·rcases Jf e with e | e
    ·exact a.rt i b (iB e)
    rw[e];exact⟨n,o⟩
   exact a.rt i b e
  show dN (BQ c (Bw c) h.rg y m i);unfold BQ;split
  ·exact O9 _ ((a.rf i).drop _)
  exact a.rf i
 split
 ·exact⟨a.bt,a.rt,a.rf,a.tt⟩
 split
 ·rename_i r;refine⟨a.bt,a.rt,a.rf,λ_=>?_⟩;have s:Il ⟨0,0,0,0,0⟩:=⟨⟨by simp,by simp⟩,⟨by simp,by simp⟩,⟨by simp,by simp⟩,⟨by simp,by simp⟩⟩
  have q:∀l,l∈Dr.riseL (h.tk.length+1) (h.tk++[tick c y]) h.tk.length->Il l:=Dr.eG s _ _ _ (λl j=>by
     rcases ig.1 j with j | j
     ·exact a.tt r l j
     rw[ij]at j;rw[j];exact⟨⟨n,o⟩,u r⟩)
  show ∀l∈AU c h.tk y,Il l;unfold AU;split
  ·exact Dr.dE s _ q
  exact q
 exact a
structure SX (x:aI):Prop where
 fQ:0<=x.id/\x.id<=99
 fO:x.acc<=4611686018427387904
 aL:∀y,y∈x.l->0<=y.n/\y.n<=4611686018427387904
 eY:∀v,v∈x.ref->v<=4611686018427387904
 note:NX x.k x.nt
theorem LI{c:Cfg}{k:Nat}{y:It}(d:AL c k y=0)(i:k=5): (0<=y.k/\y.k<=4611686018427387904)/\(0<=y.d/\y.d<=4611686018427387904):=by
 subst i;have a:E8 c y=0:=d;unfold E8 at a;split at a
 ·split at a
  ·rename_i e;split at a
   ·rename_i h;have j:=Bp e;have b:=Bp h;omega
   omega
  omega
 omega
theorem Xb{n:Int}{x:aI}(a:SX x)(hi:aT n x)(e:x.l≠[])(m:Int): SX (BP x m):=by
 have c:=Gi e;have h:=hi.times _ c;refine⟨a.fQ,a.fO,λy j=>a.aL y (Kg hi.heap e j),a.eY,?_⟩
 exact zLr a.note _ _ h.1 h.2 (λi=>by
    have d:=LI (hi.fits _ c) i
    exact⟨d.1,d.2,a.aL _ c⟩)
theorem zMq(f:Nat){n:Int}{x:aI}(a:SX x)(hi:aT n x)(m:Int): SX (relS f x m):=by
 induction f generalizing x with
 | zero=>exact a
 | succ f h =>
  unfold relS;split
  ·exact a
  rename_i d;have c:x.l≠[]:=by simpa using d
  split
  ·exact a
  rename_i e;exact h (Xb a hi c m) (Hz hi c m e)
theorem zLe{x:aI}(clock b:Int)(a:SX x): SX (Do clock b x):=by
 refine⟨a.fQ,a.fO,a.aL,a.eY,?_⟩;show NX x.k (Bc x.k x.c x.nt (clock-x.c.aK) b).1;unfold Bc;split
 ·exact⟨λd c=>a.note.bt d (iB c),a.note.rt,a.note.rf,a.note.tt⟩
 exact a.note
theorem zNm{n:Int}{x:aI}(a:SX x)(hi:aT n x)(y:It)(j:x.acc<4611686018427387904): SX (cC x y):=by
 have i:=hi.eJ;have d:=put_heap x.l (Ah y (x.acc+1)) hi.heap;refine⟨a.fQ,by show x.acc+1<=_;omega,λh e=>?_,a.eY,a.note⟩;rcases iw.1 (d.2.subset e) with c | c
 ·rw[c];show 0<=x.acc+1/\x.acc+1<=_;omega
 exact a.aL h c
theorem zMy{x:aI}(a:SX x)(c:Nat): SX (cF x c):=by
 refine⟨a.fQ,a.fO,a.aL,λe d=>?_,a.note⟩;rcases js d with d | d
 ·exact a.eY e d
 rw[d];unfold F7;split <;> omega
theorem XU(id:Int)(c:Cfg)(k:Nat)(d:0<=id/\id<=99): SX (AQ id c k):=by
 refine⟨d,by show(0:Int)<=_;omega,λy h=>(by cases h),λl e=>?_,⟨λb a=>(by cases a),λj b a=>(by cases a),λj=>List.Pairwise.nil,λ_ m i=>(by cases i)⟩⟩;have:l=0:=by simpa[AQ] using e
 omega
def EX(s:WS): Prop:=∀x,x∈s.xs->SX x
def Is(o:aO): Prop:=o.kind=7->∀s',MW o.bytes=some s'->EX s'
theorem Zx{n:Int}{s:WS}(o:aO)(a:EX s)(hi:bQ n s.clock s.xs)(j:Is o): EX (Aw s o).1:=by
 unfold Aw;split
 ·unfold Da;split
  ·rename_i l;split
   ·split
    ·intro e c;rcases ig.1 c with c | c
     ·exact a e c
     rw[ij]at c;rw[c];exact XU _ _ _ (Bp l.1)
    exact a
   exact a
  exact a
 split
 ·unfold C0;split
  ·exact a
  rename_i e m;have c:e∈s.xs:=iW m;split
  ·rename_i q;obtain⟨_,_,_,_,_,_,k⟩:=Kl q;intro h d;rcases F0 d with d | d
   ·exact a h d
   rw[d];exact zNm (a e c) (hi.bD e c) _ k
  intro h d;rcases F0 d with d | d
  ·exact a h d
  rw[d];exact zMy (a e c) _
 split
 ·unfold DJ;split
  ·split
   ·refine Ja (P:=SX) _ (λb e c=>zLe _ b c) _ _ (λh d=>?_);obtain⟨e,c,rfl⟩:=iE.1 d;exact zMq _ (a e c) (hi.bD e c) _
   exact a
  exact a
 split
 ·unfold DW;split <;> exact a
 split
 ·unfold Ew;split <;> exact a
 split
 ·exact a
 split
 ·rename_i i;unfold KN;split
  ·exact a
  rename_i t r;exact j i t r
 exact a
theorem VH{c:Cfg}{k:Nat}(i:Ak c=true)(n:c.kind=k)(x:1<=k)(z:k<=5): (∀e,e∈BR k c->0<=e/\e<=9223372036854775807)/\0<=Bb k c/\Bb k c<=3:=by
 have D:0<=c.aK/\c.aK<=100/\0<=c.bF/\c.bF<=100/\1<=c.cap/\c.cap<=8:=by
  have:=i;simp only[Ak,B0,Ab,iK,iI]at this;omega
 have u:c.kind.toNat=k:=by omega
 have q:Gj c k=true:=by
  have:=i;simp only[Ak,iK]at this;rw[<-u];exact this.2.2
 rcases As x z with a | a | a | a | a <;> subst a
 ·obtain⟨B,r,s,t⟩:=Ef i n rfl;refine⟨λe d=>?_,by simp[Bb],by simp[Bb]⟩;simp[BR,Ch,Bb,Ba,Cfg.num,Cfg.aL]at d;omega
 ·obtain⟨⟨E,F,G,H⟩,r,s,t,C⟩:=FD i n rfl;refine⟨λe d=>?_,by simp[Bb],by simp[Bb]⟩;simp[BR,Ch,Bb,Ba,Cfg.num,Cfg.aL,j6]at d;omega
 ·obtain⟨l,v,_⟩:=Dw i n rfl;obtain⟨N,O,P,Q,h⟩:=v;have I:=l.w0;have J:=l.w1;have L:=l.p0;have M:=l.p1
  refine⟨λe d=>?_,by simp[Bb];omega,by simp[Bb];omega⟩;have w:c.rows=1\/c.rows=2\/c.rows=3:=by omega
  rcases w with a | a | a
  ·have j:=h 0 (by omega);simp[BR,Ch,Bb,Ba,Cfg.num,Cfg.aL,a,j6]at d;simp[CW,CX]at j;omega
  ·have j:=h 0 (by omega);have o:=h 1 (by omega);simp[BR,Ch,Bb,Ba,Cfg.num,Cfg.aL,a,j6]at d;simp[CW,CX]at j o;omega
  have j:=h 0 (by omega);have o:=h 1 (by omega);have A:=h 2 (by omega);simp[BR,Ch,Bb,Ba,Cfg.num,Cfg.aL,a,j6]at d;simp[CW,CX]at j o A;omega
 ·have m:CN c=true:=q;simp only[CN,Ab,iK,iI]at m;refine⟨λe d=>?_,by simp[Bb],by simp[Bb]⟩;simp[BR,Ch,Bb,Ba,Cfg.num,Cfg.aL]at d;omega
 have m:Fs c=true:=q;simp only[Fs,CN,Ab,iK,iI]at m;refine⟨λe d=>?_,by simp[Bb],by simp[Bb]⟩;simp[BR,Ch,Bb,Ba,Cfg.num,Cfg.aL]at d;omega
theorem M4{n:Int}{x:aI}(e:SX x)(hi:aT n x)(J:x.rel<=4611686018427387904): dK x:=by
 obtain⟨D,E,F⟩:=VH hi.valid hi.kind hi.k1 hi.k5;have U:=hi.common;have S:=hi.cap;have hlen:x.l.length<=8:=by omega
 have c:=hi.note;have X:=hi.dI;have H:=c.fP J;refine⟨by have:=e.fQ;omega,D,E,F,hi.bS,λC B=>by have u:=hi.cL C B;have v:=e.eY C B;omega,by omega,hlen,?_,?_,hi.valid,hi.kind,hi.k1,hi.k5⟩
 ·intro M l;unfold Bl at l;obtain⟨y,d,z⟩:=k3.1 l
  have q:=Qi.dC (P:=λy=>(0<=y.n/\y.n<=4611686018427387904)/\(0<=y.t/\y.t<=4611686018427387904)/\(x.k=2\/x.k=3\/x.k=5->0<=y.k/\y.k<=4611686018427387904)/\(x.k=5->0<=y.d/\y.d<=4611686018427387904)) (by simp) (x.l.length+1) x.l (λy d=>⟨e.aL y d,hi.times y d,λi=>by
       rcases i with a | a | a
       ·have:=Ml (hi.fits y d) (.inl a);omega
       ·have:=Ml (hi.fits y d) (.inr a);omega
       exact(LI (hi.fits y d) a).1,λa=>(LI (hi.fits y d) a).2⟩) y d
  obtain⟨Y,Z,N,O⟩:=q;unfold ET at z;rcases iw.1 z with a | a
  ·rw[a];omega
  obtain⟨r,w,rfl⟩:=iE.1 a;have V:=hi.k1;have W:=hi.k5
  have I:r=0\/(r=1/\(x.k=2\/x.k=3\/x.k=5))\/(r=2/\x.k=5):=by
   have i:x.k=1\/x.k=2\/x.k=3\/x.k=4\/x.k=5:=by omega
   rcases i with a | a | a | a | a <;> rw[a]at w <;> simp[CM]at w <;> omega
  rcases I with a | ⟨a,i⟩ | ⟨a,i⟩
  ·subst a;show 0<=y.t/\y.t<=_;omega
  ·subst a;have:=N i;show 0<=y.k/\y.k<=_;omega
  subst a;have:=O i;show 0<=y.d/\y.d<=_;omega
 refine⟨by have:=c.q0;have:=c.qn;omega,by have:=c.r0;have:=c.r1;omega,by omega,λb h=>⟨c.one b h,H.2 b h⟩,λb h=>by have:=e.note.bt b h;omega,λj=>?_,λj b h=>by have u:=e.note.rt j b h;have v:=c.rk j b h;omega,λa=>?_,λa=>?_,λa M l=>?_⟩
 ·have:=JK (x.nt.rg j) 40 (e.note.rf j) (c.rk j);omega
 ·obtain⟨G,Q,s,t,R⟩:=Dw hi.valid hi.kind a;have m:=c.oi a;have T:x.nt.cl.length<=8:=by have:=m.len;have:=G.p1;omega
  exact⟨by omega,m.hB hi.dP s t,m.hC hi.dP s t,λk o=>by have:=m.gY.1 k o;omega,λp L k o=>by have:=m.gY.2 p L k o;omega⟩
 ·have u:=c.tl a;have v:=(E4 hi.valid hi.kind a).2;omega
 unfold Cu at l;obtain⟨k,o,A⟩:=k3.1 l;have q:Il k:=Dr.dC (P:=Il) ⟨⟨by simp,by simp⟩,⟨by simp,by simp⟩,⟨by simp,by simp⟩,⟨by simp,by simp⟩⟩ _ _ (e.note.tt a) k o;obtain⟨aa,ab,ad,ae⟩:=q;simp at A;rcases A with a | a | a | a <;> rw[a] <;> omega
theorem zLv{w:World}{base:Nat}{v:Value}{l:List dU}(h:cY w base v l)(q:l≠[]): ∃g d,v=.slice (some ⟨g,0,none⟩) l.length d/\∀a c,(Ej l)[a]?=some c->w.cell? ⟨g,a,none⟩=some c:=by
 rcases h.row.2 with ⟨_,k⟩ | ⟨g,d,i,j,_,m,r,s,t,n⟩
 ·exact absurd (iL.1 k) q
 refine⟨g,d,j,λa c e=>?_⟩;have o:a<l.length*3:=by have:=(ik.1 e).1;have:=h.row.1;omega
 have:i[a]?=some c:=by
  rw[<-n,iV,h9 o]at e;simpa using e
 simp[World.cell?,m,this]
theorem WP{n:Int}{s:WS}(o:aO)(d:bQ n s.clock s.xs): (Aw s o).2.2.length<=17:=by
 unfold Aw;split
 ·unfold Da;(repeat' split) <;> simp
 split
 ·unfold C0;(repeat' split) <;> simp
 split
 ·unfold DJ;(repeat' split) <;> simp
 split
 ·unfold DW;split
  ·simp
  rename_i a i;have c:=d.bD a (iW i);show(AY a.k a.c a.nt o.a (s.clock-a.c.aK)).2.length<=17;unfold AY;split
  ·simp
  split
  ·split <;> simp
  split
  ·rename_i e;obtain⟨_,_,j,_,_⟩:=FD c.valid c.kind e;unfold FT;split
   ·show(Cr _ _ _++[_]).length<=17;rw[hY,IP,iZ];have:Bw a.c<=16:=jk (n:=2) (by omega) (show a.c.bits.toNat<=4 by omega);omega
   simp
  split
  ·split <;> simp
  split
  ·rename_i h;have k:=E4 c.valid c.kind h;show(D9 a.c a.nt.tk).length<=17;unfold D9;simp only[hY,Ga,iD];simp;omega
  simp
 split
 ·unfold Ew;(repeat' split) <;> simp[BJ,AE]
 split
 ·simp
 split
 ·unfold KN;split <;> simp
 simp
theorem Lu(l:List dU)(i j:Nat)(x:dU)(c:l[i]?=some x)(h:j<3): (Ej l)[i*3+j]?=x.cells[j]?:=by
 induction l generalizing i with
 | nil=>simp at c
 | cons a l e =>
  have d:Ej (a::l)=a.cells++Ej l:=by simp[Ej]
  rw[d];cases i with
  | zero =>
   have:a=x:=by simpa using c
   subst this;rw[iO (by simp[dU.cells];omega)];simp
  | succ i =>
   rw[iS (by simp[dU.cells];omega)];have:=e i (by simpa using c);rw[<-this];congr 1;simp[dU.cells];omega
theorem DC{w:World}{base T c:Nat}{v:Value}{n:Nat}{l:List Value}(h:w.ownsRow base T c v n l): ∃e d,v=.slice e n d:=by
 rcases h.2 with ⟨a,i⟩ | ⟨g,d,j,a,_⟩
 ·exact⟨none,0,by rw[a,i]⟩
 exact⟨_,_,a⟩
theorem Mf{w:World}{base:Nat}{a:Option Addr}{n h:Nat}{l:List dU}(d:cY w base (.slice a n h) l)(i:Nat)(x:dU)(c:l[i]?=some x):
  ∃g,a=some ⟨g,0,none⟩/\w.cell? ⟨g,i*3,none⟩=some (.int .i64 x.code)/\w.cell? ⟨g,i*3+1,none⟩=some x.nv/\w.cell? ⟨g,i*3+2,none⟩=some (.string x.bs):=by
 obtain⟨g,m,k,e⟩:=zLv d (by intro d;rw[d]at c;simp at c);injection k with j o q;exact⟨g,j,e _ _ (Lu l i 0 x c (by omega)),e _ _ (Lu l i 1 x c (by omega)),e _ _ (Lu l i 2 x c (by omega))⟩
end
section
open Go.ChangeShapes Go.WideShapes Go.ChangeAt Go.RowKit Go.Deep
def G1(V:Nat->Int)(b:ByteArray): aO:=⟨V 0,V 1,V 2,V 3,V 4,⟨V 5,V 6,V 7,V 8,V 9,V 10,V 11,V 12,V 13,V 14,V 15,V 16,V 17,V 18,V 19,V 20,V 21,V 22,V 23,V 24⟩,b⟩
theorem VC(a:Nat->Int)(b:ByteArray): (G1 a b).cells=(List.range 25).map (λc=>.int .i64 (a c))++[.string b]:=rfl
theorem cells3: prog.cellsOf 3=1:=by kernel_rfl
theorem zM5: prog.cellsOf 43=2:=by kernel_rfl
theorem ME: prog.cellsOf 48=26:=by kernel_rfl
theorem zL8: prog.bytesOf 48=216:=by kernel_rfl
section
variable {H:Type} {enc:TypeId×Value->H} {w:World} {base:Nat} {spare:Nat->Bool} {held:Bool}
def dJ(cs:List Value)(i:Nat): Prop:=∃n,cs[i]?=some (.int .i64 n)/\(Lit.int .i64 n).wf=true
theorem QZ{cs:List Value}{off n i:Nat}{v:Value}(a:((cs.drop off).take n)[i]?=some v): cs[off+i]?=some v:=by
 rw[iV]at a;split at a
 ·rw[j0]at a;exact a
 cases a
theorem dJ.sub{cs:List Value}{off n i:Nat}(a:dJ ((cs.drop off).take n) i): dJ cs (off+i):=by
 obtain⟨e,c,d⟩:=a;exact⟨e,QZ c,d⟩
theorem MU{m:Nat}{cs:List Value}{x:DataW H×List MemPlace}(a:DataW.trod enc prog w base spare held m 3 cs=some x): dJ cs 0:=by
 obtain⟨d,rfl,_,c⟩:=DataW.trod_int underlying3 a;exact⟨d,rfl,c⟩
theorem GK{α:Type}{a:List α}{n i:Nat}(d:a.length=n)(hi:i<n): ∃c,a[i]?=some c:=⟨a[i],hX (by omega)⟩
theorem ZY{m:Nat}{cs:List Value}{x:DataW H×List MemPlace}(c:DataW.trod enc prog w base spare held m 43 cs=some x)(i:Nat)(hi:i<2): dJ cs i:=by
 obtain⟨k,j,_,_,_,d,e⟩:=DataW.trod_array underlying43 c;obtain⟨y,h⟩:=GK d hi;have a:=e i hi;rw[h,cells3,Nat.mul_one]at a;have:=(MU a).sub;simpa using this
theorem zMu{m:Nat}{cs:List Value}{x:DataW H×List MemPlace}(d:DataW.trod enc prog w base spare held m 44 cs=some x)(i:Nat)(hi:i<6): dJ cs i:=by
 obtain⟨l,k,_,_,_,e,h⟩:=DataW.trod_array underlying44 d;have c:i/2<3:=by omega
 obtain⟨y,j⟩:=GK e c;have a:=h (i/2) c;rw[j,zM5]at a;have:=(ZY a (i%2) (by omega)).sub;rwa [show i/2*2+i%2=i by omega]at this
theorem zN9{m:Nat}{cs:List Value}{x:DataW H×List MemPlace}(n:DataW.trod enc prog w base spare held m 46 cs=some x)(i:Nat)(hi:i<20): dJ cs i:=by
 obtain⟨h,l,_,_,_,r,k⟩:=DataW.trod_struct underlying46 n;have j:h.length=15:=r;have one:∀(a:Nat) (f:Field),(Option.map (λf:Field=>(f.type,f.offset)) (some f))=some (3,a)->a<14->DataW.trod enc prog w base spare held l f.type ((cs.drop f.offset).take (prog.cellsOf f.type))=h[a]?->dJ cs a:=by
  intro a f d s c;obtain⟨y,e⟩:=GK j (show a<15 by omega);simp only[ke,lM,Prod.mk.injEq]at d;rw[d.1,d.2,e]at c;have:=(MU c).sub;simpa using this
 by_cases o:i<14
 ·have q:i=0\/i=1\/i=2\/i=3\/i=4\/i=5\/i=6\/i=7\/i=8\/i=9\/i=10\/i=11\/i=12\/i=13:=by omega
  rcases q with rfl | rfl | rfl | rfl | rfl | rfl | rfl | rfl | rfl | rfl | rfl | rfl | rfl | rfl <;> exact one _ _ rfl o (k _ _ rfl)
 obtain⟨y,e⟩:=GK j (show 14<15 by omega);have c:DataW.trod enc prog w base spare held l 44 ((cs.drop 14).take (prog.cellsOf 44))=h[14]?:=k 14 _ rfl;rw[e]at c;have:=(zMu c (i-14) (by omega)).sub;rwa [show 14+(i-14)=i by omega]at this
theorem ZI{m:Nat}{cs:List Value}{x:DataW H×List MemPlace}(t:DataW.trod enc prog w base spare held m 48 cs=some x):
  ∃(h:Nat->Int) (b:ByteArray),cs=(G1 h b).cells/\(∀a,a<25->(Lit.int .i64 (h a)).wf=true)/\b.size<=maxLen:=by
 obtain⟨k,q,_,_,hlen,D,o⟩:=DataW.trod_struct underlying48 t;rw[ME]at hlen;have n:k.length=7:=D;have one:∀(c:Nat) (f:Field),(Option.map (λf:Field=>(f.type,f.offset)) (some f))=some (3,c)->c<5->DataW.trod enc prog w base spare held q f.type ((cs.drop f.offset).take (prog.cellsOf f.type))=k[c]?->dJ cs c:=by
  intro c f l j d;obtain⟨y,e⟩:=GK n (show c<7 by omega);simp only[ke,lM,Prod.mk.injEq]at l;rw[l.1,l.2,e]at d;have:=(MU d).sub;simpa using this
 have hints:∀a,a<25->dJ cs a:=by
  intro a s;by_cases u:a<5
  ·have B:a=0\/a=1\/a=2\/a=3\/a=4:=by omega
   rcases B with rfl | rfl | rfl | rfl | rfl <;> exact one _ _ rfl u (o _ _ rfl)
  obtain⟨y,e⟩:=GK n (show 5<7 by omega);have d:DataW.trod enc prog w base spare held q 46 ((cs.drop 5).take (prog.cellsOf 46))=k[5]?:=o 5 _ rfl;rw[e]at d;have:=(zN9 d (a-5) (by omega)).sub;rwa [show 5+(a-5)=a by omega]at this
 obtain⟨h,r⟩:=choose_lt (α:=Int) hints;obtain⟨y,e⟩:=GK n (show 6<7 by omega);have d:DataW.trod enc prog w base spare held q 9 ((cs.drop 25).take (prog.cellsOf 9))=k[6]?:=o 6 _ rfl;rw[e]at d;obtain⟨b,v,_,A⟩:=DataW.trod_string underlying9 d;have z:cs[25]?=some (.string b):=QZ (off:=25) (i:=0) (by rw[v];rfl);refine⟨h,b,?_,λa s=>(r a s).2,A⟩;rw[VC];apply j4;intro c;by_cases j:c<25
 ·rw[(r c j).1,iO (by simpa using j)];simp[j]
 by_cases C:c=25
 ·subst C;rw[z];rfl
 rw[jz (by omega),jz (by simp;omega)]
end
end
section
open Go.ChangeShapes Go.WideShapes Go.ChangeAt Go.RowKit Go.Deep
theorem own: ownKnob prog.godebug=none:=by kernel_rfl
theorem laidOut: laidOutB prog=true:=by kernel_rfl
theorem aA.below{w w':World}(a:lO w w'): Below w.heap.size w w':=⟨a.os,a.tape,a.output,a.size,λd c=>a.block d c id⟩
end
section
def D3(l:List aO): List Value:=l.flatMap aO.cells
theorem Sl(a b:List aO): D3 (a++b)=D3 a++D3 b:=by simp[D3]
theorem Nw(l:List aO): (D3 l).length=l.length*26:=by
 induction l with
 | nil=>rfl
 | cons a l d =>
  have c:D3 (a::l)=a.cells++D3 l:=by simp[D3]
  rw[c,hY,d,iA];have:a.cells.length=26:=rfl;omega
theorem O6(l:List aO)(i j:Nat)(x:aO)(c:l[i]?=some x)(h:j<26): (D3 l)[i*26+j]?=x.cells[j]?:=by
 induction l generalizing i with
 | nil=>simp at c
 | cons a l e =>
  have d:D3 (a::l)=a.cells++D3 l:=by simp[D3]
  have k:a.cells.length=26:=rfl;rw[d];cases i with
  | zero =>
   have:a=x:=by simpa using c
   subst this;rw[iO (by omega)];simp
  | succ i =>
   rw[iS (by omega)];have:=e i (by simpa using c);rw[<-this];congr 1;omega
theorem VB(l:List aO)(a:Value)(c:a∈D3 l): a.oneCell'=true:=by
 obtain⟨e,_,d⟩:=k3.1 c;have:=Jb e;simp only[List.all_toArray,ki]at this;exact this a d
abbrev Dj(w:World)(base:Nat)(v:Value)(ops:List aO): Prop:=w.ownsRow base 48 26 v ops.length (D3 ops)
def bI(w:World)(v:Value)(ops:List aO): Prop:=((∃a c,v=.slice a 0 c)/\ops=[])\/∃sb so cap,v=.slice (some ⟨sb,so,none⟩) ops.length cap/\ops.length<=cap/\dB w sb so ops/\sb<w.heap.size
theorem dB.keeps{w w':World}{d e:Nat}{c:List aO}(a:dB w d e c)(h:lO w w'): dB w' d e c :=
 λk m i l n j=>h.cell (a k m i l n j) id
theorem bI.keeps{w w':World}{v:Value}{d:List aO}(a:bI w v d)(c:lO w w'): bI w' v d:=by
 rcases a with a | ⟨k,l,e,h,i,j,m⟩
 ·exact .inl a
 exact .inr ⟨k,l,e,h,i,j.keeps c,by have:=c.size;omega⟩
theorem VM{w:World}{base:Nat}{v:Value}{a:List aO}(o:Dj w base v a): (v=.slice none 0 0/\a=[])\/∃g c,v=.slice (some ⟨g,0,none⟩) a.length c/\a.length<=c/\dB w g 0 a/\g<w.heap.size/\base<=g/\c<=maxLen:=by
 rcases o.2 with ⟨d,e⟩ | ⟨g,c,n,d,e,j,q,r,A,s⟩
 ·exact .inl ⟨d,iL.1 e⟩
 refine .inr ⟨g,c,d,q,?_,(jr.1 j).1,e,r⟩;intro h x l i z m;have u:i<26:=by have:=(ik.1 m).1;exact this
 have B:h<a.length:=(ik.1 l).1;have k:=O6 a h i x l u;have t:n[h*26+i]?=some z:=by
  rw[<-s,iV,h9 (by omega),m]at k;simpa using k
 rw[ja];simp[World.cell?,j,t]
theorem Hq{w:World}{base:Nat}{v:Value}{d:List aO}(h:Dj w base v d): bI w v d:=by
 rcases VM h with ⟨a,c⟩ | ⟨g,e,a,c,i,j,_,_⟩
 ·exact .inl ⟨⟨_,_,a⟩,c⟩
 exact .inr ⟨g,0,e,a,c,i,j⟩
def MZ: List Value:=(⟨0,0,0,0,0,cz,Ai⟩:aO).cells
theorem zOt: (prog.info? 48).map (λa=>(a.zero,a.size,a.bytes))=some (some (.agg MZ.toArray),26,216):=by kernel_rfl
theorem II{w:World}{O:Array Oper}{rest:List Oper}{o:Oper}{a:Act}{A:Exit->Act->World->Prop}(F:o.guard=none)(s x:Operand)(H:o.op=.call { callee:=.builtin .append,args:=#[s,x],argTypes:=#[22,22] })(base:Nat)(l:Value)(e:List aO)(J:a.eval s=l)(q:Dj w base l e)(z:Value)(c:List aO)(L:a.eval x=z)(D:bI w z c)(hlen:e.length+c.length<=651562446089)(U:base<=w.heap.size)(i:∀k h m,Dj m base (.slice k (e.length+c.length) h) (e++c)->aA (λj=>l.ownBlock=some j) w m->(∀j,(Value.slice k (e.length+c.length) h).ownBlock=some j->l.ownBlock=some j\/w.heap.size<=j)->wpList prog O A rest (a.put o.dst (.slice k (e.length+c.length) h)) m): wpList prog O A (o::rest) a w:=by
 obtain⟨N,G,ab,ad,ae⟩:=jh zOt;by_cases t:c=[]
 ·subst t;have aa:∃k h,z=.slice k 0 h:=by
   rcases D with ⟨i,_⟩ | ⟨P,r,B,i,_⟩
   ·exact i
   exact⟨_,_,i⟩
  obtain⟨k,h,rfl⟩:=aa;obtain⟨R,Q,v⟩:=DC q;refine JB F s x 22 H base 48 N 26 underlying22 G l e.length (D3 e) J q k h L ?_;have:=i R Q w (by rw[iz];rw[v]at q;exact q) (aA.refl _ _) (by rw[v];exact λj u=>.inl u);rw[v];exact this
 rcases D with ⟨_,S⟩ | ⟨P,r,B,rfl,ah,Z,aj⟩
 ·exact absurd S t
 have Y:0<c.length:=jG.2 t;refine jf w F s x 22 H base 48 N (.agg MZ.toArray) 26 216 underlying22 G ab ad ae (by rfl) (by omega) l e.length (D3 e) J q ⟨P,r,none⟩ c.length B (D3 c) L (Nw c) ?_ (VB c) Y (by unfold maxLen;omega) (by omega) U w.heap.size rfl ?_
 ·intro d ag M;have ai:d<c.length*26:=by have:=(ik.1 M).1;rwa [Nw]at this
  have I:d/26<c.length:=by omega
  have E:=O6 c (d/26) (d%26) c[d/26] (hX I) (by omega);rw[show d/26*26+d%26=d by omega,M]at E;have:=Z (d/26) c[d/26] (hX I) (d%26) ag E.symm;rw[Go.WideShapes.add_plain,show r+d=r+d/26*26+d%26 by omega];exact this
 intro g h m X n T ak;refine i (some ⟨g,0,none⟩) h m ?_ ?_ ?_
 ·show m.ownsRow base 48 26 _ (e++c).length (D3 (e++c));rw[Sl,hY];exact X
 ·exact⟨n.os,n.tape,n.output,n.size,λaf V W=>n.block af V (λi=>W i.symm)⟩
 intro j u;have:g=j:=by simpa[Value.ownBlock] using u
 subst this;rcases T with C | C
 ·exact .inl C
 exact .inr (by omega)
theorem N1(w:World)(o:aO): (Rm 22 1 #[(0,.agg o.cells.toArray)]).run prog w=.ok (.value (.slice (some ⟨w.heap.size,0,none⟩) 1 1)) (w.alloc (.cells o.cells.toArray 48)):=by kernel_rfl
theorem LO{w:World}{b:Nat}{o:aO}(a:aD w b o.cells 48): bI w (.slice (some ⟨b,0,none⟩) 1 1) [o]:=by
 refine .inr ⟨b,0,1,rfl,by simp,?_,a.lt⟩;intro h i c j k e;have d:h=0:=by have:=(ik.1 c).1;simp at this;omega
 subst d;have:o=i:=by simpa using c
 subst this;have:=a.cell e;simpa using this
end
section
open Go.ChangeShapes Go.WideShapes Go.ChangeAt Go.RowKit Go.Deep
theorem Iw: prog.globalNamed "math/bits.deBruijn64tab"=some 2:=by kernel_rfl
theorem ZA: (prog.globals[2]?).map (·.type)=some 283:=by kernel_rfl
theorem zNg: prog.cellsOf 283=64:=by kernel_rfl
theorem zNf: prog.cellsOf 5=1:=by kernel_rfl
theorem zL9: prog.underlying 5=some (.int .u8):=by kernel_rfl
def K6: List Int:=Lib.deBruijn64tab.map λ(n:Nat)=>(n:Int)
def zLj: Array Value:=(K6.map (.int .u8 ·)).toArray
theorem zPd{W:World}(c:laidMetH prog [("math/bits.deBruijn64tab",Rows.laid_math_bits_deBruijn64tab)] W): eE W:=by
 have e:Lib.TabIs prog W "math/bits.deBruijn64tab" .u8 K6:=Lib.tabIs_of_head (rest:=[]) Iw ZA underlying283 zL9 zNf zNg c
 intro h a;have d:=e.cell Iw h (by simpa[K6] using a);rw[d];unfold K6;rw[List.getD_eq_getElem?_getD,List.getD_eq_getElem?_getD,iP,hX a];rfl
noncomputable def LZ(os:Os): World :=
 { World.holding prog os ⟨#[],#[],[]⟩ with heap:=(World.holding prog os ⟨#[],#[],[]⟩).heap.modify 2 fun
     | .cells _ t frozen=>.cells zLj t frozen
     | o=>o }
theorem SJ{r:Type}{enc:TypeId×Value->r}{W:World}{fuel:Nat}{t:Option Addr}{len k:Nat}{u:DataW r}{p:List MemPlace}(I:DataW.trod enc prog W 0 (λ_=>true) true fuel 22 (Value.slice t len k).cells.toList=some (u,p))(N:∀T∈p,T.block<W.heap.size):
  ∃q,bI W (.slice t len k) q/\q.length=len/\(len≠0->∃elems spare,u=.slice elems spare/\len<=elems.length+spare.length)/\∀a,a∈q->-9223372036854775808<=a.a/\a.a<=9223372036854775807:=by
 by_cases A:len=0
 ·subst A;exact⟨[],.inl ⟨⟨_,_,rfl⟩,rfl⟩,rfl,λG=>absurd rfl G,λa d=>by cases d⟩
 rcases open_slice underlying22 I with ⟨e,n⟩ | ⟨D,Z,X,S,aa,U,V,e,_,M,Y,L,n,m⟩
 ·simp[Value.cells]at e;exact absurd e.2.1 A
 simp[Value.cells]at e;obtain⟨rfl,rfl,rfl⟩:=e;simp only[Prod.mk.injEq]at n;obtain⟨rfl,rfl⟩:=n;simp only[lH]at L;subst S;rw[ME]at m;obtain⟨b,o,spot⟩:=D;have P:spot=none:=by
  obtain⟨F,l,_⟩:=m 0 (by omega);obtain⟨_,v,w⟩:=World.cells?_some l;have i:=w 0 (by omega);rw[hX (by omega)]at i;simpa[Addr.add] using World.cell?_spot i
 subst P;have H:b<W.heap.size:=N (.cell b o) (List.mem_append_left _ (MemPlace.mem_row.2 ⟨0,by rw[ME];omega,by simp⟩));have O:∀c,c<len->∃a:aO,W.rangeAt b (o+c*26) a.cells/\-9223372036854775808<=a.a/\a.a<=9223372036854775807:=by
  intro c h;obtain⟨F,l,v⟩:=m c (by omega);obtain⟨j,E,rfl,R,_⟩:=ZI v;obtain⟨_,w,i⟩:=World.cells?_some l;have Q:=R 2 (by omega)
  refine⟨G1 j E,λC ab B=>?_,by
     have x:IntKind.i64.min<=j 2/\j 2<=IntKind.i64.max:=by simpa[Lit.wf] using Q
     rw[show IntKind.i64.min=-9223372036854775808 by rfl,show IntKind.i64.max=9223372036854775807 by rfl]at x
     exact x⟩
  have J:C<26:=by have:=(ik.1 B).1;omega
  have:=i C J;rw[add_add,add_plain,B,<-Nat.add_assoc]at this;exact this
 haveI:Inhabited aO:=⟨o1⟩
 obtain⟨s,z⟩:=choose_lt (α:=aO) O;refine⟨(List.range len).map s,.inr ⟨b,o,k,by simp,by simpa using M,?_,H⟩,by simp,λ_=>⟨_,_,rfl,by simp⟩,λa d=>?_⟩
 ·intro c a d;have h:c<len:=by have:=(ik.1 d).1;simpa using this
  have:s c=a:=by simpa[h] using d
  rw[<-this];exact(z c h).1
 obtain⟨c,h,rfl⟩:=iE.1 d;exact(z c (lj.1 h)).2
end
section
structure bA where
 t:Int
 k:Int
 d:Int
 n:Int
 tick:Int
structure dR where
 t:Int
 m:Int
 fC:Bool
 throw:Int
structure aG where
 id:Int
 c:Cfg
 items:List bA
 events:List dR
 ref:List Int
structure cT where
 clock:Int
 aC:Int
 xs:List aG
def Ap(l:List bA): List Int:=(l.filter (λz=>z.tick==0)).map (·.t)
def AX(l:List bA): List Int:=(l.filter (λz=>!(z.tick==0))).map (·.t)
def Aj(l:List bA)(i:Nat): bA:=l.getD i ⟨0,0,0,0,0⟩
def FL(c:Cfg)(a:Int): Int:=if (c.kind==4||c.kind==5)&&Ab a 0 4611686018427387904 then Ar (Am c a) else 1
def GO(c:Cfg): Bool:=c.kind==2||(c.kind==3||c.kind==5)
def Ck(y:aG)(clock:Int)(o:aO): Int :=
 if Ab o.a 0 4611686018427387904 then
  if o.a<=clock-y.c.aK then 6
  else if clock<o.a-y.c.bF then 7
  else if FL y.c o.a=0 then 8
  else if GO y.c&&!Ab o.b 0 2147483648 then 10
  else if y.c.kind==5&&!Ab o.c 1 2147483648 then 9
  else if y.c.cap<=(Ap y.items).length then 11 else 0
 else 5
def Ey(all:List bA)(mark:Int): List bA->Nat->Int->Int
 | [],_,k=>k
 | x::r,i,k=>Ey all mark r (i+1) (if x.tick=0/\x.t<=mark/\(k<0\/x.t<(Aj all k.toNat).t) then(i:Int) else k)
def Cx(all:List bA)(mark:Int): Int:=Ey all mark all 0 (-1)
def AZ(l:List bA)(i:Nat)(aC:Int): List bA:=l.set i { Aj l i with tick:=aC }
def BS: Nat->aG->Int->Int->aG
 | 0,y,_,_=>y
 | f+1,y,mark,aC=>if Cx y.items mark<0 then y
  else BS f { y with items:=AZ y.items (Cx y.items mark).toNat aC,events:=y.events++[⟨(Aj y.items (Cx y.items mark).toNat).t,mark,false,0⟩] } mark aC
def Bd(clock aC:Int)(y:aG): aG:=BS (y.items.length+1) y (clock-y.c.aK) aC
def FR(c:Cfg)(l:List Bk)(e:dR): List Bk:=if e.fC then l.drop e.throw.toNat else C1 c l e.t e.m
def A3(c:Cfg)(eP:List dR): List Bk:=eP.foldl (FR c) []
structure fT (c:Cfg) (eP:List dR):Prop where
 hM:∀(i:Nat) e,eP[i]?=some e->e.fC=true->0<=e.throw/\e.throw<=(A3 c (eP.take i)).length
 mark:∀e,e∈eP->-100<=e.m/\e.m<=4611686018427387904
def TS(q:List Bk): Prop:=∀i j,i<=j->j<q.length->(Ad q i).t<=(Ad q j).t
structure eA (clock:Int) (y:aG):Prop where
 ok:fT y.c y.events
 ts:TS (A3 y.c y.events)
 le:∀b,b∈A3 y.c y.events->b.t<=clock-y.c.aK
 wt:∀t,t∈Ap y.items->clock-y.c.aK<t
def BY(clock:Int)(y:aG): Int:=pastN (A3 y.c y.events) (clock-y.c.aK-y.c.aB)
def F5(clock b:Int)(y:aG): aG:={ y with events:=y.events++[⟨0,0,true,min (BY clock y) b⟩] }
def B6(clock aC:Int): Int->List aG->List aG×Int
 | _,[]=>([],0)
 | b,y::ys=>if y.c.kind=1 then
   (F5 clock b (Bd clock aC y)::(B6 clock aC (b-min (BY clock (Bd clock aC y)) b) ys).1,
      BY clock (Bd clock aC y)-min (BY clock (Bd clock aC y)) b+(B6 clock aC (b-min (BY clock (Bd clock aC y)) b) ys).2)
  else(Bd clock aC y::(B6 clock aC b ys).1,(B6 clock aC b ys).2)
def Di: List aG->Int->aG->List aG
 | [],_,_=>[]
 | x::r,id,y=>if x.id==id then y::r else x::Di r id y
def EC(xs:List aG)(id:Int): Option aG:=xs.find? (λx=>x.id==id)
def CH(id:Int)(c:Cfg): aG:=⟨id,c,[],[],List.replicate 15 0⟩
def He(x:aG)(c:Nat): aG:={ x with ref:=x.ref.set c (Ac x.ref c+1) }
def EY(x:aG)(o:aO): aG:={ x with items:=x.items++[⟨o.a,o.b,o.c,x.items.length+1,0⟩] }
def CK(s:cT)(o:aO): cT×Int×List Int :=
 if Ab o.id 0 99=true/\(EC s.xs o.id).isNone=true then
  if Ak o.cfg=true then(if s.xs.length=6 then(s,4,[]) else(⟨s.clock,s.aC,s.xs++[CH o.id o.cfg]⟩,0,[])) else(s,3,[])
 else(s,2,[])
def Fa(s:cT)(o:aO): cT×Int×List Int :=
 match EC s.xs o.id with
 | none=>(s,2,[])
 | some y=>if Ck y s.clock o=0 then(⟨s.clock,s.aC,Di s.xs o.id (EY y o)⟩,0,[(y.items.length:Int)+1])
  else(⟨s.clock,s.aC,Di s.xs o.id (He y (Ck y s.clock o).toNat)⟩,Ck y s.clock o,[])
def Ih(s:cT)(o:aO): cT×Int×List Int :=
 if Ab o.a 0 4611686018427387904=true then
  if Ab o.b 0 100=true then(⟨Au s.clock o.a,s.aC+1,(B6 (Au s.clock o.a) (s.aC+1) o.b s.xs).1⟩,0,[(B6 (Au s.clock o.a) (s.aC+1) o.b s.xs).2]) else(s,12,[])
 else(s,5,[])
def BL(s:cT)(o:aO): cT×Int×List Int :=
 if o.kind=1 then CK s o else if o.kind=2 then Fa s o else if o.kind=3 then Ih s o else(s,1,[])
def CU(c:Cfg): List bA->Int->Int->Int×Int
 | [],hi,lo=>(hi,lo)
 | z::r,hi,lo=>if 0<z.tick then CU c r (hi+Ar (Am c z.t)/2305843009213693952+(lo+Ar (Am c z.t)%2305843009213693952)/2305843009213693952) ((lo+Ar (Am c z.t)%2305843009213693952)%2305843009213693952) else CU c r hi lo
def KH(s:cT)(o:aO): Int×List Int :=
 match EC s.xs o.id with
 | none=>(2,[])
 | some y=>(0,(y.items.length:Int)::((y.items.length:Int)-(Ap y.items).length)::AE.map (Ac y.ref))
def Hj(s:cT)(o:aO): Int×List Int:=if o.kind=5 then KH s o else(BL s o).2
def EI(s:cT)(o:aO): cT:=if o.kind=4\/o.kind=5 then s else(BL s o).1
def Bn: cT:=⟨0,0,[]⟩
def Dq(f:Int->Int): List Int->Int
 | []=>0
 | a::l=>f a+Dq f l
theorem TR(f:Int->Int)(a b:List Int): Dq f (a++b)=Dq f a+Dq f b:=by
 induction a with
 | nil=>simp[Dq]
 | cons d a c=>simp only[List.cons_append,Dq,c];omega
theorem Pg(f:Int->Int){a b:List Int}(c:a.Perm b): Dq f a=Dq f b:=by
 induction c with
 | nil=>rfl
 | cons e _ d=>simp only[Dq,d]
 | swap e y l=>simp only[Dq];omega
 | trans _ _ h1 h2=>exact h1.trans h2
def BE(m aC:Int)(z:bA): bA:=if z.tick=0/\z.t<=m then { z with tick:=aC } else z
theorem Vf(m aC:Int)(n:aC≠0)(l:List bA): Ap (l.map (BE m aC))=(Ap l).filter (λj=>decide (m<j)):=by
 induction l with
 | nil=>rfl
 | cons a l o =>
  have i:(List.filter (λa=>a.tick==0) (l.map (BE m aC))).map (·.t)=(Ap l).filter (λj=>decide (m<j)):=o;unfold Ap;rw[iC,iR];by_cases c:a.tick=0
  ·by_cases k:a.t<=m
   ·have:BE m aC a={ a with tick:=aC }:=by unfold BE;rw[h9 ⟨c,k⟩]
    rw[this,iR];have e:(aC==0)=false:=by simpa using n
    have h:decide (m<a.t)=false:=by simp;omega
    simp only[e,c,beq_self_eq_true,lH,iC,iR,h,Bool.false_eq_true,if_false];exact i
   have:BE m aC a=a:=by unfold BE;rw[hZ (λd=>k d.2)]
   rw[this,iR];have h:decide (m<a.t)=true:=by simp;omega
   simp only[c,beq_self_eq_true,lH,iC,iR,h];rw[i];rfl
  have:BE m aC a=a:=by unfold BE;rw[hZ (λd=>c d.1)]
  have e:(a.tick==0)=false:=by simpa using c
  rw[this,iR];simp only[e,Bool.false_eq_true,if_false];exact i
theorem WF(m aC:Int)(n:aC≠0)(l:List bA): (AX (l.map (BE m aC))).Perm (AX l++(Ap l).filter (λo=>decide (o<=m))):=by
 induction l with
 | nil=>exact jb _
 | cons a l k =>
  by_cases c:a.tick=0
  ·have h:AX (a::l)=AX l:=by unfold AX;rw[iR];simp[c]
   have i:Ap (a::l)=a.t::Ap l:=by unfold Ap;rw[iR];simp[c]
   rw[h,i,iC,iR];by_cases e:a.t<=m
   ·have:BE m aC a={ a with tick:=aC }:=by unfold BE;rw[h9 ⟨c,e⟩]
    have d:AX (BE m aC a::l.map (BE m aC))=a.t::AX (l.map (BE m aC)):=by
     rw[this];unfold AX;rw[iR];simp[n]
    rw[d,h9 (by simpa using e)];exact(List.Perm.cons _ k).trans k0.symm
   have:BE m aC a=a:=by unfold BE;rw[hZ (λj=>e j.2)]
   have d:AX (BE m aC a::l.map (BE m aC))=AX (l.map (BE m aC)):=by
    rw[this];unfold AX;rw[iR];simp[c]
   rw[d,hZ (by simpa using e)];exact k
  have h:AX (a::l)=a.t::AX l:=by unfold AX;rw[iR];simp[c]
  have i:Ap (a::l)=Ap l:=by unfold Ap;rw[iR];simp[c]
  have:BE m aC a=a:=by unfold BE;rw[hZ (λj=>c j.1)]
  have d:AX (BE m aC a::l.map (BE m aC))=a.t::AX (l.map (BE m aC)):=by
   rw[this];unfold AX;rw[iR];simp[c]
  rw[h,i,iC,d,List.cons_append];exact List.Perm.cons _ k
theorem E6(l:List bA): (Ap l).length+(AX l).length=l.length:=by
 induction l with
 | nil=>rfl
 | cons c l a =>
  unfold Ap AX at *
  rw[iR,iR];cases (c.tick==0) <;> simp at a ⊢ <;> omega
theorem Cq(l:List bA)(j:Nat)(a:j<l.length): Aj l j=l[j]:=by
 unfold Aj;rw[List.getD_eq_getElem?_getD,hX a];rfl
def JA(all:List bA)(mark:Int)(k:Int): Prop:=(0<=k/\k.toNat<all.length/\(Aj all k.toNat).tick=0/\(Aj all k.toNat).t<=mark)
theorem VA(all:List bA)(mark:Int)(l:List bA): ∀(i:Nat) (k:Int),l=all.drop i->(k=-1\/JA all mark k)->(k=-1->∀a,a<i->a<all.length->(Aj all a).tick=0->mark<(Aj all a).t) ->
  (Ey all mark l i k=-1/\∀a,a<all.length->(Aj all a).tick=0->mark<(Aj all a).t)\/JA all mark (Ey all mark l i k):=by
 induction l with
 | nil =>
  intro i k e c j;have hlen:all.length<=i:=by
   have:=congrArg List.length e;simp at this;omega
  unfold Ey;rcases c with c | c
  ·exact .inl ⟨c,λa r=>j c a (by omega) r⟩
  exact .inr c
 | cons h z t =>
  intro i k e c j;have m:i<all.length:=by
   have:=congrArg List.length e;simp at this;omega
  rw[List.drop_eq_getElem_cons m]at e;injection e with x s;have o:Aj all i=h:=by rw[Cq _ _ m,x]
  unfold Ey;by_cases d:h.tick=0/\h.t<=mark/\(k<0\/h.t<(Aj all k.toNat).t)
  ·rw[h9 d];refine t (i+1) i s (.inr ⟨by omega,by simpa using m,?_,?_⟩) (λq=>by omega)
   ·rw[iH,o];exact d.1
   rw[iH,o];exact d.2.1
  rw[hZ d];refine t (i+1) k s c (λq a r v n=>?_);by_cases w:a=i
  ·subst w;rw[o]at n ⊢;by_cases u:h.t<=mark
   ·exact absurd ⟨n,u,.inl (by omega)⟩ d
   omega
  exact j q a (by omega) v n
theorem Hv(all:List bA)(mark:Int): (Cx all mark=-1/\∀c,c∈all->c.tick=0->mark<c.t)\/JA all mark (Cx all mark):=by
 rcases VA all mark all 0 (-1) rfl (.inl rfl) (λ_ e a=>absurd a (by omega)) with ⟨d,h⟩ | d
 ·refine .inl ⟨d,λc j i=>?_⟩;obtain⟨e,a,rfl⟩:=jR.1 j;have:=h e a;rw[Cq _ _ a]at this;exact this i
 exact .inr d
theorem Ye(mark aC:Int)(all:List bA)(c:∀a,a∈all->a.tick=0->mark<a.t): all.map (BE mark aC)=all:=by
 conv=>rhs;rw[<-List.map_id all]
 refine jO λa e=>?_;unfold BE;rw[hZ (λd=>by have:=c a e d.1;omega)];rfl
theorem Z7(mark aC:Int)(l:aC≠0)(all:List bA)(k:Nat)(c:k<all.length)(i:(Aj all k).tick=0)(j:(Aj all k).t<=mark): (AZ all k aC).map (BE mark aC)=all.map (BE mark aC):=by
 unfold AZ;rw[kH];have d:BE mark aC (Aj all k)={ Aj all k with tick:=aC }:=by unfold BE;rw[h9 ⟨i,j⟩]
 have e:BE mark aC { Aj all k with tick:=aC }={ Aj all k with tick:=aC }:=by unfold BE;rw[hZ (λh=>l h.1)]
 rw[e,<-d,Cq _ _ c];apply j4;intro m;rw[jE];by_cases a:k=m
 ·subst a;simp[c]
 rw[hZ a]
theorem If(aC:Int)(d:aC≠0)(all:List bA)(k:Nat)(a:k<all.length)(c:(Aj all k).tick=0): (Ap (AZ all k aC)).length+1=(Ap all).length:=by
 unfold AZ Ap;rw[Cq _ _ a]at c ⊢;rw[List.set_eq_take_append_cons_drop,h9 a]
 conv=>rhs;rw[<-List.take_append_drop k all,List.drop_eq_getElem_cons a]
 rw[jj,jj,iR,iR];simp[d,c];omega
theorem Ll(mark aC:Int)(d:aC≠0)(f:Nat): ∀y:aG,(Ap y.items).length<f ->
  (BS f y mark aC).items=y.items.map (BE mark aC)/\(BS f y mark aC).id=y.id/\(BS f y mark aC).c=y.c/\(BS f y mark aC).ref=y.ref:=by
 induction f with
 | zero=>intro y e;omega
 | succ f n =>
  intro y q;unfold BS;rcases Hv y.items mark with ⟨e,i⟩ | ⟨o,a,c,h⟩
  ·rw[h9 (by omega)];exact⟨(Ye mark aC _ i).symm,rfl,rfl,rfl⟩
  rw[hZ (by omega)];have r:=If aC d y.items _ a c;obtain⟨j,k,l,m⟩:=n { y with items:=AZ y.items (Cx y.items mark).toNat aC,events:=y.events++[⟨(Aj y.items (Cx y.items mark).toNat).t,mark,false,0⟩] } (by show(Ap (AZ _ _ _)).length<f;omega);exact⟨j.trans (Z7 mark aC d _ _ a c h),k,l,m⟩
def bA.cells(z:bA): List Value:=[.int .i64 z.t,.int .i64 z.k,.int .i64 z.d,.int .i64 z.n,.int .i64 z.tick]
def dR.cells(z:dR): List Value:=[.int .i64 z.t,.int .i64 z.m,.bool z.fC,.int .i64 z.throw]
def Cy(l:List bA): List Value:=l.flatMap bA.cells
def CR(l:List dR): List Value:=l.flatMap dR.cells
theorem Tv{α:Type}(f:α->List Value)(d:Nat)(c:∀x,(f x).length=d)(l:List α)(i j:Nat)(x:α)(a:l[i]?=some x)(k:j<d): (l.flatMap f)[i*d+j]?=(f x)[j]?:=by
 induction l generalizing i with
 | nil=>simp at a
 | cons h l e =>
  rw[ju];cases i with
  | zero =>
   simp at a;subst a;rw[iO (by rw[c];omega)];congr 1;omega
  | succ i =>
   rw[iS (by rw[c];rw[Nat.add_mul];omega),c];have:=e i (by simpa using a);rw[<-this];congr 1;rw[Nat.add_mul];omega
theorem UA{α:Type}(f:α->List Value)(a:Nat)(c:∀e,(f e).length=a)(l:List α): (l.flatMap f).length=l.length*a:=by
 induction l with
 | nil=>simp
 | cons h l d=>rw[ju,hY,d,c,iA,Nat.add_mul];omega
theorem Uu{α:Type}(f:α->List Value)(d:Nat)(c:∀x,(f x).length=d)(l:List α)(i j:Nat)(x y:α)(a:l[i]?=some x)(e:Value)(n:j<d)(h:f y=(f x).set j e): (l.flatMap f).set (i*d+j) e=(l.set i y).flatMap f:=by
 induction l generalizing i with
 | nil=>simp at a
 | cons m l k =>
  rw[ju];cases i with
  | zero =>
   simp at a;subst a;rw[List.set_append_left _ _ (by rw[c];omega),List.set_cons_zero,ju,h];congr 2;omega
  | succ i =>
   rw[kK _ _ (by rw[c,Nat.add_mul];omega),c,List.set_cons_succ,ju];have:=k i (by simpa using a);rw[<-this];congr 2;rw[Nat.add_mul];omega
theorem C2(l:List bA)(i j:Nat)(hi:i<l.length)(a:j<5): (Cy l)[i*5+j]?=(Aj l i).cells[j]? :=
 Tv bA.cells 5 (λ_=>rfl) l i j _ (by rw[Cq _ _ hi];exact hX hi) a
theorem UJ(l:List bA)(i:Nat)(hi:i<l.length)(aC:Int): (Cy l).set (i*5+4) (.int .i64 aC)=Cy (AZ l i aC) :=
 Uu bA.cells 5 (λ_=>rfl) l i 4 (Aj l i) _ (by rw[Cq _ _ hi];exact hX hi) _ (by omega) rfl
theorem DU{w:World}{base T o:Nat}{v:Value}{n:Nat}{q:List Value}(k:w.ownsRow base T o v n q):
  ∃d h,v=.slice d n h/\(∀g,d=some g->g=⟨g.block,0,none⟩)/\(0<n->∃g,d=some ⟨g,0,none⟩)/\∀g,d=some ⟨g,0,none⟩->(∀a e,q[a]?=some e->w.cell? ⟨g,a,none⟩=some e)/\∀a,w.frozen? ⟨g,a,none⟩=false:=by
 rcases k.2 with ⟨i,l⟩ | ⟨g,h,r,i,l,m,x,z,A,t⟩
 ·exact⟨none,0,by rw[i,l],λg c=>by(cases c),λB=>by omega,λg c=>by(cases c)⟩
 refine⟨some ⟨g,0,none⟩,h,i,λs c=>by cases c;rfl,λ_=>⟨g,rfl⟩,λs c=>?_⟩;cases c;refine⟨λa e j=>?_,λa=>by simp[World.frozen?,m]⟩;have u:a<n*o:=by have:=(ik.1 j).1;have:=k.1;omega
 have:r[a]?=some e:=by
  rw[<-t,iV,h9 u]at j;simpa using j
 simp[World.cell?,m,this]
theorem Q7{w:World}{base T h g n a:Nat}{j:List Value}(e:w.ownsRow base T h (.slice (some ⟨g,0,none⟩) n a) n j)(i:Nat)(d:Value):
  (w.setCell ⟨g,i,none⟩ d).ownsRow base T h (.slice (some ⟨g,0,none⟩) n a) n (j.set i d):=by
 refine⟨by rw[jx];exact e.1,?_⟩;rcases e.2 with ⟨c,_⟩ | ⟨u,t,k,c,l,m,o,q,r,s⟩
 ·cases c
 cases c;refine .inr ⟨g,a,k.set! i d,rfl,l,?_,o,q,by simp[r],?_⟩
 ·simp[World.setCell,Array.getElem?_modify,m]
 rw[<-s];simp[List.take_set]
structure RB where
 s:Nat
 iv:Value
 ev:Value
def RB.aQ(b:RB)(i:Nat): Prop:=i=b.s\/b.iv.ownBlock=some i\/b.ev.ownBlock=some i
def C4(b:RB)(y:aG): List Value:=.int .i64 y.id::y.c.eD (b.iv::b.ev::y.ref.map (.int .i64 ·))
structure bN (w:World) (b:RB) (y:aG):Prop where
 aF:aD w b.s (C4 b y) 113
 bC:w.ownsRow 0 150 5 b.iv y.items.length (Cy y.items)
 eP:w.ownsRow 0 155 4 b.ev y.events.length (CR y.events)
 si:b.iv.ownBlock≠some b.s
 se:b.ev.ownBlock≠some b.s
 ie:∀i,b.iv.ownBlock=some i->b.ev.ownBlock≠some i
theorem bN.keeps{M:Nat->Prop}{w w':World}{b:RB}{y:aG}(a:bN w b y)(e:aA M w w')(h:∀c,b.aQ c->¬M c): bN w' b y :=
 ⟨a.aF.keeps e (h _ (.inl rfl)),A2 a.bC e (λc d=>h c (.inr (.inl d))),A2 a.eP e (λc d=>h c (.inr (.inr d))),a.si,a.se,a.ie⟩
theorem bN.still{w w':World}{b:RB}{y:aG}(a:bN w b y)(c:lO w w'): bN w' b y:=a.keeps c (λ_ _ a=>a)
theorem bN.lt{w:World}{b:RB}{y:aG}(a:bN w b y)(i:Nat)(hi:b.aQ i): i<w.heap.size:=by
 rcases hi with hi | hi | hi
 ·subst hi;exact a.aF.lt
 ·exact(a.bC.lt i hi).2
 exact(a.eP.lt i hi).2
structure dX (n:Int) (y:aG):Prop where
 valid:Ak y.c=true
 items:(y.items.length:Int)<=n
 events:(y.events.length:Int)<=(AX y.items).length+n
 refl:y.ref.length=15
 cL:∀v,v∈y.ref->0<=v/\v<=n
 times:∀z,z∈y.items->0<=z.t/\z.t<=4611686018427387904
theorem dX.common{n:Int}{y:aG}(a:dX n y): 0<=y.c.aK/\y.c.aK<=100/\0<=y.c.bF/\y.c.bF<=100/\1<=y.c.cap/\y.c.cap<=8:=by
 obtain⟨i,h,d,e,c,_⟩:=Fw a.valid;simp only[B0,Ab,iK,iI]at c;omega
def E0(ps:List (RB×aG)): List Value:=ps.map λp=>.pointer (some ⟨p.1.s,0,none⟩)
structure aZ (w:World) (e:Nat) (v:Value) (clock aC:Int) (ps:List (RB×aG)):Prop where
 aF:aD w e [.int .i64 clock,.int .i64 aC,v] 105
 row:w.ownsRow 0 106 1 v ps.length (E0 ps)
 bM:∀p,p∈ps->bN w p.1 p.2
 apart:ps.Pairwise (λp q=>∀i,p.1.aQ i->¬q.1.aQ i)
 ev:v.ownBlock≠some e
 ef:∀p,p∈ps->∀i,p.1.aQ i->i≠e/\v.ownBlock≠some i
def bG(e:Nat)(v:Value)(ps:List (RB×aG))(i:Nat): Prop:=i=e\/v.ownBlock=some i\/∃p,p∈ps/\p.1.aQ i
theorem aZ.lt{w:World}{e:Nat}{v:Value}{clock aC:Int}{ps:List (RB×aG)}(a:aZ w e v clock aC ps)(i:Nat)(hi:bG e v ps i): i<w.heap.size:=by
 rcases hi with hi | hi | ⟨p,c,hi⟩
 ·subst hi;exact a.aF.lt
 ·exact(a.row.lt i hi).2
 exact(a.bM p c).lt i hi
theorem aZ.keeps{M:Nat->Prop}{w w':World}{e:Nat}{v:Value}{clock aC:Int}{ps:List (RB×aG)}(a:aZ w e v clock aC ps)(h:aA M w w')(i:∀c,bG e v ps c->¬M c): aZ w' e v clock aC ps :=
 ⟨a.aF.keeps h (i _ (.inl rfl)),A2 a.row h (λc d=>i c (.inr (.inl d))),λp j=>(a.bM p j).keeps h (λc d=>i c (.inr (.inr ⟨p,j,d⟩))),a.apart,a.ev,a.ef⟩
theorem aZ.still{w w':World}{e:Nat}{v:Value}{clock aC:Int}{ps:List (RB×aG)}(a:aZ w e v clock aC ps)(c:lO w w'): aZ w' e v clock aC ps:=a.keeps c (λ_ _ a=>a)
structure bZ (n:Int) (clock aC:Int) (xs:List aG):Prop where
 c0:0<=clock
 c1:clock<=4611686018427387904
 t0:0<=aC
 tn:aC<=n
 bX:xs.length<=6
 bD:∀x,x∈xs->dX n x
 bL:∀y,y∈xs->y.c.kind=1->eA clock y
def BI(ps:List (RB×aG))(id:Int): Option (RB×aG):=ps.find? (λp=>p.2.id==id)
def Fq: Option (RB×aG)->Value
 | some p=>.pointer (some ⟨p.1.s,0,none⟩)
 | none=>.pointer none
theorem Ge(e:Nat)(v:Value)(clock aC id:Int)(ps:List (RB×aG))(w:World)(i:aZ w e v clock aC ps)(J:ps.length<=1000):
  Calls prog 51 #[.pointer (some ⟨e,0,none⟩),.int .i64 id] w λz A=>z=.returned (Fq (BI ps id))/\A=w:=by
 have D:=i.aF.c2;obtain⟨B,C,rfl,-,o,q⟩:=DU i.row;have u:=Aa q;have t:=Aa o;have x:=Aa (show ∀p,p∈ps->w.cell? ⟨p.1.s,0,none⟩=some (.int .i64 p.2.id) from λp c=>(i.bM p c).aF.cell rfl);clear i q o;generalize s:ps.length=k at *
 have h:=Aa s;clear s;go_enter func51,ntmps51;go_wp2;go_loop [5] (λn=>∃a:Nat,a<=k/\n=.int .i64 a/\Hid (BI ps id=BI (ps.drop a) id)) (λn=>k-(intOf n).toNat)
 case atStart=>exact⟨0,iM _,rfl,rfl⟩
 case round =>
  obtain⟨a,G,rfl,l⟩:=hrel;by_cases m:a<k
  ·obtain⟨p,c⟩:∃p,ps[a]?=some p:=⟨ps[a]'(by rw[h.o];exact m),hX _⟩;have j:ps.drop a=p::ps.drop (a+1):=by
    rw[List.drop_eq_getElem_cons (by rw[h.o];exact m)];rw[hX (by rw[h.o];exact m)]at c;cases c;rfl
   obtain⟨g,r⟩:=t.o (by omega);have E:w.cell? ⟨g,a,none⟩=some (.pointer (some ⟨p.1.s,0,none⟩)):=(u.o g r).1 a _ (by unfold E0;rw[iP,c];rfl);subst r;have F:=x.o p (iu c);have H:(0:Int)<=(a:Int):=by omega
   have I:(a:Int)<(k:Int):=by omega
   cases hb:(p.2.id==id)
   ·have d:=Aa (show BI ps id=BI (ps.drop (a+1)) id by rw[l.o,j];unfold BI;rw[kI];rw[hb]);clear j c;go_wp2;go_round;case rel=>exact⟨a+1,by omega,by go_num,d⟩
    case measure=>simp[intOf];omega
   have d:=Aa (show BI ps id=some p by rw[l.o,j];unfold BI;rw[kI];rw[hb]);clear j c;go_wp2;go_ret;exact⟨by rw[d.o];rfl,rfl⟩
  have d:=Aa (show BI ps id=none by rw[l.o,iU (by rw[h.o];omega)];rfl);go_wp2;go_ret;exact⟨by rw[d.o];rfl,rfl⟩
theorem Jj(e s:Nat)(a clock:Int)(w:World)(i:w.cell? ⟨e,0,none⟩=some (.int .i64 clock))(h:w.cell? ⟨s,2,none⟩=some (.int .i64 a))(j:0<=a)(k:a<=100)(c0:0<=clock)(c1:clock<=4611686018427387904):
  Calls prog 52 #[.pointer (some ⟨e,0,none⟩),.pointer (some ⟨s,0,none⟩)] w λc d=>c=.returned (.int .i64 (clock-a))/\lO w d:=by
 go_enter func52,ntmps52;go_wp2_with fail
 go_region
 go_wp2;go_ret;exact⟨rfl,(aA.refl _ _).drew⟩
theorem UK(l:List bA)(k:Nat)(a:k<l.length): (Ap (l.take (k+1))).length=(Ap (l.take k)).length+(if (Aj l k).tick=0 then 1 else 0):=by
 rw[je a,Cq _ _ a];unfold Ap;rw[jj,iy,hY];congr 1;by_cases c:l[k].tick=0 <;> simp[c]
theorem Ls(b:RB)(y:aG)(w:World)(i:bN w b y)(N:y.items.length<=1152921504606846976):
  Calls prog 59 #[.pointer (some ⟨b.s,0,none⟩)] w λE F=>E=.returned (.int .i64 (Ap y.items).length)/\F=w:=by
 have C:w.cell? ⟨b.s,21,none⟩=some b.iv:=i.aF.cell rfl;obtain⟨G,H,D,-,n,o⟩:=DU i.bC;rw[D]at C;have x:=Aa o;have v:=Aa n;clear i o n;generalize t:y.items.length=d at *
 have h:=Aa t;clear t;generalize b.s=P at *
 go_enter func59,ntmps59;go_wp2;go_loop [3,4] (λB k=>∃a c:Nat,a<=d/\k=.int .i64 a/\B=.int .i64 c/\c<=a/\Hid ((Ap (y.items.take a)).length=c)) (λ_ k=>d-(intOf k).toNat)
 case atStart=>exact⟨0,0,iM _,rfl,rfl,il _,rfl⟩
 case round =>
  obtain⟨a,c,L,rfl,rfl,O,l⟩:=hrel;by_cases s:a<d
  ·have j:=UK y.items a (by rw[h.o];exact s);obtain⟨g,q⟩:=v.o (by omega);have J:w.cell? ⟨g,a*5+4,none⟩=some (.int .i64 (Aj y.items a).tick):=(x.o g q).1 _ _ (by rw[C2 _ _ _ (by rw[h.o];exact s) (by omega)];rfl);subst q;have M:(0:Int)<=(a:Int):=by omega
   have r:(a:Int)<(d:Int):=by omega
   rw[l.o]at j;have m:=Aa j;clear j;generalize(Aj y.items a).tick=u at *
   by_cases e:u=0
   ·subst e;go_wp2;go_round;case rel=>exact⟨a+1,c+1,by omega,by go_num,by go_num,by omega,by rw[m.o];rfl⟩
    case measure=>simp[intOf];omega
   have I:(u==0)=false:=by simpa using e
   have A:=Aa e;clear e;go_wp2;go_round;case rel=>exact⟨a+1,c,by omega,by go_num,rfl,by omega,by rw[m.o,hZ A.o];rfl⟩
   case measure=>simp[intOf];omega
  have r:a=d:=by omega
  subst r;have z:=Aa (show(Ap y.items).length=c by rw[<-l.o,iq (by rw[h.o];exact il _)]);go_wp2;go_ret;exact⟨by rw[z.o];rfl,rfl⟩
theorem WM(n k:Nat)(e:k<=61): Bj 2 n (2 ^ k)=if 61<k+n then none else some (2 ^ (k+n)):=by
 induction n generalizing k with
 | zero=>rw[hZ (by omega)];rfl
 | succ n h =>
  show(if 2305843009213693952/2<(2:Int) ^ k then none else Bj 2 n (2 ^ k*2))=_;by_cases d:k=61
  ·subst d;rw[h9 (by decide),h9 (by omega)]
  have i:=Gp k e;have c:(2:Int) ^ k<=1152921504606846976:=by
   have a:(2:Int) ^ k=((2 ^ k:Nat):Int):=by simp
   have c:2 ^ k<=2 ^ 60:=jk (by omega) (by omega);rw[a];omega
  rw[hZ (by omega),<-Int.pow_succ,h (k+1) (by omega),show k+1+n=k+(n+1) by omega]
theorem Uw(c:Cfg)(t:Int)(h:¬t<c.mark)(i:0<=c.half):
  Am c t=if 0<c.half then Bj 2 ((t-c.mark)/c.half).toNat 1 else Bj (t-c.mark+1) c.degree.toNat 1:=by
 unfold Am;rw[hZ h];by_cases a:c.half=0
 ·rw[h9 a,hZ (by rw[a];decide)]
 have j:0<=(t-c.mark)/c.half:=jK (by omega) (by omega);rw[hZ a,h9 (show 0<c.half by omega)];have:=WM ((t-c.mark)/c.half).toNat 0 (by omega);rw[ja,Int.pow_zero]at this;rw[this];generalize(t-c.mark)/c.half=d at *
 by_cases e:61<d
 ·rw[h9 e,h9 (show 61<d.toNat by omega)]
 rw[hZ e,hZ (show ¬61<d.toNat by omega)]
theorem Ju(code:Int)(w:World):
  Calls prog 28 #[.int .i64 code] w λa c=>a=.returned (Av code (.slice none 0 0))/\lO w c:=by
 go_enter func28,ntmps28;go_wp2;refine iN (v:=Av code (.slice none 0 0)) (by simp[results,results28,go_sem,Av];rfl) rfl ⟨rfl,?_⟩
 repeat (first | exact aA.refl _ _ | apply aA.alloc)
theorem YV(code:Int)(w:World): Calls prog 19 #[.int .i64 code] w λa c=>a=.returned (.int .i64 code)/\c=w:=by
 go_enter func19,ntmps19;go_wp2;go_ret;exact⟨rfl,rfl⟩
theorem EO(n lo hi:Int)(w:World):
  Calls prog 53 #[.int .i64 n,.int .i64 lo,.int .i64 hi] w λd e=>d=.returned (.bool (Ab n lo hi))/\e=w:=by
 by_cases a:lo<=n
 ·go_enter func53,ntmps53;go_wp2;go_ret;exact⟨by simp[Ab,a],rfl⟩
 have h:decide (lo<=n)=false:=by simpa using a
 have c:Hid (false=Ab n lo hi):=by simp[Hid,Ab,a]
 go_enter func53,ntmps53;go_wp2;go_ret;exact⟨Bz c.out,rfl⟩
theorem Ht(c:Cfg)(t:Int)(w:World)(h:c.bH)(ad:-100<=t)(ae:t<=4611686018427387904):
  Calls prog 85 #[c.val,.int .i64 t] w λI T=>I=.returned (.int .i64 (Ar (Am c t)))/\lO w T:=by
 obtain⟨U,V,J,D,aa,ab⟩:=h;have C:=Aa ((aA.refl (λ_=>False) w).alloc (.cells c.cells.toArray 46));by_cases G:t<c.mark
 ·have n:=Aa (show Am c t=none by unfold Am;rw[h9 G]);unfold Cfg.val Cfg.cells at *
  go_enter func85,ntmps85;go_wp2;go_ret;exact⟨by rw[n.o];rfl,C.o⟩
 have n:=Aa (Uw c t G J);obtain⟨b,a,M,W,X,F,r⟩:∃(b:Int) (a:Nat),1<=b/\b<=4611686018427387905/\(a:Int)<=4611686018427387904/\((0<c.half/\b=2/\(t-c.mark).tdiv c.half=a)\/(c.half=0/\b=t-c.mark+1/\c.degree=a))/\Hid (Am c t=Bj b a 1):=by
  by_cases o:0<c.half
  ·have Z:0<=(t-c.mark)/c.half:=jK (by omega) (by omega);have Y:(t-c.mark)/c.half<=4611686018427387904:=by
    have:=jN c.half (show 0<=t-c.mark by omega);omega
   have q:=n.o;rw[h9 o]at q;have H:(t-c.mark).tdiv c.half=(t-c.mark)/c.half:=jl (by omega);refine⟨2,((t-c.mark)/c.half).toNat,by omega,by omega,by omega,.inl ⟨o,rfl,?_⟩,q⟩;rw[H];omega
  have q:=n.o;rw[hZ o]at q;exact⟨t-c.mark+1,c.degree.toNat,by omega,by omega,by omega,.inr ⟨by omega,rfl,by omega⟩,q⟩
 have A:=Aa (show ∀p:Int,¬2305843009213693952/b<p->1<=p->1<=p*b/\p*b<=2305843009213693952 from λp D L=>KI p b L M D);clear n;have B:=Aa F;rcases F with ⟨o,rfl,H⟩ | ⟨o,E,N⟩
 ·have O:(c.half==0)=false:=by simp;omega
  unfold Cfg.val Cfg.cells at *
  go_enter func85,ntmps85;go_wp2_with fail
  clear B;go_loopw [7,8] (λp l wr=>∃(d:Nat) (e:Int),d<=a/\l=.int .i64 d/\p=.int .i64 e/\1<=e/\e<=2305843009213693952/\Hid (Bj 2 (a-d) e=Bj 2 a 1)/\Hid (lO w wr)) (λ_ l _=>a-(intOf l).toNat)
  case atStart=>exact⟨0,1,by omega,rfl,rfl,by omega,by omega,rfl,C⟩
  case round =>
   obtain⟨d,e,P,rfl,rfl,z,S,j,i⟩:=hrel;by_cases Q:d<a
   ·have R:(d:Int)<(a:Int):=by omega
    have m:=Aa (show Bj 2 (a-d) e=if 2305843009213693952/2<e then none else Bj 2 (a-(d+1)) (e*2) by
       rw[show a-d=(a-(d+1))+1 by omega];rfl)
    by_cases h:(1152921504606846976:Int)<e
    ·have k:=Aa (show Ar (Am c t)=0 by rw[r.o,<-j.o,m.o,h9 (by first | exact h | omega)];rfl);go_wp2;go_ret;exact⟨A9 k.o.symm,i.o⟩
    have s:=Aa (show Bj 2 (a-(d+1)) (e*2)=Bj 2 a 1 by rw[<-j.o,m.o,hZ (by first | exact h | omega)]);obtain⟨v,x⟩:=A.o e (by first | exact h | exact Int.not_lt.1 h | omega) z;go_wp2;go_roundw;case rel=>exact⟨d+1,e*2,by omega,by go_num,by go_num,v,x,s,i⟩
    case measure=>simp[intOf];omega
   have u:d=a:=by omega
   subst u;have k:=Aa (show Ar (Am c t)=e by rw[r.o,<-j.o,kf];rfl);go_wp2;go_ret;exact⟨A9 k.o.symm,i.o⟩
 have O:(c.half==0)=true:=by simp;omega
 unfold Cfg.val Cfg.cells at *
 go_enter func85,ntmps85;go_wp2_with fail
 try rw[<-E]
 clear B E N;go_loopw [7,8] (λp l wr=>∃(d:Nat) (e:Int),d<=a/\l=.int .i64 d/\p=.int .i64 e/\1<=e/\e<=2305843009213693952/\Hid (Bj b (a-d) e=Bj b a 1)/\Hid (lO w wr)) (λ_ l _=>a-(intOf l).toNat)
 case atStart=>exact⟨0,1,by omega,rfl,rfl,by omega,by omega,rfl,Aa ((aA.refl (λ_=>False) w).alloc _)⟩
 case round =>
  obtain⟨d,e,P,rfl,rfl,z,S,j,i⟩:=hrel;by_cases Q:d<a
  ·have R:(d:Int)<(a:Int):=by omega
   have m:=Aa (show Bj b (a-d) e=if 2305843009213693952/b<e then none else Bj b (a-(d+1)) (e*b) by
      rw[show a-d=(a-(d+1))+1 by omega];rfl)
   by_cases h:(2305843009213693952/b:Int)<e
   ·have k:=Aa (show Ar (Am c t)=0 by rw[r.o,<-j.o,m.o,h9 (by first | exact h | omega)];rfl);go_wp2;go_ret;exact⟨A9 k.o.symm,i.o⟩
   have s:=Aa (show Bj b (a-(d+1)) (e*b)=Bj b a 1 by rw[<-j.o,m.o,hZ (by first | exact h | omega)]);obtain⟨v,x⟩:=A.o e (by first | exact h | exact Int.not_lt.1 h | omega) z;go_wp2;go_roundw;case rel=>exact⟨d+1,e*b,by omega,by go_num,by go_num,v,x,s,i⟩
   case measure=>simp[intOf];omega
  have u:d=a:=by omega
  subst u;have k:=Aa (show Ar (Am c t)=e by rw[r.o,<-j.o,kf];rfl);go_wp2;go_ret;exact⟨A9 k.o.symm,i.o⟩
