import Derived.Test.YtnokbhcennjanaaGreatDoorXAA
open Go.RowKit Go.Proofs.Tryz
set_option maxRecDepth 100000
set_option maxHeartbeats 16000000
namespace Go.Proofs.YtnokbhcennjanaaGreatDoor
section
attribute [local go_sem ↓] AN B2
attribute [local go_sem] AO B4 A5 A6 AI AJ Bf B3
def fn(f:Nat): Value:=.func (.func f) #[] #[]
def Bu: Nat->Nat | 1=>91 | 2=>97 | 3=>103 | 4=>107 | _=>111
def AR: Nat->Nat | 1=>94 | 2=>100 | 3=>100 | 4=>109 | _=>113
def Bo: Nat->Nat | 1=>96 | 2=>102 | 3=>106 | 4=>110 | _=>115
def Bg: Nat->Nat | 1=>92 | 2=>98 | 3=>104 | 4=>108 | _=>112
def Bh: Nat->Nat | 1=>93 | 2=>99 | 3=>105 | 4=>93 | _=>93
def AW: Nat->Nat | 1=>95 | 2=>101 | 3=>101 | 4=>95 | _=>114
def B1(k:Nat): List Value:=[fn (Bu k),fn (Bg k),fn (Bh k),fn (AR k),fn (AW k),fn (Bo k)]
def DD: List Value:=[.nilFunc,.nilFunc,.nilFunc,.nilFunc,.nilFunc,.nilFunc]++(B1 1++(B1 2++(B1 3++(B1 4++B1 5))))
def QV(ty:TypeId)(ps:Array (Nat×Value)): Sem Next:=do pure (.value (<-Instr.build ty ps))
theorem Sy(ρ:Operand->Value)(dst:Option Tmp)(x:Array (Nat×Operand))(c:TypeId)(pos:String)(after:Array Edge)(guard:Option (Nat×Bool)):
  execOp ρ { dst,op:=.build 157 x,type:=c,pos,after,guard }=QV 157 (x.map λ(a,y)=>(a,ρ y)):=rfl
theorem VS(w:World): (QV 157 #[(1,.agg #[.func (.func 91) #[] #[],.func (.func 92) #[] #[],.func (.func 93) #[] #[],.func (.func 94) #[] #[],.func (.func 95) #[] #[],.func (.func 96) #[] #[]]),(2,.agg #[.func (.func 97) #[] #[],.func (.func 98) #[] #[],.func (.func 99) #[] #[],.func (.func 100) #[] #[],.func (.func 101) #[] #[],.func (.func 102) #[] #[]]),(3,.agg #[.func (.func 103) #[] #[],.func (.func 104) #[] #[],.func (.func 105) #[] #[],.func (.func 100) #[] #[],.func (.func 101) #[] #[],.func (.func 106) #[] #[]]),(4,.agg #[.func (.func 107) #[] #[],.func (.func 108) #[] #[],.func (.func 93) #[] #[],.func (.func 109) #[] #[],.func (.func 95) #[] #[],.func (.func 110) #[] #[]]),(5,.agg #[.func (.func 111) #[] #[],.func (.func 112) #[] #[],.func (.func 93) #[] #[],.func (.func 113) #[] #[],.func (.func 114) #[] #[],.func (.func 115) #[] #[]])]).run prog w=.ok (.value (.agg DD.toArray)) w:=by kernel_rfl
def storeT(ty:TypeId)(a x:Value): Sem Next:=do Instr.storeAt ty a x;pure .skip
theorem S5(ρ:Operand->Value)(dst:Option Tmp)(x y:Operand)(a:TypeId)(pos:String)(after:Array Edge)(guard:Option (Nat×Bool)):
  execOp ρ { dst,op:=.store 157 x y,type:=a,pos,after,guard }=storeT 157 (ρ x) (ρ y):=rfl
theorem J4: (prog.info? 157).map (·.size)=some 36:=by kernel_rfl
def Jo(arr:Array Value)(o:Nat): List Value->Array Value
 | []=>arr
 | c::r=>Jo (arr.setIfInBounds o c) (o+1) r
theorem Nl(w:World)(T:TypeId): ∀(cs:List Value) (o:Nat) (a:Array Value),(w.alloc (.cells a T)).setCells w.heap.size o cs=w.alloc (.cells (Jo a o cs) T)
 | [],_,_=>rfl
 | c::r,o,a=>by
  unfold World.setCells Jo;rw[World.setCell_alloc_at _ _ _ _ _ rfl];exact Nl w T r (o+1) (a.setIfInBounds o c)
theorem Nx: ∀(cs:List Value) (pre:List Value) (rest:List Value),rest.length=cs.length->Jo (pre++rest).toArray pre.length cs=(pre++cs).toArray
 | [],pre,rest,h=>by
  have:rest=[]:=iL.1 h;subst this;rfl
 | c::r,pre,rest,h=>by
  cases rest with
  | nil=>simp at h
  | cons d a =>
   unfold Jo;have e:((pre++d::a).toArray.setIfInBounds pre.length c)=((pre++[c])++a).toArray:=by simp
   rw[e];have:=Nx r (pre++[c]) a (by simpa using h);rw[hY]at this;simpa using this
theorem T5: DD.toArray.all (·.oneCell')=true:=by simp[DD,B1,fn,Value.oneCell']
theorem Ld: DD.length=36:=rfl
theorem UU(w:World)(a:List Value)(j:a.length=36)(b:Nat)(d:w.heap.size=b):
  (storeT 157 (.pointer (some ⟨b,0,none⟩)) (.agg DD.toArray)).run prog (w.alloc (.cells a.toArray 157))=.ok .skip (w.alloc (.cells DD.toArray 157)):=by
 subst d;unfold storeT;have i:(w.alloc (.cells a.toArray 157)).there w.heap.size 0 DD.toArray.size:=by
  intro k e;have h:k<36:=by simpa[Ld] using e
  rw[ja,kJ,World.frozen?_alloc_new];simp[j,h]
 rw[jm,k8 _ w.heap.size 0 157 DD.toArray i (by rw[J4];simp[Ld]) T5];have c:=Nx DD [] a (by rw[Ld];omega);simp only[jt,jZ]at c;rw[Nl,lg,c];rfl
attribute [local go_sem ↓] Sy S5
attribute [local go_sem] VS
@[reducible] def Df: List Value:=[.nilFunc,.nilFunc,.nilFunc,.nilFunc,.nilFunc,.nilFunc]
@[reducible] def Rn:List Value:=[.nilFunc,.nilFunc,.nilFunc,.nilFunc,.nilFunc,.nilFunc,.nilFunc,.nilFunc,.nilFunc,.nilFunc,.nilFunc,.nilFunc,.nilFunc,.nilFunc,.nilFunc,.nilFunc,.nilFunc,.nilFunc,.nilFunc,.nilFunc,.nilFunc,.nilFunc,.nilFunc,.nilFunc,.nilFunc,.nilFunc,.nilFunc,.nilFunc,.nilFunc,.nilFunc,.nilFunc,.nilFunc,.nilFunc,.nilFunc,.nilFunc,.nilFunc]
theorem aD.bX {w:World} {b:Nat} {c d e h i j:Value} {T:TypeId} (a:aD w b [c,d,e,h,i,j] T):w.cell? ⟨b,0,none⟩=some c/\w.cell? ⟨b,1,none⟩=some d/\w.cell? ⟨b,2,none⟩=some e/\w.cell? ⟨b,3,none⟩=some h/\w.cell? ⟨b,4,none⟩=some i/\w.cell? ⟨b,5,none⟩=some j/\∀k,w.frozen? ⟨b,k,none⟩=false:=⟨a.c0,a.c1,a.c2,a.c3,a.c4,a.c5,a.frozen⟩
theorem J3(d:World)(a:Nat)(e h i j k l:Value): aA (λc=>c=a) d ((((((d.setCell ⟨a,0,none⟩ e).setCell ⟨a,1,none⟩ h).setCell ⟨a,2,none⟩ i).setCell ⟨a,3,none⟩ j).setCell ⟨a,4,none⟩ k).setCell ⟨a,5,none⟩ l) :=
 ((((((aA.refl (λc=>c=a) d).setCell (p:=⟨a,0,none⟩) (Or.inl rfl) _).setCell (p:=⟨a,1,none⟩) (Or.inl rfl) _).setCell (p:=⟨a,2,none⟩) (Or.inl rfl) _).setCell (p:=⟨a,3,none⟩) (Or.inl rfl) _).setCell (p:=⟨a,4,none⟩) (Or.inl rfl) _).setCell (p:=⟨a,5,none⟩) (Or.inl rfl) _
theorem Jw{g:Func}{R:Ending->World->Prop}{a:Act}{e:World}{c:Nat}{t u x2 w x z h i j k l m v:Value}{T:TypeId}(n:aD e c [t,u,x2,w,x,z] T)(r:∀d,aD d c [h,i,j,k,l,m] T->(results g a.tmps).run prog d=.ok v d)(q:a.defers=[])(o:∀d,aA (λs=>s=c) e d->R (.returned v) d):
  bodyPost prog g R .ret a ((((((e.setCell ⟨c,0,none⟩ h).setCell ⟨c,1,none⟩ i).setCell ⟨c,2,none⟩ j).setCell ⟨c,3,none⟩ k).setCell ⟨c,4,none⟩ l).setCell ⟨c,5,none⟩ m):=iN (r _ ((((((n.setCell 0 _).setCell 1 _).setCell 2 _).setCell 3 _).setCell 4 _).setCell 5 _)) q (o _ (J3 _ _ _ _ _ _ _ _))
theorem YC{g:Func}{R:Ending->World->Prop}{a:Act}{e:World}{c:Nat}{u w x2 x z A h i j k l m v:Value}{T:TypeId}{o:Obj}(n:aD e c [u,w,x2,x,z,A] T)(s:∀d,aD d c [h,i,j,k,l,m] T->(results g a.tmps).run prog d=.ok v d)(r:a.defers=[])(q:∀d,aA (λt=>t=c) e d->R (.returned v) d):
  bodyPost prog g R .ret a (((((((e.setCell ⟨c,0,none⟩ h).setCell ⟨c,1,none⟩ i).setCell ⟨c,2,none⟩ j).setCell ⟨c,3,none⟩ k).setCell ⟨c,4,none⟩ l).setCell ⟨c,5,none⟩ m).alloc o):=iN (s _ (((((((n.setCell 0 _).setCell 1 _).setCell 2 _).setCell 3 _).setCell 4 _).setCell 5 _).alloc _)) r (q _ ((J3 _ _ _ _ _ _ _ _).alloc _))
theorem zOg(n:Nat)(c:1<=n)(d:n<=5): DD[n*6]?=some (fn (Bu n))/\DD[n*6+1]?=some (fn (Bg n))/\DD[n*6+2]?=some (fn (Bh n))/\DD[n*6+3]?=some (fn (AR n))/\DD[n*6+4]?=some (fn (AW n))/\DD[n*6+5]?=some (fn (Bo n)):=by
 have a:n=1\/n=2\/n=3\/n=4\/n=5:=by omega
 rcases a with rfl | rfl | rfl | rfl | rfl <;> exact⟨rfl,rfl,rfl,rfl,rfl,rfl⟩
theorem Po(n:Int)(w:World)(b:Bool)(F:Ab n 1 5=b)(cs:List Value)(O:(b=false/\cs=Df)\/(b=true/\cs=B1 n.toNat)):
  Calls prog 63 #[.int .i64 n] w λE C=>E=.returned (.tuple #[.agg cs.toArray,.bool b])/\lO w C:=by
 have H:=UU (w.alloc (.cells Df.toArray 75)) Rn rfl (w.heap.size+1) (by simp);unfold Df Rn at H;obtain⟨d,e⟩:∃d,d=(w.alloc (.cells Df.toArray 75)).alloc (.cells DD.toArray 157):=⟨_,rfl⟩;have j:=Aa (show aD d w.heap.size Df 75 by rw[e];exact(aD.new w Df 75).alloc _);have c:=Aa (show aD d (w.heap.size+1) DD 157 by rw[e];exact aD.newAt (by simp) _ _);have L:=Aa (show lO w d by rw[e];exact((aA.refl _ _).alloc _).alloc _);have N:=Aa e;clear e;go_enter func63,ntmps63;go_wp2_with fail
 clear H;rw[<-N.o];generalize G:w.heap.size=P at *
 have M:=Aa G;clear G;refine(AK _ _ _ _).mono ?_;rintro E C ⟨rfl,I⟩;rw[I,F];clear I C;obtain⟨W,X,Y,Z,aa,ab,ad⟩:=j.o.bX;have D:=Aa (show ∀a,aA (λJ=>J=P) d a->lO w a from λa h=>L.o.trans h (λJ Q R=>by have:=M.o;omega));rcases O with ⟨rfl,rfl⟩ | ⟨rfl,rfl⟩
 ·go_wp2;exact Jw (v:=.tuple #[.agg Df.toArray,.bool false]) j.o (λa k=>by obtain⟨l,m,o,q,r,s,_⟩:=k.bX;simp[results,results63,go_sem,l,m,o,q,r,s]) rfl (λa h=>⟨rfl,D.o a h⟩)
 obtain⟨U,V⟩:=Bp F;obtain⟨i,rfl⟩:=jd (show 0<=n by omega);obtain⟨t,u,x,z,A,B⟩:=zOg i (by omega) (by omega);replace t:=c.o.cell t;replace u:=c.o.cell u;replace x:=c.o.cell x;replace z:=c.o.cell z;replace A:=c.o.cell A;replace B:=c.o.cell B;have S:(0:Int)<=(i:Int):=by omega
 have T:(i:Int)<6:=by omega
 unfold fn at t u x z A B;go_wp2;exact Jw (v:=.tuple #[.agg (B1 i).toArray,.bool true]) j.o (λa k=>by obtain⟨l,m,o,q,r,s,_⟩:=k.bX;simp[results,results63,go_sem,l,m,o,q,r,s,B1,fn]) rfl (λa h=>⟨rfl,D.o a h⟩)
end
section
attribute [local go_sem ↓] AN B2
attribute [local go_sem] AO B4 A5 A6 AI AJ BC BD Bf B3
theorem C3{f:FuncId}{g:Func}(h:prog.funcs[f]?=some g)(i:(g.name== "runtime.NumGoroutine")=false)(e:g.body.isNone=false)(args:Array Value)(w:World):
  (callFunc f args).run prog w=.ok (.enter f args) w:=by
 have c:¬(g.name= "runtime.NumGoroutine"):=by simpa using i
 have d:¬g.body=none:=by intro a;simp[a]at e
 simp[callFunc,h,c,d]
def Hf(F:Nat->Nat): Prop:=∀k:Nat,1<=k->k<=5->∀(args:Array Value) (w:World),(callFunc (F k) args).run prog w=.ok (.enter (F k) args) w
noncomputable def GY(f:Nat): Bool:=match prog.funcs[f]? with | some g=>!(g.name== "runtime.NumGoroutine")&&!g.body.isNone | none=>false
theorem Ie{c:Nat->Nat}(e:(GY (c 1)&&GY (c 2)&&GY (c 3)&&GY (c 4)&&GY (c 5))=true): Hf c:=by
 intro d n o args m;have a:GY (c d)=true:=by
  simp only[iK]at e;obtain⟨⟨⟨⟨h,b⟩,i⟩,j⟩,k⟩:=e;have a:d=1\/d=2\/d=3\/d=4\/d=5:=by omega
  rcases a with rfl | rfl | rfl | rfl | rfl;exact h;exact b;exact i;exact j;exact k
 unfold GY at a;split at a
 ·rename_i g l;simp only[iK,Bool.not_eq_true']at a;exact C3 l a.1 a.2 args m
 cases a
theorem OM: Hf Bg:=Ie (by kernel_rfl)
theorem OX: Hf Bh:=Ie (by kernel_rfl)
theorem P5: Hf AW:=Ie (by kernel_rfl)
theorem Za: Hf Bu:=Ie (by kernel_rfl)
theorem On: Hf AR:=Ie (by kernel_rfl)
theorem Wr: Hf Bo:=Ie (by kernel_rfl)
def Gj(c:Cfg)(k:Nat): Bool:=match k with | 1=>countB c | 2=>G9 c | 3=>ER c | 4=>CN c | _=>Fs c
def Ak(c:Cfg): Bool:=Ab c.kind 1 5&&(B0 c&&Gj c c.kind.toNat)
theorem Z5(c:Cfg)(k:Nat)(w:World)(h:1<=k)(i:k<=5):
  Calls prog (Bu k) #[c.val] w λd e=>d=.returned (.bool (Gj c k))/\lO w e:=by
 have a:k=1\/k=2\/k=3\/k=4\/k=5:=by omega
 rcases a with a | a | a | a | a;all_goals subst a
 ·exact S6 c w
 ·exact R0 c w
 ·exact Sx c w
 ·exact Nk c w
 exact S9 c w
def AL(c:Cfg)(k:Nat)(x:It): Int:=match k with | 1=>0 | 2=>Dp x | 3=>Dp x | 4=>Ev c x | _=>E8 c x
theorem LU(c:Cfg)(k:Nat)(x:It)(w:World)(l:1<=k)(m:k<=5)(d:4<=k->c.bH)(e:0<=x.t)(h:x.t<=4611686018427387904):
  Calls prog (AR k) #[c.val,x.val] w λi j=>i=.returned (.int .i64 (AL c k x))/\lO w j:=by
 have a:k=1\/k=2\/k=3\/k=4\/k=5:=by omega
 rcases a with a | a | a | a | a;all_goals subst a
 ·exact Rx c x w
 ·exact Lj c x w
 ·exact Lj c x w
 ·exact Lb c x w (d (by omega)) e h
 exact R8 c x w (d (by omega)) e h
theorem PE(n:Int)(k:Nat)(w:World)(c:n=k)(e:1<=k)(h:k<=5):
  Calls prog 63 #[.int .i64 n] w λa d=>a=.returned (.tuple #[.agg (B1 k).toArray,.bool true])/\lO w d :=
 Po n w true (by unfold Ab;simp;omega) _ (Or.inr ⟨rfl,by subst c;rfl⟩)
theorem Ob(c:Cfg)(w:World)(b:Bool)(al:Ak c=b)(cs:List Value)(an:(b=false/\cs=Df)\/(b=true/\cs=B1 c.kind.toNat)):
  Calls prog 36 #[c.val] w λC a3=>C=.returned (.tuple #[.agg cs.toArray,.bool b])/\lO w a3:=by
 have ad:=Aa (show aD ((w.alloc (.cells c.cells.toArray 46)).alloc (.cells Df.toArray 75)) w.heap.size c.cells 46 from(aD.new w c.cells 46).alloc _);have ak:=Aa (show aD ((w.alloc (.cells c.cells.toArray 46)).alloc (.cells Df.toArray 75)) (w.heap.size+1) Df 75 from aD.newAt (by simp) Df _);have ah:=Aa (((aA.refl (λ_=>False) w).alloc (.cells c.cells.toArray 46)).alloc (.cells Df.toArray 75));have G:=Aa an;have P:=Aa al;clear an al;have r:∃t B,Ab c.kind 1 5=t/\((t=false/\B=Df)\/(t=true/\B=B1 c.kind.toNat)):=by
  cases a:Ab c.kind 1 5
  ·exact⟨_,_,rfl,Or.inl ⟨rfl,rfl⟩⟩
  exact⟨_,_,rfl,Or.inr ⟨rfl,rfl⟩⟩
 obtain⟨t,B,s,am⟩:=r;have r:=Aa s;have ag:=Aa am;clear s am;unfold Cfg.val;go_enter func36,ntmps36;go_wp2_with fail
 refine(Po c.kind _ t r.o B ag.o).mono ?_;rintro C ab ⟨rfl,D⟩;have S:=ak.o.keeps D id;have Q:=ad.o.keeps D id;have H:=Aa (ah.o.then D);have a6:=S.lt;obtain⟨az,av⟩:=CE Q 20 rfl;have z:=Aa S;have ae:=Aa Q;clear D S Q;rcases ag.o with ⟨rfl,rfl⟩ | ⟨rfl,rfl⟩
 ·obtain⟨rfl,rfl⟩:b=false/\cs=Df:=by
   have a:=P.o;unfold Ak at a;rw[r.o]at a;rcases G.o with h | h
   ·exact h
   rw[h.1]at a;simp at a
  obtain⟨U,V,W,X,Y,Z,aa⟩:=z.o.bX;go_wp2;exact YC (v:=.tuple #[.agg Df.toArray,.bool false]) z.o (λq i=>by obtain⟨j,k,l,m,n,o,_⟩:=i.bX;simp[results,results36,go_sem,j,k,l,m,n,o]) rfl (λq e=>⟨rfl,H.o.trans e (λT s R=>by omega)⟩)
 obtain⟨a1,a2⟩:=Bp r.o;obtain⟨d,e⟩:∃d,c.kind.toNat=d:=⟨_,rfl⟩;have ao:1<=d:=by omega
 have ap:d<=5:=by omega
 have aj:=Aa e;rw[e];clear a1 a2 e;unfold B1 fn;have F:=Aa (ae.o.alloc (.cells (B1 d).toArray 75));have L:=Aa (z.o.alloc (.cells (B1 d).toArray 75));have N:=Aa (aD.new ab (B1 d) 75);have I:=Aa (H.o.alloc (.cells (B1 d).toArray 75));unfold B1 fn at F L N I;clear ae z H ad ak ah;go_wp2_with fail
 generalize ab.alloc (.cells #[.func (.func (Bu d)) #[] #[],.func (.func (Bg d)) #[] #[],.func (.func (Bh d)) #[] #[],.func (.func (AR d)) #[] #[],.func (.func (AW d)) #[] #[],.func (.func (Bo d)) #[] #[]] 75)=a4 at *
 generalize ax:ab.heap.size=a7 at *
 refine(UN c a4).mono ?_;rintro C a5 ⟨rfl,x⟩;have af:=Aa (F.o.keeps x id);have A:=Aa (L.o.keeps x id);have O:=Aa (N.o.keeps x id);have J:=Aa (I.o.then x);clear x F L N I az av ax;obtain⟨U,V,W,X,Y,Z,aa⟩:=A.o.bX;have aq:=O.o.c0;obtain⟨a0,aw⟩:=CE af.o 20 rfl;have ay:=Za d ao ap;rcases Bool.eq_false_or_eq_true (B0 c) with u | u
 ·rw[u];go_wp2_with fail
  refine(Z5 c d a5 ao ap).mono ?_;rintro C bd ⟨rfl,E⟩;have ar:=Aa (O.o.keeps E id);have M:=Aa (A.o.keeps E id);have ai:=Aa (J.o.then E);clear E af O A J aq a0 aw ay U V W X Y Z aa;have au:Gj c d=b:=by
   have a:=P.o;unfold Ak at a;rw[r.o,u,aj.o]at a;simpa using a
  rw[au];obtain⟨U,V,W,X,Y,Z,aa⟩:=M.o.bX;obtain⟨aq,a8,a9,ba,bb,bc,_⟩:=ar.o.bX;rcases G.o with ⟨rfl,rfl⟩ | ⟨rfl,rfl⟩
  ·go_wp2;exact Jw (v:=.tuple #[.agg Df.toArray,.bool false]) M.o (λq i=>by obtain⟨j,k,l,m,n,o,_⟩:=i.bX;simp[results,results36,go_sem,j,k,l,m,n,o]) rfl (λq e=>⟨rfl,ai.o.trans e (λT s R=>by omega)⟩)
  go_wp2;exact Jw (v:=.tuple #[.agg (B1 d).toArray,.bool true]) M.o (λq i=>by obtain⟨j,k,l,m,n,o,_⟩:=i.bX;simp[results,results36,go_sem,j,k,l,m,n,o,B1,fn]) rfl (λq e=>⟨by rw[aj.o],ai.o.trans e (λT s R=>by omega)⟩)
 obtain⟨rfl,rfl⟩:b=false/\cs=Df:=by
  have a:=P.o;unfold Ak at a;rw[u]at a;rcases G.o with h | h
  ·exact h
  rw[h.1]at a;simp at a
 rw[u];go_wp2;exact Jw (v:=.tuple #[.agg Df.toArray,.bool false]) A.o (λq i=>by obtain⟨j,k,l,m,n,o,_⟩:=i.bX;simp[results,results36,go_sem,j,k,l,m,n,o]) rfl (λq e=>⟨rfl,J.o.trans e (λT s R=>by omega)⟩)
theorem V9(c:Cfg)(w:World)(d:Ak c=false):
  Calls prog 36 #[c.val] w λa e=>a=.returned (.tuple #[.agg Df.toArray,.bool false])/\lO w e:=Ob c w _ d _ (Or.inl ⟨rfl,rfl⟩)
theorem L3(c:Cfg)(k:Nat)(w:World)(j:c.kind=k)(l:1<=k)(m:k<=5)(e:B0 c=true)(h:Gj c k=true):
  Calls prog 36 #[c.val] w λd i=>d=.returned (.tuple #[.agg (B1 k).toArray,.bool true])/\lO w i:=by
 have a:c.kind.toNat=k:=by omega
 exact Ob c w _ (by unfold Ak Ab;rw[a,e,h];simp;omega) _ (Or.inr ⟨rfl,by rw[a]⟩)
