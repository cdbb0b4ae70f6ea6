import Derived.Test.YtnokbhcennjanaaGreatDoorXAE
import Derived.Laws.CopyOwn
import Derived.Laws.IdiomCopy
open Go.RowKit Go.Proofs.Tryz
set_option maxRecDepth 100000
set_option maxHeartbeats 16000000
namespace Go.Proofs.YtnokbhcennjanaaGreatDoor
section
theorem new_any(w:World):
  Calls prog 65 #[Ci] w λc a=>c=.returned (.pointer (some ⟨w.heap.size,0,none⟩))/\bB a w.heap.size none []/\lO w a/\a.heap.size=w.heap.size+1:=by
 unfold Ci;go_enter func65,ntmps65;go_wp2;go_ret;exact⟨rfl,⟨rfl,aD.new _ [_,_] _⟩,(aA.refl _ _).alloc _,by simp⟩
def takeL(l:List It): List It:=sinkL l.length ((l.set 0 (itAt l (l.length-1))).take (l.length-1)) 0
theorem aP.take{w:World}{g c:Nat}{l:List It}(a:aP w g c l)(m:Nat): aP w g c (l.take m):=by
 obtain⟨d,e,i,j⟩:=a.ex;have h:∀(l:List It) (m:Nat),flat (l.take m)=(flat l).take (m*4):=by
  intro l;induction l with
  | nil=>intro m;simp[flat]
  | cons n l k =>
   intro m;cases m with
   | zero=>simp[flat]
   | succ m=>rw[show(m+1)*4=m*4+4 by omega];simp[flat,k]
 refine⟨⟨d,e,i,?_⟩,jI (List.length_take_le' _ _) a.le,a.max⟩;rw[h,<-j,kB];congr 1;simp
theorem take_any(e g:Nat)(l:List It)(w:World)(a:bB w e (some g) l)(N:l.length<=900)(ae:0<l.length):
  Calls prog 70 #[.pointer (some ⟨e,0,none⟩)] w λH ao=>(∃an,H=.returned an)/\bB ao e (some g) (takeL l)/\aA (λh=>h=e\/h=g) w ao:=by
 obtain⟨bp,af⟩:=a.lt;obtain⟨af,u⟩:=af g rfl;have P:=Aa a;clear a;have a3:(!l.isEmpty)=true:=by cases l with | nil=>simp at ae | cons=>rfl
 obtain⟨r,ag⟩:∃r,r=l.length:=⟨_,rfl⟩;have bu:0<r:=by omega
 have bv:r<=900:=by omega
 have o:=Aa ag;clear ag N ae;go_enter func70,ntmps70;go_wp2_with fail
 refine(Jk e (some g) l _ (P.o.keeps ((aA.refl (λ_=>False) _).alloc _) id (λ_ _ a=>a))).mono ?_;rintro H k ⟨rfl,J⟩;rw[a3];unfold It.val;have ad:aD k w.heap.size [.int .i64 0,.int .i64 0,.int .i64 0,.int .i64 0] 80:=(aD.new w _ 80).keeps J id;have L:lO w k:=((aA.refl (λ_=>False) w).alloc _).then J;obtain⟨_,j,C,I⟩:=P.o.keeps L id (λ_ _ a=>a);rw[<-o.o]at C;have bz:e<k.heap.size:=C.lt;have bx:g<k.heap.size:=I.lt;have a8:e≠w.heap.size:=by omega
 have a5:g≠w.heap.size:=by omega
 have Q:=Aa ad;have V:=Aa L;have G:=Aa C;have T:=Aa I;clear J ad L C I;generalize a9:itAt l 0=c;clear a9;obtain⟨d,a6⟩:∃d,r=d+1:=⟨r-1,by omega⟩;subst a6;have O:=G.o.c1;go_wp2_with fail
 have s:lO k (k.alloc (.cells #[.int .i64 c.t,.int .i64 c.k,.int .i64 c.d,.int .i64 c.n] 80)):=(aA.refl _ _).alloc _;have ak:aD (k.alloc (.cells #[.int .i64 c.t,.int .i64 c.k,.int .i64 c.d,.int .i64 c.n] 80)) k.heap.size [.int .i64 c.t,.int .i64 c.k,.int .i64 c.d,.int .i64 c.n] 80:=aD.new _ _ _;generalize k.alloc (.cells #[.int .i64 c.t,.int .i64 c.k,.int .i64 c.d,.int .i64 c.n] 80)=m at *
 have aa:=Aa ak;have Y:=Aa (Q.o.keeps s id);have A:=Aa (G.o.keeps s id);have n:=Aa (T.o.keeps s id);have U:=Aa (aA.then V.o s);clear s ak Q G T V O;generalize ba:k.heap.size=av at *
 generalize ai:w.heap.size=i at *
 have az:=Aa ai;clear ba ai;have O:=A.o.c1;have a7:m.frozen? ⟨e,1,none⟩=false:=A.o.frozen 1;obtain⟨ap,aq,ar,au⟩:=n.o.cells 0 (by rw[<-o.o];omega);obtain⟨bb,bc,bd,be⟩:=n.o.cells d (by rw[<-o.o];omega);simp only[kS,ja]at ap aq ar au;have a4:=n.o.frozen;generalize am:itAt l d=y at *
 have a0:=Aa am;clear am;have br:(0:Int)<=(d:Int):=by omega
 have bs:(d:Int)<(d:Int)+1:=by omega
 have a2:=n.o.le;rw[<-o.o]at a2;have bt:(d:Int)<=(j:Int):=by omega
 have R:=Aa (n.o.put 0 y);have X:=Aa ((A.o.keeps ((aA.refl (λh=>h=g) m).bP (Or.inl rfl) 0 y) u).setCell 1 (.slice (some ⟨g,0,none⟩) d j));have z:=Aa ((((aA.refl (λh=>h=e\/h=g) m).bP (Or.inl (Or.inr rfl)) 0 y).setCell (p:=⟨e,1,none⟩) (Or.inl (Or.inl rfl)) (.slice (some ⟨g,0,none⟩) d j)).drew);have S:=Aa ((R.o.keeps (M:=λh=>h=e) ((aA.refl (λh=>h=e) _).setCell (p:=⟨e,1,none⟩) (Or.inl rfl) (.slice (some ⟨g,0,none⟩) d j)) (λa=>u a.symm)).drew);go_region
 go_wp2_with fail
 have ab:(((((m.setCell ⟨g,0,none⟩ (.int .i64 y.t)).setCell ⟨g,1,none⟩ (.int .i64 y.k)).setCell ⟨g,2,none⟩ (.int .i64 y.d)).setCell ⟨g,3,none⟩ (.int .i64 y.n)).setCell ⟨e,1,none⟩ (.slice (some ⟨g,0,none⟩) d j)).drew=((bP m g 0 y).setCell ⟨e,1,none⟩ (.slice (some ⟨g,0,none⟩) d j)).drew:=by
  unfold bP;rfl
 rw[ab];clear ab O a7 ap aq ar au bb bc bd be a4;have F:Hid (QB ((bP m g 0 y).setCell ⟨e,1,none⟩ (.slice (some ⟨g,0,none⟩) d j)).drew e (.slice (some ⟨g,0,none⟩) d j)):=⟨X.o⟩;have hlen:((l.set 0 y).take d).length=d:=by have:=o.o;simp;omega
 have W:=Aa hlen;have Z:=Aa (show takeL l=sinkL (d+1) ((l.set 0 y).take d) 0 by unfold takeL;rw[<-o.o,<-a0.o];rfl);clear hlen R X;generalize((bP m g 0 y).setCell ⟨e,1,none⟩ (.slice (some ⟨g,0,none⟩) d j)).drew=a1 at *
 refine(Ko e g 0 j d a1 ((l.set 0 y).take d) W.o (by omega) (by omega) F.o (S.o.take d) (by omega) u).mono ?_;rintro H D ⟨rfl,t,ah⟩;have aj:¬(i=e\/i=g):=by omega
 have al:¬(av=e\/av=g):=by omega
 have B:=Aa ((aa.o.keeps z.o al).keeps t (λa=>al (Or.inr a)));have q:=Aa ((Y.o.keeps z.o aj).keeps t (λa=>aj (Or.inr a)));have aw:=Aa (F.o.b.keeps t u);have ax:=Aa ah;have ay:=Aa (((U.o.mono (M':=λh=>h=e\/h=g) (λ_ _ a=>a.elim)).then z.o).trans t (λ_ a _=>Or.inr a));clear t ah F S z U aa Y n A;have bf:=B.o.c0;have bg:=B.o.c1;have bh:=B.o.c2;have bi:=B.o.c3;have bj:=q.o.c0;have bk:=q.o.c1;have bl:=q.o.c2;have bm:=q.o.c3;have bn:=q.o.frozen
 have E:=Aa (show aA (λh=>h=i) D ((((D.setCell ⟨i,0,none⟩ (.int .i64 c.t)).setCell ⟨i,1,none⟩ (.int .i64 c.k)).setCell ⟨i,2,none⟩ (.int .i64 c.d)).setCell ⟨i,3,none⟩ (.int .i64 c.n)) from
    ((((aA.refl (λh=>h=i) D).setCell (p:=⟨i,0,none⟩) (Or.inl rfl) _).setCell (p:=⟨i,1,none⟩) (Or.inl rfl) _).setCell (p:=⟨i,2,none⟩) (Or.inl rfl) _).setCell (p:=⟨i,3,none⟩) (Or.inl rfl) _)
 have x:=Aa ((((q.o.setCell 0 (.int .i64 c.t)).setCell 1 (.int .i64 c.k)).setCell 2 (.int .i64 c.d)).setCell 3 (.int .i64 c.n));go_wp2;generalize((((D.setCell ⟨i,0,none⟩ (.int .i64 c.t)).setCell ⟨i,1,none⟩ (.int .i64 c.k)).setCell ⟨i,2,none⟩ (.int .i64 c.d)).setCell ⟨i,3,none⟩ (.int .i64 c.n))=b1 at *
 have c0:=x.o.c0;have c1:=x.o.c1;have c2:=x.o.c2;have c3:=x.o.c3;refine iN (v:=.tuple #[.agg #[.int .i64 c.t,.int .i64 c.k,.int .i64 c.d,.int .i64 c.n],.bool true]) (by simp[results,results70,go_sem,c0,c1,c2,c3]) rfl ⟨⟨_,rfl⟩,⟨u,j,?_,?_⟩,?_⟩
 ·have N:(takeL l).length=d:=by rw[Z.o,G5];exact W.o
  rw[N];exact aw.o.keeps E.o (λa=>a8 a)
 ·rw[Z.o];exact ax.o.keeps E.o (λa=>a5 a)
 exact ay.o.trans E.o (λb0 bo bq=>by have:=az.o;omega)
def over(L:List Value)(o:Nat)(vs:List Value): List Value:=L.take o++vs++L.drop (o+vs.length)
theorem Dx{a:List Value}{o:Nat}{c:List Value}(d:o+c.length<=a.length): (over a o c).length=a.length:=by
 simp[over];omega
theorem Yi(a:List Value)(o:Nat)(v:Value)(c:List Value)(i:o+(c.length+1)<=a.length): over (a.set o v) (o+1) c=over a o (v::c):=by
 unfold over;have h:o<a.length:=by omega
 have d:(a.set o v).take (o+1)=a.take o++[v]:=by
  rw[jg,List.take_set_of_le (il _)];simp[h]
 have e:(a.set o v).drop (o+1+c.length)=a.drop (o+(c.length+1)):=by
  rw[List.drop_set_of_lt (by omega),show o+1+c.length=o+(c.length+1) by omega]
 rw[d,e];simp
theorem aD.setCells{b:Nat}{T:TypeId}: ∀(a:List Value) (o:Nat) (w:World) (cs:List Value),aD w b cs T->o+a.length<=cs.length->aD (w.setCells b o a) b (over cs o a) T
 | [],o,_,cs,h,_=>by simpa[World.setCells,over] using h
 | v::a,o,_,cs,h,hl=>by
  rw[World.setCells,<-Yi cs o v a (by simpa using hl)];exact aD.setCells a (o+1) _ _ (h.setCell o v) (by simp at hl ⊢;omega)
theorem aA.setCells{M:Nat->Prop}{a:World}{b:Nat}(d:M b\/a.heap.size<=b): ∀(c:List Value) (o:Nat) (w:World),aA M a w->aA M a (w.setCells b o c)
 | [],_,_,h=>h
 | v::c,o,_,h=>aA.setCells d c (o+1) _ (h.setCell (p:=⟨b,o,none⟩) d v)
theorem aD.some{w:World}{b:Nat}{cs:List Value}{T:TypeId}(a:aD w b cs T){i:Nat}(hi:i<cs.length): (w.cell? ⟨b,i,none⟩).isSome=true:=by
 rw[a.cell (hX hi)];rfl
structure Bk where
 sz:Int
 t:Int
def Bk.val(x:Bk): Value:=.agg #[.int .i64 x.sz,.int .i64 x.t]
def Ad(l:List Bk)(i:Nat): Bk:=l.getD i ⟨0,0⟩
def Az: List Bk->List Value
 | []=>[]
 | x::l=>.int .i64 x.sz::.int .i64 x.t::Az l
def Ce: Nat->List Value
 | 0=>[]
 | n+1=>.int .i64 0::.int .i64 0::Ce n
theorem Fv(l:List Bk): (Az l).length=l.length*2:=by
 induction l with
 | nil=>rfl
 | cons c l a=>simp[Az,a];omega
theorem Ho(a b:List Bk): Az (a++b)=Az a++Az b:=by
 induction a with
 | nil=>rfl
 | cons e d c=>simp[Az,c]
theorem Kd(l:List Bk)(i:Nat): Az (l.drop i)=(Az l).drop (i*2):=by
 induction l generalizing i with
 | nil=>simp[Az]
 | cons c l a =>
  cases i with
  | zero=>simp
  | succ i=>rw[show(i+1)*2=i*2+2 by omega];simp[Az,a]
theorem JQ(l:List Bk)(i:Nat): Az (l.take i)=(Az l).take (i*2):=by
 induction l generalizing i with
 | nil=>simp[Az]
 | cons c l a =>
  cases i with
  | zero=>simp[Az]
  | succ i=>rw[show(i+1)*2=i*2+2 by omega];simp[Az,a]
theorem Mi(l:List Bk)(i:Nat)(a:i<l.length): (Az l)[i*2]?=some (.int .i64 (Ad l i).sz)/\(Az l)[i*2+1]?=some (.int .i64 (Ad l i).t):=by
 induction l generalizing i with
 | nil=>simp at a
 | cons d l c =>
  cases i with
  | zero=>simp[Az,Ad]
  | succ i =>
   have:=c i (by simpa using a);rw[show(i+1)*2=i*2+2 by omega];simpa[Az,Ad] using this
theorem Kk(l:List Bk): ∀c∈Az l,c.oneCell'=true:=by
 induction l with
 | nil=>simp[Az]
 | cons e l d =>
  intro c a;simp only[Az,iw]at a;rcases a with rfl | rfl | a
  ·rfl
  ·rfl
  exact d c a
theorem E3(n:Nat): (Ce n).length=n*2:=by
 induction n with
 | zero=>rfl
 | succ n a=>simp[Ce,a];omega
theorem O8(n:Nat): ∀c∈Ce n,c.oneCell'=true:=by
 induction n with
 | zero=>simp[Ce]
 | succ n d =>
  intro c a;simp only[Ce,iw]at a;rcases a with rfl | rfl | a
  ·rfl
  ·rfl
  exact d c a
theorem Vd(n j:Nat)(c:j<n*2): (Ce n)[j]?=some (.int .i64 0):=by
 induction n generalizing j with
 | zero=>omega
 | succ n a =>
  match j with
  | 0=>rfl
  | 1=>rfl
  | j+2=>simp only[Ce,kR];exact a j (by omega)
structure aY (w:World) (g cap:Nat) (l:List Bk):Prop where
 ex:∃cur:List Value,aD w g cur 207/\cur.length=cap*2/\cur.take (l.length*2)=Az l
 le:l.length<=cap
 max:cap<=maxLen
theorem aY.lt{w:World}{g a:Nat}{l:List Bk}(c:aY w g a l): g<w.heap.size:=by obtain⟨e,d,_⟩:=c.ex;exact d.lt
theorem aY.keeps{M:Nat->Prop}{w w':World}{g c:Nat}{l:List Bk}(a:aY w g c l)(k:aA M w w')(h:¬M g): aY w' g c l:=by
 obtain⟨d,e,i⟩:=a.ex;exact⟨⟨d,e.keeps k h,i⟩,a.le,a.max⟩
theorem aY.cells{w:World}{g h:Nat}{l:List Bk}(k:aY w g h l)(i:Nat)(hi:i<l.length):
  w.cell? ⟨g,i*2,none⟩=some (.int .i64 (Ad l i).sz)/\w.cell? ⟨g,i*2+1,none⟩=some (.int .i64 (Ad l i).t):=by
 obtain⟨j,c,o,n⟩:=k.ex;have d:∀a,a<l.length*2->j[a]?=(Az l)[a]?:=λa m=>by rw[<-n,iV,h9 m]
 obtain⟨e,b⟩:=Mi l i hi;exact⟨c.cell (by rw[d _ (by omega)];exact e),c.cell (by rw[d _ (by omega)];exact b)⟩
theorem aY.owns{w:World}{g a:Nat}{l:List Bk}(c:aY w g a l): w.ownsRow 0 207 2 (.slice (some ⟨g,0,none⟩) l.length a) l.length (Az l):=by
 obtain⟨d,e,h,i⟩:=c.ex;exact⟨Fv l,.inr ⟨g,a,d.toArray,rfl,iM _,e,c.le,c.max,by simp[h],by simpa using i⟩⟩
theorem brow_of_owns{w:World}{g n c:Nat}{l:List Bk}(o:l.length=n)(e:w.ownsRow 0 207 2 (.slice (some ⟨g,0,none⟩) n c) n (Az l)): aY w g c l:=by
 rcases e.2 with ⟨a,_⟩ | ⟨r,q,d,a,_,h,i,j,k,m⟩
 ·cases a
 cases a;subst o;exact⟨⟨d.toList,by unfold aD;simpa using h,by simpa using k,m⟩,i,j⟩
theorem infoBk: (prog.info? 207).map (λa=>(a.zero,a.size,a.bytes))=some (some (.agg #[.int .i64 0,.int .i64 0]),2,16):=by kernel_rfl
theorem No(n:Nat): (Builtin.zeroCells (Value.agg #[.int .i64 0,.int .i64 0]).cells n).toList=Ce n:=by
 have e:(Value.agg #[.int .i64 0,.int .i64 0]).cells=#[.int .i64 0,.int .i64 0]:=rfl;rw[e];apply j4;intro a;by_cases d:a<n*2
 ·rw[Vd n a d];have:a%2=0\/a%2=1:=by omega
  rcases this with c | c <;> simp[Builtin.zeroCells,d,c]
 rw[jz (by simp[Builtin.zeroCells];omega),jz (by rw[E3];omega)]
theorem FY(w:World)(j:TypeId)(b o n c:Nat)(cs:List Value)(a:aD w b cs 207)(l:0<n)(k:o+n*2<=cs.length):
  (Builtin.clear_ #[258] j #[.slice (some ⟨b,o,none⟩) n c]).run prog w=.ok (.tuple #[]) (w.setCells b o (Ce n)):=by
 have d:=k7 (P:=prog) b o (Ce n) 0 w (λi h=>a.some (by rw[E3]at h;omega)) (λi _=>a.frozen _) (O8 n);simp only[kg]at d;obtain⟨e,rfl⟩:∃e,n=e+1:=⟨n-1,by omega⟩;simp[Builtin.clear_,jY underlying258,No,d]
theorem Nq(w:World)(u:TypeId)(b o e k:Nat)(a:Addr)(h t:Nat)(cs news:List Value)(i:aD w b cs 207)(q:news.length=Nat.min h e*2)(r:∀c d,news[c]?=some d->w.cell? (a.add c)=some d)(v:o+news.length<=cs.length)(l:∀d∈news,d.oneCell'=true):
  (Builtin.copy_ #[258,258] u #[.slice (some ⟨b,o,none⟩) e k,.slice (some a) h t]).run prog w=.ok (goInt (Nat.min h e)) (w.setCells b o news):=by
 have n:=run_loadCells_list (P:=prog) w a news r;have j:=k7 (P:=prog) b o news 0 w (λc x=>i.some (by omega)) (λc _=>i.frozen _) l;simp only[kg]at j;obtain⟨B,m,z,s,A⟩:=jh infoBk;simp[Builtin.copy_,jY underlying258,Builtin.lenOf,Builtin.firstCells,sizeOf,typeInfo,m,s,<-q,n,j]
theorem Jc{w:World}{g a n j:Nat}{l:List Bk}{c:List Value}(h:l.length=n)(i:aD w g c 207)(o:c.length=a*2)(s:n<=a)(q:a<=maxLen)(r:j<=n):
  aY ((w.setCells g 0 (Az (l.drop j))).setCells g ((n-j)*2) (Ce j)) g a (l.drop j):=by
 have d:(Az (l.drop j)).length=(n-j)*2:=by rw[Fv];simp[h]
 have k:=aD.setCells (Az (l.drop j)) 0 w c i (by rw[d];omega);have e:(over c 0 (Az (l.drop j))).length=a*2:=by rw[Dx (by rw[d];omega),o]
 have m:=aD.setCells (Ce j) ((n-j)*2) _ _ k (by rw[e,E3];omega);refine⟨⟨_,m,by rw[Dx (by rw[e,E3];omega),e],?_⟩,by simp[h];omega,q⟩;have hlen:(l.drop j).length*2=(n-j)*2:=by simp[h]
 rw[hlen];unfold over;rw[List.append_assoc,iX (by simp[d])];rw[kB,Nat.min_self];simp only[jM,jt];rw[iX (by omega),iq (by omega)]
theorem IN(w:World):
  Calls prog 212 #[.slice none 0 0,.int .i64 0,.int .i64 0] w λa c=>a=.returned (.slice none 0 0)/\c=w:=by
 go_enter func212,ntmps212;go_wp2;go_ret;exact⟨rfl,rfl⟩
theorem IJ(g a n:Nat)(w:World)(i:n<=a):
  Calls prog 212 #[.slice (some ⟨g,0,none⟩) n a,.int .i64 0,.int .i64 0] w λc d=>c=.returned (.slice (some ⟨g,0,none⟩) n a)/\d=w:=by
 have e:(0:Int)<=(n:Int):=by omega
 have h:(n:Int)<=(a:Int):=by omega
 go_enter func212,ntmps212;go_wp2;go_ret;exact⟨rfl,rfl⟩
theorem IZ(g d n j:Nat)(l:List Bk)(w:World)(q:l.length=n)(r:aY w g d l)(Z:0<j)(O:j<=n):
  Calls prog 212 #[.slice (some ⟨g,0,none⟩) n d,.int .i64 0,.int .i64 j] w λI E=>I=.returned (.slice (some ⟨g,0,none⟩) (n-j) d)/\aY E g d (l.drop j)/\aA (·=g) w E:=by
 obtain⟨H,i,A,D⟩:=r.ex;have B:=r.le;rw[q]at B;have C:=r.max;have s:=Aa (Jc (w:=w.drew) q (by exact i.drew) A B C O);obtain⟨news,m⟩:∃news,news=Az (l.drop j):=⟨_,rfl⟩;rw[<-m]at s;have hlen:news.length=(n-j)*2:=by rw[m,Fv];simp[q]
 have z:∀a c,news[a]?=some c->w.cell? ⟨g,j*2+a,none⟩=some c:=by
  intro a c h;refine i.cell ?_;have ad:a<(n-j)*2:=by have:=(ik.1 h).1;omega
  rw[m,Kd,j0,<-D,iV,h9 (by omega)]at h;exact h
 obtain⟨o,X,P⟩:∃o:Addr,(if d=j then some (⟨g,0,none⟩:Addr) else some ⟨g,j*2,none⟩)=some o/\Hid (∀a c,news[a]?=some c->w.drew.cell? (o.add a)=some c):=by
  by_cases v:d=j
  ·refine⟨⟨g,0,none⟩,by simp[v],λa c h=>?_⟩;have J:news.length=0:=by omega
   rw[iL.1 J]at h;simp at h
  refine⟨⟨g,j*2,none⟩,by simp[v],λa c h=>?_⟩;rw[kv];exact z a c h
 have U:Hid (news.length=(n-j)*2):=hlen;have V:Hid (∀c∈news,c.oneCell'=true):=by rw[m];exact Kk _
 have W:Hid (∀a,a<news.length->(w.drew.cell? ⟨g,0+0*2+a,none⟩).isSome=true/\w.drew.frozen? ⟨g,0+0*2+a,none⟩=false):=by
  intro a ab;exact⟨i.some (by omega),i.frozen _⟩
 obtain⟨e,k⟩:∃e,e=w.drew.setCells g 0 news:=⟨_,rfl⟩;have x:aD e g (over H 0 news) 207:=by rw[k];exact aD.setCells _ _ _ _ i.drew (by omega)
 have Y:∀t,(Builtin.clear_ #[258] t #[.slice (some ⟨g,(n-j)*2,none⟩) (n-(n-j)) (d-(n-j))]).run prog e=.ok (.tuple #[]) (e.setCells g ((n-j)*2) (Ce (n-(n-j)))) :=
  λt=>FY e t g _ _ _ _ x (by omega) (by rw[Dx (by omega)];omega)
 have L:Hid (e=w.drew.setCells g (0+0*2) news):=k;have F:=Aa (show aA (·=g) w e by rw[k];exact aA.setCells (M:=λu=>u=g) (Or.inl rfl) _ _ _ (aA.refl _ _).drew);rw[<-k]at s;obtain⟨T,N,Q,R,S⟩:=jh infoBk;have aa:j<=d:=by omega
 have G:=Aa (show n-(n-j)=j by omega);clear k x z m hlen i D A r q C Q S;go_enter func212,ntmps212;go_wp2_with fail
 go_region_law (refine step_append_room rfl (.tmp 22) (.tmp 25) 258 rfl 207 T 2 underlying258 N R g 0 0 d (by simp[Act.eval,Act.put]) o (n-j) (d-j) news (by simp[Act.eval,Act.put]) U.out P.out V.out (by omega) W.out ?_;rw[<-L.out])
 go_wp2;go_ret;refine⟨by simp,?_,?_⟩
 ·have:=s.o;rw[G.o];exact this
 exact aA.setCells (M:=λu=>u=g) (Or.inl rfl) _ _ _ F.o
def BG(l:List Bk)(i:Nat)(x:Bk): List Bk:=l.take i++[x]++l.drop (i+2)
theorem Ff{l:List Bk}{i:Nat}(x:Bk)(a:i+2<=l.length): (BG l i x).length=l.length-1:=by simp[BG];omega
theorem Mn{a d:List Value}{o k:Nat}(c:k<=o)(e:o<=a.length): (over a o d).take k=a.take k:=by
 unfold over;rw[List.append_assoc,iX (by simp;omega),kB,jJ c]
theorem Lf{a c:List Value}{o:Nat}(d:o<=a.length): (over a o c).take (o+c.length)=a.take o++c:=by
 unfold over;rw[iX (by simp;omega),iq (by simp;omega)]
theorem RL{w:World}{g c n i:Nat}{l:List Bk}{x:Bk}{a:List Value}(u:l.length=n)(h:aD w g a 207)(q:a.length=c*2)(s:a.take (l.length*2)=Az l)(t:n<=c)(r:c<=maxLen)(hi:i+2=n):
  aY ((w.setCells g (i*2) [.int .i64 x.sz,.int .i64 x.t]).setCells g ((i+1)*2) (Ce 1)) g c (BG l i x):=by
 have j:=aD.setCells [.int .i64 x.sz,.int .i64 x.t] (i*2) w a h (by simp;omega);have d:(over a (i*2) [.int .i64 x.sz,.int .i64 x.t]).length=c*2:=by rw[Dx (by simp;omega),q]
 have k:=aD.setCells (Ce 1) ((i+1)*2) _ _ j (by rw[d,E3];omega);have o:=Ff x (l:=l) (i:=i) (by omega);refine⟨⟨_,k,by rw[Dx (by rw[d,E3];omega),d],?_⟩,by omega,r⟩;rw[o,Mn (by omega) (by omega),show(l.length-1)*2=i*2+[Value.int .i64 x.sz,.int .i64 x.t].length by simp;omega,Lf (by omega)];have m:l.drop (i+2)=[]:=iU (by omega);have e:a.take (i*2)=(Az l).take (i*2):=by rw[<-s,kB,jJ (by omega)]
 unfold BG;rw[m,iz,Ho,JQ,e];rfl
theorem RH{w:World}{g c n i:Nat}{l:List Bk}{x:Bk}{a:List Value}(u:l.length=n)(k:aD w g a 207)(s:a.length=c*2)(v:a.take (l.length*2)=Az l)(z:n<=c)(t:c<=maxLen)(hi:i+2<n):
  aY (((w.setCells g (i*2) [.int .i64 x.sz,.int .i64 x.t]).setCells g ((i+1)*2) (Az (l.drop (i+2)))).setCells g ((n-1)*2) (Ce 1)) g c (BG l i x):=by
 have m:=aD.setCells [.int .i64 x.sz,.int .i64 x.t] (i*2) w a k (by simp;omega);have d:(over a (i*2) [.int .i64 x.sz,.int .i64 x.t]).length=c*2:=by rw[Dx (by simp;omega),s]
 have h:(Az (l.drop (i+2))).length=(n-(i+2))*2:=by rw[Fv];simp[u]
 have o:=aD.setCells (Az (l.drop (i+2))) ((i+1)*2) _ _ m (by rw[d,h];omega);have e:(over (over a (i*2) [.int .i64 x.sz,.int .i64 x.t]) ((i+1)*2) (Az (l.drop (i+2)))).length=c*2:=by rw[Dx (by rw[d,h];omega),d]
 have q:=aD.setCells (Ce 1) ((n-1)*2) _ _ o (by rw[e,E3];omega);have r:=Ff x (l:=l) (i:=i) (by omega);refine⟨⟨_,q,by rw[Dx (by rw[e,E3];omega),e],?_⟩,by omega,t⟩;rw[r,Mn (by omega) (by rw[e];omega),show(l.length-1)*2=(i+1)*2+(Az (l.drop (i+2))).length by rw[h];omega,Lf (by rw[d];omega)];rw[show(i+1)*2=i*2+[Value.int .i64 x.sz,.int .i64 x.t].length by simp;omega,Lf (by omega)];have j:a.take (i*2)=(Az l).take (i*2):=by rw[<-v,kB,jJ (by omega)]
 unfold BG;rw[Ho,Ho,JQ,j];rfl
theorem Rv{w:World}{u:Array Oper}{rest:List Oper}{o:Oper}{a:Act}{m:Exit->Act->World->Prop}(C:o.guard=none)(s x:Operand)(F:o.op=.call { callee:=.builtin .append,args:=#[s,x],argTypes:=#[258,258] })(g e c h:Nat)(H:a.eval s=.slice (some ⟨g,e,none⟩) c h)(k:Addr)(d n:Nat)(I:a.eval x=.slice (some k) d n)(q news:List Value)(r:aD w g q 207)(E:news.length=d*2)(B:∀i j,news[i]?=some j->w.cell? (k.add i)=some j)(z:∀j∈news,j.oneCell'=true)(G:c+d<=h)(L:e+c*2+news.length<=q.length)(v:wpList prog u m rest (a.put o.dst (.slice (some ⟨g,e,none⟩) (c+d) h)) (w.setCells g (e+c*2) news)): wpList prog u m (o::rest) a w:=by
 refine wpList_plain C λK A=>?_;obtain⟨J,D,N,l,O⟩:=jh infoBk;have t:=run_append_room_cells (P:=prog) w 258 o.type 207 J underlying258 D g e c h k d n news (by rw[l];exact E) B z G (λi M=>r.some (by rw[l];omega)) (λi _=>r.frozen _);rw[l]at t;unfold Oper.wp;simp[execOp,F,resolve,invoke,builtin,H,I,t,Result.andThen];exact A _ _ v
theorem RQ{w:World}{n:Array Oper}{o:Oper}{a:Act}{K:Act->World->Prop}{r:Exit->Act->World->Prop}{q:Prop}(B:o.guard=none)(s x:Operand)(D:o.op=.call { callee:=.builtin .copy,args:=#[s,x],argTypes:=#[258,258] })(g e d l:Nat)(F:a.eval s=.slice (some ⟨g,e,none⟩) d l)(i:Addr)(c k:Nat)(H:a.eval x=.slice (some i) c k)(j news:List Value)(v:aD w g j 207)(C:news.length=Nat.min c d*2)(z:∀m h,news[m]?=some h->w.cell? (i.add m)=some h)(u:∀h∈news,h.oneCell'=true)(A:e+news.length<=j.length)(t:K (a.put o.dst (goInt (Nat.min c d))) (w.setCells g e news)): if Region.wanted o (yielded n a.tmps)=true then Oper.wp prog o a w K r else q:=by
 have G:Region.wanted o (yielded n a.tmps)=true:=by simp[Region.wanted,B]
 rw[h9 G];have E:=Nq w o.type g e d l i c k j news v C z A u;unfold Oper.wp;simp[execOp,D,resolve,invoke,builtin,F,H,E,Result.andThen];exact t
theorem RV(g d n i h:Nat)(l:List Bk)(x:Bk)(w:World)(q:l.length=n)(k:aY w g d l)(hi:i+2=n)(D:w.cell? ⟨h,0,none⟩=some (.int .i64 x.sz))(E:w.cell? ⟨h,1,none⟩=some (.int .i64 x.t)):
  Calls prog 234 #[.slice (some ⟨g,0,none⟩) n d,.int .i64 i,.int .i64 ((i:Int)+2),.slice (some ⟨h,0,none⟩) 1 1] w λP F=>P=.returned (.slice (some ⟨g,0,none⟩) (n-1) d)/\aY F g d (BG l i x)/\aA (·=g) w F:=by
 obtain⟨u,j,o,C⟩:=k.ex;have A:=k.le;rw[q]at A;have B:=k.max;have t:=Aa (RL (x:=x) q j o C A B hi);have G:=Aa j;have I:=Aa o
 have O:=Aa (show ∀m s,[Value.int .i64 x.sz,.int .i64 x.t][m]?=some s->w.cell? ((⟨h,0,none⟩:Addr).add m)=some s from λm s a=>by
    rw[kv]
    match m,a with
    | 0,a=>injection a with a;rw[<-a];exact D
    | 1,a=>injection a with a;rw[<-a];exact E)
 obtain⟨c,e⟩:∃c,c=w.setCells g (i*2) [.int .i64 x.sz,.int .i64 x.t]:=⟨_,rfl⟩;have v:aD c g (over u (i*2) [.int .i64 x.sz,.int .i64 x.t]) 207:=by rw[e];exact aD.setCells _ _ _ _ j (by simp;omega)
 have R:∀r,(Builtin.clear_ #[258] r #[.slice (some ⟨g,(i+1)*2,none⟩) (n-(i+1)) (d-(i+1))]).run prog c=.ok (.tuple #[]) (c.setCells g ((i+1)*2) (Ce (n-(i+1)))) :=
  λr=>FY c r g _ _ _ _ v (by omega) (by rw[Dx (by simp;omega)];omega)
 have N:=Aa (show w.setCells g (0+i*2) [.int .i64 x.sz,.int .i64 x.t]=c by rw[e,ja]);have H:=Aa (show aA (λQ=>Q=g) w c by rw[e];exact aA.setCells (M:=λx=>x=g) (Or.inl rfl) _ _ _ (aA.refl _ _));rw[<-e]at t;have L:=Aa (show n-(i+1)=1 by omega);have J:=Aa (show n-1=i+1 by omega);clear e v j C o k q B D E;have T:i<=d:=by omega
 have S:(0:Int)<=(i:Int):=by omega
 have z:(i:Int)+2=(n:Int):=by omega
 rw[z];have V:((i:Int)==(n:Int))=false:=by simp;omega
 have U:decide ((i:Int)+1<(n:Int))=true:=by simp;omega
 clear z;go_enter func234,ntmps234;go_wp2_with (at_builtin;refine Rv rfl _ _ rfl g 0 i d rfl ⟨h,0,none⟩ 1 1 rfl u [.int .i64 x.sz,.int .i64 x.t] G.o rfl O.o (by simp[Value.oneCell']) (by omega) (by have:=I.o;simp;omega) ?_;rw[N.o])
 go_ret;refine⟨by rw[J.o];rfl,?_,?_⟩
 ·rw[L.o];exact t.o
 exact aA.setCells (M:=λx=>x=g) (Or.inl rfl) _ _ _ H.o
theorem Nv(b:Nat): ∀(a:List Value) (o:Nat) (w:World),(w.setCells b o a).drew=w.drew.setCells b o a
 | [],_,_=>rfl
 | v::a,o,w=>Nv b a (o+1) (w.setCell ⟨b,o,none⟩ v)
theorem RN(g c n i m:Nat)(l:List Bk)(x:Bk)(w:World)(z:l.length=n)(A:aY w g c l)(hi:i+2<n)(P:w.cell? ⟨m,0,none⟩=some (.int .i64 x.sz))(Q:w.cell? ⟨m,1,none⟩=some (.int .i64 x.t)):
  Calls prog 234 #[.slice (some ⟨g,0,none⟩) n c,.int .i64 i,.int .i64 ((i:Int)+2),.slice (some ⟨m,0,none⟩) 1 1] w λad R=>ad=.returned (.slice (some ⟨g,0,none⟩) (n-1) c)/\aY R g c (BG l i x)/\aA (·=g) w R:=by
 obtain⟨t,u,D,F⟩:=A.ex;have N:=A.le;rw[z]at N;have E:=A.max;have af:c<=9223372036854775807:=by unfold maxLen at E;omega
 have G:=Aa (RH (w:=w.drew.drew) (x:=x) z (by exact u.drew.drew) D F N E hi);obtain⟨a,L⟩:∃a,a=i+2:=⟨_,rfl⟩;obtain⟨k,o⟩:∃k,k=w.drew.setCells g (i*2) [.int .i64 x.sz,.int .i64 x.t]:=⟨_,rfl⟩;have v:aD k g (over t (i*2) [.int .i64 x.sz,.int .i64 x.t]) 207:=by rw[o];exact aD.setCells _ _ _ _ u.drew (by simp;omega)
 have r:(over t (i*2) [.int .i64 x.sz,.int .i64 x.t]).length=c*2:=by rw[Dx (by simp;omega),D]
 obtain⟨news,s⟩:∃news,news=Az (l.drop (i+2)):=⟨_,rfl⟩;have hlen:news.length=(n-a)*2:=by rw[s,Fv];simp[z,L]
 have O:∀B e,news[B]?=some e->k.drew.cell? ((⟨g,a*2,none⟩:Addr).add B)=some e:=by
  intro B e d;have ay:B<(n-a)*2:=by have:=(ik.1 d).1;omega
  rw[kv];refine v.cell ?_;rw[s,Kd,j0,<-F,iV,h9 (by omega)]at d;unfold over;rw[iS (by simp;omega),j0];rw[<-d];congr 1;simp;omega
 obtain⟨h,q⟩:∃h,h=k.drew.setCells g ((i+1)*2) news:=⟨_,rfl⟩;have I:aD h g (over (over t (i*2) [.int .i64 x.sz,.int .i64 x.t]) ((i+1)*2) news) 207:=by rw[q];exact aD.setCells _ _ _ _ v.drew (by rw[r];omega)
 have ah:∀j,(Builtin.clear_ #[258] j #[.slice (some ⟨g,(i+1+(n-a))*2,none⟩) (n-(i+1+(n-a))) (c-(i+1+(n-a)))]).run prog h=.ok (.tuple #[]) (h.setCells g ((i+1+(n-a))*2) (Ce (n-(i+1+(n-a))))) :=
  λj=>FY h j g _ _ _ _ I (by omega) (by rw[Dx (by rw[r];omega),r];omega)
 have V:=Aa (show aA (λae=>ae=g) w h by
    rw[q,o]
    exact aA.setCells (M:=λx=>x=g) (Or.inl rfl) _ _ _ (aA.setCells (M:=λx=>x=g) (Or.inl rfl) _ _ _ (aA.refl _ _).drew).drew)
 have U:=Aa (show aY (h.setCells g ((i+1+(n-a))*2) (Ce (n-(i+1+(n-a))))) g c (BG l i x) by
    have:=G.o;rw[q,o,Nv,s,show i+1+(n-a)=n-1 by omega,show n-(n-1)=1 by omega]
    exact this)
 have S:=Aa u.drew;have T:=Aa v.drew
 have ab:=Aa (show ∀a e,[Value.int .i64 x.sz,.int .i64 x.t][a]?=some e->w.drew.cell? ((⟨m,0,none⟩:Addr).add a)=some e from λa e d=>by
    rw[kv]
    match a,d with
    | 0,d=>injection d with d;rw[<-d];exact P
    | 1,d=>injection d with d;rw[<-d];exact Q)
 have ai:∀j,(Builtin.copy_ #[258,258] j #[.slice (some ⟨g,i*2,none⟩) (i+1+(n-a)-i) (c-i),.slice (some ⟨m,0,none⟩) 1 1]).run prog w.drew=.ok (goInt (Nat.min 1 (i+1+(n-a)-i))) k :=
  λj=>by rw[o];exact Nq w.drew j g (i*2) _ _ ⟨m,0,none⟩ 1 1 t [.int .i64 x.sz,.int .i64 x.t] S.o (by have C:Nat.min 1 (i+1+(n-a)-i)=1:=jJ (by omega);rw[C];rfl) ab.o (by simp;omega) (by simp[Value.oneCell'])
 have W:=Aa r;have Z:=Aa O;have H:=Aa hlen;have Y:=Aa (show ∀e∈news,e.oneCell'=true by rw[s];exact Kk _);have aa:=Aa q.symm;have al:i<=c:=by omega
 have ak:(0:Int)<=(i:Int):=by omega
 have J:(i:Int)+2=(a:Int):=by omega
 rw[J];have ap:a<n:=by omega
 have an:i<a:=by omega
 have ao:a<=c:=by omega
 have am:¬c=i+1:=by omega
 have ag:¬c=a:=by omega
 have aq:a<=n:=by omega
 have aj:¬c=i+1+(n-a):=by omega
 have az:IntKind.i64.wrap ((i:Int)+1)=(i:Int)+1:=by rw[ic];omega
 have aw:0<=(i:Int)+1:=by omega
 have ax:(i:Int)+1<=(i:Int)+1+((n-a:Nat):Int):=by omega
 have au:((i:Int)==(a:Int))=false:=by simp;omega
 have av:((a:Int)==(n:Int))=false:=by simp;omega
 have ar:decide ((i:Int)+1<=(a:Int))=true:=by simp;omega
 have X:=Aa (show n-1=i+1+(n-a) by omega);clear J L o q u v I D r F s hlen O G A z E P Q;go_enter func234,ntmps234;go_wp2_with fail
 go_region
 go_wp2_with fail
 go_region_law (refine RQ rfl _ _ rfl g ((i+1)*2) (i+1+(n-a)-(i+1)) (c-(i+1)) (by simp[Act.eval,Act.put]) ⟨g,a*2,none⟩ (n-a) (c-a) (by simp[Act.eval,Act.put]) _ news T.o (by have C:Nat.min (n-a) (i+1+(n-a)-(i+1))=n-a:=jJ (by omega);rw[C];exact H.o) Z.o Y.o (by rw[W.o,H.o];omega) ?_;rw[aa.o])
 go_wp2;go_ret;exact⟨by rw[X.o];rfl,U.o,aA.setCells (M:=λx=>x=g) (Or.inl rfl) _ _ _ V.o⟩
