import Derived.Test.YtnokbhcennjanaaGreatDoorXBN
import Derived.Test.YtnokbhcennjanaaGreatDoorXBI
open Go.RowKit Go.Proofs.Tryz
set_option maxRecDepth 100000
set_option maxHeartbeats 16000000
namespace Go.Proofs.YtnokbhcennjanaaGreatDoor
section
attribute [local go_sem ↓] AN B2
attribute [local go_sem] AO B4 A5 A6 AI AJ BC BD Bf B3
def FM(s:cT)(o:aO): Int×List Int :=
 match EC s.xs o.id with
 | none=>(2,[])
 | some y =>
  if y.c.kind=1 then(if Ab o.a 1 y.c.aB=true then(0,[Fb (A3 y.c y.events) (s.clock-y.c.aK-o.a)]) else(13,[]))
  else if y.c.kind=2 then(if Ab o.a 1 y.c.aB=true then(0,CP y.c (2 ^ y.c.bits.toNat) (Bq y.items (s.clock-y.c.aK-o.a) (s.clock-y.c.aK))++[7*((2 ^ y.c.bits.toNat:Nat):Int)*((2 ^ y.c.bits.toNat:Nat):Int)*1099511627776/(10*CG (CP y.c (2 ^ y.c.bits.toNat) (Bq y.items (s.clock-y.c.aK-o.a) (s.clock-y.c.aK))))]) else(13,[]))
  else if y.c.kind=3 then(if Ab o.a 0 2147483648=true then(0,[Db y.c (Bq y.items (EV y.c (s.clock-y.c.aK)-1) (s.clock-y.c.aK)) o.a y.c.rows.toNat]) else(10,[]))
  else if y.c.kind=5 then(0,GR y.c (Bq y.items (-1) (s.clock-y.c.aK)))
  else(0,[(CU y.c y.items 0 0).1,(CU y.c y.items 0 0).2,Ar (Am y.c (s.clock-y.c.aK))])
def Hg(s:cT)(o:aO): Int×List Int:=if o.kind=4 then FM s o else Hj s o
structure fV (clock:Int) (y:aG):Prop where
 keys:y.c.kind=2\/y.c.kind=3->∀z,z∈y.items->0<=z.k/\z.k<=2147483648
 gM:y.c.kind=5->∀z,z∈y.items->0<=z.d/\z.d<=2147483648
 fP:y.c.kind=5->∀q i,(Bv y.c (Bq y.items (-1) (clock-y.c.aK)) q i).1.length<=100
theorem zNk{w:World}{base g:Nat}{l:List Int}(a:aD w g (ints l) 3)(c:base<=g)(d:l.length<=1000): w.ownsRow base 3 1 (.slice (some ⟨g,0,none⟩) l.length l.length) l.length (ints l) :=
 ⟨by simp[ints],.inr ⟨g,l.length,_,rfl,c,a,il _,by unfold maxLen;omega,by simp[ints],by rw[Nat.mul_one,iq (by simp[ints])]⟩⟩
def dY(aL:List Int)(w:World)(r:Ending)(w':World): Prop:=∃nv,r=.returned nv/\w'.ownsRow w.heap.size 3 1 nv aL.length (ints aL)/\lO w w'
theorem dY.aF{w w':World}{a:Ending}{l:List Int}(j:l.length<=1000)(c:∃g,a=.returned (.slice (some ⟨g,0,none⟩) l.length l.length)/\w.heap.size<=g/\aD w' g (ints l) 3/\lO w w'): dY l w a w':=by
 obtain⟨g,d,e,h,i⟩:=c;exact⟨_,d,zNk h e j,i⟩
theorem Vh(n:Int)(clock aC:Int)(ps:List (RB×aG))(o:aO)(hi:bZ n clock aC (ps.map (·.2)))(Y:n<=651562446090)(p:RB×aG)(C:BI ps o.id=some p)(s:fV clock p.2):
  ∃code aL f i,FM ⟨clock,aC,ps.map (·.2)⟩ o=(code,aL)/\(code=0->∀d,bN d p.1 p.2->Calls prog f i d (dY aL d)) /\
   ((p.2.c.kind=1/\Ab o.a 1 p.2.c.aB=true/\code=0/\f=54/\i=#[.pointer (some ⟨p.1.s,0,none⟩),.int .i64 o.a,.int .i64 (clock-p.2.c.aK)])\/(p.2.c.kind=2/\Ab o.a 1 p.2.c.aB=true/\code=0/\f=55/\i=#[.pointer (some ⟨p.1.s,0,none⟩),.int .i64 o.a,.int .i64 (clock-p.2.c.aK)])\/(p.2.c.kind=3/\Ab o.a 0 2147483648=true/\code=0/\f=56/\i=#[.pointer (some ⟨p.1.s,0,none⟩),.int .i64 o.a,.int .i64 (clock-p.2.c.aK)])\/(p.2.c.kind=4/\True/\code=0/\f=57/\i=#[.pointer (some ⟨p.1.s,0,none⟩),.int .i64 (clock-p.2.c.aK)])\/(p.2.c.kind=5/\True/\code=0/\f=58/\i=#[.pointer (some ⟨p.1.s,0,none⟩),.int .i64 (clock-p.2.c.aK)]) \/
      (p.2.c.kind=1/\Ab o.a 1 p.2.c.aB=false/\code=13/\aL=[]/\True)\/(p.2.c.kind=2/\Ab o.a 1 p.2.c.aB=false/\code=13/\aL=[]/\True)\/(p.2.c.kind=3/\Ab o.a 0 2147483648=false/\code=10/\aL=[]/\True)):=by
 have D:=iF (f:=(·.2)) (iW C);have h:=hi.bD p.2 D;have W:=h.items;have U:=hi.c0;have V:=hi.c1;obtain⟨ab,ad,_,_,_,_⟩:=h.common;obtain⟨m,X,Z,aa,_,_⟩:=Fw h.valid;have N:p.2.c.kind=1\/p.2.c.kind=2\/p.2.c.kind=3\/p.2.c.kind=4\/p.2.c.kind=5:=by omega
 obtain⟨F,E⟩:∃F,FM ⟨clock,aC,ps.map (·.2)⟩ o=F:=⟨_,rfl⟩;rw[E];have e:=E;unfold FM at e;rw[G6,C]at e;simp only[ke]at e;have u:∀ {code:Int},code≠0->(code=0->∀d,bN d p.1 p.2->Calls prog 0 #[] d (dY [] d)):=λc a=>absurd a c;rcases N with a | a | a | a | a
 ·cases hw:Ab o.a 1 p.2.c.aB
  ·exact⟨13,[],0,#[],by rw[<-e,h9 a,hw];rfl,u (by decide),.inr (.inr (.inr (.inr (.inr (.inl ⟨a,rfl,rfl,rfl,trivial⟩)))))⟩
  have t:=Ef (k:=1) h.valid a rfl;obtain⟨r,G⟩:=Bp hw;have B:=hi.bL p.2 D a;exact⟨0,_,_,_,by rw[<-e,h9 a,hw];rfl,λ_ d c=>(SA p.1 p.2 o.a (clock-p.2.c.aK) d c ⟨t.1,t.2.1,t.2.2.1,t.2.2.2⟩ B.ok B.ts (by have z:=h.events;have A:=E6 p.2.items;omega) r (by omega) (by omega) (by omega)).mono (λw x c=>dY.aF (l:=[_]) (by simp) c),.inl ⟨a,rfl,rfl,rfl,rfl⟩⟩
 ·rw[hZ (by omega),h9 a]at e;cases hw:Ab o.a 1 p.2.c.aB
  ·exact⟨13,[],0,#[],by rw[<-e,hw];rfl,u (by decide),.inr (.inr (.inr (.inr (.inr (.inr (.inl ⟨a,rfl,rfl,rfl,trivial⟩))))))⟩
  obtain⟨O,I,J,_,ae⟩:=FD (k:=2) h.valid a rfl;obtain⟨r,G⟩:=Bp hw;have v:=s.keys (.inl a);exact⟨0,_,_,_,by rw[<-e,hw];rfl,λ_ d c=>(RF p.1 p.2 o.a (clock-p.2.c.aK) _ d c O I J rfl (by omega) (λq j=>v q (j7.1 j).1) r (by omega) (by omega) (by omega)).mono (λw x ⟨T,z,A,h3⟩=>⟨T,z,by rw[hY,JG];exact A,h3⟩),.inr (.inl ⟨a,rfl,rfl,rfl,rfl⟩)⟩
 ·rw[hZ (by omega),hZ (by omega),h9 a]at e;cases hw:Ab o.a 0 2147483648
  ·exact⟨10,[],0,#[],by rw[<-e,hw];rfl,u (by decide),.inr (.inr (.inr (.inr (.inr (.inr (.inr ⟨a,rfl,rfl,rfl,trivial⟩))))))⟩
  obtain⟨P,Q,L,M,_⟩:=Dw (k:=3) h.valid a rfl;obtain⟨r,H⟩:=Bp hw;have v:=s.keys (.inr a);exact⟨0,_,_,_,by rw[<-e,hw];rfl,λ_ d c=>(Vs p.1 p.2 o.a (clock-p.2.c.aK) d c P Q L M (by omega) (λq j=>v q (j7.1 j).1) r H (by omega) (by omega)).mono (λw x c=>dY.aF (l:=[_]) (by simp) c),.inr (.inr (.inl ⟨a,rfl,rfl,rfl,rfl⟩))⟩
 ·rw[hZ (by omega),hZ (by omega),hZ (by omega),hZ (by omega)]at e;exact⟨0,_,_,_,e.symm,λ_ d c=>(SH p.1 p.2 (clock-p.2.c.aK) d c (FZ (k:=4) h.valid a (by omega) (by omega)) (by omega) h.times (by omega) (by omega)).mono (λw x c=>dY.aF (l:=[_,_,_]) (by simp) c),.inr (.inr (.inr (.inl ⟨a,trivial,rfl,rfl,rfl⟩)))⟩
 rw[hZ (by omega),hZ (by omega),hZ (by omega),h9 a]at e;obtain⟨R,S⟩:=E4 (k:=5) h.valid a rfl;exact⟨0,_,_,_,e.symm,λ_ d c=>Vj p.1 p.2 (clock-p.2.c.aK) d c (FZ (k:=5) h.valid a (by omega) (by omega)) R S (by omega) (λq j=>⟨h.times q (j7.1 j).1,s.gM a q (j7.1 j).1⟩) (s.fP a),.inr (.inr (.inr (.inr (.inl ⟨a,trivial,rfl,rfl,rfl⟩))))⟩
theorem V3(base:Nat)(n:Int)(e:Nat)(v:Value)(clock aC:Int)(ps:List (RB×aG))(o:aO)(w:World)(a:aZ w e v clock aC ps)(hi:bZ n clock aC (ps.map (·.2)))(au:n<=651562446090)(T:∀y,y∈ps.map (·.2)->fV clock y):
  Calls prog 30 #[.pointer (some ⟨e,0,none⟩),o.val] w λi B=>KO base w (FM ⟨clock,aC,ps.map (·.2)⟩ o) i B:=by
 have ap:ps.length<=1000:=by have:=hi.bX;rw[im]at this;omega
 have al:o.cells[1]?=some (.int .i64 o.id):=rfl;have am:=hi.c0;have an:=hi.c1;have ae:=Aa a;have ao:BI ps o.id=none\/∃p,BI ps o.id=some p:=by cases BI ps o.id;exact .inl rfl;exact .inr ⟨_,rfl⟩
 have J:=Aa hi;have ag:=Aa T;have ak:=Aa (show BI ps o.id=none->FM ⟨clock,aC,ps.map (·.2)⟩ o=(2,[]) from λd=>by unfold FM;rw[G6,d];rfl);clear a hi T;unfold aO.val;go_enter func30,ntmps30;go_wp2_with fail
 obtain⟨I,V,E,ah,P⟩:=C5 w o.cells;have D:=Aa (ae.o.still E.o);rw[<-V];clear V;generalize z:w.heap.size=Z at *
 have M:=Aa z;clear z;refine(Ge e v clock aC o.id ps I D.o ap).mono ?_;rintro i q ⟨rfl,W⟩;rw[W];clear W q;rcases ao with d | ⟨p,d⟩
 ·rw[d];have G:=Aa (ak.o d);unfold Fq;go_wp2_with fail
  refine(Ju 2 I).mono ?_;rintro i q ⟨rfl,h⟩;unfold Av;have m:=Aa (P.o.keeps h id);have r:=Aa (E.o.then h);clear h;obtain⟨ay,az,a0,a1⟩:=m.o.three;go_wp2;refine CZ m.o (λl k=>by simp[results,results30,go_sem,k.c0,k.c1,k.c2,Av]) rfl (λl u=>?_);have z:=M.o;exact⟨_,_,_,G.o,rfl,ir _ _ _ _,(r.o.trans u (λH hi aq=>by omega)).mono (λ_ _ a=>a.elim)⟩
 have x:=iW d;obtain⟨aw,ax,_,_,_,_⟩:=(J.o.bD p.2 (iF x)).common;obtain⟨code,aL,f,a4,U,S,av⟩:=Vh n clock aC ps o J.o au p d (ag.o p.2 (iF x));have G:=Aa U;have ad:=Aa S;rw[d];clear U S;unfold Fq;have O:=Aa (D.o.bM p x);clear d x;go_wp2_with fail
 refine(Jj e p.1.s p.2.c.aK clock I (D.o.aF.cell rfl) (O.o.aF.cell rfl) aw ax am an).mono ?_;rintro i q ⟨rfl,h⟩;have F:=Aa (ah.o.keeps h id);have m:=Aa (P.o.keeps h id);have s:=Aa (O.o.still h);have r:=Aa (E.o.then h);clear h al;have Y:=F.o.c2;have aa:=s.o.aF.c1;have a2:=s.o.aF.c6;generalize ar:clock-p.2.c.aK=mark at *
 clear ar;rcases av with ⟨c,j,rfl,rfl,rfl⟩ | ⟨c,j,rfl,rfl,rfl⟩ | ⟨c,j,rfl,rfl,rfl⟩ | ⟨c,j,rfl,rfl,rfl⟩ | ⟨c,j,rfl,rfl,rfl⟩ | ⟨c,j,rfl,rfl,_⟩ | ⟨c,j,rfl,rfl,_⟩ | ⟨c,j,rfl,rfl,_⟩;all_goals as_aux_lemma =>
  rw[c]at aa;clear c;go_wp2_with fail
  go_region_held3 (λB=>B.cell? ⟨Z,2,none⟩=some (.int .i64 o.a)/\B.cell? ⟨p.1.s,6,none⟩=some (.int .i64 p.2.c.aB)) (go_keep)
   (first | (go_at_call 53;refine(EO _ _ _ _).mono ?_;rintro i l ⟨rfl,rfl⟩))
  have ai:=Aa (F.o.drew);have Q:=Aa (m.o.drew);have aj:=Aa (s.o.still ((aA.refl (λ_=>False) q).drew));have L:=Aa (r.o.drew);clear Y aa a2 F m s r;generalize q.drew=C at *
  have Y:=ai.o.c2;go_wp2_with fail
  refine(EO _ _ _ _).mono ?_;rintro i l ⟨rfl,X⟩;rw[X];clear X l;go_wp2_with fail
  first
   | (refine(ad.o (by first | rfl | trivial) C aj.o).mono ?_
      rintro i ab ⟨a8,rfl,A,t⟩
      obtain⟨a3,a5,rfl⟩:=DC A)
   | (refine(Ju _ C).mono ?_
      rintro i ab ⟨rfl,t⟩;unfold Av
      have A:=ir ab C.heap.size 3 1)
  have R:=Aa (Q.o.keeps t id);have af:=Aa (L.o.then t);have N:=Aa A;have a7:Z+1<C.heap.size:=Q.o.lt;clear t A;obtain⟨ay,az,a0,a1⟩:=R.o.three;go_wp2;refine CZ R.o (λl k=>by simp[results,results30,go_sem,k.c0,k.c1,k.c2,Av]) rfl (λl u=>?_);have z:=M.o;have a6:=L.o.size;exact⟨_,_,_,G.o,rfl,FG (A2 N.o u (λH hi a=>by have:=(N.o.lt H hi).1;omega)) (by omega),(af.o.trans u (λH hi aq=>by omega)).mono (λ_ _ a=>a.elim)⟩
end
section
theorem Yh(m:Int)(f:Nat): ∀a:aI,a.l.length<f->bE a.l->bE (relS f a m).l/\(relS f a m).c=a.c/\(relS f a m).k=a.k/\(relS f a m).id=a.id:=by
 induction f with
 | zero=>intro a d;omega
 | succ f n =>
  intro a q c;unfold relS;split
  ·exact⟨c,rfl,rfl,rfl⟩
  rename_i l;have e:a.l≠[]:=λd=>l (by rw[d];rfl);split
  ·exact⟨c,rfl,rfl,rfl⟩
  obtain⟨o,s⟩:=take_heap a.l c e;have hlen:(BP a m).l.length=a.l.length-1:=takeL_length _;have r:0<a.l.length:=jG.2 e;obtain⟨h,i,j,k⟩:=n (BP a m) (by omega) o;exact⟨h,i,j,k⟩
theorem TQ{c:Int}(e:List aI): ∀(b:Int) (d:aI),d∈(Br c b e).1->∃y,y∈e/\∃h,d=Do c h y:=by
 induction e with
 | nil=>intro b d a;simp[Br]at a
 | cons l e k =>
  intro b d a;simp only[Br]at a;rcases iw.1 a with a | a
  ·exact⟨l,by simp,b,a⟩
  obtain⟨y,j,i⟩:=k _ d a;exact⟨y,by simp[j],i⟩
theorem O2(c:Int)(a:List aI): ∀b,(Br c b a).1.map (·.id)=a.map (·.id):=by
 induction a with
 | nil=>intro b;rfl
 | cons e a d=>intro b;simp only[Br,iC,d];rfl
theorem JP{d:List aI}{id:Int}{x:aI}(e:BX d id=some x): ∃a c,d=a++x::c/\x.id=id/\∀y:aI,BB d id y=a++y::c:=by
 obtain⟨j,a,c,h,i⟩:=List.find?_eq_some_iff_append.1 e;refine⟨a,c,h,by simpa using j,λy=>?_⟩;subst h;clear e;induction a with
 | nil=>simp[BB];intro l;exact absurd (by simpa using j) l
 | cons k a o =>
  have m:=i k (by simp);simp only[List.cons_append,BB];rw[hZ (by simpa using m),o (λq n=>i q (by simp[n]))]
theorem X4{x:aI}{clock:Int}{y:It}(a:bO x clock y=0): clock-x.c.aK<y.t:=by
 unfold bO at a;split at a
 ·split at a
  ·omega
  omega
 omega
def EF: Cfg:=⟨0,0,0,0,0,0,0,0,0,0,0,0,0,0,0,0,0,0,0,0⟩
structure fH (c:Cfg) (k:Nat) (y:It):Prop where
 t0:0<=y.t
 t1:y.t<=4611686018427387904
 fit:AL c k ⟨y.t,y.k,y.d,0⟩=0
structure eK (k:Nat) (P:Cfg->Int->aU->List It->Prop):Prop where
 zero:∀c m,Ak c=true->c.kind=k->P c m C8 []
 later:∀c m m' nt R,Ak c=true->c.kind=k->m<=m'->P c m nt R->P c m' nt R
 rel:∀c m nt R y,Ak c=true->c.kind=k->P c m nt R->(∀r∈R,fH c k r/\dH r y/\r.n≠y.n)->fH c k y->y.t<=m->P c m (B9 k c nt y m) (R++[y])
 fJ:∀c m nt R b,Ak c=true->c.kind=k->P c m nt R->P c m (Bc k c nt m b).1 R
structure GS (P:Cfg->Int->aU->List It->Prop) (clock:Int) (x:aI) (A:List It):Prop where
 heap:bE x.l
 wait:∀y∈x.l,clock-x.c.aK<y.t
 fU:∀y∈A,fH x.c x.k y
 num:∀(i:Nat) (y:It),A[i]?=some y->y.n=(i:Int)+1
 acc:x.acc=(A.length:Int)
 whole:∃R,P x.c (clock-x.c.aK) x.nt R/\R.Pairwise dH/\(∀r∈R,r.t<=clock-x.c.aK)/\(R++x.l).Perm A
theorem Oo{a:List It}(c:∀(i:Nat) (y:It),a[i]?=some y->y.n=(i:Int)+1): (a.map (·.n)).Nodup:=by
 refine List.pairwise_iff_getElem.2 (λi h d e l=>?_);rw[im]at d e;rw[k4,k4];have j:=c i _ (hX d);have k:=c h _ (hX e);omega
theorem bE.fE{l:List It}(d:bE l){y:It}(e:y∈l): dH (itAt l 0) y:=by
 obtain⟨a,c,rfl⟩:=jR.1 e;have:=d.first a c
 rw[show itAt l a=l[a] by simp[itAt,List.getD_eq_getElem?_getD,hX c]]at this;exact this
theorem ZS(f:Nat): ∀(x:aI) (m:Int),(relS f x m).acc=x.acc:=by
 induction f with
 | zero=>intro x m;rfl
 | succ f a =>
  intro x m;unfold relS;split
  ·rfl
  split
  ·rfl
  exact a _ _
theorem zLc{k:Nat}{P:Cfg->Int->aU->List It->Prop}(G:eK k P)(m:Int)(f:Nat): ∀(x:aI) (R:List It),x.l.length<f->bE x.l->Ak x.c=true->x.c.kind=k->x.k=k ->
  (∀y∈R++x.l,fH x.c k y)->((R++x.l).map (·.n)).Nodup->P x.c m x.nt R->R.Pairwise dH->(∀a∈R,a.t<=m)->(∀a∈R,∀y∈x.l,dH a y) ->
  ∃h,P x.c m (relS f x m).nt h/\h.Pairwise dH/\(∀a∈h,a.t<=m)/\(h++(relS f x m).l).Perm (R++x.l)/\(∀y∈(relS f x m).l,m<y.t):=by
 induction f with
 | zero=>intro x R c;omega
 | succ f O =>
  intro x R X l D A B o L q t s u;unfold relS;split
  ·rename_i j;have N:x.l=[]:=kN.1 j;exact⟨R,q,t,s,jb _,by rw[N];simp⟩
  rename_i j;have C:x.l≠[]:=λc=>j (by rw[c];rfl);split
  ·rename_i J;refine⟨R,q,t,s,jb _,λy d=>?_⟩;have:=l.cD d;omega
  rename_i J;obtain⟨W,i⟩:=take_heap x.l l C;have hlen:(BP x m).l.length=x.l.length-1:=takeL_length _;have Y:0<x.l.length:=jG.2 C;have r:((R++[itAt x.l 0])++takeL x.l).Perm (R++x.l):=by
   rw[List.append_assoc];exact kY R i
  have v:itAt x.l 0∈x.l:=i.mem_iff.1 (by simp);have n:(((R++[itAt x.l 0])++takeL x.l).map (·.n)).Nodup:=(r.map (·.n)).nodup_iff.2 L;have I:∀y∈takeL x.l,dH (itAt x.l 0) y:=λy d=>l.fE (i.mem_iff.1 (by simp[d]))
  have M:=G.rel x.c m x.nt R (itAt x.l 0) D A q (λa e=>⟨o a (by simp[e]),u a e _ v,λF=>by
       have w:(((R++[itAt x.l 0])).map (·.n)).Nodup:=by
        rw[iy]at n;exact(jD.1 n).1
       rw[iy]at w
       exact(jD.1 w).2.2 a.n (iF e) (itAt x.l 0).n (by simp) F⟩) (o _ (by simp[v])) (by omega)
  obtain⟨h,Q,S,T,U,V⟩:=O (BP x m) (R++[itAt x.l 0]) (by omega) W D A B
   (λy d=>o y (r.mem_iff.1 d)) n (by
      show P x.c m (B9 x.k x.c x.nt (itAt x.l 0) m) _
      rw[B];exact M)
   (iY.2 ⟨t,by simp,λE H b z=>by rw[ij]at z;rw[z];exact u E H _ v⟩)
   (λa e=>by
      rcases ig.1 e with c | c
      ·exact s a c
      rw[ij]at c;rw[c];omega)
   (λa e y d=>by
      rcases ig.1 e with c | c
      ·exact u a c y (i.mem_iff.1 (by simp[show y∈takeL x.l from d]))
      rw[ij]at c;rw[c];exact I y d)
  exact⟨h,Q,S,T,U.trans r,V⟩
theorem zMd{k:Nat}{P:Cfg->Int->aU->List It->Prop}(m:eK k P){clock e:Int}{x:aI}{l:List It}(a:GS P clock x l)(o:x.k=k)(n:x.c.kind=k)(r:Ak x.c=true)(G:clock<=e): GS P e (AP e x) l:=by
 obtain⟨s,w,v,q,j⟩:=a.whole;have d:=Yh (e-x.c.aK) (x.l.length+1) x (by omega) a.heap;have u:(relS (x.l.length+1) x (e-x.c.aK)).acc=x.acc:=ZS _ _ _;obtain⟨t,z,A,B,C,D⟩:=zLc m (e-x.c.aK) (x.l.length+1) x s (by omega) a.heap r n o
  (λy c=>by rw[<-o];exact a.fU y (j.mem_iff.1 c)) ((j.map (·.n)).nodup_iff.2 (Oo a.num)) (m.later _ _ _ _ _ r n (by omega) w) v (λi h=>by have:=q i h;omega)
  (λi h y c=>.inl (by have E:=q i h;have F:=a.wait y c;omega))
 unfold AP;refine⟨d.1,λy c=>?_,λy c=>?_,a.num,?_,t,?_,A,λi h=>?_,C.trans j⟩
 ·rw[d.2.1];exact D y c
 ·rw[d.2.1,d.2.2.1];exact a.fU y c
 ·rw[u];exact a.acc
 ·rw[d.2.1];exact z
 rw[d.2.1];exact B i h
theorem YM{k:Nat}{P:Cfg->Int->aU->List It->Prop}(h:eK k P){c b:Int}{x:aI}{d:List It}(a:GS P c x d)(j:x.k=k)(i:x.c.kind=k)(o:Ak x.c=true): GS P c (Do c b x) d:=by
 obtain⟨e,q,n,m,l⟩:=a.whole;refine⟨a.heap,a.wait,a.fU,a.num,a.acc,e,?_,n,m,l⟩;show P x.c (c-x.c.aK) (Bc x.k x.c x.nt (c-x.c.aK) b).1 e;rw[j];exact h.fJ _ _ _ _ _ o i q
theorem zN7{P:Cfg->Int->aU->List It->Prop}{clock:Int}{x:aI}{h:List It}(d:GS P clock x h)(y:It)(u:clock-x.c.aK<y.t)(o:fH x.c x.k (Ah y (x.acc+1))): GS P clock (cC x y) (h++[Ah y (x.acc+1)]):=by
 obtain⟨j,t,s,r,q⟩:=d.whole;obtain⟨l,k⟩:=put_heap x.l (Ah y (x.acc+1)) d.heap;refine⟨l,λe a=>?_,λe a=>?_,λi e a=>?_,?_,j,t,s,r,?_⟩
 ·rcases iw.1 (k.mem_iff.1 a) with c | c
  ·rw[c];exact u
  exact d.wait e c
 ·rcases ig.1 a with c | c
  ·exact d.fU e c
  rw[ij]at c;rw[c];exact o
 ·by_cases m:i<h.length
  ·rw[iO m]at a;exact d.num i e a
  rw[iS (by omega)]at a;have n:i-h.length=0:=by
   have:=(ik.1 a).1;simp at this;omega
  rw[n]at a;simp at a;rw[<-a];show x.acc+1=_;rw[d.acc];omega
 ·show x.acc+1=_;rw[d.acc,hY];simp
 refine(kY j k).trans (k0.trans ?_);exact(List.Perm.cons _ q).trans (j3 _ _).symm
theorem zNz{k:Nat}{P:Cfg->Int->aU->List It->Prop}(d:eK k P)(clock id:Int)(c:Cfg)(m:Ak c=true)(e:c.kind=k)(j:Nat): GS P clock (AQ id c j) [] :=
 ⟨λn _ h=>by simp[AQ]at h,λq l=>by simp[AQ]at l,λy a=>by simp at a,λn y a=>by simp at a,rfl,[],d.zero _ _ m e,List.Pairwise.nil,λo i=>by simp at i,jb _⟩
def DK(s:WS)(o:aO)(id:Int): List It:=if o.kind=2/\o.id=id/\(Aw s o).2.1=0 then[Ah o.item ((Aw s o).2.2.headD 0)] else[]
structure GW (k:Nat) (P:Cfg->Int->aU->List It->Prop) (s:WS) (A:Int->List It):Prop where
 ids:(s.xs.map (·.id)).Nodup
 none:∀id,id ∉ s.xs.map (·.id)->A id=[]
 bL:∀x,x∈s.xs->x.k=k->GS P s.clock x (A x.id)
theorem Fy{s:WS}{o:aO}(a:o.kind≠2\/(Aw s o).2.1≠0)(id:Int): DK s o id=[]:=by
 unfold DK;rw[hZ];rintro ⟨c,_,d⟩;rcases a with a | a
 ·exact a c
 exact a d
theorem Rf{k:Nat}{P:Cfg->Int->aU->List It->Prop}{s:WS}{n B:Int->List It}(e:GW k P s n){id:Int}{x y:aI}(A:BX s.xs id=some x)(r:y.id=x.id)(o:∀d,d≠id->B d=n d)(t:y.k=x.k)(D:x.k=k->GS P s.clock x (n x.id)->GS P s.clock y (B id)): GW k P ⟨s.clock,BB s.xs id y⟩ B:=by
 obtain⟨G,H,i,l,w⟩:=JP A;have u:(BB s.xs id y).map (·.id)=s.xs.map (·.id):=by
  rw[w,i];simp[r]
 have z:x∈s.xs:=by rw[i];simp
 refine⟨by show((BB s.xs id y).map _).Nodup;rw[u];exact e.ids,λd C=>?_,λa E m=>?_⟩
 ·have q:d ∉ s.xs.map (·.id):=by rw[<-u];exact C
  have j:d≠id:=λh=>q (by rw[h,<-l];exact iF z);rw[o d j];exact e.none d q
 have F:a∈G++y::H:=by rw[<-w];exact E
 have v:=e.ids;rw[i,iy,iC]at v;obtain⟨_,I,J⟩:=jD.1 v;have L:=(kq.1 I).1;rcases ig.1 F with c | c
 ·have j:a.id≠id:=λh=>J a.id (iF c) x.id (by simp) (by rw[h,l]);show GS P s.clock a (B a.id);rw[o _ j];exact e.bL a (by rw[i];simp[c]) m
 rcases iw.1 c with c | c
 ·subst c;show GS P s.clock a (B a.id);rw[r,l];exact D (by rw[<-t];exact m) (e.bL x z (by rw[<-t];exact m))
 have j:a.id≠id:=λh=>L (by rw[l,<-h];exact iF c);show GS P s.clock a (B a.id);rw[o _ j];exact e.bL a (by rw[i];simp[c]) m
theorem MC{k:Nat}{P:Cfg->Int->aU->List It->Prop}(A:eK k P){n:Int}{s:WS}{l:Int->List It}(hi:bQ n s.clock s.xs)(c:GW k P s l)(o:aO)(X:o.kind≠7): GW k P (Aw s o).1 (λid=>l id++DK s o id):=by
 by_cases z:o.kind=1
 ·have i:=Fy (s:=s) (o:=o) (.inl (by omega));simp only[i,iz];unfold Aw;rw[h9 z];unfold Da;split
  ·rename_i I;split
   ·rename_i m;split
    ·have E:o.id ∉ s.xs.map (·.id):=λN=>by
      obtain⟨a,d,Q⟩:=iE.1 N;have:=I.2;unfold BX at this;rw[Option.isNone_iff_eq_none,lk]at this;exact this a d (by simpa using Q)
     refine⟨?_,λid q=>?_,λa d v=>?_⟩
     ·show((s.xs++[AQ o.id o.cfg o.cfg.kind.toNat]).map (·.id)).Nodup;rw[iy];refine jD.2 ⟨c.ids,by simp,λW i b e=>?_⟩;simp[AQ]at e;subst e;exact λx=>E (by rw[<-x];exact i)
     ·exact c.none id (λx=>q (by show id∈(s.xs++[AQ o.id o.cfg o.cfg.kind.toNat]).map (·.id);rw[iy];exact ig.2 (.inl x)))
     rcases ig.1 d with d | d
     ·exact c.bL a d v
     rw[ij]at d;subst d;show GS P s.clock _ (l o.id);have D:=(O7 (n:=0) o.id o.cfg m (by omega)).kind;have M:(AQ o.id o.cfg o.cfg.kind.toNat).k=k:=v;rw[M]at D;rw[c.none o.id E];exact zNz A _ _ _ m D _
    exact c
   exact c
  exact c
 by_cases u:o.kind=2
 ·have j:Aw s o=C0 s o:=by unfold Aw;rw[hZ z,h9 u]
  cases hf:BX s.xs o.id with
  | none =>
   have h:C0 s o=(s,2,[]):=by unfold C0;rw[hf]
   have i:=Fy (s:=s) (o:=o) (.inr (by rw[j,h];simp));simp only[i,iz];rw[j,h];exact c
  | some a =>
   by_cases r:bO a s.clock o.item=0
   ·have h:C0 s o=(⟨s.clock,BB s.xs o.id (cC a o.item)⟩,0,[a.acc+1]):=by unfold C0;rw[hf];simp only;rw[h9 r]
    rw[j,h];refine Rf c hf rfl (λt O=>?_) rfl (λ_ e=>?_)
    ·show l t++DK s o t=l t;have:DK s o t=[]:=by unfold DK;rw[hZ (λL=>O L.2.1.symm)]
     rw[this,iz]
    show GS P s.clock (cC a o.item) (l o.id++DK s o o.id);have:DK s o o.id=[Ah o.item (a.acc+1)]:=by unfold DK;rw[h9 ⟨u,rfl,by rw[j,h]⟩,j,h];rfl
    rw[this];obtain⟨_,_,_,d,_⟩:=JP hf;rw[d]at e;obtain⟨T,U,_,_,_,V,_⟩:=Kl r;exact zN7 e o.item (X4 r) ⟨T,U,V⟩
   have h:C0 s o=(⟨s.clock,BB s.xs o.id (cF a (bO a s.clock o.item).toNat)⟩,bO a s.clock o.item,[]):=by unfold C0;rw[hf];simp only;rw[hZ r]
   have i:=Fy (s:=s) (o:=o) (.inr (by rw[j,h];exact r));simp only[i,iz];rw[j,h];refine Rf c hf rfl (λt _=>rfl) rfl (λ_ e=>?_);obtain⟨_,_,_,d,_⟩:=JP hf;rw[d]at e;exact⟨e.heap,e.wait,e.fU,e.num,e.acc,e.whole⟩
 have i:=Fy (s:=s) (o:=o) (.inl u);simp only[i,iz];unfold Aw;rw[hZ z,hZ u];split
 ·unfold DJ;split
  ·split
   ·have J:s.clock<=Au s.clock o.a:=by unfold Au;split <;> omega
    have C:((Br (Au s.clock o.a) o.b (s.xs.map (AP (Au s.clock o.a)))).1.map (·.id))=s.xs.map (·.id):=by
     rw[O2,j9];refine jO λa _=>?_;exact(Fp _ _ _).2.2
    refine⟨by show List.Nodup _;rw[C];exact c.ids,λid q=>c.none id (by rw[<-C];exact q),λY S v=>?_⟩;obtain⟨y,R,H,rfl⟩:=TQ _ _ _ S;obtain⟨a,d,rfl⟩:=iE.1 R;have G:(AP (Au s.clock o.a) a).k=a.k:=(Fp _ _ _).1;have F:(AP (Au s.clock o.a) a).c=a.c:=(Fp _ _ _).2.1;have w:a.k=k:=by rw[<-G];exact v
    have m:=hi.bD a d;have B:a.c.kind=k:=by rw[m.kind,w]
    have q:(Do (Au s.clock o.a) H (AP (Au s.clock o.a) a)).id=a.id:=(Fp _ _ _).2.2;rw[q];exact YM A (zMd A (c.bL a d w) w B m.valid J) (G.trans w) (by rw[F];exact B) (by rw[F];exact m.valid)
   exact c
  exact c
 split
 ·unfold DW;split <;> exact c
 split
 ·unfold Ew;split <;> exact c
 split <;> exact c
