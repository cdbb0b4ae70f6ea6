import Derived.Test.YtnokbhcennjanaaGreatDoorXAF
open Go.RowKit Go.Proofs.Tryz
set_option maxRecDepth 100000
set_option maxHeartbeats 16000000
namespace Go.Proofs.YtnokbhcennjanaaGreatDoor
section
def BV: Value:=.func (.func 170) #[] #[]
def aH(w:World)(r:Nat)(og:Option Nat)(l:List Bk): Prop :=
 match og with
 | none=>l=[]/\aD w r [BV,.slice none 0 0] 260
 | some g=>r≠g/\∃cap,aD w r [BV,.slice (some ⟨g,0,none⟩) l.length cap] 260/\aY w g cap l
theorem aH.lt{w:World}{d:Nat}{c:Option Nat}{l:List Bk}(a:aH w d c l): d<w.heap.size/\∀g,c=some g->g<w.heap.size/\d≠g:=by
 cases c with
 | none=>exact⟨a.2.lt,λ_ a=>by cases a⟩
 | some g=>obtain⟨h,j,e,i⟩:=a;exact⟨e.lt,λk a=>by cases a;exact⟨i.lt,h⟩⟩
theorem aH.keeps{M:Nat->Prop}{w w':World}{d:Nat}{a:Option Nat}{l:List Bk}(c:aH w d a l)(k:aA M w w')(e:¬M d)(j:∀g,a=some g->¬M g): aH w' d a l:=by
 cases a with
 | none=>exact⟨c.1,c.2.keeps k e⟩
 | some g=>obtain⟨m,h,i,n⟩:=c;exact⟨m,h,i.keeps k e,n.keeps k (j g rfl)⟩
theorem aH.still{w w':World}{d:Nat}{c:Option Nat}{l:List Bk}(a:aH w d c l)(k:lO w w'): aH w' d c l:=a.keeps k id (λ_ _ a=>a)
theorem rowLen_any(e:Nat)(d:Option Nat)(l:List Bk)(w:World)(c:aH w e d l):
  Calls prog 176 #[.pointer (some ⟨e,0,none⟩)] w λh m=>h=.returned (.int .i64 l.length)/\m=w:=by
 cases d with
 | none =>
  obtain⟨i,a⟩:=c;have j:=a.c1;subst i;clear a;go_enter func176,ntmps176;go_wp2;go_ret;exact⟨rfl,rfl⟩
 | some g =>
  obtain⟨o,n,a,k⟩:=c;have j:=a.c1;clear a k;go_enter func176,ntmps176;go_wp2;go_ret;exact⟨rfl,rfl⟩
theorem FF(h:Nat)(e:Option Nat)(l:List Bk)(i:Nat)(w:World)(d:aH w h e l)(hi:i<l.length):
  Calls prog 178 #[.pointer (some ⟨h,0,none⟩),.int .i64 i] w λj n=>j=.returned (Ad l i).val/\lO w n:=by
 cases e with
 | none=>obtain⟨k,a⟩:=d;subst k;simp at hi
 | some g =>
  obtain⟨x,q,a,c⟩:=d;have z:=a.c1;have u:=a.lt;have t:=c.lt;obtain⟨A,B⟩:=c.cells i hi;generalize Ad l i=o at *
  generalize l.length=m at *
  have r:(0:Int)<=(i:Int):=by omega
  have s:(i:Int)<(m:Int):=by omega
  clear a c;go_enter func178,ntmps178;go_wp2;refine iN (v:=o.val) (by simp[results,results178,go_sem,Bk.val]) rfl ⟨rfl,(aA.refl _ _).alloc _⟩
theorem MD(x:Bk)(w:World):
  Calls prog 170 #[x.val] w λa c=>a=.returned (.int .i64 x.t)/\c=w.alloc (.cells #[.int .i64 x.sz,.int .i64 x.t] 207):=by
 unfold Bk.val;go_enter func170,ntmps170;go_wp2;go_ret;exact⟨rfl,rfl⟩
def pastN(l:List Bk)(t:Int): Nat:=(l.takeWhile (λb=>decide (b.t<=t))).length
theorem pastN_le(l:List Bk)(t:Int): pastN l t<=l.length:=(lB _).length_le
theorem Gb(l:List Bk)(k:Nat)(a:k<l.length): l.drop k=Ad l k::l.drop (k+1):=by
 rw[List.drop_eq_getElem_cons a];congr 1;simp[Ad,List.getD_eq_getElem?_getD,hX a]
theorem past_any(j:Nat)(F:Option Nat)(l:List Bk)(t:Int)(w:World)(c:aH w j F l)(B:l.length<=4398046511104):
  Calls prog 213 #[.pointer (some ⟨j,0,none⟩),.int .i64 t] w λz i=>z=.returned (.int .i64 (pastN l t))/\lO w i:=by
 cases F with
 | none =>
  obtain⟨B,k⟩:=c;have H:=k.c1;subst B;clear k;go_enter func213,ntmps213;go_wp2;go_loopw [5] (λm wr=>m=.int .i64 0/\wr=w) (λ_ _=>0)
  case atStart=>exact⟨rfl,rfl⟩
  case round =>
   obtain⟨rfl,rfl⟩:=hrel;go_wp2;go_quiet (fail)
   go_wp2;go_ret;exact⟨rfl,aA.drewN _ _ _⟩
 | some g =>
  obtain⟨P,x,k,E⟩:=c;have r:=Aa k;have G:=Aa E;clear k E;generalize D:l.length=h at *
  have o:=Aa D;clear D;go_enter func213,ntmps213;go_wp2;go_loopw [5] (λm wr=>∃a:Nat,m=.int .i64 a/\a<=h/\Hid (lO w wr)/\Hid (pastN l t=a+pastN (l.drop a) t)) (λm _=>h-(intOf m).toNat)
  case atStart=>exact⟨0,rfl,iM _,aA.refl _ _,by show _=_;simp⟩
  case round =>
   obtain⟨a,rfl,M,e,n⟩:=hrel;have H:wr.cell? ⟨j,1,none⟩=some (.slice (some ⟨g,0,none⟩) h x):=e.o.cell (r.o.cell rfl) id;have Q:wr.cell? ⟨j,0,none⟩=some (.func (.func 170) #[] #[]):=e.o.cell (r.o.cell rfl) id;by_cases C:a<h
   ·have q:=G.o.cells a (by rw[o.o];exact C);have R:=e.o.cell q.1 id;have S:=e.o.cell q.2 id;clear q;have N:(0:Int)<=(a:Int):=by omega
    have O:(a:Int)<(h:Int):=by omega
    have s:=Aa (Gb l a (by rw[o.o];exact C));generalize Ad l a=d at *
    by_cases I:d.t<=t;all_goals
     have v:=Aa I;go_wp2
     go_region_held3 (λi=>i.cell? ⟨j,0,none⟩=some (.func (.func 170) #[] #[])/\i.cell? ⟨j,1,none⟩=some (.slice (some ⟨g,0,none⟩) h x) /\
        i.cell? ⟨g,a*2,none⟩=some (.int .i64 d.sz)/\i.cell? ⟨g,a*2+1,none⟩=some (.int .i64 d.t)) (go_keep)
      (first | (go_at_call 170;refine(MD d _).mono ?_;rintro z i ⟨rfl,rfl⟩))
     have A:lO wr (wr.alloc (.cells #[.int .i64 d.sz,.int .i64 d.t] 207)).drew:=((aA.refl _ _).alloc _).drew;generalize(wr.alloc (.cells #[.int .i64 d.sz,.int .i64 d.t] 207)).drew=J at *
     have u:=Aa A;clear A
    ·go_wp2;go_roundw;case rel =>
      refine⟨a+1,by go_num,by omega,e.o.then u.o,?_⟩;show _=_;rw[n.o,s.o];unfold pastN;rw[jB,h9 (by simpa using v.o)];simp;omega
     case measure=>simp[intOf];omega
    go_wp2;go_ret;refine⟨?_,e.o.then u.o⟩;rw[n.o,s.o];unfold pastN;rw[jB,hZ (by simpa using v.o)];simp
   have L:decide ((a:Int)<(h:Int))=false:=by simp;omega
   go_wp2;go_quiet (fail)
   go_wp2;go_ret;refine⟨?_,e.o.then (aA.drewN _ _ _)⟩;rw[n.o,iU (by rw[o.o];omega)];simp[pastN]
theorem lose_any(c:Nat)(o:Option Nat)(l:List Bk)(k:Nat)(w:World)(j:aH w c o l)(s:k<=l.length):
  Calls prog 171 #[.pointer (some ⟨c,0,none⟩),.int .i64 k] w λi e=>i=.returned (.tuple #[])/\aH e c o (l.drop k)/\aA (λa=>a=c\/o=some a) w e:=by
 cases o with
 | none =>
  obtain⟨H,d⟩:=j;subst H;have G:k=0:=by simpa using s
  subst G;have v:=d.c1;have F:=d.frozen;have m:=Aa d;clear d s;go_enter func171,ntmps171;go_wp2_with fail
  refine(IN _).mono ?_;rintro i e ⟨rfl,rfl⟩;go_wp2;go_end0;refine⟨rfl,⟨rfl,?_⟩,(aA.refl (λa=>a=c\/none=some a) _).setCell (p:=⟨c,1,none⟩) (Or.inl (Or.inl rfl)) _⟩;exact m.o.setCell 1 _
 | some g =>
  obtain⟨u,h,d,A⟩:=j;have v:=d.c1;have I:=d.lt;have m:=Aa d;have n:=Aa A;clear d A;have x:Hid (Calls prog 212 #[.slice (some ⟨g,0,none⟩) l.length h,.int .i64 0,.int .i64 k] w λi e=>i=.returned (.slice (some ⟨g,0,none⟩) (l.length-k) h)/\aY e g h (l.drop k)/\aA (λa=>a=g) w e):=by
   rcases lJ k with r | r
   ·subst r;refine(IJ g h l.length w n.o.le).mono ?_;rintro i e ⟨rfl,rfl⟩;exact⟨rfl,n.o,aA.refl _ _⟩
   exact IZ g h l.length k l w rfl n.o r s
  generalize z:l.length=J at *
  have D:=Aa z;clear z;go_enter func171,ntmps171;go_wp2_with fail
  refine x.o.mono ?_;rintro i L ⟨rfl,B,t⟩;have q:=Aa (m.o.keeps t u);have E:=Aa B;have C:=Aa t;clear B t x m n v;have v:=q.o.c1;have F:=q.o.frozen;go_wp2;go_end0;refine⟨rfl,⟨u,h,?_,?_⟩,?_⟩
  ·rw[iQ,D.o];exact q.o.setCell 1 _
  ·exact E.o.keeps (M:=λa=>a=c) ((aA.refl (λa=>a=c) _).setCell (p:=⟨c,1,none⟩) (Or.inl rfl) _) (λj=>u j.symm)
  exact(C.o.mono (M':=λa=>a=c\/some g=some a) (λa _ j=>.inr (by rw[j]))).setCell (p:=⟨c,1,none⟩) (Or.inl (Or.inl rfl)) _
theorem aH.owns{w:World}{h:Nat}{c:Option Nat}{l:List Bk}(e:aH w h c l):
  ∃a,aD w h [BV,AH c l.length a] 260/\w.ownsRow 0 207 2 (AH c l.length a) l.length (Az l):=by
 cases c with
 | none=>obtain⟨rfl,d⟩:=e;exact⟨0,d,ir _ _ _ _⟩
 | some g =>
  obtain⟨j,a,d,i⟩:=e;exact⟨a,d,i.owns⟩
theorem Jh{w i:World}{m B:Obj}{c d n A k:Nat}{h:Option Nat}{l:List Bk}{x:Bk}{v:Value}(r:l.length=n)(H:AH h n A=v)(I:c<w.heap.size)(D:aD w c [BV,v] 260)(z:some c≠v.ownBlock)(t:i.ownsRow 0 207 2 (.slice (some ⟨d,0,none⟩) (n+1) k) (n+1) (Az l++[.int .i64 x.sz,.int .i64 x.t]))(q:((w.alloc m).alloc B).drew.grownBy i v.ownBlock)(o:v.ownBlock=some d\/d=w.heap.size+2):
  aH (i.setCell ⟨c,1,none⟩ (.slice (some ⟨d,0,none⟩) (n+1) k)) c (some d) (l++[x]) /\
  aA (λa=>a=c\/h=some a) w (i.setCell ⟨c,1,none⟩ (.slice (some ⟨d,0,none⟩) (n+1) k))/\(h=some d\/w.heap.size<=d):=by
 have s:∀a,v.ownBlock=some a->h=some a:=by
  intro a j;rw[<-H]at j;cases h with
  | none=>simp[AH,Value.ownBlock]at j
  | some g=>simpa[AH,Value.ownBlock] using j
 have u:c≠d:=by
  rcases o with e | e
  ·intro C;apply z;rw[e,C]
  omega
 have G:aA (λa=>a=c\/h=some a) w i:=(((aA.refl _ w).alloc m).alloc B).drew.grown q (λa j=>Or.inl (Or.inr (s a j)));have E:aD i c [BV,v] 260:=by
  unfold aD;rw[q.block c (by simp;omega) z];exact(D.alloc m).alloc B
 refine⟨⟨u,k,?_,?_⟩,G.setCell (Or.inl (Or.inl rfl)) _,?_⟩
 ·have:(l++[x]).length=n+1:=by simp[r]
  rw[this];exact E.setCell 1 _
 ·have F:Az l++[.int .i64 x.sz,.int .i64 x.t]=Az (l++[x]):=by rw[Ho];rfl
  rw[F]at t;exact(brow_of_owns (by simp[r]) t).keeps (M:=λa=>a=c) ((aA.refl (λa=>a=c) _).setCell (Or.inl rfl) _) (λe=>u e.symm)
 rcases o with e | e
 ·exact .inl (s d e)
 exact .inr (by omega)
theorem rowPut_any(c:Nat)(i:Option Nat)(l:List Bk)(x:Bk)(w:World)(h:aH w c i l)(af:l.length<=4398046511104):
  Calls prog 173 #[.pointer (some ⟨c,0,none⟩),x.val] w λL F=>L=.returned (.tuple #[])/\∃s,aH F c s (l++[x])/\aA (λm=>m=c\/i=some m) w F/\(s=i\/∃m,s=some m/\w.heap.size<=m):=by
 obtain⟨C,B⟩:=h.lt;obtain⟨v,n,U⟩:=h.owns;have W:=n.c1;have P:=n.frozen 1;obtain⟨aa,R,X,Y,Z⟩:=jh infoBk;generalize D:l.length=o at *
 generalize r:AH i o v=j at *
 unfold Bk.val;have G:Hid (aD w c [BV,j] 260):=n;have J:Hid (AH i o v=j):=r;have I:Hid (l.length=o):=D;have E:some c≠j.ownBlock:=by
  rw[<-r];cases i with
  | none=>simp[AH,Value.ownBlock]
  | some g=>simp[AH,Value.ownBlock];exact(B g rfl).2
 have u:Hid (∀e d k,((w.alloc e).alloc d).drew.grownBy k j.ownBlock->k.cell? ⟨c,1,none⟩=some j/\k.frozen? ⟨c,1,none⟩=false):=λe d k Q=>by
  have A:k.heap[c]?=w.heap[c]?:=by
   rw[Q.block c (by simp;omega) E];show((w.alloc e).alloc d).heap[c]?=_;rw[jq _ _ _ (by simp;omega),jq _ _ _ C]
  exact⟨(jw (a:=⟨c,1,none⟩) A).trans W,(jH (a:=⟨c,1,none⟩) A).trans P⟩
 have S:Hid (∀e d,((w.alloc e).alloc d).drew.heap[w.heap.size+1]?=some d):=λe d=>by
  have:=iJ (w.alloc e) d;rwa [jU]at this
 clear n h r D B;go_enter func173,ntmps173;go_wp2_with fail
 go_region_law
  ((refine kz _ (by rfl) _ _ _ (by rfl) 0 207 aa _ 2 16 underlying258 R X Y Z rfl (by omega) j o (Az l) (by rfl) (((U.alloc _).alloc _).drew)
        ⟨w.heap.size+1,0,none⟩ 1 1 [.int .i64 x.sz,.int .i64 x.t] (by rfl) (by rfl) (iT (cs:=#[.int .i64 x.sz,.int .i64 x.t]) (t:=207) (fr:=(0,0)) (S.out _ _)) (by simp[Value.oneCell'])
        (by omega) (by unfold maxLen;omega) (by omega) (by omega) (w.heap.size+2) (by simp) ?_;intro z ab k V q O ag;have ad:=(u.out _ _ _ q).1;have ae:=(u.out _ _ _ q).2))
 all_goals
  have H:=Jh I.out J.out C G.out E V q O;obtain⟨N,M,T⟩:=H;go_wp2;go_end0;refine⟨rfl,some z,N,M,?_⟩;rcases T with h | h
  ·exact .inl h.symm
  exact .inr ⟨z,rfl,h⟩
theorem Ua(a:Nat)(q:Option Nat)(l:List Bk)(i:Nat)(x:Bk)(w:World)(h:aH w a q l)(hi:i+2<=l.length)(C:l.length<=4398046511104):
  Calls prog 215 #[.pointer (some ⟨a,0,none⟩),.int .i64 i,x.val] w λn m=>n=.returned (.tuple #[])/\aH m a q (BG l i x)/\aA (λc=>c=a\/q=some c) w m:=by
 cases q with
 | none=>obtain⟨C,k⟩:=h;subst C;simp at hi
 | some g =>
  obtain⟨u,e,k,D⟩:=h;have R:=k.c1;have Q:=k.lt;have E:=Aa k;have H:=Aa D;clear k D;have F:Hid (∀(j:Nat) (d:World),aY d g e l->d.cell? ⟨j,0,none⟩=some (.int .i64 x.sz)->d.cell? ⟨j,1,none⟩=some (.int .i64 x.t)->Calls prog 234 #[.slice (some ⟨g,0,none⟩) l.length e,.int .i64 i,.int .i64 ((i:Int)+2),.slice (some ⟨j,0,none⟩) 1 1] d λn m=>n=.returned (.slice (some ⟨g,0,none⟩) (l.length-1) e)/\aY m g e (BG l i x)/\aA (λc=>c=g) d m):=by
   intro j d B v z;rcases ku (i+2) l.length with A | A
   ·exact RN g e l.length i j l x d rfl B A v z
   exact RV g e l.length i j l x d rfl B (by omega) v z
  have G:=Aa (Ff x (l:=l) (i:=i) hi);generalize L:l.length=O at *
  clear L;unfold Bk.val;go_enter func215,ntmps215;go_wp2_with fail
  have T:IntKind.i64.wrap ((i:Int)+2)=(i:Int)+2:=by rw[ic];omega
  have t:=Aa (show ∀s r,aA (λc=>c=g) ((w.alloc (.cells #[.int .i64 x.sz,.int .i64 x.t] 207)).alloc s).drew r->aD r a [BV,.slice (some ⟨g,0,none⟩) O e] 260 from λs r J=>(((E.o.alloc _).alloc s).drew).keeps J u);go_region_with (go_at_call 234;refine(F.o (w.heap.size+1) _ (H.o.keeps (M:=λ_=>False) (((aA.refl _ _).alloc _).alloc _).drew id) (by simp) (by simp)).mono ?_;rintro n r ⟨rfl,N,o⟩;have S:=(t.o _ _ o).cell (i:=1) rfl;have P:=(t.o _ _ o).frozen)
  all_goals
   have I:=t.o _ _ o;go_wp2;go_end0;refine⟨rfl,⟨u,e,?_,?_⟩,?_⟩
   ·rw[G.o];exact I.setCell 1 _
   ·exact N.keeps (M:=λi=>i=a) ((aA.refl (λi=>i=a) _).setCell (p:=⟨a,1,none⟩) (Or.inl rfl) _) (λh=>u h.symm)
   exact(((((aA.refl (λc=>c=a\/some g=some c) w).alloc _).alloc _).drew).trans o (λi hi _=>.inr (by rw[hi]))).setCell (p:=⟨a,1,none⟩) (Or.inl (Or.inl rfl)) _
theorem rowNew_any(w:World):
  Calls prog 169 #[BV] w λc a=>c=.returned (.pointer (some ⟨w.heap.size,0,none⟩))/\aH a w.heap.size none []/\lO w a/\a.heap.size=w.heap.size+1:=by
 unfold BV;go_enter func169,ntmps169;go_wp2;go_ret;exact⟨rfl,⟨rfl,aD.new w [BV,.slice none 0 0] 260⟩,(aA.refl _ _).alloc _,by simp⟩
