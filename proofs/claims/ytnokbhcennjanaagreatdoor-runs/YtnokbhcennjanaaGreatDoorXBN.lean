import Derived.Test.YtnokbhcennjanaaGreatDoorXBM
import Derived.Test.YtnokbhcennjanaaGreatDoorXBL
import Derived.Test.YtnokbhcennjanaaGreatDoorXBJ
open Go.RowKit Go.Proofs.Tryz
set_option maxRecDepth 100000
set_option maxHeartbeats 16000000
namespace Go.Proofs.YtnokbhcennjanaaGreatDoor
section
attribute [local go_sem ↓] AN B2
attribute [local go_sem] AO B4 A5 A6 AI AJ BC BD Bf B3
theorem Qy{fn:Func}{R:Ending->World->Prop}{a:Act}{e:World}{d:Nat}{x y n:Value}{num:Int}{T:TypeId}(i:aD e d [x,y,n] T)(l:∀c h,aD c d [.int .i64 0,h,.string Ai] T->(results fn a.tmps).run prog c=.ok (Av 0 h) c)(k:a.defers=[])(j:∀c h,aA (λm=>m=d) e c->c.ownsRow e.heap.size 3 1 h 1 [.int .i64 num]->R (.returned (Av 0 h)) c):
  bodyPost prog fn R .ret a ((((e.setCell ⟨d,0,none⟩ (.int .i64 0)).setCell ⟨d,1,none⟩ (.slice (some ⟨e.heap.size,0,none⟩) 1 1)).setCell ⟨d,2,none⟩ (.string Ai)).alloc (.cells #[.int .i64 num] 3)) :=
 iN (l _ _ ((((i.setCell 0 _).setCell 1 _).setCell 2 _).alloc _)) k (j _ _ ((Ik _ _ _ _ _).alloc _) ⟨rfl,.inr ⟨e.heap.size,1,_,rfl,il _,aD.newAt (by simp) [_] 3,by simp,by unfold maxLen;simp,rfl,rfl⟩⟩)
def Xq(w:World)(e:Nat)(v:Value)(ps:List (RB×aG))(x:cT×Int×List Int)(r:Ending)(w':World): Prop :=
 ∃nv,r=.returned (Av x.2.1 nv)/\w'.ownsRow w.heap.size 3 1 nv x.2.2.length (ints x.2.2)/\Dc w e v ps x.1 w'
theorem VQ{w i m n:World}{e h:Nat}{v:Value}{clock aC:Int}{ps:List (RB×aG)}{l:cT}(s:aZ w e v clock aC ps)(t:lO w i)(a:Dc i e v ps l m)(k:aA (λc=>c=h+1) m n)(C:w.heap.size=h)(B:h+1<i.heap.size): Dc w e v ps l n:=by
 obtain⟨x,u,o,q,r,j⟩:=a;refine⟨x,u,o.keeps k (λc d z=>?_),q,?_,?_⟩
 ·rcases j c d with a | a
  ·have:=s.lt c a;omega
  omega
 ·exact((t.mono (M':=bG e v ps) (λ_ _ a=>a.elim)).then r).trans k (λc d A=>by omega)
 intro c d;rcases j c d with a | a
 ·exact .inl a
 exact .inr (by omega)
theorem TD(e:Nat)(v:Value)(clock aC:Int)(ps:List (RB×aG))(o:aO)(w:World)(a:aZ w e v clock aC ps)(q:ps.length<=6):
  Calls prog 60 #[.pointer (some ⟨e,0,none⟩),o.val] w λj k=>j=.returned (.int .i64 (CK ⟨clock,aC,ps.map (·.2)⟩ o).2.1)/\(CK ⟨clock,aC,ps.map (·.2)⟩ o).2.2=[]/\Dc w e v ps (CK ⟨clock,aC,ps.map (·.2)⟩ o).1 k:=by
 by_cases i:Ab o.id 0 99=true/\BI ps o.id=none/\Ak o.cfg=true/\ps.length≠6
 ·obtain⟨c,d,h,l⟩:=i;have m:CK ⟨clock,aC,ps.map (·.2)⟩ o=(⟨clock,aC,ps.map (·.2)++[CH o.id o.cfg]⟩,0,[]):=by
   rw[Ns,h9 ⟨c,d⟩,h9 h,hZ l]
  rw[m];refine(T9 e v clock aC ps o w a (by omega) c d h).mono ?_;rintro j k ⟨rfl,n⟩;exact⟨rfl,rfl,n⟩
 exact Vk e v clock aC ps o w a (by omega) i
theorem Y5(n:Int)(e:Nat)(v:Value)(clock aC:Int)(ps:List (RB×aG))(o:aO)(w:World)(h:aZ w e v clock aC ps)(hi:bZ n clock aC (ps.map (·.2)))(m:n<1099511627776):
  Calls prog 61 #[.pointer (some ⟨e,0,none⟩),o.val] w λj k=>∃d c a,Fa ⟨clock,aC,ps.map (·.2)⟩ o=(d,a,if a=0 then[c] else[])/\j=.returned (.tuple #[.int .i64 c,.int .i64 a])/\Dc w e v ps d k:=by
 have l:∀d c a,Fa ⟨clock,aC,ps.map (·.2)⟩ o=(d,a,if a=0 then[c] else[])->∀(j:Ending) (k:World),(j=.returned (.tuple #[.int .i64 c,.int .i64 a])/\Dc w e v ps d k)->∃d c a,Fa ⟨clock,aC,ps.map (·.2)⟩ o=(d,a,if a=0 then[c] else[])/\j=.returned (.tuple #[.int .i64 c,.int .i64 a])/\Dc w e v ps d k:=λd c a e j k h=>⟨d,c,a,e,h⟩;cases hf:BI ps o.id with
 | none=>exact(zM8 e v clock aC ps o w h (by have:=hi.bX;simp at this;omega) hf).mono (l _ _ _ (by unfold Fa;rw[G6,hf];rfl))
 | some p =>
  by_cases i:Ck p.2 clock o=0
  ·exact(YZ n e v clock aC ps o w h hi m p hf i).mono (l _ _ _ (by unfold Fa;rw[G6,hf];simp only[ke];rw[h9 i];rfl))
  exact(YQ n e v clock aC ps o w h hi (by omega) p hf i).mono (l _ _ _ (by unfold Fa;rw[G6,hf];simp only[ke];rw[hZ i,hZ i]))
theorem Pe(n:Int)(e:Nat)(v:Value)(clock aC:Int)(ps:List (RB×aG))(o:aO)(w:World)(j:aZ w e v clock aC ps)(hi:bZ n clock aC (ps.map (·.2)))(ak:n<1099511627776):
  Calls prog 32 #[.pointer (some ⟨e,0,none⟩),o.val] w λF a6=>Xq w e v ps (BL ⟨clock,aC,ps.map (·.2)⟩ o) F a6:=by
 have P:=Aa j;have Q:=Aa hi;clear j hi;unfold aO.val;obtain⟨r,an,ad,H,af⟩:=C5 w o.cells;have G:=Aa (P.o.still ad.o);have aw:=Aa (show ∀N,bG e v ps N->N<w.heap.size from P.o.lt);have u:o.cells[0]?=some (.int .i64 o.kind):=rfl;go_enter func32,ntmps32;go_upto_region 1 with fail
 rw[<-an];clear an u;generalize W:w.heap.size=E at *
 have a0:E+1<r.heap.size:=af.o.lt;have S:=Aa (show ∀m c s,Dc r e v ps m c->aA (λN=>N=E+1) c s->Dc w e v ps m s from λm c s j Y=>VQ P.o ad.o j Y W a0);have ae:=Aa W;clear W;obtain⟨bc,bb⟩:=CE H.o 26 rfl;have O:=H.o.c0;have Z:=H.o.c2;have aa:=H.o.c3;have ax:=Aa (Lz G.o (aA.refl (λ_=>False) r));have ai:∀m c,Dc r e v ps m c->Hid (aD c (E+1) [.int .i64 0,.slice none 0 0,.string Ai] 39):=λm c l=>by
  obtain⟨_,_,_,_,Y,_⟩:=l;exact af.o.keeps Y (λj=>by have:=aw.o _ j;omega)
 have R:=Aa ai;clear ai;have a1:(o.kind=1/\BL ⟨clock,aC,ps.map (·.2)⟩ o=CK ⟨clock,aC,ps.map (·.2)⟩ o)\/(o.kind=2/\BL ⟨clock,aC,ps.map (·.2)⟩ o=Fa ⟨clock,aC,ps.map (·.2)⟩ o)\/((o.kind=3/\(0<=o.a/\o.a<=4611686018427387904)/\0<=o.b/\o.b<=100)/\BL ⟨clock,aC,ps.map (·.2)⟩ o=(⟨Au clock o.a,aC+1,(B6 (Au clock o.a) (aC+1) o.b (ps.map (·.2))).1⟩,0,[(B6 (Au clock o.a) (aC+1) o.b (ps.map (·.2))).2])) \/
   ((o.kind≠1/\o.kind≠2/\o.kind≠3)/\BL ⟨clock,aC,ps.map (·.2)⟩ o=(⟨clock,aC,ps.map (·.2)⟩,1,[]))\/((o.kind=3/\o.a<0)/\BL ⟨clock,aC,ps.map (·.2)⟩ o=(⟨clock,aC,ps.map (·.2)⟩,5,[]))\/((o.kind=3/\0<=o.a/\4611686018427387904<o.a)/\BL ⟨clock,aC,ps.map (·.2)⟩ o=(⟨clock,aC,ps.map (·.2)⟩,5,[]))\/((o.kind=3/\(0<=o.a/\o.a<=4611686018427387904)/\o.b<0)/\BL ⟨clock,aC,ps.map (·.2)⟩ o=(⟨clock,aC,ps.map (·.2)⟩,12,[]))\/((o.kind=3/\(0<=o.a/\o.a<=4611686018427387904)/\0<=o.b/\100<o.b)/\BL ⟨clock,aC,ps.map (·.2)⟩ o=(⟨clock,aC,ps.map (·.2)⟩,12,[])):=by
  unfold BL Ih;by_cases u:o.kind=1
  ·exact .inl ⟨u,h9 u⟩
  by_cases I:o.kind=2
  ·exact .inr (.inl ⟨I,by rw[hZ u,h9 I]⟩)
  rw[hZ u,hZ I];by_cases t:o.kind=3
  ·rw[h9 t];by_cases L:Ab o.a 0 4611686018427387904=true
   ·have J:=Bp L;rw[h9 L];by_cases B:Ab o.b 0 100=true
    ·exact .inr (.inr (.inl ⟨⟨t,J,Bp B⟩,h9 B⟩))
    rw[hZ B];have ba:¬(0<=o.b/\o.b<=100):=by simpa[Ab] using B
    by_cases T:o.b<0
    ·exact .inr (.inr (.inr (.inr (.inr (.inr (.inl ⟨⟨t,J,T⟩,rfl⟩))))))
    exact .inr (.inr (.inr (.inr (.inr (.inr (.inr ⟨⟨t,J,by omega,by omega⟩,rfl⟩))))))
   rw[hZ L];have J:¬(0<=o.a/\o.a<=4611686018427387904):=by simpa[Ab] using L
   by_cases T:o.a<0
   ·exact .inr (.inr (.inr (.inr (.inl ⟨⟨t,T⟩,rfl⟩))))
   exact .inr (.inr (.inr (.inr (.inr (.inl ⟨⟨t,by omega,by omega⟩,rfl⟩)))))
  rw[hZ t];exact .inr (.inr (.inr (.inl ⟨⟨u,I,t⟩,rfl⟩)))
 have ag:∀ {m:cT} {c ab:World},Dc r e v ps m c->lO c ab->Dc r e v ps m ab:=λ⟨a5,ps1,hE1,hx1,hkk1,hf1⟩ k=>⟨a5,ps1,hE1.still k,hx1,hkk1.trans k (λ_ j _=>j.elim),hf1⟩;have av:=@ag;clear ag;rcases a1 with ⟨k,a⟩ | ⟨k,a⟩ | ⟨⟨k,⟨A,M⟩,U,ah⟩,a⟩ | ⟨⟨a2,a3,a4⟩,a⟩ | ⟨⟨k,A⟩,a⟩ | ⟨⟨k,A,M⟩,a⟩ | ⟨⟨k,⟨A,M⟩,U⟩,a⟩ | ⟨⟨k,⟨A,M⟩,U,ah⟩,a⟩;all_goals
  have h:=Aa a;clear a;have q:=ax
  first | rw[k]at O | (have a7:(o.kind==1)=false:=by simpa using a2
                       have a8:(o.kind==2)=false:=by simpa using a3
                       have a9:(o.kind==3)=false:=by simpa using a4)
  go_wp2_with fail
 all_goals first
  | (refine(TD e v clock aC ps o r G.o (by have:=Q.o.bX;simpa using this)).mono ?_
     rintro F c ⟨rfl,al,l⟩;have q:=Aa l;obtain⟨z,x⟩:∃z,z=(CK ⟨clock,aC,ps.map (·.2)⟩ o).2.1:=⟨_,rfl⟩;rw[<-x];have h:=Aa (show BL ⟨clock,aC,ps.map (·.2)⟩ o=((CK ⟨clock,aC,ps.map (·.2)⟩ o).1,z,[]) by rw[h.o,x,<-al]);clear al l x O Z aa
     go_wp2_with fail)
  | (refine(Y5 n e v clock aC ps o r G.o Q.o ak).mono ?_
     rintro F c ⟨m,bd,z,a,rfl,l⟩;have q:=Aa l;have h:=Aa (h.o.trans a);clear l a O Z aa;by_cases x:z=0
     ·subst x;have d:=R.o _ _ q.o;obtain⟨ap,aq,ar,au⟩:=d.o.three;have am:=d.o.lt;have az:E+1≠c.heap.size:=by omega
      go_wp2;refine Qy d.o (λs D i=>by simp[results,results32,go_sem,i.c0,i.c1,i.c2,Av]) rfl (λs D C X=>?_);rw[h.o];exact⟨D,rfl,FG X (by have:=ae.o;omega),S.o _ _ _ q.o C⟩
     have B:(z !=0)=true:=by simpa using x
     have h:=Aa (h.o.trans (by rw[hZ x]))
     go_wp2_with fail)
  | (refine(Xp n e v clock aC o.a o.b ps r G.o Q.o ak A M U ah).mono ?_
     rintro F c ⟨rfl,l⟩;have q:=Aa l;obtain⟨ao,aj⟩:∃ao,ao=(B6 (Au clock o.a) (aC+1) o.b (ps.map (·.2))).2:=⟨_,rfl⟩;have a:=h.o;rw[<-aj]at a ⊢;have h:=Aa a;clear l a aj O Z aa;have d:=R.o _ _ q.o;obtain⟨ap,aq,ar,au⟩:=d.o.three;have am:=d.o.lt;have az:E+1≠c.heap.size:=by omega
     go_wp2;refine Qy d.o (λs D i=>by simp[results,results32,go_sem,i.c0,i.c1,i.c2,Av]) rfl (λs D C X=>?_);rw[h.o]
     exact⟨D,rfl,FG X (by have:=ae.o;omega),S.o _ _ _ q.o C⟩)
  | skip
 all_goals
  refine(Ju _ _).mono ?_;rintro F ab ⟨rfl,V⟩;unfold Av;have d:=Aa ((uh (R.o _ _ q.o)).keeps V id);have ay:=Aa (av q.o V);clear V;obtain⟨ap,aq,ar,au⟩:=d.o.three;have am:=d.o.lt;go_wp2;refine CZ d.o (λs i=>by simp[results,results32,go_sem,i.c0,i.c1,i.c2,Av]) rfl (λs C=>?_);rw[h.o];exact⟨_,rfl,ir _ _ _ _,S.o _ _ _ ay.o C⟩
end
section
theorem dX.mono{n m:Int}{y:aG}(a:dX n y)(i:n<=m): dX m y:=by
 have e:=a.items;have h:=a.events;exact⟨a.valid,by omega,by omega,a.refl,λd c=>by have:=a.cL d c;omega,a.times⟩
theorem Zb{n:Int}(id:Int)(c:Cfg)(d:Ak c=true)(a:0<=n): dX n (CH id c):=by
 refine⟨d,by simpa[CH] using a,by simpa[CH,AX] using a,rfl,?_,by simp[CH]⟩;intro h e;have:h=0:=by simpa[CH] using e
 omega
theorem N0{n:Int}(mark aC:Int)(h:aC≠0)(f:Nat): ∀y:aG,dX n y->dX n (BS f y mark aC):=by
 induction f with
 | zero=>intro y a;exact a
 | succ f i =>
  intro y a;unfold BS;rcases Hv y.items mark with ⟨k,_⟩ | ⟨l,d,e,_⟩
  ·rw[h9 (by omega)];exact a
  rw[hZ (by omega)];have t:=If aC h y.items _ d e;have r:=E6 y.items;have s:=E6 (AZ y.items (Cx y.items mark).toNat aC);have q:(AZ y.items (Cx y.items mark).toNat aC).length=y.items.length:=by simp[AZ]
  have m:=a.events;have o:=a.items;refine i _ ⟨a.valid,?_,?_,a.refl,a.cL,?_⟩
  ·show((AZ _ _ _).length:Int)<=n;omega
  ·show((y.events++[_]).length:Int)<=(AX (AZ _ _ _)).length+n;rw[hY];simp;omega
  intro j c;rcases js c with c | c
  ·exact a.times j c
  subst c;have:=a.times (Aj y.items (Cx y.items mark).toNat) (by rw[Cq _ _ d];exact jc _);exact this
theorem Xn{n:Int}{y:aG}(clock b:Int)(c:dX n y): dX (n+1) (F5 clock b y):=by
 have a:=c.mono (m:=n+1) (by omega);have d:=c.events;refine⟨a.valid,a.items,?_,a.refl,a.cL,a.times⟩;show((y.events++[_]).length:Int)<=(AX y.items).length+(n+1);rw[hY];simp;omega
theorem R9(d e:Int)(a:List aG): ∀b,(B6 d e b a).1.length=a.length:=by
 induction a with
 | nil=>intro b;rfl
 | cons y h c =>
  intro b;simp only[B6];split <;> simp[c]
theorem N2{d j:Int}{k:List aG}: ∀ {b:Int},0<=b->∀ {c:aG},c∈(B6 d j b k).1->∃y,y∈k/\((y.c.kind≠1/\c=Bd d j y)\/(y.c.kind=1/\∃m,0<=m/\c=F5 d m (Bd d j y))):=by
 induction k with
 | nil=>intro b _ c a;simp[B6]at a
 | cons y q o =>
  intro b n c a;simp only[B6]at a;split at a
  ·rename_i h;rcases iw.1 a with a | a
   ·exact⟨y,by simp,.inr ⟨h,b,n,a⟩⟩
   obtain⟨l,i,e⟩:=o (by omega) a;exact⟨l,by simp[i],e⟩
  rename_i h;rcases iw.1 a with a | a
  ·exact⟨y,by simp,.inl ⟨h,a⟩⟩
  obtain⟨l,i,e⟩:=o n a;exact⟨l,by simp[i],e⟩
theorem V7{y:aG}{clock:Int}{o:aO}(a:Ck y clock o=0): clock-y.c.aK<o.a:=by
 unfold Ck at a;split at a
 ·split at a
  ·omega
  omega
 omega
theorem Wi{y:aG}{clock:Int}{o:aO}(a:Ck y clock o=0): 0<=o.a/\o.a<=4611686018427387904:=by
 unfold Ck at a;split at a
 ·rename_i c;exact Bp c
 omega
theorem Kr{c:List aG}{id:Int}{y d:aG}(a:d∈Di c id y): d∈c\/d=y:=by
 induction c with
 | nil=>simp[Di]at a
 | cons h i e =>
  unfold Di at a;split at a
  ·rcases iw.1 a with a | a
   ·exact .inr a
   exact .inl (by simp[a])
  rcases iw.1 a with a | a
  ·exact .inl (by simp[a])
  rcases e a with a | a
  ·exact .inl (by simp[a])
  exact .inr a
theorem NM(a:List aG)(id:Int)(y:aG): (Di a id y).length=a.length:=by
 induction a with
 | nil=>rfl
 | cons d e c =>
  unfold Di;split
  ·rfl
  simp[c]
theorem X8{n:Int}{s:cT}(o:aO)(c:bZ n s.clock s.aC s.xs)(S:0<=n): bZ (n+1) (BL s o).1.clock (BL s o).1.aC (BL s o).1.xs:=by
 have V:=c.tn;have h:bZ (n+1) s.clock s.aC s.xs:=⟨c.c0,c.c1,c.t0,by omega,c.bX,λt d=>(c.bD t d).mono (by omega),c.bL⟩;unfold BL;split
 ·unfold CK;split
  ·split
   ·split
    ·exact h
    rename_i A O;have P:=c.bX;refine⟨c.c0,c.c1,c.t0,by show s.aC<=n+1;omega,by show(s.xs++[_]).length<=6;rw[hY];simp;omega,λt d=>?_,λt d j=>?_⟩
    ·rcases ig.1 d with d | d
     ·exact h.bD t d
     rw[ij]at d;subst d;exact Zb _ _ A (by omega)
    rcases ig.1 d with d | d
    ·exact c.bL t d j
    rw[ij]at d;subst d;exact YD _ _ _
   exact h
  exact h
 split
 ·unfold Fa;split
  ·exact h
  rename_i y F;have l:y∈s.xs:=iW F;have r:=c.bD y l;have X:=r.items;split
  ·rename_i x;obtain⟨I,J⟩:=Wi x;refine⟨c.c0,c.c1,c.t0,by show s.aC<=n+1;omega,by show(Di _ _ _).length<=6;rw[NM];exact c.bX,λi a=>?_,λi a j=>?_⟩
   ·rcases Kr a with a | a
    ·exact h.bD i a
    subst a;have e:=r.mono (m:=n+1) (by omega);refine⟨e.valid,?_,?_,e.refl,e.cL,?_⟩
    ·show((y.items++[_]).length:Int)<=n+1;rw[hY];simp;omega
    ·have:AX (EY y o).items=AX y.items:=by
      show AX (y.items++[_])=_;unfold AX;rw[jj,iy];simp
     rw[this];exact e.events
    intro i a;rcases ig.1 a with a | a
    ·exact e.times i a
    rw[ij]at a;subst a;exact⟨I,J⟩
   rcases Kr a with a | a
   ·exact c.bL i a j
   subst a;exact UZ (c.bL y l j) o (V7 x)
  refine⟨c.c0,c.c1,c.t0,by show s.aC<=n+1;omega,by show(Di _ _ _).length<=6;rw[NM];exact c.bX,λi a=>?_,λi a j=>?_⟩
  ·rcases Kr a with a | a
   ·exact h.bD i a
   subst a;have e:=r.mono (m:=n+1) (by omega);refine⟨e.valid,e.items,e.events,by show(y.ref.set _ _).length=15;rw[jx];exact e.refl,?_,e.times⟩;intro L q;rcases js q with q | q
   ·exact e.cL L q
   subst q;have:0<=Ac y.ref (Ck y s.clock o).toNat/\Ac y.ref (Ck y s.clock o).toNat<=n:=by
    have T:=Of y s.clock o;refine r.cL _ ?_;unfold Ac;rw[List.getD_eq_getElem?_getD,hX (by rw[r.refl];omega)];exact jc _
   omega
  rcases Kr a with a | a
  ·exact c.bL i a j
  subst a;have u:=c.bL y l j;exact⟨u.ok,u.ts,u.le,u.wt⟩
 split
 ·unfold Ih;split
  ·rename_i B;obtain⟨M,N⟩:=Bp B;have Q:=c.c0;have R:=c.c1;have U:=c.t0;split
   ·rename_i C;have w:=(Bp C).1;have E:s.clock<=Au s.clock o.a:=by unfold Au;split <;> omega
    have G:0<=Au s.clock o.a:=by omega
    have H:Au s.clock o.a<=4611686018427387904:=by unfold Au;split <;> omega
    refine⟨G,H,by show 0<=s.aC+1;omega,by show s.aC+1<=n+1;omega,by show(B6 _ _ _ _).1.length<=6;rw[R9];exact c.bX,λi a=>?_,λi a j=>?_⟩
    ·obtain⟨y,l,⟨_,rfl⟩ | ⟨_,z,_,rfl⟩⟩:=N2 w a
     ·exact N0 _ _ (by omega) _ _ (h.bD y l)
     exact Xn _ _ (N0 _ _ (by omega) _ _ (c.bD y l))
    obtain⟨y,l,⟨v,rfl⟩ | ⟨v,z,D,rfl⟩⟩:=N2 w a
    ·rw[Om _ _ _ (by omega)]at j;exact absurd j v
    obtain⟨Y,Z,_,_,_,_⟩:=(c.bD y l).common;have W:=Ef (k:=1) (c.bD y l).valid v rfl;show eA (Au s.clock o.a) _;exact XQ (Pm (by omega) (c.bL y l v) E (by omega) (by omega)) D
   exact h
  exact h
 exact h
theorem JS(f:Nat): ∀(y:aG) (mark aC:Int),(BS f y mark aC).c=y.c:=by
 induction f with
 | zero=>intro y c d;rfl
 | succ f a =>
  intro y c d;unfold BS;split
  ·rfl
  exact a _ _ _
end
section
attribute [local go_sem ↓] AN B2
attribute [local go_sem] AO B4 A5 A6 AI AJ BC BD Bf B3
def BA: cT->List aO->cT
 | s,[]=>s
 | s,o::r=>BA (BL s o).1 r
theorem Xf(s:cT)(l:List aO)(o:aO): BA s (l++[o])=(BL (BA s l) o).1:=by
 induction l generalizing s with
 | nil=>rfl
 | cons c l a=>exact a _
theorem PX{n:Int}{s:cT}(l:List aO)(a:bZ n s.clock s.aC s.xs)(d:0<=n): bZ (n+l.length) (BA s l).clock (BA s l).aC (BA s l).xs:=by
 induction l generalizing s n with
 | nil=>simpa[BA] using a
 | cons c l e =>
  have:=e (X8 c a d) (by omega);rw[iA,show n+((l.length+1:Nat):Int)=n+1+(l.length:Int) by omega];exact this
theorem Ro: bZ 0 Bn.clock Bn.aC Bn.xs:=⟨by simp[Bn],by simp[Bn],by simp[Bn],by simp[Bn],by simp[Bn],λc a=>by simp[Bn]at a,λc a=>by simp[Bn]at a⟩
theorem Hs{w:World}{v:Value}{k:List aO}(m:bI w v k): ∃e i,v=.slice e k.length i/\∀a c,k[a]?=some c->∃d h,e=some ⟨d,h,none⟩/\d<w.heap.size/\w.rangeAt d (h+a*26) c.cells:=by
 rcases m with ⟨⟨e,l,rfl⟩,rfl⟩ | ⟨d,h,i,rfl,_,n,o⟩
 ·exact⟨e,l,rfl,λa c j=>by simp at j⟩
 exact⟨_,i,rfl,λa c j=>⟨d,h,rfl,o,n a c j⟩⟩
theorem Jl{w wr:World}{a c:Nat}{o:aO}(d:w.rangeAt a c o.cells)(j:a<w.heap.size)(i:lO w wr): Ao wr a c 26=.agg o.cells.toArray/\Ay wr a c 26=true:=by
 have h:=Dv d;have e:=Cb (o:=c) (n:=26) i id j;refine⟨?_,by rw[e.2];exact h.2⟩;rw[e.1];unfold Ao;have:=h.1;rw[show o.cells.length=26 from rfl]at this;rw[this]
theorem VV(v:Value)(c:List aO)(w:World)(M:bI w v c)(hlen:c.length<=651562446090):
  Calls prog 29 #[v] w λQ R=>∃h j e,Q=.returned (.pointer (some ⟨h,0,none⟩))/\aZ R h j (BA Bn c).clock (BA Bn c).aC e/\e.map (·.2)=(BA Bn c).xs/\lO w R/\(∀d,bG h j e d->w.heap.size<=d):=by
 obtain⟨al,am,rfl,N⟩:=Hs M;have Z:=Aa N;clear M N;generalize J:c.length=o at *
 have s:=Aa J;clear J;go_enter func29,ntmps29;go_wp2_with fail
 have D:aD (w.alloc (.cells #[.int .i64 0,.int .i64 0,.slice none 0 0] 105)) w.heap.size [.int .i64 0,.int .i64 0,.slice none 0 0] 105:=aD.new w [.int .i64 0,.int .i64 0,.slice none 0 0] 105;have S:=Aa (show aZ (w.alloc (.cells #[.int .i64 0,.int .i64 0,.slice none 0 0] 105)) w.heap.size (.slice none 0 0) 0 0 [] from⟨D,ir _ _ _ _,λp n=>by simp at n,List.Pairwise.nil,by simp[Value.ownBlock],λp n=>by simp at n⟩);have W:=Aa ((aA.refl (λ_=>False) w).alloc (.cells #[.int .i64 0,.int .i64 0,.slice none 0 0] 105));clear D;generalize w.alloc (.cells #[.int .i64 0,.int .i64 0,.slice none 0 0] 105)=av at *
 generalize E:w.heap.size=h at *
 have l:=Aa E;clear E;go_loopw [4] (λd wr=>∃(a:Nat) (j:Value) (e:List (RB×aG)),a<=o/\d=.int .i64 a/\Hid (aZ wr h j (BA Bn (c.take a)).clock (BA Bn (c.take a)).aC e)/\Hid (e.map (·.2)=(BA Bn (c.take a)).xs)/\Hid (lO w wr)/\Hid (∀d,bG h j e d->h<=d)) (λd _=>o-(intOf d).toNat)
 case atStart =>
  refine⟨0,.slice none 0 0,[],by omega,rfl,S,rfl,W,λd i=>?_⟩;rcases i with i | i | ⟨p,n,_⟩
  ·omega
  ·simp[Value.ownBlock]at i
  simp at n
 case round =>
  obtain⟨a,j,e,an,rfl,x,t,q,r⟩:=hrel;by_cases af:a<o
  ·obtain⟨k,u⟩:∃k,c[a]?=some k:=⟨c[a]'(by rw[s.o];exact af),hX _⟩;have Y:=Aa u;obtain⟨ar,au,ab,I,L⟩:=Z.o a k u;rw[<-l.o]at I;obtain⟨ai,ad⟩:=Jl L (by have:=l.o;omega) q.o;subst ab;have ao:(0:Int)<=(a:Int):=by omega
   have ap:(a:Int)<(o:Int):=by omega
   have H:(c.take a).length=a:=by rw[iD,s.o];omega
   have hinv:bZ (a:Int) (BA Bn (c.take a)).clock (BA Bn (c.take a)).aC (e.map (·.2)):=by
    have:=PX (c.take a) Ro (by omega);rw[H]at this;rw[t.o];simpa using this
   have V:=Aa hinv;clear u L H hinv;go_wp2_with fail
   refine(Pe a h j _ _ e k wr x.o V.o (by omega)).mono ?_;rintro Q aw ⟨aq,rfl,_,ak,aj,m,P,G,F⟩;have T:=Aa m;have aa:=Aa P;have X:=Aa G;have U:=Aa F;clear m P G F ai ad;unfold Av;go_wp2;go_roundw;case rel =>
    have O:BA Bn (c.take (a+1))=(BL (BA Bn (c.take a)) k).1:=by
     rw[jg,Y.o];exact Xf Bn (c.take a) k
    have ag:(⟨(BA Bn (c.take a)).clock,(BA Bn (c.take a)).aC,e.map (·.2)⟩:cT)=BA Bn (c.take a):=by
     rw[t.o]
    have m:=T.o;have C:=aa.o;rw[ag]at m C;refine⟨a+1,ak,aj,by omega,by go_num,by rw[O];exact m,by rw[O];exact C,?_,λd i=>?_⟩
    ·exact q.o.trans X.o (λd i I=>by have:=r.o d i;have:=l.o;omega)
    rcases U.o d i with z | z
    ·exact r.o d z
    have:=q.o.size;have:=l.o;omega
   case measure=>simp[intOf];omega
  have ae:a=o:=by omega
  subst ae;go_wp2;go_ret;have ah:c.take a=c:=iq (by rw[s.o];exact il _);have A:=x.o;have B:=t.o;rw[ah]at A B;exact⟨h,j,e,rfl,A,B,q.o,by rw[l.o];exact r.o⟩
end
section
structure dF (x:aI) (y:aG):Prop where
 id:x.id=y.id
 c:x.c=y.c
 kind:x.c.kind=x.k
 acc:x.acc=y.items.length
 rel:x.rel=(AX y.items).length
 wait:(x.l.map (·.t)).Perm (Ap y.items)
 heap:bE x.l
 tick:∀z,z∈y.items->0<=z.tick
 refs:∀j,j<12->Ac x.ref j=Ac y.ref j
 xr:x.ref.length=12
 yr:y.ref.length=15
 sum:x.k=4->x.nt.q*2305843009213693952+x.nt.r=Dq (λt=>Ar (Am x.c t)) (AX y.items)
 r0:0<=x.nt.r
 r1:x.nt.r<2305843009213693952
 gC:x.k=1->x.nt.bs=A3 y.c y.events
def cU: List aI->List aG->Prop
 | [],[]=>True
 | x::xs,y::ys=>dF x y/\cU xs ys
 | _,_=>False
theorem cU.length{c:List aI}{a:List aG}(d:cU c a): c.length=a.length:=by
 induction c generalizing a with
 | nil=>cases a with | nil=>rfl | cons y a=>exact d.elim
 | cons h c e=>cases a with | nil=>exact d.elim | cons y a=>simp[e d.2]
theorem cU.append{d:List aI}{a:List aG}(c:cU d a){x:aI}{y:aG}(e:dF x y): cU (d++[x]) (a++[y]):=by
 induction d generalizing a with
 | nil=>cases a with | nil=>exact⟨e,trivial⟩ | cons y a=>exact c.elim
 | cons x d h=>cases a with | nil=>exact c.elim | cons y a=>exact⟨c.1,h c.2⟩
theorem cU.find{e:List aI}{a:List aG}(c:cU e a)(id:Int): (BX e id=none/\EC a id=none)\/∃d y,BX e id=some d/\EC a id=some y/\dF d y:=by
 unfold BX EC;induction e generalizing a with
 | nil=>cases a with | nil=>exact .inl ⟨rfl,rfl⟩ | cons y a=>exact c.elim
 | cons d e h =>
  cases a with
  | nil=>exact c.elim
  | cons y a =>
   rw[kI,kI,<-c.1.id];cases (d.id==id) with
   | true=>exact .inr ⟨d,y,rfl,rfl,c.1⟩
   | false=>exact h c.2
theorem cU.hN{d:List aI}{a:List aG}(c:cU d a)(id:Int){x':aI}{e:aG}(h:dF x' e): cU (BB d id x') (Di a id e):=by
 induction d generalizing a with
 | nil=>cases a with | nil=>trivial | cons y a=>exact c.elim
 | cons j d i =>
  cases a with
  | nil=>exact c.elim
  | cons y a =>
   unfold BB Di;rw[<-c.1.id];cases (j.id==id) with
   | true=>exact⟨h,c.2⟩
   | false=>exact⟨c.1,i c.2⟩
theorem Xy(m:Int)(f:Nat): ∀a:aI,a.l.length<f->bE a.l->0<=a.nt.r->a.nt.r<2305843009213693952 ->
  ∃d:List Int,(a.l.map (·.t)).Perm (d++(relS f a m).l.map (·.t))/\(∀c,c∈d->c<=m)/\(∀c,c∈(relS f a m).l.map (·.t)->m<c)/\bE (relS f a m).l /\
   (relS f a m).rel=a.rel+d.length/\(a.k=4->(relS f a m).nt.q*2305843009213693952+(relS f a m).nt.r=a.nt.q*2305843009213693952+a.nt.r+Dq (λc=>Ar (Am a.c c)) d) /\
   0<=(relS f a m).nt.r/\(relS f a m).nt.r<2305843009213693952/\(relS f a m).acc=a.acc/\(relS f a m).ref=a.ref:=by
 induction f with
 | zero=>intro a n;omega
 | succ f H =>
  intro a L h k l;unfold relS;split
  ·rename_i i;have F:a.l=[]:=kN.1 i;exact⟨[],jb _,by simp,by simp[F],h,by simp,λ_=>by simp[Dq],k,l,rfl,rfl⟩
  rename_i i;have o:a.l≠[]:=λn=>i (by rw[n];rfl);split
  ·rename_i E;refine⟨[],jb _,by simp,?_,h,by simp,λ_=>by simp[Dq],k,l,rfl,rfl⟩;intro c e;obtain⟨y,G,rfl⟩:=iE.1 e;have:=h.cD G;omega
  rename_i E;obtain⟨I,J⟩:=take_heap a.l h o;have hlen:(BP a m).l.length=a.l.length-1:=takeL_length _;have M:0<a.l.length:=jG.2 o;have q:0<=(BP a m).nt.r/\(BP a m).nt.r<2305843009213693952:=by
   show 0<=(B9 a.k a.c a.nt (itAt a.l 0) m).r/\(B9 a.k a.c a.nt (itAt a.l 0) m).r<2305843009213693952;unfold B9;split
   ·show 0<=_%_/\_%_<_;omega
   repeat (first | exact⟨k,l⟩ | split)
  obtain⟨d,t,v,w,x,z,A,B,C,D,u⟩:=H (BP a m) (by omega) I q.1 q.2;refine⟨(itAt a.l 0).t::d,?_,?_,w,x,?_,?_,B,C,D,u⟩
  ·have:=(J.map (·.t)).symm;refine this.trans ?_;rw[iC,List.cons_append];exact List.Perm.cons _ t
  ·intro c e;rcases iw.1 e with e | e
   ·omega
   exact v c e
  ·rw[z];show a.rel+1+(d.length:Int)=_;simp only[iA];omega
  intro j;have:=A j;have r:(BP a m).nt.q=a.nt.q+(a.nt.r+Ar (Am a.c (itAt a.l 0).t))/2305843009213693952:=by
   show(B9 a.k a.c a.nt (itAt a.l 0) m).q=_;unfold B9;rw[h9 j]
  have s:(BP a m).nt.r=(a.nt.r+Ar (Am a.c (itAt a.l 0).t))%2305843009213693952:=by
   show(B9 a.k a.c a.nt (itAt a.l 0) m).r=_;unfold B9;rw[h9 j]
  rw[this,r,s];show _+Dq (λc=>Ar (Am a.c c)) d=_;simp only[Dq];omega
theorem Vv(m:Int){T W R d:List Int}(o:T.Perm W)(q:T.Perm (R++d))(i:∀a,a∈R->a<=m)(h:∀a,a∈d->m<a):
  (W.filter (λa=>decide (a<=m))).Perm R/\(W.filter (λa=>decide (m<a))).Perm d:=by
 have e:=o.symm.trans q;have j:R.filter (λa=>decide (a<=m))=R:=j5.2 (λa c=>by simpa using i a c);have k:d.filter (λa=>decide (a<=m))=[]:=jL.2 (λa c=>by have:=h a c;simp;omega);have l:R.filter (λa=>decide (m<a))=[]:=jL.2 (λa c=>by have:=i a c;simp;omega);have n:d.filter (λa=>decide (m<a))=d:=j5.2 (λa c=>by simpa using h a c);constructor
 ·have:=e.filter (λa=>decide (a<=m));rw[jj,j,k,iz]at this;exact this
 have:=e.filter (λa=>decide (m<a));rw[jj,l,n,jt]at this;exact this
theorem Yv(clock aC:Int)(I:0<aC)(x:aI)(y:aG)(a:dF x y): dF (AP clock x) (Bd clock aC y):=by
 unfold AP Bd;rw[<-a.c];obtain⟨d,B,C,l⟩:=Ll (clock-x.c.aK) aC (by omega) (y.items.length+1) y (by have:=E6 y.items;omega);obtain⟨H,n,o,q,r,s,t,u,v,w,i⟩:=Xy (clock-x.c.aK) (x.l.length+1) x (by omega) a.heap a.r0 a.r1;obtain⟨e,h,E⟩:=Fp (x.l.length+1) x (clock-x.c.aK);obtain⟨m,F⟩:=Vv (clock-x.c.aK) a.wait n o q;have j:=WF (clock-x.c.aK) aC (by omega) y.items;refine⟨by rw[E,B];exact a.id,by rw[h,C];exact a.c,by rw[h,e];exact a.kind,?_,?_,?_,r,?_,?_,by rw[i];exact a.xr,by rw[l];exact a.yr,?_,u,v,?_⟩
 ·rw[w,d,im];exact a.acc
 ·rw[s,d,j.length_eq,hY,m.length_eq,a.rel];simp
 ·rw[d,Vf _ _ (by omega)];exact F.symm
 ·intro J k;rw[d]at k;obtain⟨G,A,rfl⟩:=iE.1 k;unfold BE;split
  ·show 0<=aC;omega
  exact a.tick G A
 ·intro D z;rw[i,l];exact a.refs D z
 ·intro c;rw[e]at c;rw[t c,h,d,Pg _ j,TR,Pg _ m,a.sum c]
 intro c;rw[e]at c;have:=Tc clock aC (by omega) x y c a.c a.heap a.wait (a.gC c);unfold AP Bd at this;rw[<-a.c]at this;exact this
theorem YJ(b:Int)(d:1<=b)(n:Nat): ∀(p v:Int),1<=p->Bj b n p=some v->1<=v:=by
 induction n with
 | zero=>intro p v c a;simp[Bj]at a;omega
 | succ n e =>
  intro p v c a;unfold Bj at a;split at a
  ·cases a
  refine e _ v ?_ a;have:=kM c d (by omega) (by omega);omega
theorem VF(c:Cfg)(t v:Int)(a:Am c t=some v): 1<=v:=by
 unfold Am at a;split at a
 ·cases a
 split at a
 ·exact YJ _ (by omega) _ 1 v (by omega) a
 split at a
 ·cases a
 rename_i d e h;have:=Gp ((t-c.mark)/c.half).toNat (by omega);injection a with a;omega
theorem U4(c:Cfg)(t:Int): (Ar (Am c t)=0)↔Am c t=none:=by
 cases h:Am c t with
 | none=>simp[Ar]
 | some a =>
  have d:1<=a:=VF c t a h;simp[Ar];omega
theorem Xd(c:Cfg)(k:Nat)(o:aO)(a:Int)(j:c.kind=k)(m:1<=k)(n:k<=5)(h:Ab o.a 0 4611686018427387904=true):
  (if AL c k o.item≠0 then AL c k o.item else a)=(if FL c o.a=0 then 8 else if (GO c&&!Ab o.b 0 2147483648)=true then 10 else if (c.kind==5&&!Ab o.c 1 2147483648)=true then 9 else a):=by
 have d:=U4 c o.a;have i:k=1\/k=2\/k=3\/k=4\/k=5:=by omega
 unfold FL GO;rw[h,j];rcases i with e | e | e | e | e <;> subst e
 ·show(if (0:Int)≠0 then 0 else a)=_;simp
 ·show(if Dp o.item≠0 then Dp o.item else a)=_;unfold Dp aO.item;cases Ab o.b 0 2147483648 <;> simp
 ·show(if Dp o.item≠0 then Dp o.item else a)=_;unfold Dp aO.item;cases Ab o.b 0 2147483648 <;> simp
 ·show(if Ev c o.item≠0 then Ev c o.item else a)=_;unfold Ev aO.item;simp only;cases hq:Am c o.a with
  | none=>simp[Ar]
  | some l=>rw[hq]at d;simp[Ar]at d ⊢;simp[d]
 show(if E8 c o.item≠0 then E8 c o.item else a)=_;unfold E8 aO.item;simp only;cases hq:Am c o.a with
 | none=>simp[Ar]
 | some l =>
  rw[hq]at d;simp[Ar]at d ⊢;cases Ab o.b 0 2147483648 <;> cases Ab o.c 1 2147483648 <;> simp[d]
theorem X6(x:aI)(y:aG)(clock:Int)(o:aO)(d:dF x y)(h:1<=x.k)(i:x.k<=5)(k:x.acc<4611686018427387904): bO x clock o.item=Ck y clock o:=by
 have j:x.l.length=(Ap y.items).length:=by have:=d.wait.length_eq;simpa using this
 unfold bO Ck;rw[<-d.c,<-j];rw[hZ (show ¬4611686018427387904<=x.acc by omega)];show(if Ab o.a 0 4611686018427387904=true then if o.a<=clock-x.c.aK then 6 else if clock+x.c.bF<o.a then 7 else if AL x.c x.k o.item≠0 then AL x.c x.k o.item else if x.c.cap<=x.l.length then 11 else 0 else 5)=_;by_cases a:Ab o.a 0 4611686018427387904=true
 ·rw[h9 a,h9 a];by_cases c:o.a<=clock-x.c.aK
  ·rw[h9 c,h9 c]
  rw[hZ c,hZ c];by_cases e:clock+x.c.bF<o.a
  ·rw[h9 e,h9 (show clock<o.a-x.c.bF by omega)]
  rw[hZ e,hZ (show ¬clock<o.a-x.c.bF by omega)];exact Xd x.c x.k o _ d.kind h i a
 rw[hZ a,hZ a]
structure fW (s:WS) (r:cT):Prop where
 clock:s.clock=r.clock
 aC:0<=r.aC
 xs:cU s.xs r.xs
 kinds:∀x,x∈s.xs->1<=x.k/\x.k<=5
 bX:s.xs.length<=6
def I4(o:aO): Prop:=o.kind≠4/\o.kind≠6/\o.kind≠7
theorem zLm(id:Int)(c:Cfg)(i:0<=c.kind): dF (AQ id c c.kind.toNat) (CH id c):=by
 refine⟨rfl,rfl,?_,rfl,rfl,jb _,?_,?_,?_,rfl,rfl,?_,iG _,by show(0:Int)<_;omega,λ_=>rfl⟩
 ·show c.kind=(c.kind.toNat:Int);omega
 ·intro k _ e;exact absurd e (by simp[AQ])
 ·intro l h;simp[CH]at h
 ·intro a j;have d:a=0\/a=1\/a=2\/a=3\/a=4\/a=5\/a=6\/a=7\/a=8\/a=9\/a=10\/a=11:=by omega
  rcases d with rfl | rfl | rfl | rfl | rfl | rfl | rfl | rfl | rfl | rfl | rfl | rfl <;> rfl
 intro _;rfl
theorem ZM(x:aI)(y:aG)(o:aO)(a:dF x y): dF (cC x o.item) (EY y o):=by
 obtain⟨h,i⟩:=put_heap x.l (Ah o.item (x.acc+1)) a.heap;have e:Ap (EY y o).items=Ap y.items++[o.a]:=by
  show Ap (y.items++[_])=_;unfold Ap;rw[jj,iy];rfl
 have d:AX (EY y o).items=AX y.items:=by
  show AX (y.items++[_])=_;unfold AX;rw[jj,iy];simp
 refine⟨a.id,a.c,a.kind,?_,by rw[d];exact a.rel,?_,h,?_,a.refs,a.xr,a.yr,by rw[d];exact a.sum,a.r0,a.r1,a.gC⟩
 ·show x.acc+1=((y.items++[_]).length:Int);rw[hY,a.acc];simp
 ·rw[e];refine(i.map (·.t)).trans ?_;rw[iC];exact(List.Perm.cons _ a.wait).trans (j3 _ _).symm
 intro j c;rcases ig.1 c with c | c
 ·exact a.tick j c
 rw[ij]at c;subst c;exact iG _
theorem ZZ(x:aI)(y:aG)(c:Nat)(a:dF x y)(k:c<12)(o:Ac x.ref c<4611686018427387904): dF (cF x c) (He y c):=by
 refine⟨a.id,a.c,a.kind,a.acc,a.rel,a.wait,a.heap,a.tick,?_,by simp[cF,a.xr],by simp[He,a.yr],a.sum,a.r0,a.r1,a.gC⟩;intro d l;have q:=a.xr;have r:=a.yr;have n:F7 (Ac x.ref c+1) 4611686018427387904=Ac x.ref c+1:=by unfold F7;split <;> omega
 show Ac (x.ref.set c (F7 (Ac x.ref c+1) 4611686018427387904)) d=Ac (y.ref.set c (Ac y.ref c+1)) d;rw[n];have j:∀(e:List Int) (i:Int),c<e.length->Ac (e.set c i) d=if c=d then i else Ac e d:=by
  intro e i m;unfold Ac;rw[List.getD_eq_getElem?_getD,jE,List.getD_eq_getElem?_getD];by_cases h:c=d
  ·subst h;simp[m]
  rw[hZ h,hZ h]
 rw[j _ _ (by omega),j _ _ (by omega),a.refs d l,a.refs c k]
theorem Yk(c:Cfg)(l:List bA): ∀(hi lo:Int),(∀a,a∈l->0<=a.tick)->0<=lo->lo<2305843009213693952 ->
  (CU c l hi lo).1*2305843009213693952+(CU c l hi lo).2=hi*2305843009213693952+lo+Dq (λr=>Ar (Am c r)) (AX l)/\0<=(CU c l hi lo).2/\(CU c l hi lo).2<2305843009213693952:=by
 induction l with
 | nil=>intro hi lo _ e h;exact⟨by simp[CU,AX,Dq],e,h⟩
 | cons a l o =>
  intro hi lo j e h;have s:=j a (by simp);unfold CU;split
  ·rename_i q;obtain⟨k,m,n⟩:=o (hi+Ar (Am c a.t)/2305843009213693952+(lo+Ar (Am c a.t)%2305843009213693952)/2305843009213693952) ((lo+Ar (Am c a.t)%2305843009213693952)%2305843009213693952) (λy i=>j y (by simp[i])) (by omega) (by omega);refine⟨?_,m,n⟩;have d:AX (a::l)=a.t::AX l:=by
    unfold AX;rw[iR];have:(a.tick==0)=false:=by simp;omega
    simp[this]
   rw[k,d];simp only[Dq];omega
  rename_i q;obtain⟨k,m,n⟩:=o hi lo (λy i=>j y (by simp[i])) e h;refine⟨?_,m,n⟩;have d:AX (a::l)=AX l:=by
   unfold AX;rw[iR];have:a.tick=0:=by omega
   simp[this]
  rw[k,d]
theorem Y8(a b:Int)(x:aI)(y:aG)(c:dF x y)(e:x.k=1): dF (Do a b x) (F5 a b y)/\Ep a b x=min (BY a y) b/\ED a b x=BY a y-min (BY a y) b:=by
 have i:DF x.c x.nt.bs (a-x.c.aK) b=min (BY a y) b:=by
  unfold DF BY;rw[c.gC e,c.c]
 have d:Bc x.k x.c x.nt (a-x.c.aK) b=({ x.nt with bs:=x.nt.bs.drop (min (BY a y) b).toNat },min (BY a y) b,BY a y-min (BY a y) b):=by
  unfold Bc;rw[h9 e,i];have:(pastN x.nt.bs (a-x.c.aK-x.c.aB):Int)=BY a y:=by unfold BY;rw[c.gC e,c.c]
  rw[this]
 refine⟨?_,by unfold Ep;rw[d],by unfold ED;rw[d]⟩;refine⟨c.id,c.c,c.kind,c.acc,c.rel,c.wait,c.heap,c.tick,c.refs,c.xr,c.yr,λh=>?_,?_,?_,λ_=>?_⟩
 ·have j:x.k=4:=h;omega
 ·show 0<=(Bc x.k x.c x.nt (a-x.c.aK) b).1.r;rw[d];exact c.r0
 ·show(Bc x.k x.c x.nt (a-x.c.aK) b).1.r<_;rw[d];exact c.r1
 show(Bc x.k x.c x.nt (a-x.c.aK) b).1.bs=A3 y.c (y.events++[⟨0,0,true,min (BY a y) b⟩]);rw[d];unfold A3;rw[jP];show x.nt.bs.drop _=_;rw[c.gC e];rfl
theorem Zc(a i:Int)(z:0<i): ∀(h:List aI) (d:List aG) (b:Int),cU h d->0<=b->cU (Br a b (h.map (AP a))).1 (B6 a i b d).1/\(Br a b (h.map (AP a))).2=(B6 a i b d).2:=by
 intro h;induction h with
 | nil=>intro d b e _;cases d with | nil=>exact⟨trivial,rfl⟩ | cons y d=>exact e.elim
 | cons c h r =>
  intro d b e v;cases d with
  | nil=>exact e.elim
  | cons y d =>
   have q:=Yv a i z c y e.1;have x:=(Fp (c.l.length+1) c (a-c.c.aK)).1;have o:(AP a c).k=c.k:=x;have n:(y.c.kind=1)↔c.k=1:=by rw[<-e.1.c,e.1.kind];omega
   rw[iC];simp only[Br,B6];by_cases j:c.k=1
   ·obtain⟨A,B,C⟩:=Y8 a b _ _ q (by rw[o];exact j);rw[h9 (n.2 j),B,C];obtain⟨l,m⟩:=r d (b-min (BY a (Bd a i y)) b) e.2 (by omega);exact⟨⟨A,l⟩,by rw[m]⟩
   have k:(AP a c).k≠1:=by rw[o];exact j
   have s:Do a b (AP a c)=AP a c:=by unfold Do Bc;rw[hZ k]
   have t:ED a b (AP a c)=0:=by unfold ED Bc;rw[hZ k]
   have u:Ep a b (AP a c)=0:=by unfold Ep Bc;rw[hZ k]
   rw[hZ (λw=>j (n.1 w)),s,t,u,Int.sub_zero,Int.zero_add];obtain⟨l,m⟩:=r d b e.2 v;exact⟨⟨q,l⟩,m⟩
theorem OJ(s:WS)(j:cT)(o:aO)(a:fW s j)(u:I4 o){n:Int}(hi:bQ n s.clock s.xs)(N:n<4611686018427387904): (Aw s o).2=Hj j o/\fW (Aw s o).1 (EI j o):=by
 unfold Aw Hj EI BL;by_cases l:o.kind=1
 ·rw[h9 l,hZ (by omega),h9 l,hZ (by omega)];unfold Da CK;have H:=a.xs.length;have F:(BX s.xs o.id).isNone=(EC j.xs o.id).isNone:=by
   rcases a.xs.find o.id with ⟨e,b⟩ | ⟨c,y,e,b,_⟩ <;> rw[e,b] <;> rfl
  rw[F];split
  ·split
   ·rename_i I;rw[H];obtain⟨S,r,T,U,_,_⟩:=Fw I;by_cases w:j.xs.length<6
    ·rw[h9 w,hZ (by omega)];refine⟨rfl,a.clock,a.aC,a.xs.append (zLm _ _ (by omega)),λc h=>?_,?_⟩
     ·rcases ig.1 h with h | h
      ·exact a.kinds c h
      rw[ij]at h;subst h;show 1<=o.cfg.kind.toNat/\o.cfg.kind.toNat<=5;omega
     show(s.xs++[_]).length<=6;rw[hY];simp;omega
    have L:=a.bX;rw[hZ w,h9 (by omega)];exact⟨rfl,a⟩
   exact⟨rfl,a⟩
  exact⟨rfl,a⟩
 rw[hZ l];by_cases m:o.kind=2
 ·rw[h9 m,hZ (by omega),hZ l,h9 m,hZ (by omega)];unfold C0 Fa;rcases a.xs.find o.id with ⟨e,b⟩ | ⟨c,y,e,b,i⟩
  ·rw[e,b];exact⟨rfl,a⟩
  rw[e,b];have r:=a.kinds c (iW e);have v:=hi.bD c (iW e);have E:=X6 c y s.clock o i (by omega) (by omega) (by have:=v.dG;omega);simp only;rw[<-a.clock,<-E];split
  ·refine⟨by simp[i.acc],rfl,a.aC,a.xs.hN o.id (ZM c y o i),λk d=>?_,by show(BB _ _ _).length<=6;rw[JL];exact a.bX⟩;rcases F0 d with d | d
   ·exact a.kinds k d
   subst d;exact r
  refine⟨rfl,rfl,a.aC,a.xs.hN o.id (ZZ c y _ i (by have:=Je c s.clock o.item;omega) (by
         have O:=Je c s.clock o.item;have:=v.cL (Ac c.ref (bO c s.clock o.item).toNat) (by unfold Ac;rw[List.getD_eq_getElem?_getD,hX (by have:=v.bS;omega)];exact jc _)
         omega)),λk d=>?_,by show(BB _ _ _).length<=6;rw[JL];exact a.bX⟩
  rcases F0 d with d | d
  ·exact a.kinds k d
  subst d;exact r
 rw[hZ m];by_cases t:o.kind=3
 ·rw[h9 t,hZ (by omega),hZ l,hZ m,h9 t,hZ (by omega)];unfold DJ Ih;rw[<-a.clock];have Q:=a.aC;split
  ·split
   ·rename_i D;obtain⟨C,_⟩:=Bp D;obtain⟨x,z⟩:=Zc (Au s.clock o.a) (j.aC+1) (by omega) s.xs j.xs o.b a.xs C;refine⟨by rw[z],rfl,by show 0<=j.aC+1;omega,x,?_,by show(Br _ _ _).1.length<=6;rw[Nm,im];exact a.bX⟩;refine Ja (P:=λk=>1<=k.k/\k.k<=5) _ (λb c h=>h) _ _ (λk d=>?_);obtain⟨c,h,rfl⟩:=iE.1 d;have r:=a.kinds c h;have:=(Fp (c.l.length+1) c (Au s.clock o.a-c.c.aK)).1;unfold AP;rw[this];exact r
   exact⟨rfl,a⟩
  exact⟨rfl,a⟩
 rw[hZ t];rw[hZ u.1];by_cases q:o.kind=5
 ·rw[h9 q,h9 q,h9 (.inr q)];unfold Ew KH;rcases a.xs.find o.id with ⟨e,b⟩ | ⟨c,y,e,b,i⟩
  ·rw[e,b];exact⟨rfl,a⟩
  rw[e,b];refine⟨?_,a⟩;have R:=E6 y.items;have A:c.rel=(y.items.length:Int)-(Ap y.items).length:=by rw[i.rel];omega
  have B:AE.map (Ac c.ref)=AE.map (Ac y.ref):=jO λJ G=>i.refs J (by simp[AE]at G;omega);simp only[BJ];rw[i.acc,A,B]
 rw[hZ q,hZ q,hZ l,hZ m,hZ t];have M:=u.1;rw[hZ u.2.1,hZ u.2.2];refine⟨rfl,?_⟩;rw[hZ (by omega)];exact a
def KO(base:Nat)(w:World)(c:Int×List Int)(r:Ending)(w':World): Prop:=∃code aL nv,c=(code,aL)/\r=.returned (Av code nv)/\w'.ownsRow w.heap.size 3 1 nv aL.length (ints aL)/\aA (λi=>base<=i) w w'
theorem XT(base:Nat)(n:Int)(e:Nat)(v:Value)(clock aC:Int)(ps:List (RB×aG))(o:aO)(w:World)(a:aZ w e v clock aC ps)(hi:bZ n clock aC (ps.map (·.2)))(l:n<1099511627776):
  Calls prog 31 #[.pointer (some ⟨e,0,none⟩),o.val] w λj k=>KO base w (KH ⟨clock,aC,ps.map (·.2)⟩ o) j k:=by
 unfold KH;rw[G6];cases hf:BI ps o.id with
 | none =>
  refine(Wt e v clock aC ps o w a (by have:=hi.bX;simp at this;omega) hf).mono ?_;rintro j k ⟨i,c,d,h⟩;exact⟨_,_,i,rfl,c,d,h.mono (λ_ _ a=>a.elim)⟩
 | some p =>
  refine(Vg n e v clock aC ps o w a hi l p hf).mono ?_;rintro j k ⟨i,c,d,h⟩;exact⟨_,_,i,rfl,c,d,h.mono (λ_ _ a=>a.elim)⟩
theorem Zt(base:Nat)(n:Int)(e:Nat)(v:Value)(clock aC:Int)(ps:List (RB×aG))(o:aO)(w:World)(c:aZ w e v clock aC ps)(hi:bZ n clock aC (ps.map (·.2)))(m:n<1099511627776)(l:∀a,bG e v ps a->base<=a):
  Calls prog 32 #[.pointer (some ⟨e,0,none⟩),o.val] w λd h=>KO base w (BL ⟨clock,aC,ps.map (·.2)⟩ o).2 d h:=by
 refine(Pe n e v clock aC ps o w c hi m).mono ?_;rintro d h ⟨q,i,j,s,r,_,_,k,_⟩;exact⟨_,_,q,rfl,i,j,k.mono (λa _ c=>l a c)⟩
def Es(o:aO): Bool:=!(o.kind==4||o.kind==5)
theorem zL7(s:cT)(o:aO): EI s o=BA s ([o].filter Es):=by
 unfold EI;by_cases a:o.kind=4\/o.kind=5
 ·rw[h9 a];have c:(o.kind==4||o.kind==5)=true:=by simpa using a
  have d:Es o=false:=by unfold Es;rw[c];rfl
  rw[List.filter_cons_of_neg (by rw[d];simp)];rfl
 rw[hZ a];have c:(o.kind==4||o.kind==5)=false:=by simpa using a
 have d:Es o=true:=by unfold Es;rw[c];rfl
 rw[List.filter_cons_of_pos d];rfl
theorem Ud(s:cT)(a b:List aO): BA s (a++b)=BA (BA s a) b:=by
 induction a generalizing s with
 | nil=>rfl
 | cons e d c=>exact c _
structure RR (w:World) (base:Nat) (SV:Nat->List aO) (av:Value) (l:List dU) (sv:Value) (S:List aO) (tv:Value) (vs:List Value) (nv:Value) (aL:List Int):Prop where
 A:cY w base av l
 S:Dj w base sv S
 T:w.ownsRow base 22 1 tv vs.length vs
 P:w.ownsRow base 3 1 nv aL.length (ints aL)
 V:∀(j:Nat) u,vs[j]?=some u->Dj w base u (SV j)
 st:∀i,sv.ownBlock=some i->tv.ownBlock≠some i/\¬Ft av l i
 tt:∀i,tv.ownBlock=some i->¬Ft av l i
 pd:∀i,nv.ownBlock=some i->sv.ownBlock≠some i/\tv.ownBlock≠some i/\¬Ft av l i
 vd:∀u,u∈vs->∀i,u.ownBlock=some i->sv.ownBlock≠some i/\tv.ownBlock≠some i/\av.ownBlock≠some i
 nb:∀x,x∈l->x.bs=Ai
section
variable {w w':World} {base:Nat} {SV:Nat->List aO} {av av':Value} {l:List dU} {sv sv':Value} {S S':List aO} {tv tv':Value} {vs:List Value} {nv:Value} {aL:List Int} {code:Int}
def Hk(av:Value)(l:List dU)(sv tv:Value)(vs:List Value)(nv:Value)(i:Nat): Prop:=Ft av l i\/sv.ownBlock=some i\/tv.ownBlock=some i\/nv.ownBlock=some i\/∃u,u∈vs/\u.ownBlock=some i
theorem RR.keeps{M:Nat->Prop}(c:RR w base SV av l sv S tv vs nv aL)(e:aA M w w')(h:∀a,Hk av l sv tv vs nv a->¬M a): RR w' base SV av l sv S tv vs nv aL :=
 ⟨c.A.keeps e (λa d=>h a (.inl d)),A2 c.S e (λa d=>h a (.inr (.inl d))),A2 c.T e (λa d=>h a (.inr (.inr (.inl d)))),A2 c.P e (λa d=>h a (.inr (.inr (.inr (.inl d))))),λk j i=>A2 (c.V k j i) e (λa d=>h a (.inr (.inr (.inr (.inr ⟨j,iu i,d⟩))))),c.st,c.tt,c.pd,c.vd,c.nb⟩
theorem RR.still(a:RR w base SV av l sv S tv vs nv aL)(c:lO w w'): RR w' base SV av l sv S tv vs nv aL:=a.keeps c (λ_ _ a=>a)
theorem RR.lt(a:RR w base SV av l sv S tv vs nv aL)(i:Nat)(hi:Hk av l sv tv vs nv i): base<=i/\i<w.heap.size:=by
 rcases hi with hi | hi | hi | hi | ⟨h,d,hi⟩
 ·exact a.A.lt i hi
 ·exact a.S.lt i hi
 ·exact a.T.lt i hi
 ·exact a.P.lt i hi
 obtain⟨e,c⟩:=List.mem_iff_getElem?.1 d;exact(a.V e h c).lt i hi
theorem RR.hE(a:RR w base SV av l sv S tv vs (.slice none 0 0) [])(i:base<=w.heap.size)(k:lO w w')(h:w'.ownsRow w.heap.size 3 1 nv aL.length (ints aL)): RR w' base SV av l sv S tv vs nv aL:=by
 have d:=a.still k;refine⟨d.A,d.S,d.T,FG h i,d.V,a.st,a.tt,λe j=>?_,a.vd,a.nb⟩;have m:=(h.lt e j).1;exact⟨λc=>by have:=(a.S.lt e c).2;omega,λc=>by have:=(a.T.lt e c).2;omega,λc=>by have:=(a.A.lt e c).2;omega⟩
theorem RR.steps(e:RR w base SV av l sv S tv vs nv aL)(k:aA (λa=>sv.ownBlock=some a) w w')(n:Dj w' base sv' S')(o:∀a,sv'.ownBlock=some a->sv.ownBlock=some a\/w.heap.size<=a): RR w' base SV av l sv' S' tv vs nv aL:=by
 have m:∀a,sv'.ownBlock=some a->(sv.ownBlock=some a\/¬Hk av l sv tv vs nv a):=λa c=>by
  rcases o a c with h | h
  ·exact .inl h
  exact .inr λd=>by have:=(e.lt a d).2;omega
 refine⟨e.A.keeps k (λa c d=>(e.st a d).2 c),n,A2 e.T k (λa c d=>(e.st a d).1 c),A2 e.P k (λa c d=>(e.pd a c).1 d),λq j i=>A2 (e.V q j i) k (λa c d=>(e.vd j (iu i) a c).1 d),λa c=>?_,e.tt,λa c=>⟨λd=>?_,(e.pd a c).2⟩,λj i a c=>⟨λd=>?_,(e.vd j i a c).2⟩,e.nb⟩
 ·rcases m a c with h | h
  ·exact e.st a h
  exact⟨λd=>h (.inr (.inr (.inl d))),λd=>h (.inl d)⟩
 ·rcases m a d with h | h
  ·exact(e.pd a c).1 h
  exact h (.inr (.inr (.inr (.inl c))))
 rcases m a d with h | h
 ·exact(e.vd j i a c).1 h
 exact h (.inr (.inr (.inr (.inr ⟨j,i,c⟩))))
theorem RR.saved{j:Value}(h:RR w base SV av l sv S tv vs nv aL)(n:aA (λa=>tv.ownBlock=some a) w w')(v:w'.ownsRow base 22 1 tv' (vs.length+1) (vs++[j]))(x:∀a,tv'.ownBlock=some a->tv.ownBlock=some a\/w.heap.size<=a)(u:Dj w base j (SV vs.length))(t:∀a,j.ownBlock=some a->sv.ownBlock≠some a/\tv.ownBlock≠some a/\av.ownBlock≠some a): RR w' base SV av l sv S tv' (vs++[j]) nv aL:=by
 have m:∀a,tv'.ownBlock=some a->(tv.ownBlock=some a\/¬Hk av l sv tv vs nv a/\j.ownBlock≠some a):=λa c=>by
  rcases x a c with e | e
  ·exact .inl e
  exact .inr ⟨λd=>by have:=(h.lt a d).2;omega,λd=>by have:=(u.lt a d).2;omega⟩
 refine⟨h.A.keeps n (λa c d=>h.tt a d c),A2 h.S n (λa c d=>(h.st a c).1 d),by rw[hY];exact v,A2 h.P n (λa c d=>(h.pd a c).2.1 d),λs k i=>?_,λa c=>⟨λd=>?_,(h.st a c).2⟩,λa c=>?_,λa c=>⟨(h.pd a c).1,λd=>?_,(h.pd a c).2.2⟩,λk i a c=>?_,h.nb⟩
 ·by_cases z:s<vs.length
  ·rw[iO z]at i;exact A2 (h.V s k i) n (λa c d=>(h.vd k (iu i) a c).2.1 d)
  have A:=(ik.1 i).1;rw[hY,iZ]at A;obtain rfl:s=vs.length:=by omega
  have:j=k:=by simpa using i
  rw[<-this];exact A2 u n (λa c d=>(t a c).2.1 d)
 ·rcases m a d with e | e
  ·exact(h.st a c).1 e
  exact e.1 (.inr (.inl c))
 ·rcases m a c with e | e
  ·exact h.tt a e
  exact λd=>e.1 (.inl d)
 ·rcases m a d with e | e
  ·exact(h.pd a c).2.1 e
  exact e.1 (.inr (.inr (.inr (.inl c))))
 rcases ig.1 i with i | i
 ·obtain⟨o,q,r⟩:=h.vd k i a c;refine⟨o,λd=>?_,r⟩;rcases m a d with e | e
  ·exact q e
  exact e.1 (.inr (.inr (.inr (.inr ⟨k,i,c⟩))))
 rw[ij]at i;subst i;obtain⟨o,q,r⟩:=t a c;refine⟨o,λd=>?_,r⟩;rcases m a d with e | e
 ·exact q e
 exact e.2 c
theorem RR.out(e:RR w base SV av l sv S tv vs nv aL)(m:aA (λa=>av.ownBlock=some a) w w')(u:w'.ownsRow base 39 3 av' (l.length+1) (Ej l++[.int .i64 code,nv,.string Ai]))(v:∀a,av'.ownBlock=some a->av.ownBlock=some a\/w.heap.size<=a):
  RR w' base SV av' (l++[⟨code,nv,aL,Ai⟩]) sv S tv vs (.slice none 0 0) []:=by
 have k:∀a,Hk av l sv tv vs nv a->av'.ownBlock=some a->av.ownBlock=some a:=λa c h=>by
  rcases v a h with i | i
  ·exact i
  have:=(e.lt a c).2;omega
 have q:∀a,Ft av' (l++[⟨code,nv,aL,Ai⟩]) a->av'.ownBlock=some a\/Ft av l a\/nv.ownBlock=some a:=by
  intro a c;rcases c with c | ⟨j,d,c⟩
  ·exact .inl c
  rcases ig.1 d with d | d
  ·exact .inr (.inl (.inr ⟨j,d,c⟩))
  rw[ij]at d;subst d;exact .inr (.inr c)
 refine⟨⟨?_,?_,?_⟩,A2 e.S m (λa c h=>(e.st a c).2 (.inl h)),A2 e.T m (λa c h=>e.tt a c (.inl h)),ir _ _ _ _,λx o n=>A2 (e.V x o n) m (λa c h=>(e.vd o (iu n) a c).2.2 h),λa c=>⟨(e.st a c).1,λh=>?_⟩,λa c h=>?_,λa c=>(by cases c),λo n a c=>?_,λj d=>?_⟩
 ·rw[Nh,hY];exact u
 ·intro j d;rcases ig.1 d with d | d
  ·exact A2 (e.A.aL j d) m (λa c h=>e.A.apart j d a c h)
  rw[ij]at d;subst d;exact A2 e.P m (λa c h=>(e.pd a c).2.2 (.inl h))
 ·intro j d a c h;rcases ig.1 d with d | d
  ·exact e.A.apart j d a c (k a (.inl (.inr ⟨j,d,c⟩)) h)
  rw[ij]at d;subst d;exact(e.pd a c).2.2 (.inl (k a (.inr (.inr (.inr (.inl c)))) h))
 ·rcases q a h with i | i | i
  ·exact(e.st a c).2 (.inl (k a (.inr (.inl c)) i))
  ·exact(e.st a c).2 i
  exact(e.pd a i).1 c
 ·rcases q a h with i | i | i
  ·exact e.tt a c (.inl (k a (.inr (.inr (.inl c))) i))
  ·exact e.tt a c i
  exact(e.pd a i).2.1 c
 ·obtain⟨r,s,t⟩:=e.vd o n a c;exact⟨r,s,λh=>t (k a (.inr (.inr (.inr (.inr ⟨o,n,c⟩)))) h)⟩
 rcases ig.1 d with d | d
 ·exact e.nb j d
 rw[ij]at d;subst d;rfl
end
end
section
theorem zOi: (prog.info? 22).map (λa=>(a.zero,a.size,a.bytes))=some (some (.slice none 0 0),1,24):=by kernel_rfl
theorem Lt{w w':World}{row:Option Nat}(a:w.grownBy w' row): aA (λh=>row=some h) w w':=⟨a.os,a.tape,a.output,a.size,λi d e=>a.block i d (λc=>e c.symm)⟩
theorem QW{a n e d:Nat}{v:Value}(h:v.ownBlock=some a\/a=d)(i:Nat)(hi:(Value.slice (some ⟨a,0,none⟩) n e).ownBlock=some i): v.ownBlock=some i\/d<=i:=by
 have:a=i:=by simpa[Value.ownBlock] using hi
 subst this;rcases h with c | c
 ·exact .inl c
 exact .inr (by omega)
