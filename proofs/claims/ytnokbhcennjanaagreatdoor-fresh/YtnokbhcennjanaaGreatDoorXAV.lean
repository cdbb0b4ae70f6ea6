import Derived.Test.YtnokbhcennjanaaGreatDoorXAU
import Derived.Test.YtnokbhcennjanaaGreatDoorXAT
import Derived.Test.YtnokbhcennjanaaGreatDoorXAS
open Go.RowKit Go.Proofs.Tryz
set_option maxRecDepth 100000
set_option maxHeartbeats 16000000
namespace Go.Proofs.YtnokbhcennjanaaGreatDoor
section
attribute [local go_sem ↓] AH Bs
attribute [local go_sem] AI Bt A3 A4 AJ AL B8 B9 Bd B2
theorem QW{fn:Func}{R:Ending->World->Prop}{a:Act}{e:World}{d:Nat}{x y n:Value}{num:Int}{T:TypeId}(i:aD e d [x,y,n] T)(l:∀c h,aD c d [ι 0,h,.string Ai] T->(results fn a.tmps).run prog c=.ok (Aw 0 h) c)(k:a.defers=[])(j:∀c h,aA (λm=>m=d) e c->c.ownsRow e.heap.size 3 1 h 1 [ι num]->R (.returned (Aw 0 h)) c):
  bodyPost prog fn R .ret a ((((e.setCell ⟨d,0,none⟩ (ι 0)).setCell ⟨d,1,none⟩ (σ e.heap.size 1 1)).setCell ⟨d,2,none⟩ (.string Ai)).alloc (.cells #[ι num] 3)) :=
 iV (l _ _ ((((i.setCell 0 _).setCell 1 _).setCell 2 _).alloc _)) k (j _ _ ((I0 _ _ _ _ _).alloc _) ⟨rfl,.inr ⟨e.heap.size,1,_,rfl,ir _,aD.newAt (by simp) [_] 3,by simp,by unfold maxLen;simp,rfl,rfl⟩⟩)
def XJ(w:World)(e:Nat)(v:Value)(ps:List (RB×aG))(x:cV×Int×List Int)(r:Ending)(w':World): Prop :=
 ∃nv,r=.returned (Aw x.2.1 nv)/\w'.ownsRow w.heap.size 3 1 nv x.2.2.length (ints x.2.2)/\Dm w e v ps x.1 w'
theorem VO{w i m n:World}{e h:Nat}{v:Value}{clock aC:Int}{ps:List (RB×aG)}{l:cV}(s:aZ w e v clock aC ps)(t:lX w i)(a:Dm i e v ps l m)(k:aA (λc=>c=h+1) m n)(C:w.heap.size=h)(B:h+1<i.heap.size): Dm w e v ps l n:=by
 obtain⟨x,u,o,q,r,j⟩:=a;refine⟨x,u,o.keeps k (λc d z=>?_),q,?_,?_⟩
 ·rcases j c d with a | a
  ·have:=s.lt c a;omega
  omega
 ·exact((t.mono (M':=bH e v ps) (λ_ _ a=>a.elim)).then r).trans k (λc d A=>by omega)
 intro c d;rcases j c d with a | a
 ·exact .inl a
 exact .inr (by omega)
theorem Uk(e:Nat)(v:Value)(clock aC:Int)(ps:List (RB×aG))(o:aO)(w:World)(a:aZ w e v clock aC ps)(q:ps.length<=6):
  Calls prog 60 #[π e,o.val] w λj k=>j=.returned (ι (CU ⟨clock,aC,ps.map (·.2)⟩ o).2.1)/\(CU ⟨clock,aC,ps.map (·.2)⟩ o).2.2=[]/\Dm w e v ps (CU ⟨clock,aC,ps.map (·.2)⟩ o).1 k:=by
 by_cases i:Ab o.id 0 99=true/\BL ps o.id=none/\Ak o.cfg=true/\ps.length≠6
 ·obtain⟨c,d,h,l⟩:=i;have m:CU ⟨clock,aC,ps.map (·.2)⟩ o=(⟨clock,aC,ps.map (·.2)++[CP o.id o.cfg]⟩,0,[]):=by
   rw[N5,ij ⟨c,d⟩,ij h,ig l]
  rw[m];refine(UA e v clock aC ps o w a (by omega) c d h).mono ?_;rintro j k ⟨rfl,n⟩;exact⟨rfl,rfl,n⟩
 exact VH e v clock aC ps o w a (by omega) i
theorem Zb(n:Int)(e:Nat)(v:Value)(clock aC:Int)(ps:List (RB×aG))(o:aO)(w:World)(h:aZ w e v clock aC ps)(hi:bZ n clock aC (ps.map (·.2)))(m:n<1099511627776):
  Calls prog 61 #[π e,o.val] w λj k=>∃d c a,Fi ⟨clock,aC,ps.map (·.2)⟩ o=(d,a,if a=0 then[c] else[])/\j=.returned (.tuple #[ι c,ι a])/\Dm w e v ps d k:=by
 have l:∀d c a,Fi ⟨clock,aC,ps.map (·.2)⟩ o=(d,a,if a=0 then[c] else[])->∀(j:Ending) (k:World),(j=.returned (.tuple #[ι c,ι a])/\Dm w e v ps d k)->∃d c a,Fi ⟨clock,aC,ps.map (·.2)⟩ o=(d,a,if a=0 then[c] else[])/\j=.returned (.tuple #[ι c,ι a])/\Dm w e v ps d k:=λd c a e j k h=>⟨d,c,a,e,h⟩;cases hf:BL ps o.id with
 | none=>exact(zNz e v clock aC ps o w h (by have:=hi.bX;simp at this;omega) hf).mono (l _ _ _ (by unfold Fi;rw[GF,hf];rfl))
 | some p =>
  by_cases i:Cp p.2 clock o=0
  ·exact(YW n e v clock aC ps o w h hi m p hf i).mono (l _ _ _ (by unfold Fi;rw[GF,hf];simp only[ko];rw[ij i];rfl))
  exact(YO n e v clock aC ps o w h hi (by omega) p hf i).mono (l _ _ _ (by unfold Fi;rw[GF,hf];simp only[ko];rw[ig i,ig i]))
theorem P7(n:Int)(e:Nat)(v:Value)(clock aC:Int)(ps:List (RB×aG))(o:aO)(w:World)(j:aZ w e v clock aC ps)(hi:bZ n clock aC (ps.map (·.2)))(ak:n<1099511627776):
  Calls prog 32 #[π e,o.val] w λF a6=>XJ w e v ps (BP ⟨clock,aC,ps.map (·.2)⟩ o) F a6:=by
 have P:=Aa j;have Q:=Aa hi;clear j hi;unfold aO.val;obtain⟨r,an,ad,H,af⟩:=CC w o.cells;have G:=Aa (P.o.still ad.o);have aw:=Aa (show ∀N,bH e v ps N->N<w.heap.size from P.o.lt);have u:o.cells[0]?=some (ι o.kind):=rfl;go_enter func32,ntmps32;go_upto_region 1 with fail
 rw[<-an];clear an u;generalize W:w.heap.size=E at *
 have a0:E+1<r.heap.size:=af.o.lt;have S:=Aa (show ∀m c s,Dm r e v ps m c->aA (λN=>N=E+1) c s->Dm w e v ps m s from λm c s j Y=>VO P.o ad.o j Y W a0);have ae:=Aa W;clear W;obtain⟨bc,bb⟩:=CM H.o 26 rfl;have O:=H.o.c0;have Z:=H.o.c2;have aa:=H.o.c3;have ax:=Aa (LJ G.o (aA.refl (λ_=>False) r));have ai:∀m c,Dm r e v ps m c->Hid (aD c (E+1) [ι 0,.slice none 0 0,.string Ai] 39):=λm c l=>by
  obtain⟨_,_,_,_,Y,_⟩:=l;exact af.o.keeps Y (λj=>by have:=aw.o _ j;omega)
 have R:=Aa ai;clear ai;have a1:(o.kind=1/\BP ⟨clock,aC,ps.map (·.2)⟩ o=CU ⟨clock,aC,ps.map (·.2)⟩ o)\/(o.kind=2/\BP ⟨clock,aC,ps.map (·.2)⟩ o=Fi ⟨clock,aC,ps.map (·.2)⟩ o)\/((o.kind=3/\(0<=o.a/\o.a<=4611686018427387904)/\0<=o.b/\o.b<=100)/\BP ⟨clock,aC,ps.map (·.2)⟩ o=(⟨Av clock o.a,aC+1,(BA (Av clock o.a) (aC+1) o.b (ps.map (·.2))).1⟩,0,[(BA (Av clock o.a) (aC+1) o.b (ps.map (·.2))).2])) \/
   ((o.kind≠1/\o.kind≠2/\o.kind≠3)/\BP ⟨clock,aC,ps.map (·.2)⟩ o=(⟨clock,aC,ps.map (·.2)⟩,1,[]))\/((o.kind=3/\o.a<0)/\BP ⟨clock,aC,ps.map (·.2)⟩ o=(⟨clock,aC,ps.map (·.2)⟩,5,[]))\/((o.kind=3/\0<=o.a/\4611686018427387904<o.a)/\BP ⟨clock,aC,ps.map (·.2)⟩ o=(⟨clock,aC,ps.map (·.2)⟩,5,[]))\/((o.kind=3/\(0<=o.a/\o.a<=4611686018427387904)/\o.b<0)/\BP ⟨clock,aC,ps.map (·.2)⟩ o=(⟨clock,aC,ps.map (·.2)⟩,12,[]))\/((o.kind=3/\(0<=o.a/\o.a<=4611686018427387904)/\0<=o.b/\100<o.b)/\BP ⟨clock,aC,ps.map (·.2)⟩ o=(⟨clock,aC,ps.map (·.2)⟩,12,[])):=by
  unfold BP Ix;by_cases u:o.kind=1
  ·exact .inl ⟨u,ij u⟩
  by_cases I:o.kind=2
  ·exact .inr (.inl ⟨I,by rw[ig u,ij I]⟩)
  rw[ig u,ig I];by_cases t:o.kind=3
  ·rw[ij t];by_cases L:Ab o.a 0 4611686018427387904=true
   ·have J:=Bu L;rw[ij L];by_cases B:Ab o.b 0 100=true
    ·exact .inr (.inr (.inl ⟨⟨t,J,Bu B⟩,ij B⟩))
    rw[ig B];have ba:¬(0<=o.b/\o.b<=100):=by simpa[Ab] using B
    by_cases T:o.b<0
    ·exact .inr (.inr (.inr (.inr (.inr (.inr (.inl ⟨⟨t,J,T⟩,rfl⟩))))))
    exact .inr (.inr (.inr (.inr (.inr (.inr (.inr ⟨⟨t,J,by omega,by omega⟩,rfl⟩))))))
   rw[ig L];have J:¬(0<=o.a/\o.a<=4611686018427387904):=by simpa[Ab] using L
   by_cases T:o.a<0
   ·exact .inr (.inr (.inr (.inr (.inl ⟨⟨t,T⟩,rfl⟩))))
   exact .inr (.inr (.inr (.inr (.inr (.inl ⟨⟨t,by omega,by omega⟩,rfl⟩)))))
  rw[ig t];exact .inr (.inr (.inr (.inl ⟨⟨u,I,t⟩,rfl⟩)))
 have ag:∀ {m:cV} {c ab:World},Dm r e v ps m c->lX c ab->Dm r e v ps m ab:=λ⟨a5,ps1,hE1,hx1,hkk1,hf1⟩ k=>⟨a5,ps1,hE1.still k,hx1,hkk1.trans k (λ_ j _=>j.elim),hf1⟩;have av:=@ag;clear ag;rcases a1 with ⟨k,a⟩ | ⟨k,a⟩ | ⟨⟨k,⟨A,M⟩,U,ah⟩,a⟩ | ⟨⟨a2,a3,a4⟩,a⟩ | ⟨⟨k,A⟩,a⟩ | ⟨⟨k,A,M⟩,a⟩ | ⟨⟨k,⟨A,M⟩,U⟩,a⟩ | ⟨⟨k,⟨A,M⟩,U,ah⟩,a⟩;all_goals
  have h:=Aa a;clear a;have q:=ax
  first | rw[k]at O | (have a7:(o.kind==1)=false:=by simpa using a2
                       have a8:(o.kind==2)=false:=by simpa using a3
                       have a9:(o.kind==3)=false:=by simpa using a4)
  go_wp2_with fail
 all_goals first
  | (refine(Uk e v clock aC ps o r G.o (by have:=Q.o.bX;simpa using this)).mono ?_
     rintro F c ⟨rfl,al,l⟩;have q:=Aa l;obtain⟨z,x⟩:∃z,z=(CU ⟨clock,aC,ps.map (·.2)⟩ o).2.1:=⟨_,rfl⟩;rw[<-x];have h:=Aa (show BP ⟨clock,aC,ps.map (·.2)⟩ o=((CU ⟨clock,aC,ps.map (·.2)⟩ o).1,z,[]) by rw[h.o,x,<-al]);clear al l x O Z aa
     go_wp2_with fail)
  | (refine(Zb n e v clock aC ps o r G.o Q.o ak).mono ?_
     rintro F c ⟨m,bd,z,a,rfl,l⟩;have q:=Aa l;have h:=Aa (h.o.trans a);clear l a O Z aa;by_cases x:z=0
     ·subst x;have d:=R.o _ _ q.o;obtain⟨ap,aq,ar,au⟩:=d.o.three;have am:=d.o.lt;have az:E+1≠c.heap.size:=by omega
      go_wp2;refine QW d.o (λs D i=>by simp[results,results32,go_sem,i.c0,i.c1,i.c2,Aw]) rfl (λs D C X=>?_);rw[h.o];exact⟨D,rfl,EQ X (by have:=ae.o;omega),S.o _ _ _ q.o C⟩
     have B:(z !=0)=true:=by simpa using x
     have h:=Aa (h.o.trans (by rw[ig x]))
     go_wp2_with fail)
  | (refine(XI n e v clock aC o.a o.b ps r G.o Q.o ak A M U ah).mono ?_
     rintro F c ⟨rfl,l⟩;have q:=Aa l;obtain⟨ao,aj⟩:∃ao,ao=(BA (Av clock o.a) (aC+1) o.b (ps.map (·.2))).2:=⟨_,rfl⟩;have a:=h.o;rw[<-aj]at a ⊢;have h:=Aa a;clear l a aj O Z aa;have d:=R.o _ _ q.o;obtain⟨ap,aq,ar,au⟩:=d.o.three;have am:=d.o.lt;have az:E+1≠c.heap.size:=by omega
     go_wp2;refine QW d.o (λs D i=>by simp[results,results32,go_sem,i.c0,i.c1,i.c2,Aw]) rfl (λs D C X=>?_);rw[h.o]
     exact⟨D,rfl,EQ X (by have:=ae.o;omega),S.o _ _ _ q.o C⟩)
  | skip
 all_goals
  refine(JE _ _).mono ?_;rintro F ab ⟨rfl,V⟩;unfold Aw;have d:=Aa ((uh (R.o _ _ q.o)).keeps V id);have ay:=Aa (av q.o V);clear V;obtain⟨ap,aq,ar,au⟩:=d.o.three;have am:=d.o.lt;go_wp2;refine Dj d.o (λs i=>by simp[results,results32,go_sem,i.c0,i.c1,i.c2,Aw]) rfl (λs C=>?_);rw[h.o];exact⟨_,rfl,iy _ _ _ _,S.o _ _ _ ay.o C⟩
end
section
theorem dZ.mono{n m:Int}{y:aG}(a:dZ n y)(i:n<=m): dZ m y:=by
 have e:=a.items;have h:=a.events;exact⟨a.valid,by omega,by omega,a.refl,λd c=>by have:=a.cN d c;omega,a.times⟩
theorem Z6{n:Int}(id:Int)(c:Cfg)(d:Ak c=true)(a:0<=n): dZ n (CP id c):=by
 refine⟨d,by simpa[CP] using a,by simpa[CP,Bb] using a,rfl,?_,by simp[CP]⟩;intro h e;have:h=0:=by simpa[CP] using e
 omega
theorem NP{n:Int}(mark aC:Int)(h:aC≠0)(f:Nat): ∀y:aG,dZ n y->dZ n (BX f y mark aC):=by
 induction f with
 | zero=>intro y a;exact a
 | succ f i =>
  intro y a;unfold BX;rcases Ic y.items mark with ⟨k,_⟩ | ⟨l,d,e,_⟩
  ·rw[ij (by omega)];exact a
  rw[ig (by omega)];have t:=Is aC h y.items _ d e;have r:=EC y.items;have s:=EC (Bf y.items (C3 y.items mark).toNat aC);have q:(Bf y.items (C3 y.items mark).toNat aC).length=y.items.length:=by simp[Bf]
  have m:=a.events;have o:=a.items;refine i _ ⟨a.valid,?_,?_,a.refl,a.cN,?_⟩
  ·show((Bf _ _ _).length:Int)<=n;omega
  ·show((y.events++[_]).length:Int)<=(Bb (Bf _ _ _)).length+n;rw[ic];simp;omega
  intro j c;rcases jx c with c | c
  ·exact a.times j c
  subst c;have:=a.times (Aj y.items (C3 y.items mark).toNat) (by rw[Cv _ _ d];exact jk _);exact this
theorem XG{n:Int}{y:aG}(clock b:Int)(c:dZ n y): dZ (n+1) (F9 clock b y):=by
 have a:=c.mono (m:=n+1) (by omega);have d:=c.events;refine⟨a.valid,a.items,?_,a.refl,a.cN,a.times⟩;show((y.events++[_]).length:Int)<=(Bb y.items).length+(n+1);rw[ic];simp;omega
theorem Sd(d e:Int)(a:List aG): ∀b,(BA d e b a).1.length=a.length:=by
 induction a with
 | nil=>intro b;rfl
 | cons y h c =>
  intro b;simp only[BA];split <;> simp[c]
theorem NQ{d j:Int}{k:List aG}: ∀ {b:Int},0<=b->∀ {c:aG},c∈(BA d j b k).1->∃y,y∈k/\((y.c.kind≠1/\c=Bl d j y)\/(y.c.kind=1/\∃m,0<=m/\c=F9 d m (Bl d j y))):=by
 induction k with
 | nil=>intro b _ c a;simp[BA]at a
 | cons y q o =>
  intro b n c a;simp only[BA]at a;split at a
  ·rename_i h;rcases iA.1 a with a | a
   ·exact⟨y,by simp,.inr ⟨h,b,n,a⟩⟩
   obtain⟨l,i,e⟩:=o (by omega) a;exact⟨l,by simp[i],e⟩
  rename_i h;rcases iA.1 a with a | a
  ·exact⟨y,by simp,.inl ⟨h,a⟩⟩
  obtain⟨l,i,e⟩:=o n a;exact⟨l,by simp[i],e⟩
theorem Wh{y:aG}{clock:Int}{o:aO}(a:Cp y clock o=0): clock-y.c.aL<o.a:=by
 unfold Cp at a;split at a
 ·split at a
  ·omega
  omega
 omega
theorem WU{y:aG}{clock:Int}{o:aO}(a:Cp y clock o=0): 0<=o.a/\o.a<=4611686018427387904:=by
 unfold Cp at a;split at a
 ·rename_i c;exact Bu c
 omega
theorem KC{c:List aG}{id:Int}{y d:aG}(a:d∈Do c id y): d∈c\/d=y:=by
 induction c with
 | nil=>simp[Do]at a
 | cons h i e =>
  unfold Do at a;split at a
  ·rcases iA.1 a with a | a
   ·exact .inr a
   exact .inl (by simp[a])
  rcases iA.1 a with a | a
  ·exact .inl (by simp[a])
  rcases e a with a | a
  ·exact .inl (by simp[a])
  exact .inr a
theorem On(a:List aG)(id:Int)(y:aG): (Do a id y).length=a.length:=by
 induction a with
 | nil=>rfl
 | cons d e c =>
  unfold Do;split
  ·rfl
  simp[c]
theorem X5{n:Int}{s:cV}(o:aO)(c:bZ n s.clock s.aC s.xs)(S:0<=n): bZ (n+1) (BP s o).1.clock (BP s o).1.aC (BP s o).1.xs:=by
 have V:=c.tn;have h:bZ (n+1) s.clock s.aC s.xs:=⟨c.c0,c.c1,c.t0,by omega,c.bX,λt d=>(c.bD t d).mono (by omega),c.bL⟩;unfold BP;split
 ·unfold CU;split
  ·split
   ·split
    ·exact h
    rename_i A O;have P:=c.bX;refine⟨c.c0,c.c1,c.t0,by show s.aC<=n+1;omega,by show(s.xs++[_]).length<=6;rw[ic];simp;omega,λt d=>?_,λt d j=>?_⟩
    ·rcases ik.1 d with d | d
     ·exact h.bD t d
     rw[im]at d;subst d;exact Z6 _ _ A (by omega)
    rcases ik.1 d with d | d
    ·exact c.bL t d j
    rw[im]at d;subst d;exact Zj _ _ _
   exact h
  exact h
 split
 ·unfold Fi;split
  ·exact h
  rename_i y F;have l:y∈s.xs:=jc F;have r:=c.bD y l;have X:=r.items;split
  ·rename_i x;obtain⟨I,J⟩:=WU x;refine⟨c.c0,c.c1,c.t0,by show s.aC<=n+1;omega,by show(Do _ _ _).length<=6;rw[On];exact c.bX,λi a=>?_,λi a j=>?_⟩
   ·rcases KC a with a | a
    ·exact h.bD i a
    subst a;have e:=r.mono (m:=n+1) (by omega);refine⟨e.valid,?_,?_,e.refl,e.cN,?_⟩
    ·show((y.items++[_]).length:Int)<=n+1;rw[ic];simp;omega
    ·have:Bb (Fh y o).items=Bb y.items:=by
      show Bb (y.items++[_])=_;unfold Bb;rw[jo,iB];simp
     rw[this];exact e.events
    intro i a;rcases ik.1 a with a | a
    ·exact e.times i a
    rw[im]at a;subst a;exact⟨I,J⟩
   rcases KC a with a | a
   ·exact c.bL i a j
   subst a;exact Wo (c.bL y l j) o (Wh x)
  refine⟨c.c0,c.c1,c.t0,by show s.aC<=n+1;omega,by show(Do _ _ _).length<=6;rw[On];exact c.bX,λi a=>?_,λi a j=>?_⟩
  ·rcases KC a with a | a
   ·exact h.bD i a
   subst a;have e:=r.mono (m:=n+1) (by omega);refine⟨e.valid,e.items,e.events,by show(y.ref.set _ _).length=15;rw[jw];exact e.refl,?_,e.times⟩;intro L q;rcases jx q with q | q
   ·exact e.cN L q
   subst q;have:0<=Ac y.ref (Cp y s.clock o).toNat/\Ac y.ref (Cp y s.clock o).toNat<=n:=by
    have T:=Oo y s.clock o;refine r.cN _ ?_;unfold Ac;rw[γ,h9 (by rw[r.refl];omega)];exact jk _
   omega
  rcases KC a with a | a
  ·exact c.bL i a j
  subst a;have u:=c.bL y l j;exact⟨u.ok,u.ts,u.le,u.wt⟩
 split
 ·unfold Ix;split
  ·rename_i B;obtain⟨M,N⟩:=Bu B;have Q:=c.c0;have R:=c.c1;have U:=c.t0;split
   ·rename_i C;have w:=(Bu C).1;have E:s.clock<=Av s.clock o.a:=by unfold Av;split <;> omega
    have G:0<=Av s.clock o.a:=by omega
    have H:Av s.clock o.a<=4611686018427387904:=by unfold Av;split <;> omega
    refine⟨G,H,by show 0<=s.aC+1;omega,by show s.aC+1<=n+1;omega,by show(BA _ _ _ _).1.length<=6;rw[Sd];exact c.bX,λi a=>?_,λi a j=>?_⟩
    ·obtain⟨y,l,⟨_,rfl⟩ | ⟨_,z,_,rfl⟩⟩:=NQ w a
     ·exact NP _ _ (by omega) _ _ (h.bD y l)
     exact XG _ _ (NP _ _ (by omega) _ _ (c.bD y l))
    obtain⟨y,l,⟨v,rfl⟩ | ⟨v,z,D,rfl⟩⟩:=NQ w a
    ·rw[OM _ _ _ (by omega)]at j;exact absurd j v
    obtain⟨Y,Z,_,_,_,_⟩:=(c.bD y l).common;have W:=Ek (k:=1) (c.bD y l).valid v rfl;show eD (Av s.clock o.a) _;exact YL (PH (by omega) (c.bL y l v) E (by omega) (by omega)) D
   exact h
  exact h
 exact h
theorem Ko(f:Nat): ∀(y:aG) (mark aC:Int),(BX f y mark aC).c=y.c:=by
 induction f with
 | zero=>intro y c d;rfl
 | succ f a =>
  intro y c d;unfold BX;split
  ·rfl
  exact a _ _ _
end
section
attribute [local go_sem ↓] AH Bs
attribute [local go_sem] AI Bt A3 A4 AJ AL B8 B9 Bd B2
def BF: cV->List aO->cV
 | s,[]=>s
 | s,o::r=>BF (BP s o).1 r
theorem Xi(s:cV)(l:List aO)(o:aO): BF s (l++[o])=(BP (BF s l) o).1:=by
 induction l generalizing s with
 | nil=>rfl
 | cons c l a=>exact a _
theorem Qz{n:Int}{s:cV}(l:List aO)(a:bZ n s.clock s.aC s.xs)(d:0<=n): bZ (n+l.length) (BF s l).clock (BF s l).aC (BF s l).xs:=by
 induction l generalizing s n with
 | nil=>simpa[BF] using a
 | cons c l e =>
  have:=e (X5 c a d) (by omega);rw[iD,show n+((l.length+1:Nat):Int)=n+1+(l.length:Int) by omega];exact this
theorem RF: bZ 0 Br.clock Br.aC Br.xs:=⟨by simp[Br],by simp[Br],by simp[Br],by simp[Br],by simp[Br],λc a=>by simp[Br]at a,λc a=>by simp[Br]at a⟩
theorem Gi{w:World}{v:Value}{k:List aO}(m:bG w v k): ∃e i,v=.slice e k.length i/\∀a c,k[a]?=some c->∃d h,e=some ⟨d,h,none⟩/\d<w.heap.size/\w.rangeAt d (h+a*26) c.cells:=by
 rcases m with ⟨⟨e,l,rfl⟩,rfl⟩ | ⟨d,h,i,rfl,_,n,o⟩
 ·exact⟨e,l,rfl,λa c j=>by simp at j⟩
 exact⟨_,i,rfl,λa c j=>⟨d,h,rfl,o,n a c j⟩⟩
theorem GK{w wr:World}{a c:Nat}{o:aO}(d:w.rangeAt a c o.cells)(j:a<w.heap.size)(i:lX w wr): Ap wr a c 26=.agg o.cells.toArray/\Az wr a c 26=true:=by
 have h:=D4 d;have e:=Cf (o:=c) (n:=26) i id j;refine⟨?_,by rw[e.2];exact h.2⟩;rw[e.1];unfold Ap;have:=h.1;rw[show o.cells.length=26 from rfl]at this;rw[this]
theorem WK(v:Value)(c:List aO)(w:World)(M:bG w v c)(hlen:c.length<=651562446090):
  Calls prog 29 #[v] w λQ R=>∃h j e,Q=.returned (π h)/\aZ R h j (BF Br c).clock (BF Br c).aC e/\e.map (·.2)=(BF Br c).xs/\lX w R/\(∀d,bH h j e d->w.heap.size<=d):=by
 obtain⟨al,am,rfl,N⟩:=Gi M;have Z:=Aa N;clear M N;generalize J:c.length=o at *
 have s:=Aa J;clear J;go_enter func29,ntmps29;go_wp2_with fail
 have D:aD (w.alloc (.cells #[ι 0,ι 0,.slice none 0 0] 105)) w.heap.size [ι 0,ι 0,.slice none 0 0] 105:=aD.new w [ι 0,ι 0,.slice none 0 0] 105;have S:=Aa (show aZ (w.alloc (.cells #[ι 0,ι 0,.slice none 0 0] 105)) w.heap.size (.slice none 0 0) 0 0 [] from⟨D,iy _ _ _ _,λp n=>by simp at n,ν,by simp[Value.ownBlock],λp n=>by simp at n⟩);have W:=Aa ((aA.refl (λ_=>False) w).alloc (.cells #[ι 0,ι 0,.slice none 0 0] 105));clear D;generalize w.alloc (.cells #[ι 0,ι 0,.slice none 0 0] 105)=av at *
 generalize E:w.heap.size=h at *
 have l:=Aa E;clear E;go_loopw [4] (λd wr=>∃(a:Nat) (j:Value) (e:List (RB×aG)),a<=o/\d=ι a/\Hid (aZ wr h j (BF Br (c.take a)).clock (BF Br (c.take a)).aC e)/\Hid (e.map (·.2)=(BF Br (c.take a)).xs)/\Hid (lX w wr)/\Hid (∀d,bH h j e d->h<=d)) (λd _=>o-(intOf d).toNat)
 case atStart =>
  refine⟨0,.slice none 0 0,[],by omega,rfl,S,rfl,W,λd i=>?_⟩;rcases i with i | i | ⟨p,n,_⟩
  ·omega
  ·simp[Value.ownBlock]at i
  simp at n
 case round =>
  obtain⟨a,j,e,an,rfl,x,t,q,r⟩:=hrel;by_cases af:a<o
  ·obtain⟨k,u⟩:∃k,c[a]?=some k:=⟨c[a]'(by rw[s.o];exact af),h9 _⟩;have Y:=Aa u;obtain⟨ar,au,ab,I,L⟩:=Z.o a k u;rw[<-l.o]at I;obtain⟨ai,ad⟩:=GK L (by have:=l.o;omega) q.o;subst ab;have ao:(0:Int)<=(a:Int):=by omega
   have ap:(a:Int)<(o:Int):=by omega
   have H:(c.take a).length=a:=by rw[iG,s.o];omega
   have hinv:bZ (a:Int) (BF Br (c.take a)).clock (BF Br (c.take a)).aC (e.map (·.2)):=by
    have:=Qz (c.take a) RF (by omega);rw[H]at this;rw[t.o];simpa using this
   have V:=Aa hinv;clear u L H hinv;go_wp2_with fail
   refine(P7 a h j _ _ e k wr x.o V.o (by omega)).mono ?_;rintro Q aw ⟨aq,rfl,_,ak,aj,m,P,G,F⟩;have T:=Aa m;have aa:=Aa P;have X:=Aa G;have U:=Aa F;clear m P G F ai ad;unfold Aw;go_wp2;go_roundw;case rel =>
    have O:BF Br (c.take (a+1))=(BP (BF Br (c.take a)) k).1:=by
     rw[ji,Y.o];exact Xi Br (c.take a) k
    have ag:(⟨(BF Br (c.take a)).clock,(BF Br (c.take a)).aC,e.map (·.2)⟩:cV)=BF Br (c.take a):=by
     rw[t.o]
    have m:=T.o;have C:=aa.o;rw[ag]at m C;refine⟨a+1,ak,aj,by omega,by go_num,by rw[O];exact m,by rw[O];exact C,?_,λd i=>?_⟩
    ·exact q.o.trans X.o (λd i I=>by have:=r.o d i;have:=l.o;omega)
    rcases U.o d i with z | z
    ·exact r.o d z
    have:=q.o.size;have:=l.o;omega
   case measure=>simp[intOf];omega
  have ae:a=o:=by omega
  subst ae;go_wp2;go_ret;have ah:c.take a=c:=iw (by rw[s.o];exact ir _);have A:=x.o;have B:=t.o;rw[ah]at A B;exact⟨h,j,e,rfl,A,B,q.o,by rw[l.o];exact r.o⟩
end
section
structure dG (x:aJ) (y:aG):Prop where
 id:x.id=y.id
 c:x.c=y.c
 kind:x.c.kind=x.k
 acc:x.acc=y.items.length
 rel:x.rel=(Bb y.items).length
 wait:(x.l.map (·.t)).Perm (Aq y.items)
 heap:bE x.l
 tick:∀z,z∈y.items->0<=z.tick
 refs:∀j,j<12->Ac x.ref j=Ac y.ref j
 xr:x.ref.length=12
 yr:y.ref.length=15
 sum:x.k=4->x.nt.q*2305843009213693952+x.nt.r=Dy (λt=>As (Am x.c t)) (Bb y.items)
 r0:0<=x.nt.r
 r1:x.nt.r<2305843009213693952
 gE:x.k=1->x.nt.bs=A5 y.c y.events
def cW: List aJ->List aG->Prop
 | [],[]=>True
 | x::xs,y::ys=>dG x y/\cW xs ys
 | _,_=>False
theorem cW.length{c:List aJ}{a:List aG}(d:cW c a): c.length=a.length:=by
 induction c generalizing a with
 | nil=>cases a with | nil=>rfl | cons y a=>exact d.elim
 | cons h c e=>cases a with | nil=>exact d.elim | cons y a=>simp[e d.2]
theorem cW.append{d:List aJ}{a:List aG}(c:cW d a){x:aJ}{y:aG}(e:dG x y): cW (d++[x]) (a++[y]):=by
 induction d generalizing a with
 | nil=>cases a with | nil=>exact⟨e,trivial⟩ | cons y a=>exact c.elim
 | cons x d h=>cases a with | nil=>exact c.elim | cons y a=>exact⟨c.1,h c.2⟩
theorem cW.find{e:List aJ}{a:List aG}(c:cW e a)(id:Int): (Ca e id=none/\EI a id=none)\/∃d y,Ca e id=some d/\EI a id=some y/\dG d y:=by
 unfold Ca EI;induction e generalizing a with
 | nil=>cases a with | nil=>exact .inl ⟨rfl,rfl⟩ | cons y a=>exact c.elim
 | cons d e h =>
  cases a with
  | nil=>exact c.elim
  | cons y a =>
   rw[kP,kP,<-c.1.id];cases (d.id==id) with
   | true=>exact .inr ⟨d,y,rfl,rfl,c.1⟩
   | false=>exact h c.2
theorem cW.hR{d:List aJ}{a:List aG}(c:cW d a)(id:Int){x':aJ}{e:aG}(h:dG x' e): cW (BD d id x') (Do a id e):=by
 induction d generalizing a with
 | nil=>cases a with | nil=>trivial | cons y a=>exact c.elim
 | cons j d i =>
  cases a with
  | nil=>exact c.elim
  | cons y a =>
   unfold BD Do;rw[<-c.1.id];cases (j.id==id) with
   | true=>exact⟨h,c.2⟩
   | false=>exact⟨c.1,i c.2⟩
theorem Yu(m:Int)(f:Nat): ∀a:aJ,a.l.length<f->bE a.l->0<=a.nt.r->a.nt.r<2305843009213693952 ->
  ∃d:List Int,(a.l.map (·.t)).Perm (d++(relS f a m).l.map (·.t))/\(∀c,c∈d->c<=m)/\(∀c,c∈(relS f a m).l.map (·.t)->m<c)/\bE (relS f a m).l /\
   (relS f a m).rel=a.rel+d.length/\(a.k=4->(relS f a m).nt.q*2305843009213693952+(relS f a m).nt.r=a.nt.q*2305843009213693952+a.nt.r+Dy (λc=>As (Am a.c c)) d) /\
   0<=(relS f a m).nt.r/\(relS f a m).nt.r<2305843009213693952/\(relS f a m).acc=a.acc/\(relS f a m).ref=a.ref:=by
 induction f with
 | zero=>intro a n;omega
 | succ f H =>
  intro a L h k l;unfold relS;split
  ·rename_i i;have F:a.l=[]:=kV.1 i;exact⟨[],jj _,by simp,by simp[F],h,by simp,λ_=>by simp[Dy],k,l,rfl,rfl⟩
  rename_i i;have o:a.l≠[]:=λn=>i (by rw[n];rfl);split
  ·rename_i E;refine⟨[],jj _,by simp,?_,h,by simp,λ_=>by simp[Dy],k,l,rfl,rfl⟩;intro c e;obtain⟨y,G,rfl⟩:=iI.1 e;have:=h.cE G;omega
  rename_i E;obtain⟨I,J⟩:=take_heap a.l h o;have hlen:(BS a m).l.length=a.l.length-1:=takeL_length _;have M:0<a.l.length:=jK.2 o;have q:0<=(BS a m).nt.r/\(BS a m).nt.r<2305843009213693952:=by
   show 0<=(BE a.k a.c a.nt (itAt a.l 0) m).r/\(BE a.k a.c a.nt (itAt a.l 0) m).r<2305843009213693952;unfold BE;split
   ·show 0<=_%_/\_%_<_;omega
   repeat (first | exact⟨k,l⟩ | split)
  obtain⟨d,t,v,w,x,z,A,B,C,D,u⟩:=H (BS a m) (by omega) I q.1 q.2;refine⟨(itAt a.l 0).t::d,?_,?_,w,x,?_,?_,B,C,D,u⟩
  ·have:=(J.map (·.t)).symm;refine this.trans ?_;rw[iF,θ];exact List.Perm.cons _ t
  ·intro c e;rcases iA.1 e with e | e
   ·omega
   exact v c e
  ·rw[z];show a.rel+1+(d.length:Int)=_;simp only[iD];omega
  intro j;have:=A j;have r:(BS a m).nt.q=a.nt.q+(a.nt.r+As (Am a.c (itAt a.l 0).t))/2305843009213693952:=by
   show(BE a.k a.c a.nt (itAt a.l 0) m).q=_;unfold BE;rw[ij j]
  have s:(BS a m).nt.r=(a.nt.r+As (Am a.c (itAt a.l 0).t))%2305843009213693952:=by
   show(BE a.k a.c a.nt (itAt a.l 0) m).r=_;unfold BE;rw[ij j]
  rw[this,r,s];show _+Dy (λc=>As (Am a.c c)) d=_;simp only[Dy];omega
theorem VS(m:Int){T W R d:List Int}(o:T.Perm W)(q:T.Perm (R++d))(i:∀a,a∈R->a<=m)(h:∀a,a∈d->m<a):
  (W.filter (λa=>decide (a<=m))).Perm R/\(W.filter (λa=>decide (m<a))).Perm d:=by
 have e:=o.symm.trans q;have j:R.filter (λa=>decide (a<=m))=R:=kf.2 (λa c=>by simpa using i a c);have k:d.filter (λa=>decide (a<=m))=[]:=jQ.2 (λa c=>by have:=h a c;simp;omega);have l:R.filter (λa=>decide (m<a))=[]:=jQ.2 (λa c=>by have:=i a c;simp;omega);have n:d.filter (λa=>decide (m<a))=d:=kf.2 (λa c=>by simpa using h a c);constructor
 ·have:=e.filter (λa=>decide (a<=m));rw[jo,j,k,iC]at this;exact this
 have:=e.filter (λa=>decide (m<a));rw[jo,l,n,jv]at this;exact this
theorem Y0(clock aC:Int)(I:0<aC)(x:aJ)(y:aG)(a:dG x y): dG (AS clock x) (Bl clock aC y):=by
 unfold AS Bl;rw[<-a.c];obtain⟨d,B,C,l⟩:=L0 (clock-x.c.aL) aC (by omega) (y.items.length+1) y (by have:=EC y.items;omega);obtain⟨H,n,o,q,r,s,t,u,v,w,i⟩:=Yu (clock-x.c.aL) (x.l.length+1) x (by omega) a.heap a.r0 a.r1;obtain⟨e,h,E⟩:=Fx (x.l.length+1) x (clock-x.c.aL);obtain⟨m,F⟩:=VS (clock-x.c.aL) a.wait n o q;have j:=WH (clock-x.c.aL) aC (by omega) y.items;refine⟨by rw[E,B];exact a.id,by rw[h,C];exact a.c,by rw[h,e];exact a.kind,?_,?_,?_,r,?_,?_,by rw[i];exact a.xr,by rw[l];exact a.yr,?_,u,v,?_⟩
 ·rw[w,d,iu];exact a.acc
 ·rw[s,d,j.length_eq,ic,m.length_eq,a.rel];simp
 ·rw[d,Wv _ _ (by omega)];exact F.symm
 ·intro J k;rw[d]at k;obtain⟨G,A,rfl⟩:=iI.1 k;unfold BG;split
  ·show 0<=aC;omega
  exact a.tick G A
 ·intro D z;rw[i,l];exact a.refs D z
 ·intro c;rw[e]at c;rw[t c,h,d,P9 _ j,Ud,P9 _ m,a.sum c]
 intro c;rw[e]at c;have:=T3 clock aC (by omega) x y c a.c a.heap a.wait (a.gE c);unfold AS Bl at this;rw[<-a.c]at this;exact this
theorem ZK(b:Int)(d:1<=b)(n:Nat): ∀(p v:Int),1<=p->Bo b n p=some v->1<=v:=by
 induction n with
 | zero=>intro p v c a;simp[Bo]at a;omega
 | succ n e =>
  intro p v c a;unfold Bo at a;split at a
  ·cases a
  refine e _ v ?_ a;have:=kT c d (by omega) (by omega);omega
theorem Xa(c:Cfg)(t v:Int)(a:Am c t=some v): 1<=v:=by
 unfold Am at a;split at a
 ·cases a
 split at a
 ·exact ZK _ (by omega) _ 1 v (by omega) a
 split at a
 ·cases a
 rename_i d e h;have:=G0 ((t-c.mark)/c.half).toNat (by omega);injection a with a;omega
theorem Vf(c:Cfg)(t:Int): (As (Am c t)=0)↔Am c t=none:=by
 cases h:Am c t with
 | none=>simp[As]
 | some a =>
  have d:1<=a:=Xa c t a h;simp[As];omega
theorem Xg(c:Cfg)(k:Nat)(o:aO)(a:Int)(j:c.kind=k)(m:1<=k)(n:k<=5)(h:Ab o.a 0 4611686018427387904=true):
  (if AP c k o.item≠0 then AP c k o.item else a)=(if FT c o.a=0 then 8 else if (He c&&!Ab o.b 0 2147483648)=true then 10 else if (c.kind==5&&!Ab o.c 1 2147483648)=true then 9 else a):=by
 have d:=Vf c o.a;have i:k=1\/k=2\/k=3\/k=4\/k=5:=by omega
 unfold FT He;rw[h,j];rcases i with e | e | e | e | e <;> subst e
 ·show(if (0:Int)≠0 then 0 else a)=_;simp
 ·show(if Dx o.item≠0 then Dx o.item else a)=_;unfold Dx aO.item;cases Ab o.b 0 2147483648 <;> simp
 ·show(if Dx o.item≠0 then Dx o.item else a)=_;unfold Dx aO.item;cases Ab o.b 0 2147483648 <;> simp
 ·show(if E1 c o.item≠0 then E1 c o.item else a)=_;unfold E1 aO.item;simp only;cases hq:Am c o.a with
  | none=>simp[As]
  | some l=>rw[hq]at d;simp[As]at d ⊢;simp[d]
 show(if EF c o.item≠0 then EF c o.item else a)=_;unfold EF aO.item;simp only;cases hq:Am c o.a with
 | none=>simp[As]
 | some l =>
  rw[hq]at d;simp[As]at d ⊢;cases Ab o.b 0 2147483648 <;> cases Ab o.c 1 2147483648 <;> simp[d]
theorem XX(x:aJ)(y:aG)(clock:Int)(o:aO)(d:dG x y)(h:1<=x.k)(i:x.k<=5)(k:x.acc<4611686018427387904): bO x clock o.item=Cp y clock o:=by
 have j:x.l.length=(Aq y.items).length:=by have:=d.wait.length_eq;simpa using this
 unfold bO Cp;rw[<-d.c,<-j];rw[ig (show ¬4611686018427387904<=x.acc by omega)];show(if Ab o.a 0 4611686018427387904=true then if o.a<=clock-x.c.aL then 6 else if clock+x.c.bF<o.a then 7 else if AP x.c x.k o.item≠0 then AP x.c x.k o.item else if x.c.cap<=x.l.length then 11 else 0 else 5)=_;by_cases a:Ab o.a 0 4611686018427387904=true
 ·rw[ij a,ij a];by_cases c:o.a<=clock-x.c.aL
  ·rw[ij c,ij c]
  rw[ig c,ig c];by_cases e:clock+x.c.bF<o.a
  ·rw[ij e,ij (show clock<o.a-x.c.bF by omega)]
  rw[ig e,ig (show ¬clock<o.a-x.c.bF by omega)];exact Xg x.c x.k o _ d.kind h i a
 rw[ig a,ig a]
structure fY (s:WS) (r:cV):Prop where
 clock:s.clock=r.clock
 aC:0<=r.aC
 xs:cW s.xs r.xs
 kinds:∀x,x∈s.xs->1<=x.k/\x.k<=5
 bX:s.xs.length<=6
def IK(o:aO): Prop:=o.kind≠4/\o.kind≠6/\o.kind≠7
theorem zMa(id:Int)(c:Cfg)(i:0<=c.kind): dG (AT id c c.kind.toNat) (CP id c):=by
 refine⟨rfl,rfl,?_,rfl,rfl,jj _,?_,?_,?_,rfl,rfl,?_,iL _,by show(0:Int)<_;omega,λ_=>rfl⟩
 ·show c.kind=(c.kind.toNat:Int);omega
 ·intro k _ e;exact absurd e (by simp[AT])
 ·intro l h;simp[CP]at h
 ·intro a j;have d:a=0\/a=1\/a=2\/a=3\/a=4\/a=5\/a=6\/a=7\/a=8\/a=9\/a=10\/a=11:=by omega
  rcases d with rfl | rfl | rfl | rfl | rfl | rfl | rfl | rfl | rfl | rfl | rfl | rfl <;> rfl
 intro _;rfl
theorem zLw(x:aJ)(y:aG)(o:aO)(a:dG x y): dG (cD x o.item) (Fh y o):=by
 obtain⟨h,i⟩:=put_heap x.l (Ah o.item (x.acc+1)) a.heap;have e:Aq (Fh y o).items=Aq y.items++[o.a]:=by
  show Aq (y.items++[_])=_;unfold Aq;rw[jo,iB];rfl
 have d:Bb (Fh y o).items=Bb y.items:=by
  show Bb (y.items++[_])=_;unfold Bb;rw[jo,iB];simp
 refine⟨a.id,a.c,a.kind,?_,by rw[d];exact a.rel,?_,h,?_,a.refs,a.xr,a.yr,by rw[d];exact a.sum,a.r0,a.r1,a.gE⟩
 ·show x.acc+1=((y.items++[_]).length:Int);rw[ic,a.acc];simp
 ·rw[e];refine(i.map (·.t)).trans ?_;rw[iF];exact(List.Perm.cons _ a.wait).trans (ka _ _).symm
 intro j c;rcases ik.1 c with c | c
 ·exact a.tick j c
 rw[im]at c;subst c;exact iL _
theorem zMu(x:aJ)(y:aG)(c:Nat)(a:dG x y)(k:c<12)(o:Ac x.ref c<4611686018427387904): dG (cG x c) (Hs y c):=by
 refine⟨a.id,a.c,a.kind,a.acc,a.rel,a.wait,a.heap,a.tick,?_,by simp[cG,a.xr],by simp[Hs,a.yr],a.sum,a.r0,a.r1,a.gE⟩;intro d l;have q:=a.xr;have r:=a.yr;have n:FG (Ac x.ref c+1) 4611686018427387904=Ac x.ref c+1:=by unfold FG;split <;> omega
 show Ac (x.ref.set c (FG (Ac x.ref c+1) 4611686018427387904)) d=Ac (y.ref.set c (Ac y.ref c+1)) d;rw[n];have j:∀(e:List Int) (i:Int),c<e.length->Ac (e.set c i) d=if c=d then i else Ac e d:=by
  intro e i m;unfold Ac;rw[γ,jI,γ];by_cases h:c=d
  ·subst h;simp[m]
  rw[ig h,ig h]
 rw[j _ _ (by omega),j _ _ (by omega),a.refs d l,a.refs c k]
theorem YD(c:Cfg)(l:List bA): ∀(hi lo:Int),(∀a,a∈l->0<=a.tick)->0<=lo->lo<2305843009213693952 ->
  (Dc c l hi lo).1*2305843009213693952+(Dc c l hi lo).2=hi*2305843009213693952+lo+Dy (λr=>As (Am c r)) (Bb l)/\0<=(Dc c l hi lo).2/\(Dc c l hi lo).2<2305843009213693952:=by
 induction l with
 | nil=>intro hi lo _ e h;exact⟨by simp[Dc,Bb,Dy],e,h⟩
 | cons a l o =>
  intro hi lo j e h;have s:=j a (by simp);unfold Dc;split
  ·rename_i q;obtain⟨k,m,n⟩:=o (hi+As (Am c a.t)/2305843009213693952+(lo+As (Am c a.t)%2305843009213693952)/2305843009213693952) ((lo+As (Am c a.t)%2305843009213693952)%2305843009213693952) (λy i=>j y (by simp[i])) (by omega) (by omega);refine⟨?_,m,n⟩;have d:Bb (a::l)=a.t::Bb l:=by
    unfold Bb;rw[iY];have:(a.tick==0)=false:=by simp;omega
    simp[this]
   rw[k,d];simp only[Dy];omega
  rename_i q;obtain⟨k,m,n⟩:=o hi lo (λy i=>j y (by simp[i])) e h;refine⟨?_,m,n⟩;have d:Bb (a::l)=Bb l:=by
   unfold Bb;rw[iY];have:a.tick=0:=by omega
   simp[this]
  rw[k,d]
theorem Ze(a b:Int)(x:aJ)(y:aG)(c:dG x y)(e:x.k=1): dG (Dz a b x) (F9 a b y)/\Ev a b x=min (Cb a y) b/\EJ a b x=Cb a y-min (Cb a y) b:=by
 have i:DO x.c x.nt.bs (a-x.c.aL) b=min (Cb a y) b:=by
  unfold DO Cb;rw[c.gE e,c.c]
 have d:Bj x.k x.c x.nt (a-x.c.aL) b=({ x.nt with bs:=x.nt.bs.drop (min (Cb a y) b).toNat },min (Cb a y) b,Cb a y-min (Cb a y) b):=by
  unfold Bj;rw[ij e,i];have:(pastN x.nt.bs (a-x.c.aL-x.c.aB):Int)=Cb a y:=by unfold Cb;rw[c.gE e,c.c]
  rw[this]
 refine⟨?_,by unfold Ev;rw[d],by unfold EJ;rw[d]⟩;refine⟨c.id,c.c,c.kind,c.acc,c.rel,c.wait,c.heap,c.tick,c.refs,c.xr,c.yr,λh=>?_,?_,?_,λ_=>?_⟩
 ·have j:x.k=4:=h;omega
 ·show 0<=(Bj x.k x.c x.nt (a-x.c.aL) b).1.r;rw[d];exact c.r0
 ·show(Bj x.k x.c x.nt (a-x.c.aL) b).1.r<_;rw[d];exact c.r1
 show(Bj x.k x.c x.nt (a-x.c.aL) b).1.bs=A5 y.c (y.events++[⟨0,0,true,min (Cb a y) b⟩]);rw[d];unfold A5;rw[jV];show x.nt.bs.drop _=_;rw[c.gE e];rfl
theorem Z7(a i:Int)(z:0<i): ∀(h:List aJ) (d:List aG) (b:Int),cW h d->0<=b->cW (Bw a b (h.map (AS a))).1 (BA a i b d).1/\(Bw a b (h.map (AS a))).2=(BA a i b d).2:=by
 intro h;induction h with
 | nil=>intro d b e _;cases d with | nil=>exact⟨trivial,rfl⟩ | cons y d=>exact e.elim
 | cons c h r =>
  intro d b e v;cases d with
  | nil=>exact e.elim
  | cons y d =>
   have q:=Y0 a i z c y e.1;have x:=(Fx (c.l.length+1) c (a-c.c.aL)).1;have o:(AS a c).k=c.k:=x;have n:(y.c.kind=1)↔c.k=1:=by rw[<-e.1.c,e.1.kind];omega
   rw[iF];simp only[Bw,BA];by_cases j:c.k=1
   ·obtain⟨A,B,C⟩:=Ze a b _ _ q (by rw[o];exact j);rw[ij (n.2 j),B,C];obtain⟨l,m⟩:=r d (b-min (Cb a (Bl a i y)) b) e.2 (by omega);exact⟨⟨A,l⟩,by rw[m]⟩
   have k:(AS a c).k≠1:=by rw[o];exact j
   have s:Dz a b (AS a c)=AS a c:=by unfold Dz Bj;rw[ig k]
   have t:EJ a b (AS a c)=0:=by unfold EJ Bj;rw[ig k]
   have u:Ev a b (AS a c)=0:=by unfold Ev Bj;rw[ig k]
   rw[ig (λw=>j (n.1 w)),s,t,u,Int.sub_zero,Int.zero_add];obtain⟨l,m⟩:=r d b e.2 v;exact⟨⟨q,l⟩,m⟩
theorem P6(s:WS)(j:cV)(o:aO)(a:fY s j)(u:IK o){n:Int}(hi:bQ n s.clock s.xs)(N:n<4611686018427387904): (Ax s o).2=Hw j o/\fY (Ax s o).1 (EO j o):=by
 unfold Ax Hw EO BP;by_cases l:o.kind=1
 ·rw[ij l,ig (by omega),ij l,ig (by omega)];unfold Dk CU;have H:=a.xs.length;have F:(Ca s.xs o.id).isNone=(EI j.xs o.id).isNone:=by
   rcases a.xs.find o.id with ⟨e,b⟩ | ⟨c,y,e,b,_⟩ <;> rw[e,b] <;> rfl
  rw[F];split
  ·split
   ·rename_i I;rw[H];obtain⟨S,r,T,U,_,_⟩:=F2 I;by_cases w:j.xs.length<6
    ·rw[ij w,ig (by omega)];refine⟨rfl,a.clock,a.aC,a.xs.append (zMa _ _ (by omega)),λc h=>?_,?_⟩
     ·rcases ik.1 h with h | h
      ·exact a.kinds c h
      rw[im]at h;subst h;show 1<=o.cfg.kind.toNat/\o.cfg.kind.toNat<=5;omega
     show(s.xs++[_]).length<=6;rw[ic];simp;omega
    have L:=a.bX;rw[ig w,ij (by omega)];exact⟨rfl,a⟩
   exact⟨rfl,a⟩
  exact⟨rfl,a⟩
 rw[ig l];by_cases m:o.kind=2
 ·rw[ij m,ig (by omega),ig l,ij m,ig (by omega)];unfold C6 Fi;rcases a.xs.find o.id with ⟨e,b⟩ | ⟨c,y,e,b,i⟩
  ·rw[e,b];exact⟨rfl,a⟩
  rw[e,b];have r:=a.kinds c (jc e);have v:=hi.bD c (jc e);have E:=XX c y s.clock o i (by omega) (by omega) (by have:=v.dH;omega);simp only;rw[<-a.clock,<-E];split
  ·refine⟨by simp[i.acc],rfl,a.aC,a.xs.hR o.id (zLw c y o i),λk d=>?_,by show(BD _ _ _).length<=6;rw[Ke];exact a.bX⟩;rcases F4 d with d | d
   ·exact a.kinds k d
   subst d;exact r
  refine⟨rfl,rfl,a.aC,a.xs.hR o.id (zMu c y _ i (by have:=Jo c s.clock o.item;omega) (by
         have O:=Jo c s.clock o.item;have:=v.cN (Ac c.ref (bO c s.clock o.item).toNat) (by unfold Ac;rw[γ,h9 (by have:=v.bS;omega)];exact jk _)
         omega)),λk d=>?_,by show(BD _ _ _).length<=6;rw[Ke];exact a.bX⟩
  rcases F4 d with d | d
  ·exact a.kinds k d
  subst d;exact r
 rw[ig m];by_cases t:o.kind=3
 ·rw[ij t,ig (by omega),ig l,ig m,ij t,ig (by omega)];unfold DT Ix;rw[<-a.clock];have Q:=a.aC;split
  ·split
   ·rename_i D;obtain⟨C,_⟩:=Bu D;obtain⟨x,z⟩:=Z7 (Av s.clock o.a) (j.aC+1) (by omega) s.xs j.xs o.b a.xs C;refine⟨by rw[z],rfl,by show 0<=j.aC+1;omega,x,?_,by show(Bw _ _ _).1.length<=6;rw[NI,iu];exact a.bX⟩;refine Jk (P:=λk=>1<=k.k/\k.k<=5) _ (λb c h=>h) _ _ (λk d=>?_);obtain⟨c,h,rfl⟩:=iI.1 d;have r:=a.kinds c h;have:=(Fx (c.l.length+1) c (Av s.clock o.a-c.c.aL)).1;unfold AS;rw[this];exact r
   exact⟨rfl,a⟩
  exact⟨rfl,a⟩
 rw[ig t];rw[ig u.1];by_cases q:o.kind=5
 ·rw[ij q,ij q,ij (.inr q)];unfold E2 Ld;rcases a.xs.find o.id with ⟨e,b⟩ | ⟨c,y,e,b,i⟩
  ·rw[e,b];exact⟨rfl,a⟩
  rw[e,b];refine⟨?_,a⟩;have R:=EC y.items;have A:c.rel=(y.items.length:Int)-(Aq y.items).length:=by rw[i.rel];omega
  have B:AE.map (Ac c.ref)=AE.map (Ac y.ref):=jT λJ G=>i.refs J (by simp[AE]at G;omega);simp only[BM];rw[i.acc,A,B]
 rw[ig q,ig q,ig l,ig m,ig t];have M:=u.1;rw[ig u.2.1,ig u.2.2];refine⟨rfl,?_⟩;rw[ig (by omega)];exact a
def Lh(base:Nat)(w:World)(c:Int×List Int)(r:Ending)(w':World): Prop:=∃code aI nv,c=(code,aI)/\r=.returned (Aw code nv)/\w'.ownsRow w.heap.size 3 1 nv aI.length (ints aI)/\aA (λi=>base<=i) w w'
theorem Yx(base:Nat)(n:Int)(e:Nat)(v:Value)(clock aC:Int)(ps:List (RB×aG))(o:aO)(w:World)(a:aZ w e v clock aC ps)(hi:bZ n clock aC (ps.map (·.2)))(l:n<1099511627776):
  Calls prog 31 #[π e,o.val] w λj k=>Lh base w (Ld ⟨clock,aC,ps.map (·.2)⟩ o) j k:=by
 unfold Ld;rw[GF];cases hf:BL ps o.id with
 | none =>
  refine(Xb e v clock aC ps o w a (by have:=hi.bX;simp at this;omega) hf).mono ?_;rintro j k ⟨i,c,d,h⟩;exact⟨_,_,i,rfl,c,d,h.mono (λ_ _ a=>a.elim)⟩
 | some p =>
  refine(Ww n e v clock aC ps o w a hi l p hf).mono ?_;rintro j k ⟨i,c,d,h⟩;exact⟨_,_,i,rfl,c,d,h.mono (λ_ _ a=>a.elim)⟩
theorem ZQ(base:Nat)(n:Int)(e:Nat)(v:Value)(clock aC:Int)(ps:List (RB×aG))(o:aO)(w:World)(c:aZ w e v clock aC ps)(hi:bZ n clock aC (ps.map (·.2)))(m:n<1099511627776)(l:∀a,bH e v ps a->base<=a):
  Calls prog 32 #[π e,o.val] w λd h=>Lh base w (BP ⟨clock,aC,ps.map (·.2)⟩ o).2 d h:=by
 refine(P7 n e v clock aC ps o w c hi m).mono ?_;rintro d h ⟨q,i,j,s,r,_,_,k,_⟩;exact⟨_,_,q,rfl,i,j,k.mono (λa _ c=>l a c)⟩
def Ex(o:aO): Bool:=!(o.kind==4||o.kind==5)
theorem zMw(s:cV)(o:aO): EO s o=BF s ([o].filter Ex):=by
 unfold EO;by_cases a:o.kind=4\/o.kind=5
 ·rw[ij a];have c:(o.kind==4||o.kind==5)=true:=by simpa using a
  have d:Ex o=false:=by unfold Ex;rw[c];rfl
  rw[List.filter_cons_of_neg (by rw[d];simp)];rfl
 rw[ig a];have c:(o.kind==4||o.kind==5)=false:=by simpa using a
 have d:Ex o=true:=by unfold Ex;rw[c];rfl
 rw[List.filter_cons_of_pos d];rfl
theorem Va(s:cV)(a b:List aO): BF s (a++b)=BF (BF s a) b:=by
 induction a generalizing s with
 | nil=>rfl
 | cons e d c=>exact c _
structure RR (w:World) (base:Nat) (SV:Nat->List aO) (av:Value) (l:List cH) (sv:Value) (S:List aO) (tv:Value) (vs:List Value) (nv:Value) (aI:List Int):Prop where
 A:cC w base av l
 S:C0 w base sv S
 T:w.ownsRow base 22 1 tv vs.length vs
 P:w.ownsRow base 3 1 nv aI.length (ints aI)
 V:∀(j:Nat) u,vs[j]?=some u->C0 w base u (SV j)
 st:∀i,sv.ownBlock=some i->tv.ownBlock≠some i/\¬CG av l i
 tt:∀i,tv.ownBlock=some i->¬CG av l i
 pd:∀i,nv.ownBlock=some i->sv.ownBlock≠some i/\tv.ownBlock≠some i/\¬CG av l i
 vd:∀u,u∈vs->∀i,u.ownBlock=some i->sv.ownBlock≠some i/\tv.ownBlock≠some i/\av.ownBlock≠some i
 nb:∀x,x∈l->x.bs=Ai
section
variable {w w':World} {base:Nat} {SV:Nat->List aO} {av av':Value} {l:List cH} {sv sv':Value} {S S':List aO} {tv tv':Value} {vs:List Value} {nv:Value} {aI:List Int} {code:Int}
def Hy(av:Value)(l:List cH)(sv tv:Value)(vs:List Value)(nv:Value)(i:Nat): Prop:=CG av l i\/sv.ownBlock=some i\/tv.ownBlock=some i\/nv.ownBlock=some i\/∃u,u∈vs/\u.ownBlock=some i
theorem RR.keeps{M:Nat->Prop}(c:RR w base SV av l sv S tv vs nv aI)(e:aA M w w')(h:∀a,Hy av l sv tv vs nv a->¬M a): RR w' base SV av l sv S tv vs nv aI :=
 ⟨c.A.keeps e (λa d=>h a (.inl d)),An c.S e (λa d=>h a (.inr (.inl d))),An c.T e (λa d=>h a (.inr (.inr (.inl d)))),An c.P e (λa d=>h a (.inr (.inr (.inr (.inl d))))),λk j i=>An (c.V k j i) e (λa d=>h a (.inr (.inr (.inr (.inr ⟨j,iz i,d⟩))))),c.st,c.tt,c.pd,c.vd,c.nb⟩
theorem RR.still(a:RR w base SV av l sv S tv vs nv aI)(c:lX w w'): RR w' base SV av l sv S tv vs nv aI:=a.keeps c (λ_ _ a=>a)
theorem RR.lt(a:RR w base SV av l sv S tv vs nv aI)(i:Nat)(hi:Hy av l sv tv vs nv i): base<=i/\i<w.heap.size:=by
 rcases hi with hi | hi | hi | hi | ⟨h,d,hi⟩
 ·exact a.A.lt i hi
 ·exact a.S.lt i hi
 ·exact a.T.lt i hi
 ·exact a.P.lt i hi
 obtain⟨e,c⟩:=List.mem_iff_getElem?.1 d;exact(a.V e h c).lt i hi
theorem RR.hI(a:RR w base SV av l sv S tv vs (.slice none 0 0) [])(i:base<=w.heap.size)(k:lX w w')(h:w'.ownsRow w.heap.size 3 1 nv aI.length (ints aI)): RR w' base SV av l sv S tv vs nv aI:=by
 have d:=a.still k;refine⟨d.A,d.S,d.T,EQ h i,d.V,a.st,a.tt,λe j=>?_,a.vd,a.nb⟩;have m:=(h.lt e j).1;exact⟨λc=>by have:=(a.S.lt e c).2;omega,λc=>by have:=(a.T.lt e c).2;omega,λc=>by have:=(a.A.lt e c).2;omega⟩
theorem RR.steps(e:RR w base SV av l sv S tv vs nv aI)(k:aA (λa=>sv.ownBlock=some a) w w')(n:C0 w' base sv' S')(o:∀a,sv'.ownBlock=some a->sv.ownBlock=some a\/w.heap.size<=a): RR w' base SV av l sv' S' tv vs nv aI:=by
 have m:∀a,sv'.ownBlock=some a->(sv.ownBlock=some a\/¬Hy av l sv tv vs nv a):=λa c=>by
  rcases o a c with h | h
  ·exact .inl h
  exact .inr λd=>by have:=(e.lt a d).2;omega
 refine⟨e.A.keeps k (λa c d=>(e.st a d).2 c),n,An e.T k (λa c d=>(e.st a d).1 c),An e.P k (λa c d=>(e.pd a c).1 d),λq j i=>An (e.V q j i) k (λa c d=>(e.vd j (iz i) a c).1 d),λa c=>?_,e.tt,λa c=>⟨λd=>?_,(e.pd a c).2⟩,λj i a c=>⟨λd=>?_,(e.vd j i a c).2⟩,e.nb⟩
 ·rcases m a c with h | h
  ·exact e.st a h
  exact⟨λd=>h (.inr (.inr (.inl d))),λd=>h (.inl d)⟩
 ·rcases m a d with h | h
  ·exact(e.pd a c).1 h
  exact h (.inr (.inr (.inr (.inl c))))
 rcases m a d with h | h
 ·exact(e.vd j i a c).1 h
 exact h (.inr (.inr (.inr (.inr ⟨j,i,c⟩))))
theorem RR.saved{u:Value}(h:RR w base SV av l sv S tv vs nv aI)(m:aA (λa=>tv.ownBlock=some a) w w')(v:w'.ownsRow base 22 1 tv' (vs.length+1) (vs++[u]))(x:∀a,tv'.ownBlock=some a->tv.ownBlock=some a\/w.heap.size<=a)(t:C0 w base u (SV vs.length))(s:∀a,u.ownBlock=some a->sv.ownBlock≠some a/\tv.ownBlock≠some a/\av.ownBlock≠some a): RR w' base SV av l sv S tv' (vs++[u]) nv aI:=by
 have k:∀a,tv'.ownBlock=some a->(tv.ownBlock=some a\/¬Hy av l sv tv vs nv a/\u.ownBlock≠some a):=λa c=>by
  rcases x a c with e | e
  ·exact .inl e
  exact .inr ⟨λd=>by have:=(h.lt a d).2;omega,λd=>by have:=(t.lt a d).2;omega⟩
 refine⟨h.A.keeps m (λa c d=>h.tt a d c),An h.S m (λa c d=>(h.st a c).1 d),by rw[ic];exact v,An h.P m (λa c d=>(h.pd a c).2.1 d),λr j i=>?_,λa c=>⟨λd=>?_,(h.st a c).2⟩,λa c=>?_,λa c=>⟨(h.pd a c).1,λd=>?_,(h.pd a c).2.2⟩,λj i a c=>?_,h.nb⟩
 ·by_cases z:r<vs.length
  ·rw[iN z]at i;exact An (h.V r j i) m (λa c d=>(h.vd j (iz i) a c).2.1 d)
  have A:=(iq.1 i).1;rw[ic,jh]at A;obtain rfl:r=vs.length:=by omega
  have:u=j:=by simpa using i
  rw[<-this];exact An t m (λa c d=>(s a c).2.1 d)
 ·rcases k a d with e | e
  ·exact(h.st a c).1 e
  exact e.1 (.inr (.inl c))
 ·rcases k a c with e | e
  ·exact h.tt a e
  exact λd=>e.1 (.inl d)
 ·rcases k a d with e | e
  ·exact(h.pd a c).2.1 e
  exact e.1 (.inr (.inr (.inr (.inl c))))
 rcases ik.1 i with i | i
 ·obtain⟨n,o,q⟩:=h.vd j i a c;refine⟨n,λd=>?_,q⟩;rcases k a d with e | e
  ·exact o e
  exact e.1 (.inr (.inr (.inr (.inr ⟨j,i,c⟩))))
 rw[im]at i;subst i;obtain⟨n,o,q⟩:=s a c;refine⟨n,λd=>?_,q⟩;rcases k a d with e | e
 ·exact o e
 exact e.2 c
theorem RR.out(e:RR w base SV av l sv S tv vs nv aI)(m:aA (λa=>av.ownBlock=some a) w w')(u:w'.ownsRow base 39 3 av' (l.length+1) (CS l++[ι code,nv,.string Ai]))(v:∀a,av'.ownBlock=some a->av.ownBlock=some a\/w.heap.size<=a):
  RR w' base SV av' (l++[⟨code,nv,aI,Ai⟩]) sv S tv vs (.slice none 0 0) []:=by
 have k:∀a,Hy av l sv tv vs nv a->av'.ownBlock=some a->av.ownBlock=some a:=λa c h=>by
  rcases v a h with i | i
  ·exact i
  have:=(e.lt a c).2;omega
 have q:∀a,CG av' (l++[⟨code,nv,aI,Ai⟩]) a->av'.ownBlock=some a\/CG av l a\/nv.ownBlock=some a:=by
  intro a c;rcases c with c | ⟨j,d,c⟩
  ·exact .inl c
  rcases ik.1 d with d | d
  ·exact .inr (.inl (.inr ⟨j,d,c⟩))
  rw[im]at d;subst d;exact .inr (.inr c)
 refine⟨⟨?_,?_,?_⟩,An e.S m (λa c h=>(e.st a c).2 (.inl h)),An e.T m (λa c h=>e.tt a c (.inl h)),iy _ _ _ _,λx o n=>An (e.V x o n) m (λa c h=>(e.vd o (iz n) a c).2.2 h),λa c=>⟨(e.st a c).1,λh=>?_⟩,λa c h=>?_,λa c=>(by cases c),λo n a c=>?_,λj d=>?_⟩
 ·rw[N0,ic];exact u
 ·intro j d;rcases ik.1 d with d | d
  ·exact An (e.A.aI j d) m (λa c h=>e.A.apart j d a c h)
  rw[im]at d;subst d;exact An e.P m (λa c h=>(e.pd a c).2.2 (.inl h))
 ·intro j d a c h;rcases ik.1 d with d | d
  ·exact e.A.apart j d a c (k a (.inl (.inr ⟨j,d,c⟩)) h)
  rw[im]at d;subst d;exact(e.pd a c).2.2 (.inl (k a (.inr (.inr (.inr (.inl c)))) h))
 ·rcases q a h with i | i | i
  ·exact(e.st a c).2 (.inl (k a (.inr (.inl c)) i))
  ·exact(e.st a c).2 i
  exact(e.pd a i).1 c
 ·rcases q a h with i | i | i
  ·exact e.tt a c (.inl (k a (.inr (.inr (.inl c))) i))
  ·exact e.tt a c i
  exact(e.pd a i).2.1 c
 ·obtain⟨r,s,t⟩:=e.vd o n a c;exact⟨r,s,λh=>t (k a (.inr (.inr (.inr (.inr ⟨o,n,c⟩)))) h)⟩
 rcases ik.1 d with d | d
 ·exact e.nb j d
 rw[im]at d;subst d;rfl
end
end
section
theorem zPb: (prog.info? 22).map (λa=>(a.zero,a.size,a.bytes))=some (some (.slice none 0 0),1,24):=by kernel_rfl
theorem LM{w w':World}{row:Option Nat}(a:w.grownBy w' row): aA (λh=>row=some h) w w':=⟨a.os,a.tape,a.output,a.size,λi d e=>a.block i d (λc=>e c.symm)⟩
theorem Ru{gg n cap c:Nat}{v:Value}(d:v.ownBlock=some gg\/gg=c)(i:Nat)(hi:(Value.slice (some ⟨gg,0,none⟩) n cap).ownBlock=some i): v.ownBlock=some i\/c<=i:=by
 have:gg=i:=by simpa[Value.ownBlock] using hi
 subst this;rcases d with a | a
 ·exact .inl a
 exact .inr (by omega)
end
section
attribute [local go_sem ↓] AH Bs
attribute [local go_sem] AI Bt A3 A4 AJ AL B8 B9 Bd B2
def FR(s:cV)(o:aO): Int×List Int :=
 match EI s.xs o.id with
 | none=>(2,[])
 | some y =>
  if y.c.kind=1 then(if Ab o.a 1 y.c.aB=true then(0,[Fj (A5 y.c y.events) (s.clock-y.c.aL-o.a)]) else(13,[]))
  else if y.c.kind=2 then(if Ab o.a 1 y.c.aB=true then(0,CY y.c (2 ^ y.c.bits.toNat) (Bv y.items (s.clock-y.c.aL-o.a) (s.clock-y.c.aL))++[7*((2 ^ y.c.bits.toNat:Nat):Int)*((2 ^ y.c.bits.toNat:Nat):Int)*1099511627776/(10*CO (CY y.c (2 ^ y.c.bits.toNat) (Bv y.items (s.clock-y.c.aL-o.a) (s.clock-y.c.aL))))]) else(13,[]))
  else if y.c.kind=3 then(if Ab o.a 0 2147483648=true then(0,[Dl y.c (Bv y.items (Ff y.c (s.clock-y.c.aL)-1) (s.clock-y.c.aL)) o.a y.c.rows.toNat]) else(10,[]))
  else if y.c.kind=5 then(0,Hh y.c (Bv y.items (-1) (s.clock-y.c.aL)))
  else(0,[(Dc y.c y.items 0 0).1,(Dc y.c y.items 0 0).2,As (Am y.c (s.clock-y.c.aL))])
def Hu(s:cV)(o:aO): Int×List Int:=if o.kind=4 then FR s o else Hw s o
structure fX (clock:Int) (y:aG):Prop where
 keys:y.c.kind=2\/y.c.kind=3->∀z,z∈y.items->0<=z.k/\z.k<=2147483648
 gO:y.c.kind=5->∀z,z∈y.items->0<=z.d/\z.d<=2147483648
 fR:y.c.kind=5->∀q i,(B0 y.c (Bv y.items (-1) (clock-y.c.aL)) q i).1.length<=100
theorem zOc{w:World}{base g:Nat}{l:List Int}(a:aD w g (ints l) 3)(c:base<=g)(d:l.length<=1000): w.ownsRow base 3 1 (σ g l.length l.length) l.length (ints l) :=
 ⟨by simp[ints],.inr ⟨g,l.length,_,rfl,c,a,ir _,by unfold maxLen;omega,by simp[ints],by rw[Nat.mul_one,iw (by simp[ints])]⟩⟩
def eA(aI:List Int)(w:World)(r:Ending)(w':World): Prop:=∃nv,r=.returned nv/\w'.ownsRow w.heap.size 3 1 nv aI.length (ints aI)/\lX w w'
theorem eA.aF{w w':World}{a:Ending}{l:List Int}(j:l.length<=1000)(c:∃g,a=.returned (σ g l.length l.length)/\w.heap.size<=g/\aD w' g (ints l) 3/\lX w w'): eA l w a w':=by
 obtain⟨g,d,e,h,i⟩:=c;exact⟨_,d,zOc h e j,i⟩
theorem VE(n:Int)(clock aC:Int)(ps:List (RB×aG))(o:aO)(hi:bZ n clock aC (ps.map (·.2)))(Y:n<=651562446090)(p:RB×aG)(C:BL ps o.id=some p)(s:fX clock p.2):
  ∃code aI f i,FR ⟨clock,aC,ps.map (·.2)⟩ o=(code,aI)/\(code=0->∀d,bN d p.1 p.2->Calls prog f i d (eA aI d)) /\
   ((p.2.c.kind=1/\Ab o.a 1 p.2.c.aB=true/\code=0/\f=54/\i=#[π p.1.s,ι o.a,ι (clock-p.2.c.aL)])\/(p.2.c.kind=2/\Ab o.a 1 p.2.c.aB=true/\code=0/\f=55/\i=#[π p.1.s,ι o.a,ι (clock-p.2.c.aL)])\/(p.2.c.kind=3/\Ab o.a 0 2147483648=true/\code=0/\f=56/\i=#[π p.1.s,ι o.a,ι (clock-p.2.c.aL)])\/(p.2.c.kind=4/\True/\code=0/\f=57/\i=#[π p.1.s,ι (clock-p.2.c.aL)])\/(p.2.c.kind=5/\True/\code=0/\f=58/\i=#[π p.1.s,ι (clock-p.2.c.aL)]) \/
      (p.2.c.kind=1/\Ab o.a 1 p.2.c.aB=false/\code=13/\aI=[]/\True)\/(p.2.c.kind=2/\Ab o.a 1 p.2.c.aB=false/\code=13/\aI=[]/\True)\/(p.2.c.kind=3/\Ab o.a 0 2147483648=false/\code=10/\aI=[]/\True)):=by
 have D:=iK (f:=(·.2)) (jc C);have h:=hi.bD p.2 D;have W:=h.items;have U:=hi.c0;have V:=hi.c1;obtain⟨ab,ad,_,_,_,_⟩:=h.common;obtain⟨m,X,Z,aa,_,_⟩:=F2 h.valid;have N:p.2.c.kind=1\/p.2.c.kind=2\/p.2.c.kind=3\/p.2.c.kind=4\/p.2.c.kind=5:=by omega
 obtain⟨F,E⟩:∃F,FR ⟨clock,aC,ps.map (·.2)⟩ o=F:=⟨_,rfl⟩;rw[E];have e:=E;unfold FR at e;rw[GF,C]at e;simp only[ko]at e;have u:∀ {code:Int},code≠0->(code=0->∀d,bN d p.1 p.2->Calls prog 0 #[] d (eA [] d)):=λc a=>absurd a c;rcases N with a | a | a | a | a
 ·cases hw:Ab o.a 1 p.2.c.aB
  ·exact⟨13,[],0,#[],by rw[<-e,ij a,hw];rfl,u (by decide),.inr (.inr (.inr (.inr (.inr (.inl ⟨a,rfl,rfl,rfl,trivial⟩)))))⟩
  have t:=Ek (k:=1) h.valid a rfl;obtain⟨r,G⟩:=Bu hw;have B:=hi.bL p.2 D a;exact⟨0,_,_,_,by rw[<-e,ij a,hw];rfl,λ_ d c=>(SU p.1 p.2 o.a (clock-p.2.c.aL) d c ⟨t.1,t.2.1,t.2.2.1,t.2.2.2⟩ B.ok B.ts (by have z:=h.events;have A:=EC p.2.items;omega) r (by omega) (by omega) (by omega)).mono (λw x c=>eA.aF (l:=[_]) (by simp) c),.inl ⟨a,rfl,rfl,rfl,rfl⟩⟩
 ·rw[ig (by omega),ij a]at e;cases hw:Ab o.a 1 p.2.c.aB
  ·exact⟨13,[],0,#[],by rw[<-e,hw];rfl,u (by decide),.inr (.inr (.inr (.inr (.inr (.inr (.inl ⟨a,rfl,rfl,rfl,trivial⟩))))))⟩
  obtain⟨O,I,J,_,ae⟩:=FJ (k:=2) h.valid a rfl;obtain⟨r,G⟩:=Bu hw;have v:=s.keys (.inl a);exact⟨0,_,_,_,by rw[<-e,hw];rfl,λ_ d c=>(Ss p.1 p.2 o.a (clock-p.2.c.aL) _ d c O I J rfl (by omega) (λq j=>v q (kh.1 j).1) r (by omega) (by omega) (by omega)).mono (λw x ⟨T,z,A,h3⟩=>⟨T,z,by rw[ic,JZ];exact A,h3⟩),.inr (.inl ⟨a,rfl,rfl,rfl,rfl⟩)⟩
 ·rw[ig (by omega),ig (by omega),ij a]at e;cases hw:Ab o.a 0 2147483648
  ·exact⟨10,[],0,#[],by rw[<-e,hw];rfl,u (by decide),.inr (.inr (.inr (.inr (.inr (.inr (.inr ⟨a,rfl,rfl,rfl,trivial⟩))))))⟩
  obtain⟨P,Q,L,M,_⟩:=D5 (k:=3) h.valid a rfl;obtain⟨r,H⟩:=Bu hw;have v:=s.keys (.inr a);exact⟨0,_,_,_,by rw[<-e,hw];rfl,λ_ d c=>(Vt p.1 p.2 o.a (clock-p.2.c.aL) d c P Q L M (by omega) (λq j=>v q (kh.1 j).1) r H (by omega) (by omega)).mono (λw x c=>eA.aF (l:=[_]) (by simp) c),.inr (.inr (.inl ⟨a,rfl,rfl,rfl,rfl⟩))⟩
 ·rw[ig (by omega),ig (by omega),ig (by omega),ig (by omega)]at e;exact⟨0,_,_,_,e.symm,λ_ d c=>(T8 p.1 p.2 (clock-p.2.c.aL) d c (Ge (k:=4) h.valid a (by omega) (by omega)) (by omega) h.times (by omega) (by omega)).mono (λw x c=>eA.aF (l:=[_,_,_]) (by simp) c),.inr (.inr (.inr (.inl ⟨a,trivial,rfl,rfl,rfl⟩)))⟩
 rw[ig (by omega),ig (by omega),ig (by omega),ij a]at e;obtain⟨R,S⟩:=EA (k:=5) h.valid a rfl;exact⟨0,_,_,_,e.symm,λ_ d c=>VG p.1 p.2 (clock-p.2.c.aL) d c (Ge (k:=5) h.valid a (by omega) (by omega)) R S (by omega) (λq j=>⟨h.times q (kh.1 j).1,s.gO a q (kh.1 j).1⟩) (s.fR a),.inr (.inr (.inr (.inr (.inl ⟨a,trivial,rfl,rfl,rfl⟩))))⟩
theorem VZ(base:Nat)(n:Int)(e:Nat)(v:Value)(clock aC:Int)(ps:List (RB×aG))(o:aO)(w:World)(a:aZ w e v clock aC ps)(hi:bZ n clock aC (ps.map (·.2)))(au:n<=651562446090)(T:∀y,y∈ps.map (·.2)->fX clock y):
  Calls prog 30 #[π e,o.val] w λi B=>Lh base w (FR ⟨clock,aC,ps.map (·.2)⟩ o) i B:=by
 have ap:ps.length<=1000:=by have:=hi.bX;rw[iu]at this;omega
 have al:o.cells[1]?=some (ι o.id):=rfl;have am:=hi.c0;have an:=hi.c1;have ae:=Aa a;have ao:BL ps o.id=none\/∃p,BL ps o.id=some p:=by cases BL ps o.id;exact .inl rfl;exact .inr ⟨_,rfl⟩
 have J:=Aa hi;have ag:=Aa T;have ak:=Aa (show BL ps o.id=none->FR ⟨clock,aC,ps.map (·.2)⟩ o=(2,[]) from λd=>by unfold FR;rw[GF,d];rfl);clear a hi T;unfold aO.val;go_enter func30,ntmps30;go_wp2_with fail
 obtain⟨I,V,E,ah,P⟩:=CC w o.cells;have D:=Aa (ae.o.still E.o);rw[<-V];clear V;generalize z:w.heap.size=Z at *
 have M:=Aa z;clear z;refine(Gm e v clock aC o.id ps I D.o ap).mono ?_;rintro i q ⟨rfl,W⟩;rw[W];clear W q;rcases ao with d | ⟨p,d⟩
 ·rw[d];have G:=Aa (ak.o d);unfold Fy;go_wp2_with fail
  refine(JE 2 I).mono ?_;rintro i q ⟨rfl,h⟩;unfold Aw;have m:=Aa (P.o.keeps h id);have r:=Aa (E.o.then h);clear h;obtain⟨ay,az,a0,a1⟩:=m.o.three;go_wp2;refine Dj m.o (λl k=>by simp[results,results30,go_sem,k.c0,k.c1,k.c2,Aw]) rfl (λl u=>?_);have z:=M.o;exact⟨_,_,_,G.o,rfl,iy _ _ _ _,(r.o.trans u (λH hi aq=>by omega)).mono (λ_ _ a=>a.elim)⟩
 have x:=jc d;obtain⟨aw,ax,_,_,_,_⟩:=(J.o.bD p.2 (iK x)).common;obtain⟨code,aI,f,a4,U,S,av⟩:=VE n clock aC ps o J.o au p d (ag.o p.2 (iK x));have G:=Aa U;have ad:=Aa S;rw[d];clear U S;unfold Fy;have O:=Aa (D.o.bM p x);clear d x;go_wp2_with fail
 refine(J0 e p.1.s p.2.c.aL clock I (D.o.aF.cell rfl) (O.o.aF.cell rfl) aw ax am an).mono ?_;rintro i q ⟨rfl,h⟩;have F:=Aa (ah.o.keeps h id);have m:=Aa (P.o.keeps h id);have s:=Aa (O.o.still h);have r:=Aa (E.o.then h);clear h al;have Y:=F.o.c2;have aa:=s.o.aF.c1;have a2:=s.o.aF.c6;generalize ar:clock-p.2.c.aL=mark at *
 clear ar;rcases av with ⟨c,j,rfl,rfl,rfl⟩ | ⟨c,j,rfl,rfl,rfl⟩ | ⟨c,j,rfl,rfl,rfl⟩ | ⟨c,j,rfl,rfl,rfl⟩ | ⟨c,j,rfl,rfl,rfl⟩ | ⟨c,j,rfl,rfl,_⟩ | ⟨c,j,rfl,rfl,_⟩ | ⟨c,j,rfl,rfl,_⟩;all_goals as_aux_lemma =>
  rw[c]at aa;clear c;go_wp2_with fail
  go_region_held3 (λB=>B.cell? ⟨Z,2,none⟩=some (ι o.a)/\B.cell? ⟨p.1.s,6,none⟩=some (ι p.2.c.aB)) (go_keep)
   (first | (go_at_call 53;refine(EV _ _ _ _).mono ?_;rintro i l ⟨rfl,rfl⟩))
  have ai:=Aa (F.o.drew);have Q:=Aa (m.o.drew);have aj:=Aa (s.o.still ((aA.refl (λ_=>False) q).drew));have L:=Aa (r.o.drew);clear Y aa a2 F m s r;generalize q.drew=C at *
  have Y:=ai.o.c2;go_wp2_with fail
  refine(EV _ _ _ _).mono ?_;rintro i l ⟨rfl,X⟩;rw[X];clear X l;go_wp2_with fail
  first
   | (refine(ad.o (by first | rfl | trivial) C aj.o).mono ?_
      rintro i ab ⟨a8,rfl,A,t⟩
      obtain⟨a3,a5,rfl⟩:=BI A)
   | (refine(JE _ C).mono ?_
      rintro i ab ⟨rfl,t⟩;unfold Aw
      have A:=iy ab C.heap.size 3 1)
  have R:=Aa (Q.o.keeps t id);have af:=Aa (L.o.then t);have N:=Aa A;have a7:Z+1<C.heap.size:=Q.o.lt;clear t A;obtain⟨ay,az,a0,a1⟩:=R.o.three;go_wp2;refine Dj R.o (λl k=>by simp[results,results30,go_sem,k.c0,k.c1,k.c2,Aw]) rfl (λl u=>?_);have z:=M.o;have a6:=L.o.size;exact⟨_,_,_,G.o,rfl,EQ (An N.o u (λH hi a=>by have:=(N.o.lt H hi).1;omega)) (by omega),(af.o.trans u (λH hi aq=>by omega)).mono (λ_ _ a=>a.elim)⟩
end
section
theorem YA(m:Int)(f:Nat): ∀a:aJ,a.l.length<f->bE a.l->bE (relS f a m).l/\(relS f a m).c=a.c/\(relS f a m).k=a.k/\(relS f a m).id=a.id:=by
 induction f with
 | zero=>intro a d;omega
 | succ f n =>
  intro a q c;unfold relS;split
  ·exact⟨c,rfl,rfl,rfl⟩
  rename_i l;have e:a.l≠[]:=λd=>l (by rw[d];rfl);split
  ·exact⟨c,rfl,rfl,rfl⟩
  obtain⟨o,s⟩:=take_heap a.l c e;have hlen:(BS a m).l.length=a.l.length-1:=takeL_length _;have r:0<a.l.length:=jK.2 e;obtain⟨h,i,j,k⟩:=n (BS a m) (by omega) o;exact⟨h,i,j,k⟩
theorem Uc{c:Int}(e:List aJ): ∀(b:Int) (d:aJ),d∈(Bw c b e).1->∃y,y∈e/\∃h,d=Dz c h y:=by
 induction e with
 | nil=>intro b d a;simp[Bw]at a
 | cons l e k =>
  intro b d a;simp only[Bw]at a;rcases iA.1 a with a | a
  ·exact⟨l,by simp,b,a⟩
  obtain⟨y,j,i⟩:=k _ d a;exact⟨y,by simp[j],i⟩
theorem O8(c:Int)(a:List aJ): ∀b,(Bw c b a).1.map (·.id)=a.map (·.id):=by
 induction a with
 | nil=>intro b;rfl
 | cons e a d=>intro b;simp only[Bw,iF,d];rfl
theorem Kl{d:List aJ}{id:Int}{x:aJ}(e:Ca d id=some x): ∃a c,d=a++x::c/\x.id=id/\∀y:aJ,BD d id y=a++y::c:=by
 obtain⟨j,a,c,h,i⟩:=List.find?_eq_some_iff_append.1 e;refine⟨a,c,h,by simpa using j,λy=>?_⟩;subst h;clear e;induction a with
 | nil=>simp[BD];intro l;exact absurd (by simpa using j) l
 | cons k a o =>
  have m:=i k (by simp);simp only[θ,BD];rw[ig (by simpa using m),o (λq n=>i q (by simp[n]))]
theorem XV{x:aJ}{clock:Int}{y:It}(a:bO x clock y=0): clock-x.c.aL<y.t:=by
 unfold bO at a;split at a
 ·split at a
  ·omega
  omega
 omega
def EL: Cfg:=⟨0,0,0,0,0,0,0,0,0,0,0,0,0,0,0,0,0,0,0,0⟩
structure fJ (c:Cfg) (k:Nat) (y:It):Prop where
 t0:0<=y.t
 t1:y.t<=4611686018427387904
 fit:AP c k ⟨y.t,y.k,y.d,0⟩=0
structure eM (k:Nat) (P:Cfg->Int->aU->List It->Prop):Prop where
 zero:∀c m,Ak c=true->c.kind=k->P c m CH []
 later:∀c m m' nt R,Ak c=true->c.kind=k->m<=m'->P c m nt R->P c m' nt R
 rel:∀c m nt R y,Ak c=true->c.kind=k->P c m nt R->(∀r∈R,fJ c k r/\dI r y/\r.n≠y.n)->fJ c k y->y.t<=m->P c m (BE k c nt y m) (R++[y])
 fL:∀c m nt R b,Ak c=true->c.kind=k->P c m nt R->P c m (Bj k c nt m b).1 R
structure GS (P:Cfg->Int->aU->List It->Prop) (clock:Int) (x:aJ) (A:List It):Prop where
 heap:bE x.l
 wait:∀y∈x.l,clock-x.c.aL<y.t
 fW:∀y∈A,fJ x.c x.k y
 num:∀(i:Nat) (y:It),A[i]?=some y->y.n=(i:Int)+1
 acc:x.acc=(A.length:Int)
 whole:∃R,P x.c (clock-x.c.aL) x.nt R/\R.Pairwise dI/\(∀r∈R,r.t<=clock-x.c.aL)/\(R++x.l).Perm A
theorem OO{a:List It}(c:∀(i:Nat) (y:It),a[i]?=some y->y.n=(i:Int)+1): (a.map (·.n)).Nodup:=by
 refine List.pairwise_iff_getElem.2 (λi h d e l=>?_);rw[iu]at d e;rw[lk,lk];have j:=c i _ (h9 d);have k:=c h _ (h9 e);omega
theorem bE.fG{l:List It}(d:bE l){y:It}(e:y∈l): dI (itAt l 0) y:=by
 obtain⟨a,c,rfl⟩:=jX.1 e;have:=d.first a c
 rw[show itAt l a=l[a] by simp[itAt,List.getD_eq_getElem?_getD,h9 c]]at this;exact this
theorem ZW(f:Nat): ∀(x:aJ) (m:Int),(relS f x m).acc=x.acc:=by
 induction f with
 | zero=>intro x m;rfl
 | succ f a =>
  intro x m;unfold relS;split
  ·rfl
  split
  ·rfl
  exact a _ _
theorem zL0{k:Nat}{P:Cfg->Int->aU->List It->Prop}(G:eM k P)(m:Int)(f:Nat): ∀(x:aJ) (R:List It),x.l.length<f->bE x.l->Ak x.c=true->x.c.kind=k->x.k=k ->
  (∀y∈R++x.l,fJ x.c k y)->((R++x.l).map (·.n)).Nodup->P x.c m x.nt R->R.Pairwise dI->(∀a∈R,a.t<=m)->(∀a∈R,∀y∈x.l,dI a y) ->
  ∃h,P x.c m (relS f x m).nt h/\h.Pairwise dI/\(∀a∈h,a.t<=m)/\(h++(relS f x m).l).Perm (R++x.l)/\(∀y∈(relS f x m).l,m<y.t):=by
 induction f with
 | zero=>intro x R c;omega
 | succ f O =>
  intro x R X l D A B o L q t s u;unfold relS;split
  ·rename_i j;have N:x.l=[]:=kV.1 j;exact⟨R,q,t,s,jj _,by rw[N];simp⟩
  rename_i j;have C:x.l≠[]:=λc=>j (by rw[c];rfl);split
  ·rename_i J;refine⟨R,q,t,s,jj _,λy d=>?_⟩;have:=l.cE d;omega
  rename_i J;obtain⟨W,i⟩:=take_heap x.l l C;have hlen:(BS x m).l.length=x.l.length-1:=takeL_length _;have Y:0<x.l.length:=jK.2 C;have r:((R++[itAt x.l 0])++takeL x.l).Perm (R++x.l):=by
   rw[ε];exact lf R i
  have v:itAt x.l 0∈x.l:=i.mem_iff.1 (by simp);have n:(((R++[itAt x.l 0])++takeL x.l).map (·.n)).Nodup:=(r.map (·.n)).nodup_iff.2 L;have I:∀y∈takeL x.l,dI (itAt x.l 0) y:=λy d=>l.fG (i.mem_iff.1 (by simp[d]))
  have M:=G.rel x.c m x.nt R (itAt x.l 0) D A q (λa e=>⟨o a (by simp[e]),u a e _ v,λF=>by
       have w:(((R++[itAt x.l 0])).map (·.n)).Nodup:=by
        rw[iB]at n;exact(jH.1 n).1
       rw[iB]at w
       exact(jH.1 w).2.2 a.n (iK e) (itAt x.l 0).n (by simp) F⟩) (o _ (by simp[v])) (by omega)
  obtain⟨h,Q,S,T,U,V⟩:=O (BS x m) (R++[itAt x.l 0]) (by omega) W D A B
   (λy d=>o y (r.mem_iff.1 d)) n (by
      show P x.c m (BE x.k x.c x.nt (itAt x.l 0) m) _
      rw[B];exact M)
   (jb.2 ⟨t,by simp,λE H b z=>by rw[im]at z;rw[z];exact u E H _ v⟩)
   (λa e=>by
      rcases ik.1 e with c | c
      ·exact s a c
      rw[im]at c;rw[c];omega)
   (λa e y d=>by
      rcases ik.1 e with c | c
      ·exact u a c y (i.mem_iff.1 (by simp[show y∈takeL x.l from d]))
      rw[im]at c;rw[c];exact I y d)
  exact⟨h,Q,S,T,U.trans r,V⟩
theorem zM2{k:Nat}{P:Cfg->Int->aU->List It->Prop}(m:eM k P){clock e:Int}{x:aJ}{l:List It}(a:GS P clock x l)(o:x.k=k)(n:x.c.kind=k)(r:Ak x.c=true)(G:clock<=e): GS P e (AS e x) l:=by
 obtain⟨s,w,v,q,j⟩:=a.whole;have d:=YA (e-x.c.aL) (x.l.length+1) x (by omega) a.heap;have u:(relS (x.l.length+1) x (e-x.c.aL)).acc=x.acc:=ZW _ _ _;obtain⟨t,z,A,B,C,D⟩:=zL0 m (e-x.c.aL) (x.l.length+1) x s (by omega) a.heap r n o
  (λy c=>by rw[<-o];exact a.fW y (j.mem_iff.1 c)) ((j.map (·.n)).nodup_iff.2 (OO a.num)) (m.later _ _ _ _ _ r n (by omega) w) v (λi h=>by have:=q i h;omega)
  (λi h y c=>.inl (by have E:=q i h;have F:=a.wait y c;omega))
 unfold AS;refine⟨d.1,λy c=>?_,λy c=>?_,a.num,?_,t,?_,A,λi h=>?_,C.trans j⟩
 ·rw[d.2.1];exact D y c
 ·rw[d.2.1,d.2.2.1];exact a.fW y c
 ·rw[u];exact a.acc
 ·rw[d.2.1];exact z
 rw[d.2.1];exact B i h
theorem ZN{k:Nat}{P:Cfg->Int->aU->List It->Prop}(h:eM k P){c b:Int}{x:aJ}{d:List It}(a:GS P c x d)(j:x.k=k)(i:x.c.kind=k)(o:Ak x.c=true): GS P c (Dz c b x) d:=by
 obtain⟨e,q,n,m,l⟩:=a.whole;refine⟨a.heap,a.wait,a.fW,a.num,a.acc,e,?_,n,m,l⟩;show P x.c (c-x.c.aL) (Bj x.k x.c x.nt (c-x.c.aL) b).1 e;rw[j];exact h.fL _ _ _ _ _ o i q
theorem zOz{P:Cfg->Int->aU->List It->Prop}{clock:Int}{x:aJ}{h:List It}(d:GS P clock x h)(y:It)(u:clock-x.c.aL<y.t)(o:fJ x.c x.k (Ah y (x.acc+1))): GS P clock (cD x y) (h++[Ah y (x.acc+1)]):=by
 obtain⟨j,t,s,r,q⟩:=d.whole;obtain⟨l,k⟩:=put_heap x.l (Ah y (x.acc+1)) d.heap;refine⟨l,λe a=>?_,λe a=>?_,λi e a=>?_,?_,j,t,s,r,?_⟩
 ·rcases iA.1 (k.mem_iff.1 a) with c | c
  ·rw[c];exact u
  exact d.wait e c
 ·rcases ik.1 a with c | c
  ·exact d.fW e c
  rw[im]at c;rw[c];exact o
 ·by_cases m:i<h.length
  ·rw[iN m]at a;exact d.num i e a
  rw[iO (by omega)]at a;have n:i-h.length=0:=by
   have:=(iq.1 a).1;simp at this;omega
  rw[n]at a;simp at a;rw[<-a];show x.acc+1=_;rw[d.acc];omega
 ·show x.acc+1=_;rw[d.acc,ic];simp
 refine(lf j k).trans (lh.trans ?_);exact(List.Perm.cons _ q).trans (ka _ _).symm
theorem zOs{k:Nat}{P:Cfg->Int->aU->List It->Prop}(d:eM k P)(clock id:Int)(c:Cfg)(m:Ak c=true)(e:c.kind=k)(j:Nat): GS P clock (AT id c j) [] :=
 ⟨λn _ h=>by simp[AT]at h,λq l=>by simp[AT]at l,λy a=>by simp at a,λn y a=>by simp at a,rfl,[],d.zero _ _ m e,ν,λo i=>by simp at i,jj _⟩
def DU(s:WS)(o:aO)(id:Int): List It:=if o.kind=2/\o.id=id/\(Ax s o).2.1=0 then[Ah o.item ((Ax s o).2.2.headD 0)] else[]
structure GW (k:Nat) (P:Cfg->Int->aU->List It->Prop) (s:WS) (A:Int->List It):Prop where
 ids:(s.xs.map (·.id)).Nodup
 none:∀id,id ∉ s.xs.map (·.id)->A id=[]
 bL:∀x,x∈s.xs->x.k=k->GS P s.clock x (A x.id)
theorem F5{s:WS}{o:aO}(a:o.kind≠2\/(Ax s o).2.1≠0)(id:Int): DU s o id=[]:=by
 unfold DU;rw[ig];rintro ⟨c,_,d⟩;rcases a with a | a
 ·exact a c
 exact a d
theorem R2{k:Nat}{P:Cfg->Int->aU->List It->Prop}{s:WS}{n B:Int->List It}(e:GW k P s n){id:Int}{x y:aJ}(A:Ca s.xs id=some x)(r:y.id=x.id)(o:∀d,d≠id->B d=n d)(t:y.k=x.k)(D:x.k=k->GS P s.clock x (n x.id)->GS P s.clock y (B id)): GW k P ⟨s.clock,BD s.xs id y⟩ B:=by
 obtain⟨G,H,i,l,w⟩:=Kl A;have u:(BD s.xs id y).map (·.id)=s.xs.map (·.id):=by
  rw[w,i];simp[r]
 have z:x∈s.xs:=by rw[i];simp
 refine⟨by show((BD s.xs id y).map _).Nodup;rw[u];exact e.ids,λd C=>?_,λa E m=>?_⟩
 ·have q:d ∉ s.xs.map (·.id):=by rw[<-u];exact C
  have j:d≠id:=λh=>q (by rw[h,<-l];exact iK z);rw[o d j];exact e.none d q
 have F:a∈G++y::H:=by rw[<-w];exact E
 have v:=e.ids;rw[i,iB,iF]at v;obtain⟨_,I,J⟩:=jH.1 v;have L:=(kA.1 I).1;rcases ik.1 F with c | c
 ·have j:a.id≠id:=λh=>J a.id (iK c) x.id (by simp) (by rw[h,l]);show GS P s.clock a (B a.id);rw[o _ j];exact e.bL a (by rw[i];simp[c]) m
 rcases iA.1 c with c | c
 ·subst c;show GS P s.clock a (B a.id);rw[r,l];exact D (by rw[<-t];exact m) (e.bL x z (by rw[<-t];exact m))
 have j:a.id≠id:=λh=>L (by rw[l,<-h];exact iK c);show GS P s.clock a (B a.id);rw[o _ j];exact e.bL a (by rw[i];simp[c]) m
theorem MZ{k:Nat}{P:Cfg->Int->aU->List It->Prop}(A:eM k P){n:Int}{s:WS}{l:Int->List It}(hi:bQ n s.clock s.xs)(c:GW k P s l)(o:aO)(X:o.kind≠7): GW k P (Ax s o).1 (λid=>l id++DU s o id):=by
 by_cases z:o.kind=1
 ·have i:=F5 (s:=s) (o:=o) (.inl (by omega));simp only[i,iC];unfold Ax;rw[ij z];unfold Dk;split
  ·rename_i I;split
   ·rename_i m;split
    ·have E:o.id ∉ s.xs.map (·.id):=λN=>by
      obtain⟨a,d,Q⟩:=iI.1 N;have:=I.2;unfold Ca at this;rw[Option.isNone_iff_eq_none,lB]at this;exact this a d (by simpa using Q)
     refine⟨?_,λid q=>?_,λa d v=>?_⟩
     ·show((s.xs++[AT o.id o.cfg o.cfg.kind.toNat]).map (·.id)).Nodup;rw[iB];refine jH.2 ⟨c.ids,by simp,λW i b e=>?_⟩;simp[AT]at e;subst e;exact λx=>E (by rw[<-x];exact i)
     ·exact c.none id (λx=>q (by show id∈(s.xs++[AT o.id o.cfg o.cfg.kind.toNat]).map (·.id);rw[iB];exact ik.2 (.inl x)))
     rcases ik.1 d with d | d
     ·exact c.bL a d v
     rw[im]at d;subst d;show GS P s.clock _ (l o.id);have D:=(OE (n:=0) o.id o.cfg m (by omega)).kind;have M:(AT o.id o.cfg o.cfg.kind.toNat).k=k:=v;rw[M]at D;rw[c.none o.id E];exact zOs A _ _ _ m D _
    exact c
   exact c
  exact c
 by_cases u:o.kind=2
 ·have j:Ax s o=C6 s o:=by unfold Ax;rw[ig z,ij u]
  cases hf:Ca s.xs o.id with
  | none =>
   have h:C6 s o=(s,2,[]):=by unfold C6;rw[hf]
   have i:=F5 (s:=s) (o:=o) (.inr (by rw[j,h];simp));simp only[i,iC];rw[j,h];exact c
  | some a =>
   by_cases r:bO a s.clock o.item=0
   ·have h:C6 s o=(⟨s.clock,BD s.xs o.id (cD a o.item)⟩,0,[a.acc+1]):=by unfold C6;rw[hf];simp only;rw[ij r]
    rw[j,h];refine R2 c hf rfl (λt O=>?_) rfl (λ_ e=>?_)
    ·show l t++DU s o t=l t;have:DU s o t=[]:=by unfold DU;rw[ig (λL=>O L.2.1.symm)]
     rw[this,iC]
    show GS P s.clock (cD a o.item) (l o.id++DU s o o.id);have:DU s o o.id=[Ah o.item (a.acc+1)]:=by unfold DU;rw[ij ⟨u,rfl,by rw[j,h]⟩,j,h];rfl
    rw[this];obtain⟨_,_,_,d,_⟩:=Kl hf;rw[d]at e;obtain⟨T,U,_,_,_,V,_⟩:=K3 r;exact zOz e o.item (XV r) ⟨T,U,V⟩
   have h:C6 s o=(⟨s.clock,BD s.xs o.id (cG a (bO a s.clock o.item).toNat)⟩,bO a s.clock o.item,[]):=by unfold C6;rw[hf];simp only;rw[ig r]
   have i:=F5 (s:=s) (o:=o) (.inr (by rw[j,h];exact r));simp only[i,iC];rw[j,h];refine R2 c hf rfl (λt _=>rfl) rfl (λ_ e=>?_);obtain⟨_,_,_,d,_⟩:=Kl hf;rw[d]at e;exact⟨e.heap,e.wait,e.fW,e.num,e.acc,e.whole⟩
 have i:=F5 (s:=s) (o:=o) (.inl u);simp only[i,iC];unfold Ax;rw[ig z,ig u];split
 ·unfold DT;split
  ·split
   ·have J:s.clock<=Av s.clock o.a:=by unfold Av;split <;> omega
    have C:((Bw (Av s.clock o.a) o.b (s.xs.map (AS (Av s.clock o.a)))).1.map (·.id))=s.xs.map (·.id):=by
     rw[O8,kk];refine jT λa _=>?_;exact(Fx _ _ _).2.2
    refine⟨by show List.Nodup _;rw[C];exact c.ids,λid q=>c.none id (by rw[<-C];exact q),λY S v=>?_⟩;obtain⟨y,R,H,rfl⟩:=Uc _ _ _ S;obtain⟨a,d,rfl⟩:=iI.1 R;have G:(AS (Av s.clock o.a) a).k=a.k:=(Fx _ _ _).1;have F:(AS (Av s.clock o.a) a).c=a.c:=(Fx _ _ _).2.1;have w:a.k=k:=by rw[<-G];exact v
    have m:=hi.bD a d;have B:a.c.kind=k:=by rw[m.kind,w]
    have q:(Dz (Av s.clock o.a) H (AS (Av s.clock o.a) a)).id=a.id:=(Fx _ _ _).2.2;rw[q];exact ZN A (zM2 A (c.bL a d w) w B m.valid J) (G.trans w) (by rw[F];exact B) (by rw[F];exact m.valid)
   exact c
  exact c
 split
 ·unfold Eb;split <;> exact c
 split
 ·unfold E2;split <;> exact c
 split <;> exact c
def DJ(cs:List Int)(j pl:Nat): Int:=cs.getD (j*16+pl) 0
def D1(f:It->Bool)(R:List It): Int:=((R.filter f).length:Int)
theorem Xz(f:It->Bool)(R:List It)(y:It): D1 f (R++[y])=D1 f R+if f y=true then 1 else 0:=by
 unfold D1;rw[jo,ic];by_cases a:f y=true
 ·rw[ij a,List.filter_cons_of_pos a];simp
 rw[ig a,List.filter_cons_of_neg a];simp
theorem PG{f:It->Bool}{R:List It}(c:∀a∈R,f a=false): D1 f R=0:=by
 unfold D1;rw[jQ.2 (λa d=>by rw[c a d];simp)];rfl
theorem YN{f:It->Bool}{R:List It}(c:D1 f R=0): ∀a∈R,f a=false:=by
 intro a d;unfold D1 at c;have:R.filter f=[]:=List.eq_nil_of_length_eq_zero (by omega);have:=jQ.1 this a d;simpa using this
theorem We{f g:It->Bool}{R:List It}(c:∀a∈R,f a=g a): D1 f R=D1 g R:=by
 unfold D1;rw[k7 c]
theorem zNs{f g e:It->Bool}{R:List It}(h:∀a∈R,e a=(f a||g a))(j:∀a∈R,¬(f a=true/\g a=true)): D1 e R=D1 f R+D1 g R:=by
 induction R with
 | nil=>rfl
 | cons a R i =>
  have i:=i (λc d=>h c (by simp[d])) (λc d=>j c (by simp[d]));have k:=h a (by simp);unfold D1 at *
  rw[iY,iY,iY];cases hf:f a <;> cases hg:g a <;> simp_all <;> omega
def DW(c:Cfg)(r:It): Int:=r.t/Ag c
def G6(c:Cfg)(j pl:Nat)(r:It): Bool:=decide (AA c r.k j=(pl:Int))
def Ei(c:Cfg)(R:List It)(no:Int)(j pl:Nat): Int:=D1 (λr=>decide (DW c r=no)&&G6 c j pl r) R
structure OG (c:Cfg) (m:Int) (o:Pa.Pn) (cl:List Pa.Pn) (R:List It):Prop where
 eH:cl.Pairwise (λa b=>a.no<b.no)
 lt:∀p∈cl,p.no<o.no
 ex:∀p,p∈cl\/p=o->∀(j pl:Nat),(j:Int)<c.rows->pl<16->DJ p.cs j pl=Ei c R p.no j pl
 gP:∀r∈R,(∃p,(p∈cl\/p=o)/\p.no=DW c r)\/(DW c r+1)*Ag c-1<=m-c.aB
 top:∀r∈R,DW c r<=o.no
 cur:o.no=0\/∃r∈R,DW c r=o.no
theorem Ju(j a:Nat): DJ Ay j a=0:=by
 unfold DJ Ay;rw[γ,k0];split <;> rfl
theorem OG.zero(c:Cfg)(m:Int): OG c m Pa.pn0 [] []:=by
 refine⟨ν,λp a=>by simp at a,λp a e h _ _=>?_,λi d=>by simp at d,λi d=>by simp at d,.inl rfl⟩;rcases a with a | a
 ·simp at a
 rw[a];exact Ju e h
theorem OG.later{c:Cfg}{m d:Int}{o:Pa.Pn}{cl:List Pa.Pn}{R:List It}(a:OG c m o cl R)(i:m<=d): OG c d o cl R :=
 ⟨a.eH,a.lt,a.ex,λh e=>(a.gP h e).imp id (λa=>by omega),a.top,a.cur⟩
theorem zMr(cs:List Int)(i:cs.length=48)(j c a b:Nat)(k:c<16)(e:a<3)(h:b<16): DJ (FD cs (a*16+b)) j c=DJ cs j c+if j=a/\c=b then 1 else 0:=by
 unfold DJ FD;rw[γ,jI];by_cases d:j=a/\c=b
 ·rw[ij d,d.1,d.2,ij rfl,ij (by omega)];rfl
 rw[ig d,ig (by omega),kW,γ]
theorem Qf(c:Cfg)(l:c.rowed)(key:Int)(cs:List Int)(m:cs.length=48)(j e:Nat)(n:e<16): ∀a:Nat,a<=3->DJ (BO c key a cs) j e=DJ cs j e+if j<a/\AA c key j=(e:Int) then 1 else 0:=by
 intro a;induction a with
 | zero=>intro _;simp[BO]
 | succ a o =>
  intro r;have q:=Ij c l key a;rw[show BO c key (a+1) cs=FD (BO c key a cs) (a*16+(AA c key a).toNat) from rfl,zMr _ (by rw[Ji,m]) j e a _ n (by omega) (by omega),o (by omega)];by_cases i:j=a
  ·subst i;rw[ig (by omega)];by_cases d:AA c key j=(e:Int)
   ·rw[ij ⟨rfl,by omega⟩,ij ⟨by omega,d⟩];omega
   rw[ig (λh=>d (by omega)),ig (λh=>d h.2)];omega
  have k:(if j=a/\e=(AA c key a).toNat then(1:Int) else 0)=0:=ig (λh=>i h.1);rw[k];by_cases d:j<a/\AA c key j=(e:Int)
  ·rw[ij d,ij ⟨by omega,d.2⟩];omega
  rw[ig d,ig (λh=>d ⟨by omega,h.2⟩)];omega
theorem Mf(c:Cfg)(t:Int): ∀a:List Pa.Pn,∀p∈a,p∈a.drop (B7 c a t)\/AW c p<=t
 | [],p,hp=>by simp at hp
 | q::a,p,hp=>by
  unfold B7;rw[jE];split
  ·rename_i e;rw[iD,kD];rcases iA.1 hp with d | d
   ·right;rw[d];simpa using e
   exact Mf c t a p d
  left;rw[j4,kJ];exact hp
theorem OG.rel{c:Cfg}{m:Int}{o:Pa.Pn}{cl:List Pa.Pn}{R:List It}(j:OG c m o cl R)(V:1<=Ag c)(J:c.rowed)(Y:1<=c.rows)(Z:c.rows<=3)(y:It)(U:0<=y.t)(T:∀e∈R,e.t<=y.t):
  OG c m (Cl c o cl y m).1 (Cl c o cl y m).2 (R++[y]):=by
 obtain⟨l,v⟩:∃l,l=DW c y:=⟨_,rfl⟩;have W:0<=l:=by rw[v];exact jO U (by omega)
 have H:∀e∈R,DW c e<=l:=λe d=>by rw[v];exact Int.ediv_le_ediv (by omega) (T e d)
 have X:o.no<=l:=by
  rcases j.cur with G | ⟨e,d,G⟩
  ·omega
  rw[<-G];exact H e d
 have S:∃k q,A8 o cl l=(k,q)/\k.no=l/\q.Pairwise (λA b=>A.no<b.no)/\(∀p∈q,p.no<l) /\
   (∀p,p∈q\/p=k->∀(h i:Nat),(h:Int)<c.rows->i<16->DJ p.cs h i=Ei c R p.no h i)/\(∀e∈R,(∃p,(p∈q\/p=k)/\p.no=DW c e)\/(DW c e+1)*Ag c-1<=m-c.aB):=by
  unfold A8;by_cases r:o.no=l
  ·rw[ij r];exact⟨o,cl,rfl,r,j.eH,λp a=>by rw[<-r];exact j.lt p a,j.ex,j.gP⟩
  rw[ig r]
  have I:∀h i,Ei c R l h i=0:=λh i=>PG (λe d=>by
     have x:=j.top e d
     rw[lx (by omega)];rfl)
  by_cases x:o.cs=Ay
  ·rw[ij x];refine⟨Cy l,cl,rfl,rfl,j.eH,λp a=>by have:=j.lt p a;omega,λp a h i u t=>?_,λe d=>?_⟩
   ·rcases a with a | a
    ·exact j.ex p (.inl a) h i u t
    rw[a];exact(Ju h i).trans (I h i).symm
   rcases j.gP e d with ⟨p,a,s⟩ | n
   ·rcases a with a | a
    ·exact .inl ⟨p,.inl a,s⟩
    exfalso;have B:=Ij c J e.k 0;have n:=j.ex o (.inr rfl) 0 (AA c e.k 0).toNat (by omega) (by omega);rw[x,Ju]at n;have z:=YN n.symm e d;rw[a]at s;rw[decide_eq_true s.symm]at z;unfold G6 at z;rw[decide_eq_true (by omega)]at z;simp at z
   exact .inr n
  rw[ig x];refine⟨Cy l,cl++[o],rfl,rfl,?_,λp a=>?_,λp a h i u t=>?_,λe d=>?_⟩
  ·exact jb.2 ⟨j.eH,by simp,λA P b B=>by rw[im]at B;rw[B];exact j.lt A P⟩
  ·rcases ik.1 a with a | a
   ·have:=j.lt p a;omega
   rw[im]at a;rw[a];omega
  ·rcases a with a | a
   ·rcases ik.1 a with a | a
    ·exact j.ex p (.inl a) h i u t
    rw[im]at a;exact j.ex p (.inr a) h i u t
   rw[a];exact(Ju h i).trans (I h i).symm
  rcases j.gP e d with ⟨p,a,s⟩ | n
  ·refine .inl ⟨p,.inl ?_,s⟩;rcases a with a | a
   ·simp[a]
   simp[a]
  exact .inr n
 obtain⟨k,q,L,D,M,E,F,N⟩:=S;have O:Cl c o cl y m=(E5 c y.k c.rows.toNat k,q.drop (B7 c q (m-c.aB))):=by
  unfold Cl;show(E5 c y.k c.rows.toNat (A8 o cl (y.t/Ag c)).1,_)=_;rw[show y.t/Ag c=l from v.symm,L]
 rw[O];have C:∀p,p∈q.drop (B7 c q (m-c.aB))->p∈q:=λp a=>iE a;have w:(E5 c y.k c.rows.toNat k).no=l:=D;refine⟨M.sublist (j2 _ _),λp a=>?_,λp a h i u t=>?_,λe d=>?_,λe d=>?_,.inr ⟨y,by simp,by rw[w,v]⟩⟩
 ·show p.no<(E5 c y.k c.rows.toNat k).no;rw[w];exact E p (C p a)
 ·unfold Ei;rw[Xz];rcases a with a | a
  ·have Q:DW c y≠p.no:=by have:=E p (C p a);omega
   rw[lx Q,ig (by simp)];rw[F p (.inl (C p a)) h i u t];unfold Ei;omega
  subst a;show DJ (BO c y.k c.rows.toNat k.cs) h i=_;rw[Qf c J y.k k.cs k.len h i t _ (by omega),F k (.inr rfl) h i u t];unfold Ei;rw[show(E5 c y.k c.rows.toNat k).no=k.no from rfl,decide_eq_true (show DW c y=k.no by omega)];unfold G6;by_cases r:AA c y.k h=(i:Int)
  ·rw[ij ⟨by omega,r⟩,ij (by simp[r])]
  rw[ig (λj=>r j.2),ig (by simp[r])]
 ·rcases ik.1 d with d | d
  ·rcases N e d with ⟨p,a,s⟩ | n
   ·rcases a with a | a
    ·rcases Mf c (m-c.aB) q p a with n | n
     ·exact .inl ⟨p,.inl n,s⟩
     right;rw[<-s];exact n
    exact .inl ⟨_,.inr rfl,by rw[w,<-D,<-s,a]⟩
   exact .inr n
  rw[im]at d;exact .inl ⟨_,.inr rfl,by rw[w,v,d]⟩
 rw[w];rcases ik.1 d with d | d
 ·exact H e d
 rw[im]at d;rw[d,v];exact iL _
def PO(c:Cfg)(m:Int)(nt:aU)(R:List It): Prop:=OG c m nt.op nt.cl R
theorem zPi: eM 3 PO where
 zero:=λc m _ _=>OG.zero c m
 later:=λc m m' nt R _ _ hm h=>OG.later h hm
 rel:=λc m nt R y hv hk h hr hy _=>by
  obtain⟨_,hrw,hL,_,_⟩:=D5 (k:=3) hv hk rfl;exact OG.rel h hL hrw hrw.r0 hrw.r1 y hy.t0 (λr hrm=>by have:=(hr r hrm).2.1;unfold dI at this;omega)
 fL:=λc m nt R b _ _ h=>h
theorem XO(a b:List Int)(i:a.length=48)(k:b.length=48)(j c:Nat)(l:j<3)(m:c<16): DJ (List.zipWith (·+·) a b) j c=DJ a j c+DJ b j c:=by
 unfold DJ;have d:j*16+c<a.length:=by omega
 have e:j*16+c<b.length:=by omega
 have h:j*16+c<(List.zipWith (·+·) a b).length:=by rw[List.length_zipWith];omega
 simp[List.getD_eq_getElem?_getD,h9 d,h9 e,h9 h]
theorem zNm{c:Cfg}{R:List It}{j a:Nat}(v:(j:Int)<c.rows)(x:c.rows<=3)(t:a<16): ∀(l:List Pa.Pn),l.Pairwise (λd b=>d.no<b.no)->(∀p∈l,DJ p.cs j a=Ei c R p.no j a)->∀d:List Int,d.length=48 ->
  DJ (l.foldl Eu d) j a=DJ d j a+D1 (λe=>decide (DW c e∈l.map (·.no))&&G6 c j a e) R:=by
 intro l;induction l with
 | nil=>intro _ _ d _;simp[PG]
 | cons p l u =>
  intro s o d n;have r:=jn.1 s;rw[jZ,u r.2 (λi h=>o i (by simp[h])) _ (LB n)];unfold Eu;rw[XO _ _ n p.len j a (by omega) t,o p (by simp),Int.add_assoc];congr 1;refine(zNs (λe _=>?_) (λe _ q=>?_)).symm
  ·cases G6 c j a e <;> simp
   try by_cases k:DW c e=p.no <;> simp[k]
  have k:DW c e=p.no:=by have:=q.1;simp at this;exact this.1
  have m:=q.2;simp only[iQ,iP,iI]at m;obtain⟨⟨i,h,w⟩,_⟩:=m;have:=r.1 i h;omega
theorem OG.counted{c:Cfg}{m:Int}{o:Pa.Pn}{cl:List Pa.Pn}{R:List It}(h:OG c m o cl R)(E:1<=Ag c)(D:c.rows<=3)(T:Int)(F:m-c.aB<=T)(j n:Nat)(t:(j:Int)<c.rows)(u:n<16):
  DJ (D7 c o cl T) j n=D1 (λq=>decide (T<(DW c q+1)*Ag c-1)&&G6 c j n q) R:=by
 obtain⟨e,i⟩:∃e,e=cl.drop (B7 c cl T)++(if T<AW c o then[o] else[]):=⟨_,rfl⟩;have v:D7 c o cl T=e.foldl Eu Ay:=by
  unfold D7 Eg;rw[i];by_cases d:T<AW c o
  ·rw[ij d,ij d,jV];rfl
  rw[ig d,ig d,iC]
 have A:∀p,p∈e->p∈cl\/p=o:=λp a=>by
  rw[i]at a;rcases ik.1 a with a | a
  ·exact .inl (iE a)
  split at a
  ·rw[im]at a;exact .inr a
  simp at a
 have B:e.Pairwise (λr b=>r.no<b.no):=by
  rw[i];refine jb.2 ⟨h.eH.sublist (j2 _ _),by split <;> simp,λr w b k=>?_⟩;split at k
  ·rw[im]at k;rw[k];exact h.lt r (iE w)
  simp at k
 have z:∀p,p∈e->T<AW c p:=λp a=>by
  rw[i]at a;rcases ik.1 a with a | a
  ·exact Kt c (by omega) T cl h.eH p a
  split at a
  ·rename_i d;rw[im]at a;rw[a];exact d
  simp at a
 have x:∀p,p∈cl\/p=o->T<AW c p->p∈e:=λp a d=>by
  rw[i];rcases a with a | a
  ·rcases Mf c T cl p a with s | s
   ·exact ik.2 (.inl s)
   omega
  rw[a]at d;rw[ij d,a];simp
 rw[v,zNm t D u e B (λp a=>h.ex p (A p a) j n t u) _ Em,Ju,Int.zero_add];refine We (λq C=>?_);congr 1;refine decide_eq_decide.2 ⟨λd=>?_,λd=>?_⟩
 ·obtain⟨p,a,l⟩:=iI.1 d;rw[<-l];exact z p a
 rcases h.gP q C with ⟨p,a,l⟩ | s
 ·exact iI.2 ⟨p,x p a (by unfold AW;rw[l];exact d),l⟩
 omega
theorem YM{R c e:List It}{fr a:Int}(l:(R++c).Perm e)(k:∀m∈R,m.t<=a)(j:∀y∈c,a<y.t): (e.filter (λy=>decide (fr<y.t/\y.t<=a))).Perm (R.filter (λy=>decide (fr<y.t))):=by
 refine(l.filter _).symm.trans ?_;rw[jo];have h:c.filter (λy=>decide (fr<y.t/\y.t<=a))=[]:=jQ.2 (λy d=>by have:=j y d;simp;omega);have i:R.filter (λy=>decide (fr<y.t/\y.t<=a))=R.filter (λy=>decide (fr<y.t)):=k7 (λy d=>by have:=k y d;simp;omega);rw[h,i,iC]
def eY(v:Int)(p:Int->Prop): Prop:=(v=0/\∀k,¬p k)\/(p v/\∀k,p k->k<=v)
theorem eY.to{v:Int}{p i:Int->Prop}(d:eY v p)(k:∀a,p a->i a)(j:∀a,i a->∃c,p c/\a<=c): eY v i:=by
 rcases d with ⟨d,m⟩ | ⟨d,l⟩
 ·left;refine⟨d,λa e=>?_⟩;obtain⟨c,h,_⟩:=j a e;exact m c h
 right;refine⟨k v d,λa e=>?_⟩;obtain⟨c,h,n⟩:=j a e;have:=l c h;omega
def JH(c:Cfg)(n:Nat)(r:It): Int:=Cr (AG c.bV c.bW r.k/n)
def FI(c:Cfg)(n:Nat)(R:List It)(T:Int)(j:Nat)(k:Int): Prop:=∃r∈R,T<r.t/\Cd c n r.k=j/\JH c n r=k
def cL(l:List Bk): Prop:=l.Pairwise (λa b=>a.sz<b.sz/\b.t<a.t)
theorem OQ(l:List Bk)(T:Int): (∀b∈l.take (Mk.pastN l T),b.sz<=T)/\(cL l->∀b∈l.drop (Mk.pastN l T),T<b.sz):=by
 induction l with
 | nil=>exact⟨λb a=>by simp at a,λ_ b a=>by simp at a⟩
 | cons i l j =>
  unfold Mk.pastN at *
  rw[jE];split
  ·rename_i d;have e:i.sz<=T:=by simpa using d
   rw[iD,List.take_succ_cons,kD];refine⟨λb a=>?_,λh=>j.2 (jn.1 h).2⟩;rcases iA.1 a with c | c
   ·rw[c];exact e
   exact j.1 b c
  rename_i d;have e:T<i.sz:=by simpa using d
  refine⟨λb a=>by simp at a,λh b a=>?_⟩;rw[j4,kJ]at a;rcases iA.1 a with c | c
  ·rw[c];exact e
  have:=(jn.1 h).1 b c;omega
theorem QL(l:List Bk)(q:cL l)(T:Int): eY (DD l T) (λj=>∃b∈l,T<b.sz/\b.t=j):=by
 obtain⟨e,h⟩:=OQ l T;have h:=h q;unfold DD;have t:=Mk.pastN_le l T;by_cases d:Mk.pastN l T=l.length
 ·rw[ij d];left;refine⟨rfl,λj i=>?_⟩;obtain⟨b,c,s,_⟩:=i;rw[d,lg]at e;have:=e b c;omega
 rw[ig d];right;have n:Mk.pastN l T<l.length:=by omega
 have m:l.drop (Mk.pastN l T)=Ad l (Mk.pastN l T)::l.drop (Mk.pastN l T+1):=by
  rw[δ n];congr 1;simp[Ad,List.getD_eq_getElem?_getD,h9 n]
 have o:Ad l (Mk.pastN l T)∈l.drop (Mk.pastN l T):=by rw[m];simp
 refine⟨⟨_,iE o,h _ o,rfl⟩,λj i=>?_⟩;obtain⟨b,c,s,rfl⟩:=i;have k:b∈l.drop (Mk.pastN l T):=by
  rw[<-τ (Mk.pastN l T) l]at c;rcases ik.1 c with a | a
  ·have:=e b a;omega
  exact a
 have r:cL (l.drop (Mk.pastN l T)):=kR (j2 _ _) q;rw[m]at r k;rcases iA.1 k with a | a
 ·rw[a];exact iL _
 have:=(jn.1 r).1 b a;omega
theorem Qs(d:Int)(l:List Bk): ∀b∈l,b∈AD d l\/b.t<=d:=by
 intro b i;unfold AD;have e:b∈l.reverse:=List.mem_reverse.2 i;rw[<-List.takeWhile_append_dropWhile (p:=λb:Bk=>decide (b.t<=d)) (l:=l.reverse)]at e;rcases ik.1 e with a | a
 ·right;have:∀(l:List Bk),b∈l.takeWhile (λb:Bk=>decide (b.t<=d))->b.t<=d:=by
   intro l;induction l with
   | nil=>intro c;simp at c
   | cons k l j =>
    intro c;rw[jE]at c;split at c
    ·rename_i h;rcases iA.1 c with a | a
     ·rw[a];simpa using h
     exact j a
    simp at c
  exact this _ a
 exact .inl (List.mem_reverse.2 a)
theorem LX(a:Int)(l:List Bk)(c:0<(AD a l).length): a<(Ad (AD a l) ((AD a l).length-1)).t:=by
 by_cases e:0<l.length
 ·by_cases d:(Ad l (l.length-1)).t<=a
  ·have h:=Ma e d;rw[h]at c ⊢;have:(l.take (l.length-1)).length<l.length:=by rw[iG];omega
   exact LX a (l.take (l.length-1)) c
  rw[LS e d];omega
 ·have:l=[]:=List.eq_nil_of_length_eq_zero (by omega);rw[this]at c;simp[Pt]at c
 termination_by l.length
theorem zKh{l:List Bk}{x:Bk}(h:∀b∈l,b.sz<=x.sz)(b:Bk)(a:b∈l\/b=x): ∃e∈CZ l x,b.t<=e.t/\b.sz<=e.sz:=by
 unfold CZ;by_cases d:0<(AD x.t l).length/\(Ad (AD x.t l) ((AD x.t l).length-1)).sz=x.sz
 ·rw[ij d];have i:Ad (AD x.t l) ((AD x.t l).length-1)∈AD x.t l:=by
   have j:(AD x.t l).length-1<(AD x.t l).length:=by omega
   simp[Ad,List.getD_eq_getElem?_getD,h9 j]
  have k:=LX x.t l d.1;rcases a with a | a
  ·rcases Qs x.t l b a with c | c
   ·exact⟨b,c,iL _,iL _⟩
   exact⟨_,i,by omega,by rw[d.2];exact h b a⟩
  exact⟨_,i,by rw[a];omega,by rw[a,d.2];exact iL _⟩
 rw[ig d];rcases a with a | a
 ·rcases Qs x.t l b a with c | c
  ·exact⟨b,by simp[c],iL _,iL _⟩
  exact⟨x,by simp,c,h b a⟩
 exact⟨x,by simp,by rw[a];exact iL _,by rw[a];exact iL _⟩
theorem M7{l:List Bk}{x:Bk}(q:cL l)(n:∀b∈l,b.sz<=x.sz): cL (CZ l x):=by
 obtain⟨A,j,_⟩:=K4 x.t l;have d:cL (AD x.t l):=by rw[j];exact kR (List.take_sublist _ _) q
 have s:∀b∈AD x.t l,b∈l:=λb c=>by rw[j]at c;exact iZ c
 unfold CZ;by_cases e:0<(AD x.t l).length/\(Ad (AD x.t l) ((AD x.t l).length-1)).sz=x.sz
 ·rw[ij e];exact d
 rw[ig e];refine jb.2 ⟨d,by simp,λk h b c=>?_⟩;rw[im]at c;subst c;have i:0<(AD b.t l).length:=List.length_pos_of_mem h;have v:=LX b.t l i;have z:(Ad (AD b.t l) ((AD b.t l).length-1)).sz≠b.sz:=λa=>e ⟨i,a⟩;have o:Ad (AD b.t l) ((AD b.t l).length-1)∈AD b.t l:=by
  have m:(AD b.t l).length-1<(AD b.t l).length:=by omega
  simp[Ad,List.getD_eq_getElem?_getD,h9 m]
 have w:=n _ (s _ o);have r:=Jv (AD b.t l) i;generalize Ad (AD b.t l) ((AD b.t l).length-1)=t at *
 generalize(AD b.t l).take ((AD b.t l).length-1)=u at *
 rw[r]at h d;rcases ik.1 h with a | a
 ·have:=(jb.1 d).2.2 k a t (by simp);omega
 rw[im]at a;rw[a];omega
structure DG (c:Cfg) (n:Nat) (m:Int) (ls:Nat->List Bk) (R:List It):Prop where
 gD:∀j,cL (ls j)
 src:∀j,∀b∈ls j,∃r∈R,r.t=b.sz/\Cd c n r.k=j/\JH c n r=b.t
 ex:∀j T,m-c.aB<=T->eY (DD (ls j) T) (FI c n R T j)
theorem DG.rel{c:Cfg}{n:Nat}{m:Int}{d:Nat->List Bk}{R:List It}(o:DG c n m d R)(y:It)(I:∀e∈R,e.t<=y.t): DG c n m (BU c n d y m) (R++[y]):=by
 have H:∀j k h,FI c n R k j h->FI c n (R++[y]) k j h:=λj k h ⟨e,a,l⟩=>⟨e,by simp[a],l⟩;have v:∀b∈(d (Cd c n y.k)).drop (Mk.pastN (d (Cd c n y.k)) (m-c.aB)),b.sz<=y.t:=λb i=>by
  obtain⟨e,a,l,_⟩:=o.src _ b (iE i);rw[<-l];exact I e a
 have A:cL ((d (Cd c n y.k)).drop (Mk.pastN (d (Cd c n y.k)) (m-c.aB))):=kR (j2 _ _) (o.gD _);refine⟨λj=>?_,λj b i=>?_,λj k z=>?_⟩
 ·unfold BU;split
  ·rename_i s;rw[s];exact M7 A v
  exact o.gD j
 ·unfold BU at i;split at i
  ·rename_i s;rcases Jy i with q | q
   ·obtain⟨e,a,l⟩:=o.src j b (iE q);exact⟨e,by simp[a],l⟩
   rw[q];exact⟨y,by simp,rfl,s.symm,rfl⟩
  obtain⟨e,a,l⟩:=o.src j b i;exact⟨e,by simp[a],l⟩
 by_cases s:j=Cd c n y.k
 ·subst s;have q:BU c n d y m (Cd c n y.k)=CZ ((d (Cd c n y.k)).drop (Mk.pastN (d (Cd c n y.k)) (m-c.aB))) ⟨y.t,JH c n y⟩:=by unfold BU;rw[ij rfl];rfl
  rw[q];refine(QL _ (M7 A v) k).to (λh ⟨b,i,t,u⟩=>?_) (λh ⟨e,a,hrT,hrj,hrk⟩=>?_)
  ·rcases Jy i with r | r
   ·obtain⟨e,a,l,x,B⟩:=o.src _ b (iE r);exact⟨e,by simp[a],by rw[l];exact t,x,B.trans u⟩
   subst r;exact⟨y,by simp,t,rfl,u⟩
  have J:∃b,(b∈(d (Cd c n y.k)).drop (Mk.pastN (d (Cd c n y.k)) (m-c.aB))\/b=⟨y.t,JH c n y⟩)/\k<b.sz/\h<=b.t:=by
   rcases ik.1 a with a | a
   ·have E:=(K6 (AG c.bV c.bW e.k/n)).1;have M:1<=h:=by rw[<-hrk];exact E
    have hold:FI c n R k (Cd c n y.k) h:=⟨e,a,hrT,hrj,hrk⟩;have N:h<=DD (d (Cd c n y.k)) k:=by
     rcases o.ex (Cd c n y.k) k z with ⟨_,G⟩ | ⟨_,F⟩
     ·exact absurd hold (G h)
     exact F h hold
    rcases QL (d (Cd c n y.k)) (o.gD _) k with ⟨L,_⟩ | ⟨⟨b,i,t,u⟩,_⟩
    ·omega
    refine⟨b,.inl ?_,t,by omega⟩;rw[<-τ (Mk.pastN (d (Cd c n y.k)) (m-c.aB)) (d (Cd c n y.k))]at i;rcases ik.1 i with r | r
    ·have:=(OQ (d (Cd c n y.k)) (m-c.aB)).1 b r;omega
    exact r
   rw[im]at a;subst a;exact⟨_,.inr rfl,hrT,by show h<=JH c n e;omega⟩
  obtain⟨b,i,t,u⟩:=J;obtain⟨w,C,l,x⟩:=zKh v b i;exact⟨w.t,⟨w,C,by omega,rfl⟩,by omega⟩
 have q:BU c n d y m j=d j:=by unfold BU;rw[ig s]
 rw[q];refine(o.ex j k z).to (λh D=>H _ _ _ D) (λh ⟨e,a,hrT,hrj,hrk⟩=>⟨h,⟨e,?_,hrT,hrj,hrk⟩,iL _⟩);rcases ik.1 a with a | a
 ·exact a
 rw[im]at a;rw[a]at hrj;exact absurd hrj.symm s
def PD(c:Cfg)(m:Int)(nt:aU)(R:List It): Prop:=DG c (B1 c) m nt.rg R
theorem zOr: eM 2 PD where
 zero:=λc m _ _=>⟨λj=>ν,λj b hb=>by simp[CH]at hb,λj T _=>.inl ⟨rfl,λk hk=>by obtain⟨r,hr,_⟩:=hk;simp at hr⟩⟩
 later:=λc m m' nt R _ _ hm h=>⟨h.gD,h.src,λj T hT=>h.ex j T (by omega)⟩
 rel:=λc m nt R y hv hk h hr hy _=>DG.rel h y (λr hrm=>by have:=(hr r hrm).2.1;unfold dI at this;omega)
 fL:=λc m nt R b _ _ h=>h
end
end Go.Proofs.YtnokbhcennjanaaGreatDoor
namespace Go.Proofs.YtnokbhcennjanaaGreatDoor.Dr
open Go.Proofs.YtnokbhcennjanaaGreatDoor
def dv(a:It): Int:=a.v%18446744073709551616
def dd(a:It): Int:=a.d%18446744073709551616
def dpos(a:It): Prop:=0<dd a
def cX(a b:It): Prop:=dv a*dd b<dv b*dd a\/(dv a*dd b=dv b*dd a/\b.n<=a.n)
theorem cX.refl(a:It): cX a a:=.inr ⟨rfl,iL _⟩
theorem Lk(a:It): 0<=dd a:=by unfold dd;omega
theorem Zu{a b c d e f:Int}(m:0<d)(l:0<=b)(n:0<=f)(j:a*d<=c*b)(k:c*f<=e*d): a*f<=e*b/\((a*d<c*b/\0<f)\/(c*f<e*d/\0<b)->a*f<e*b):=by
 have s:a*d*f<=c*b*f:=j1 j n;have t:c*f*b<=e*d*b:=j1 k l;have o:a*d*f=a*f*d:=by rw[Int.mul_right_comm]
 have q:c*b*f=c*f*b:=by rw[Int.mul_right_comm]
 have r:e*d*b=e*b*d:=by rw[Int.mul_right_comm]
 refine⟨Int.le_of_mul_le_mul_right (by omega:a*f*d<=e*b*d) m,λh=>?_⟩;refine Int.lt_of_mul_lt_mul_right (a:=d) ?_ (by omega);rcases h with ⟨h,i⟩ | ⟨h,i⟩
 ·have:a*d*f<c*b*f:=Int.mul_lt_mul_of_pos_right h i;omega
 have:c*f*b<e*d*b:=Int.mul_lt_mul_of_pos_right h i;omega
theorem cX.trans{a b c:It}(m:dpos b)(j:dpos a)(n:dpos c)(d:cX a b)(k:cX b c): cX a c:=by
 unfold cX dpos at *
 have l:=Lk a;have o:=Lk c;have h:dv a*dd b<=dv b*dd a:=by omega
 have i:dv b*dd c<=dv c*dd b:=by omega
 obtain⟨s,e⟩:=Zu m l o h i;rcases d with d | ⟨d,r⟩
 ·left;exact e (.inl ⟨d,n⟩)
 rcases k with k | ⟨k,t⟩
 ·left;exact e (.inr ⟨k,j⟩)
 by_cases q:dv a*dd c=dv c*dd a
 ·right;exact⟨q,by omega⟩
 left;omega
theorem ahead_leT{a b:It}(c:BY a b=true): cX a b:=by
 unfold BY aheadT at c;unfold cX dv dd;split at c
 ·rename_i d;simp at c;right;exact⟨d.symm,by omega⟩
 simp at c;left;exact c
theorem not_ahead_leT{a b:It}(c:BY a b=false): cX b a:=by
 unfold BY aheadT at c;unfold cX dv dd;split at c
 ·rename_i d;simp at c;right;exact⟨d,by omega⟩
 rename_i d;simp at c;left;omega
structure bK (l:List It):Prop where
 ok:∀j,j<l.length->dpos (itAt l j)
 up:∀i,0<i->i<l.length->cX (itAt l ((i-1)/2)) (itAt l i)
theorem Rc{l:List It}{i j:Nat}(c:∀a,a<l.length->dpos (itAt l a))(hi:i<l.length)(d:j<l.length): ∀a,a<(swapL l i j).length->dpos (itAt (swapL l i j) a):=by
 intro a e;rw[Ce]at e;rw[Du l i j a hi d];split
 ·exact c i hi
 split
 ·exact c j d
 exact c a e
structure eU (l:List It) (i:Nat):Prop where
 ok:∀j,j<l.length->dpos (itAt l j)
 up:∀j,0<j->j<l.length->j≠i->cX (itAt l ((j-1)/2)) (itAt l j)
 over:∀c,0<i->c<l.length->0<c->(c-1)/2=i->cX (itAt l ((i-1)/2)) (itAt l c)
theorem Mi(f:Nat): ∀(l:List It) (i:Nat),i<l.length->i<f->eU l i->bK (riseL f l i):=by
 induction f with
 | zero=>intro l i _ a;omega
 | succ f B =>
  intro l i j C a;unfold riseL;split
  ·rename_i v;refine⟨a.ok,λc e d=>?_⟩;exact a.up c e d (by omega)
  rename_i v;split
  ·rename_i q;have m:=ahead_leT q;have D:(i-1)/2<i:=by omega
   generalize t:(i-1)/2=p at *
   refine B _ p (by rw[Ce];omega) (by omega) ⟨Rc a.ok j (by omega),?_,?_⟩
   ·intro c e d z;rw[Ce]at d;rw[Du l i p _ j (by omega),Du l i p c j (by omega)];rw[ig z];by_cases h:c=i
    ·subst h;rw[ij t,ij rfl];exact m
    rw[ig h];by_cases n:(c-1)/2=p
    ·rw[ij n];have:=a.up c e d h;rw[n]at this;exact cX.trans (a.ok p (by omega)) (a.ok i j) (a.ok c d) m this
    rw[ig n];by_cases o:(c-1)/2=i
    ·rw[ij o];have:=a.over c (by omega) d e o;rw[t]at this;exact this
    rw[ig o];exact a.up c e d h
   intro k A s w x;rw[Ce]at s;rw[Du l i p _ j (by omega),Du l i p k j (by omega)];rw[ig (show(p-1)/2≠p by omega),ig (show(p-1)/2≠i by omega),ig (show k≠p by omega)];have u:=a.up p A (by omega) (by omega);by_cases r:k=i
   ·rw[ij r];exact u
   rw[ig r];have:=a.up k w s r;rw[x]at this;exact cX.trans (a.ok p (by omega)) (a.ok _ (by omega)) (a.ok k s) u this
  rename_i q;have m:=not_ahead_leT (by simpa using q);refine⟨a.ok,λc e d=>?_⟩;by_cases h:c=i
  ·subst h;exact m
  exact a.up c e d h
structure eV (l:List It) (i:Nat):Prop where
 ok:∀j,j<l.length->dpos (itAt l j)
 up:∀j,0<j->j<l.length->(j-1)/2≠i->cX (itAt l ((j-1)/2)) (itAt l j)
 over:∀c,0<i->c<l.length->0<c->(c-1)/2=i->cX (itAt l ((i-1)/2)) (itAt l c)
theorem LA(l:List It)(i c:Nat)(e:Bn l i=c): 0<c/\(c-1)/2=i/\∀a,a<l.length->0<a->(a-1)/2=i->cX (itAt l c) (itAt l a):=by
 unfold Bn at e;split at e
 ·split at e
  ·split at e
   ·rename_i k m h;have d:c=2*i+2:=by omega
    subst d;refine⟨by omega,by omega,λa n j o=>?_⟩;have:a=2*i+1\/a=2*i+2:=by omega
    rcases this with rfl | rfl
    ·exact ahead_leT h
    exact cX.refl _
   rename_i k m h;have d:c=2*i+1:=by omega
   subst d;refine⟨by omega,by omega,λa n j o=>?_⟩;have:a=2*i+1\/a=2*i+2:=by omega
   rcases this with rfl | rfl
   ·exact cX.refl _
   exact not_ahead_leT (by simpa using h)
  rename_i k m;have d:c=2*i+1:=by omega
  subst d;refine⟨by omega,by omega,λa n j o=>?_⟩;have:a=2*i+1:=by omega
  subst this;exact cX.refl _
 omega
theorem LK(l:List It)(i:Nat)(c:Bn l i<0): ∀a,a<l.length->0<a->(a-1)/2≠i:=by
 intro a e d h;unfold Bn at c;split at c
 ·split at c
  ·split at c <;> omega
  omega
 omega
theorem Mn(f:Nat): ∀(l:List It) (i:Nat),i<l.length->l.length<=f+i->eV l i->bK (sinkL f l i):=by
 induction f with
 | zero=>intro l i _ d;omega
 | succ f D =>
  intro l i m F d;unfold sinkL;split
  ·rename_i t;refine⟨d.ok,λa h e=>?_⟩;exact d.up a h e (LK l i t a e h)
  rename_i t;rcases GI l i with q | ⟨c,q,G,k⟩
  ·omega
  rw[q,iM];obtain⟨z,r,u⟩:=LA l i c q;split
  ·rename_i o;have s:=ahead_leT o;refine D _ c (by rw[Ce];omega) (by rw[Ce];omega) ⟨Rc d.ok m k,?_,?_⟩
   ·intro a h e C;rw[Ce]at e;rw[Du l i c _ m k,Du l i c a m k,ig C];by_cases w:a=c
    ·subst w;rw[ij r,ij rfl];exact s
    rw[ig w];by_cases x:a=i
    ·subst x;rw[ig (show(a-1)/2≠a by omega),ij rfl];exact d.over c h k z r
    rw[ig x];by_cases j:(a-1)/2=i
    ·rw[ij j];exact u a e h j
    rw[ig j];exact d.up a h e j
   intro n E v A B;rw[Ce]at v;rw[Du l i c _ m k,Du l i c n m k];rw[ig (show(c-1)/2≠c by omega),ij r,ig (show n≠c by omega),ig (show n≠i by omega)];have:=d.up n A v (by omega);rw[B]at this;exact this
  rename_i o;have s:=not_ahead_leT (by simpa using o);refine⟨d.ok,λa h e=>?_⟩;by_cases j:(a-1)/2=i
  ·rw[j];exact cX.trans (d.ok c k) (d.ok i m) (d.ok a e) s (u a e h j)
  exact d.up a h e j
theorem bK.first{l:List It}(a:bK l)(j:Nat)(c:j<l.length): cX (itAt l 0) (itAt l j):=by
 induction j using Nat.strongRecOn with
 | _ j ih =>
  by_cases d:j=0
  ·subst d;exact cX.refl _
  exact cX.trans (a.ok ((j-1)/2) (by omega)) (a.ok 0 (by omega)) (a.ok j c) (ih ((j-1)/2) (by omega) (by omega)) (a.up j (by omega) c)
theorem itAt_get(l:List It)(j:Nat)(a:j<l.length): itAt l j=l[j]:=by
 unfold itAt;rw[γ,h9 a];rfl
theorem Jr(l:List It)(i j:Nat)(hi:i<l.length)(a:j<l.length): (swapL l i j).Perm l:=by
 unfold swapL;rw[itAt_get l i hi,itAt_get l j a];exact List.set_set_perm hi a
theorem LR(f:Nat): ∀(l:List It) (i:Nat),i<l.length->(riseL f l i).Perm l:=by
 induction f with
 | zero=>intro l i _;exact jj _
 | succ f c =>
  intro l i a;unfold riseL;split
  ·exact jj _
  split
  ·exact(c _ _ (by rw[Ce];omega)).trans (Jr l _ _ a (by omega))
  exact jj _
theorem Md(f:Nat): ∀(l:List It) (i:Nat),i<l.length->(sinkL f l i).Perm l:=by
 induction f with
 | zero=>intro l i _;exact jj _
 | succ f e =>
  intro l i d;unfold sinkL;split
  ·exact jj _
  rename_i j;rcases GI l i with a | ⟨h,a,k,c⟩
  ·omega
  rw[a,iM];split
  ·exact(e _ _ (by rw[Ce];omega)).trans (Jr l _ _ d c)
  exact jj _
theorem put_heap(l:List It)(x:It)(h:bK l)(j:dpos x): bK (riseL (l.length+1) (l++[x]) l.length)/\(riseL (l.length+1) (l++[x]) l.length).Perm (x::l):=by
 have e:∀a,a<l.length->itAt (l++[x]) a=itAt l a:=by
  intro a c;unfold itAt;rw[γ,γ,iN c]
 refine⟨Mi _ _ _ (by simp) (by omega) ⟨?_,?_,?_⟩,(LR _ _ _ (by simp)).trans (ka x l)⟩
 ·intro a c;rw[ic,jh]at c;by_cases d:a<l.length
  ·rw[e a d];exact h.ok a d
  have:a=l.length:=by omega
  subst this;rw[itAt_get _ _ (by simp)];simpa using j
 ·intro a c d q;rw[ic,jh]at d;rw[e _ (by omega),e a (by omega)];exact h.up a c (by omega)
 intro k m i n o;rw[ic,jh]at i;omega
theorem take_heap(l:List It)(j:bK l)(q:l≠[]): bK (takeL l)/\(itAt l 0::takeL l).Perm l:=by
 have B:0<l.length:=jK.2 q;unfold takeL;by_cases n:l.length=1
 ·obtain⟨a,rfl⟩:=List.length_eq_one_iff.1 n;refine⟨?_,?_⟩
  ·have z:(sinkL [a].length (([a].set 0 (itAt [a] ([a].length-1))).take ([a].length-1)) 0).length=0:=rfl;exact⟨λv u=>by omega,λv _ u=>by omega⟩
  exact jj _
 obtain⟨a,i,rfl⟩:∃a i,l=a::i:=by cases l with | nil=>exact absurd rfl q | cons a i=>exact⟨a,i,rfl⟩
 obtain⟨d,c,rfl⟩:∃d c,i=d++[c]:=by
  refine⟨i.dropLast,i.getLast (by intro s;subst s;simp at n),?_⟩;rw[List.dropLast_concat_getLast]
 have r:itAt (a::(d++[c])) ((a::(d++[c])).length-1)=c:=by
  rw[itAt_get _ _ (by simp)];simp
 have t:((a::(d++[c])).set 0 (itAt (a::(d++[c])) ((a::(d++[c])).length-1))).take ((a::(d++[c])).length-1)=c::d:=by
  rw[r];simp
 rw[t];have m:∀e,0<e->e<(c::d).length->itAt (c::d) e=itAt (a::(d++[c])) e:=by
  intro e k h;simp only[iD]at h;rw[itAt_get _ _ (by simpa using h),itAt_get _ _ (by simp;omega)];obtain⟨e,rfl⟩:∃w,e=w+1:=⟨e-1,by omega⟩;simp only[List.getElem_cons_succ];rw[List.getElem_append_left (by omega)]
 refine⟨Mn _ _ 0 (by simp) (by simp) ⟨?_,?_,?_⟩,?_⟩
 ·intro e h;by_cases k:e=0
  ·subst k;have:=j.ok ((a::(d++[c])).length-1) (by simp);rw[r]at this;exact this
  rw[m e (by omega) h];exact j.ok e (by simp at h ⊢;omega)
 ·intro e h o A;rw[m _ (by omega) (by omega),m e h o];exact j.up e h (by simp at o ⊢;omega)
 ·intro x k;omega
 refine(List.Perm.cons _ (Md _ _ 0 (by simp))).trans ?_;show(a::c::d).Perm (a::(d++[c]));exact List.Perm.cons a (ka c d).symm
end Go.Proofs.YtnokbhcennjanaaGreatDoor.Dr
namespace Go.Proofs.YtnokbhcennjanaaGreatDoor
section
theorem Dr.bK.okm{l:List Dr.It}(d:Dr.bK l){y:Dr.It}(e:y∈l): Dr.dpos y:=by
 obtain⟨c,a,rfl⟩:=jX.1 e;have:=d.ok c a;rw[Dr.itAt_get l c a]at this;exact this
theorem Dr.bK.firstm{l:List Dr.It}(d:Dr.bK l){y:Dr.It}(e:y∈l): Dr.cX (Dr.itAt l 0) y:=by
 obtain⟨c,a,rfl⟩:=jX.1 e;have:=d.first c a
 rw[Dr.itAt_get l c a]at this;exact this
theorem Dr.dV(f:Nat): ∀a:List Dr.It,a.length<f->Dr.bK a->(Dr.allL f a).Perm a/\(Dr.allL f a).Pairwise Dr.cX:=by
 induction f with
 | zero=>intro a n;omega
 | succ f l =>
  intro a q e;unfold Dr.allL;by_cases c:a.length=0
  ·rw[ij c,List.eq_nil_of_length_eq_zero c];exact⟨jj _,ν⟩
  rw[ig c];have j:a≠[]:=λh=>c (by rw[h];rfl);obtain⟨i,d⟩:=Dr.take_heap a e j;have o:=Dr.takeL_length a;obtain⟨p,m⟩:=l (Dr.takeL a) (by omega) i;refine⟨(List.Perm.cons _ p).trans d,jn.2 ⟨λy k=>?_,m⟩⟩;exact e.firstm (d.mem_iff.1 (by simp[p.mem_iff.1 k]))
structure TG (c:Cfg) (tk:List Dr.It) (R:List It):Prop where
 heap:Dr.bK tk
 len:(tk.length:Int)<=c.size+1
 ex:∃D:List Dr.It,(tk++D).Perm (R.map (tick c))/\(∀d∈D,Dr.dpos d/\∀y∈tk,Dr.cX d y)/\(D≠[]->(tk.length:Int)=c.size+1)
theorem TG.rel{c:Cfg}{a:List Dr.It}{R:List It}(r:TG c a R)(I:1<=c.size)(y:It)(F:Dr.dpos (tick c y)): TG c (AY c a y) (R++[y]):=by
 obtain⟨i,E,o,v⟩:=r.ex;obtain⟨k,l⟩:=Dr.put_heap a (tick c y) r.heap F;have hlen:(Dr.riseL (a.length+1) (a++[tick c y]) a.length).length=a.length+1:=by rw[l.length_eq];rfl
 unfold AY;generalize Dr.riseL (a.length+1) (a++[tick c y]) a.length=d at *
 have H:=r.len;have D:(R++[y]).map (tick c)=R.map (tick c)++[tick c y]:=by simp
 have w:(tick c y::(a++i)).Perm ((R++[y]).map (tick c)):=by
  rw[D];exact(List.Perm.cons _ E).trans (ka _ _).symm
 by_cases x:c.size+1<((a.length+1:Nat):Int)
 ·rw[ij x];have t:d≠[]:=λe=>by rw[e]at hlen;simp at hlen
  obtain⟨G,m⟩:=Dr.take_heap d k t;have J:=Dr.takeL_length d;have A:=fun {n:Dr.It} (h:n∈d)=>k.firstm h;have B:Dr.itAt d 0∈d:=m.mem_iff.1 (by simp);have C:=k.okm B;refine⟨G,by omega,Dr.itAt d 0::i,?_,λj s=>?_,λ_=>by omega⟩
  ·refine List.Perm.trans ?_ w;refine lh.trans ?_;rw[<-θ];exact(m.trans l).append_right i
  rcases iA.1 s with e | e
  ·rw[e];exact⟨C,λn h=>A (m.mem_iff.1 (by simp[h]))⟩
  refine⟨(o j e).1,λn h=>?_⟩;rcases iA.1 (l.mem_iff.1 B) with q | q
  ·
   have:(Dr.takeL d).Perm a:=by
    have u:=m.trans l;rw[q]at u;exact(List.perm_cons _).1 u
   exact(o j e).2 n (this.mem_iff.1 h)
  have z:n∈d:=m.mem_iff.1 (by simp[h]);exact Dr.cX.trans C (o j e).1 (k.okm z) ((o j e).2 _ q) (A z)
 rw[ig x];refine⟨k,by omega,i,?_,λj s=>?_,λt=>?_⟩
 ·refine List.Perm.trans ?_ w;rw[<-θ];exact l.append_right i
 ·have:=v (List.ne_nil_of_mem s);omega
 have:=v t;omega
theorem MK{c:Cfg}{y:It}(a:fJ c 5 y): 1<=y.d/\y.d<=2147483648:=by
 have:=a.fit;unfold AP EF at this;simp only at this
 revert this
 repeat' split
 all_goals intro this
 all_goals first | omega | (simp_all [Ab];done) | (simp_all [Ab];omega)
theorem YX{c:Cfg}{y:It}(a:fJ c 5 y): Dr.dpos (tick c y):=by
 have:=MK a;unfold Dr.dpos Dr.dd tick;show 0<y.d%18446744073709551616;omega
def PT(c:Cfg)(_:Int)(nt:aU)(R:List It): Prop:=TG c nt.tk R
theorem zPh: eM 5 PT where
 zero:=λc m hv hk=>⟨⟨λj hj=>by simp[CH]at hj,λi _ hi=>by simp[CH]at hi⟩,by have:=EA (k:=5) hv hk rfl;show((0:Nat):Int)<=_;omega,[],jj _,λd hd=>by simp at hd,λh=>absurd rfl h⟩
 later:=λc m m' nt R _ _ hm h=>h
 rel:=λc m nt R y hv hk h hr hy _=>TG.rel h (EA (k:=5) hv hk rfl).1 y (YX hy)
 fL:=λc m nt R b _ _ h=>h
