import Derived.Test.YtnokbhcennjanaaGreatDoorXAV
open Go.RowKit Go.Proofs.Tryz
set_option maxRecDepth 100000
set_option maxHeartbeats 16000000
namespace Go.Proofs.YtnokbhcennjanaaGreatDoor
section
def Ct(z:bA): It:=⟨z.t,z.k,z.d,z.n⟩
structure YI (clock:Int) (y:aG) (A:List It):Prop where
 bC:y.items.map Ct=A
 tk:∀z,z∈y.items->0<=z.tick/\(0<z.tick↔z.t<=clock-y.c.aL)
theorem OS{l:List bA}{i:Nat}{t:Int}{c:bA}(d:c∈Bf l i t): c∈l\/c={ Aj l i with tick:=t }:=by
 unfold Bf at d;rcases jx d with a | a
 ·exact .inl a
 exact .inr a
theorem WJ(l:List bA)(i:Nat)(t:Int)(hi:i<l.length): (Bf l i t).map Ct=l.map Ct:=by
 unfold Bf;rw[kO];have:Ct { Aj l i with tick:=t }=(l.map Ct)[i]'(by rw[iu];exact hi):=by
  rw[lk,<-Cv l i hi];rfl
 rw[this,List.set_getElem_self]
theorem WF(mark aC:Int)(x:0<aC)(f:Nat): ∀y:aG,(Aq y.items).length<f->(∀a,a∈y.items->0<=a.tick) ->
  (BX f y mark aC).items.map Ct=y.items.map Ct/\(∀a,a∈(BX f y mark aC).items->0<=a.tick/\(a.tick=0->mark<a.t)/\(0<a.tick->a.t<=mark\/a∈y.items)):=by
 induction f with
 | zero=>intro y i;omega
 | succ f r =>
  intro y w h;unfold BX;rcases Ic y.items mark with ⟨i,m⟩ | ⟨v,j,k,l⟩
  ·rw[ij (by omega)];exact⟨rfl,λa d=>⟨h a d,m a d,λ_=>.inr d⟩⟩
  rw[ig (by omega)];have e:(C3 y.items mark).toNat<y.items.length:=j;have z:=Is aC (by omega) y.items (C3 y.items mark).toNat e k
  obtain⟨o,q⟩:=r { y with items:=Bf y.items (C3 y.items mark).toNat aC,events:=y.events++[⟨(Aj y.items (C3 y.items mark).toNat).t,mark,false,0⟩] } (by show(Aq (Bf _ _ _)).length<f;omega) (λa d=>by
     rcases OS d with c | c
     ·exact h a c
     rw[c];show 0<=aC;omega)
  refine⟨o.trans (WJ _ _ _ e),λa d=>?_⟩;obtain⟨s,t,u⟩:=q a d;refine⟨s,t,λn=>?_⟩;rcases u n with c | c
  ·exact .inl c
  rcases OS c with c | c
  ·exact .inr c
  left;rw[c];exact l
theorem zM0{clock c aC:Int}{y:aG}{i:List It}(e:YI clock y i)(o:0<aC)(s:clock<=c): YI c (Bl c aC y) i:=by
 obtain⟨l,m⟩:=WF (c-y.c.aL) aC o (y.items.length+1) y (by have:=EC y.items;omega) (λd h=>(e.tk d h).1);have n:(Bl c aC y).c=y.c:=Ko _ _ _ _;refine⟨l.trans e.bC,λd h=>?_⟩;obtain⟨k,q,r⟩:=m d h;rw[n];refine⟨k,λj=>?_,λt=>?_⟩
 ·rcases r j with a | a
  ·exact a
  have:=(e.tk d a).2.1 j;omega
 rcases Int.lt_or_eq_of_le k with a | a
 ·exact a
 have:=q a.symm;omega
theorem X1{clock:Int}{y:aG}{d:List It}(e:YI clock y d)(fr:Int): (Bv y.items fr (clock-y.c.aL)).map Ct=d.filter (λa=>decide (fr<a.t/\a.t<=clock-y.c.aL)):=by
 rw[<-e.bC,List.filter_map];congr 1;unfold Bv;refine k7 (λa i=>?_);have h:=(e.tk a i).2;show _=decide (fr<a.t/\a.t<=clock-y.c.aL);by_cases c:a.t<=clock-y.c.aL
 ·have:=h.2 c;simp[c,this]
 simp[c]
theorem eY.uniq{v d:Int}{p:Int->Prop}(j:eY v p)(i:eY d p): v=d:=by
 rcases j with ⟨c,e⟩ | ⟨c,e⟩
 ·rcases i with ⟨a,_⟩ | ⟨a,_⟩
  ·rw[c,a]
  exact absurd a (e d)
 rcases i with ⟨_,h⟩ | ⟨a,h⟩
 ·exact absurd c (h v)
 have k:=e d a;have b:=h v c;omega
theorem eY.congr{v:Int}{p i:Int->Prop}(j:eY v p)(h:∀a,p a↔i a): eY v i:=by
 rcases j with ⟨c,d⟩ | ⟨c,d⟩
 ·exact .inl ⟨c,λa e=>d a ((h a).2 e)⟩
 exact .inr ⟨(h v).1 c,λa e=>d a ((h a).2 e)⟩
theorem zOb{c:Cfg}{n:Nat}{e:List Int}{s:Nat->Int->Prop}(u:e.length=n)(l:∀a,a<n->eY (e.getD a 0) (s a))(key:Int):
  ∀a,a<n->eY ((Fg c n e key).getD a 0) (λh=>s a h\/(Cd c n key=a/\Cr (AG c.bV c.bW key/n)=h)):=by
 intro a t;have v:=(K6 (AG c.bV c.bW key/n)).1;unfold Fg;generalize Cr (AG c.bV c.bW key/n)=j at *
 have m:=l a t;by_cases o:Cd c n key=a
 ·rw[o];by_cases r:e.getD a 0<j
  ·rw[ij r];have k:(e.set a j).getD a 0=j:=by
    rw[γ,jI];simp[show a<e.length by omega]
   rw[k];refine .inr ⟨.inr ⟨rfl,rfl⟩,λh d=>?_⟩;rcases d with d | d
   ·rcases m with ⟨_,i⟩ | ⟨_,i⟩
    ·exact absurd d (i h)
    have:=i h d;omega
   omega
  rw[ig r];rcases m with ⟨q,_⟩ | ⟨q,i⟩
  ·omega
  refine .inr ⟨.inl q,λh d=>?_⟩;rcases d with d | d
  ·exact i h d
  omega
 have k:(if e.getD (Cd c n key) 0<j then e.set (Cd c n key) j else e).getD a 0=e.getD a 0:=by
  split
  ·rw[γ,jI,ig o,γ]
  rfl
 rw[k];exact m.congr (λh=>⟨λd=>.inl d,λd=>d.elim id (λl=>absurd l.1 o)⟩)
theorem ZO(c:Cfg)(n:Nat)(l:List bA): ∀(h:List Int) (j:Nat->Int->Prop),h.length=n->(∀d,d<n->eY (h.getD d 0) (j d)) ->
  ∀d,d<n->eY ((l.foldl (λh e=>Fg c n h e.k) h).getD d 0) (λi=>j d i\/∃e,e∈l/\Cd c n e.k=d/\Cr (AG c.bV c.bW e.k/n)=i):=by
 induction l with
 | nil=>intro h j _ m d o;exact(m d o).congr (λi=>⟨λa=>.inl a,λa=>a.elim id (λ⟨e,hz,_⟩=>by simp at hz)⟩)
 | cons e l t =>
  intro h j s m d o;rw[jZ];refine(t (Fg c n h e.k) _ (by rw[O1,s]) (zOb s m e.k) d o).congr (λi=>⟨λa=>?_,λa=>?_⟩)
  ·rcases a with (a | a) | ⟨r,q,a⟩
   ·exact .inl a
   ·exact .inr ⟨e,by simp,a⟩
   exact .inr ⟨r,by simp[q],a⟩
  rcases a with a | ⟨r,q,a⟩
  ·exact .inl (.inl a)
  rcases iA.1 q with k | k
  ·rw[k]at a;exact .inl (.inr a)
  exact .inr ⟨r,k,a⟩
theorem ZT{c:Cfg}{n:Nat}{m T:Int}{e:Nat->List Bk}{R:List It}{l:List bA}(w:DG c n m e R)(z:m-c.aB<=T)(s:(l.map Ct).Perm (R.filter (λy=>decide (T<y.t)))): Cw e n T=CY c n l:=by
 have hlen:(Cw e n T).length=(CY c n l).length:=by rw[Je,JZ]
 refine List.ext_getElem hlen (λa r x=>?_);have k:a<n:=by rw[Je]at r;exact r
 have u:(Cw e n T)[a]=DD (e a) T:=by simp[Cw]
 have v:(CY c n l)[a]=(CY c n l).getD a 0:=by rw[γ,h9 x];rfl
 rw[u,v];refine(w.ex a T z).uniq ?_;have:=ZO c n l (List.replicate n 0) (λ_ _=>False) (by simp) (λa k=>.inl ⟨by rw[γ,k0,ij k];rfl,λC d=>d⟩) a k;refine this.congr (λC=>⟨λd=>?_,λd=>?_⟩)
 ·rcases d with d | ⟨j,q,h,i⟩
  ·exact d.elim
  have o:Ct j∈R.filter (λy=>decide (T<y.t)):=s.mem_iff.1 (iK q);obtain⟨D,E⟩:=kh.1 o;exact⟨Ct j,D,by simpa using E,h,i⟩
 obtain⟨F,A,B,h,i⟩:=d;have o:F∈l.map Ct:=s.mem_iff.2 (kh.2 ⟨A,by simpa using B⟩);obtain⟨j,q,t⟩:=iI.1 o;exact .inr ⟨j,q,by rw[<-t]at h;exact h,by rw[<-t]at i;exact i⟩
theorem Yk(c:Cfg)(m t:Int)(o:1<=Ag c): (m-c.aB<(t/Ag c+1)*Ag c-1)↔(Ff c m-1<t):=by
 unfold Ff;have i:=j3 t (Ag c);have j:=ki t (show Ag c≠0 by omega);have k:=j6 t (show 0<Ag c by omega);have b:=j3 (m-c.aB+1) (Ag c);have l:=ki (m-c.aB+1) (show Ag c≠0 by omega);have n:=j6 (m-c.aB+1) (show 0<Ag c by omega);generalize t/Ag c=e at *
 generalize(m-c.aB+1)/Ag c=y at *
 generalize Ag c=a at *
 rw[Int.mul_comm y a,Int.mul_comm (e+1) a,lP,Int.mul_one];constructor
 ·intro h;rcases Int.lt_or_le e y with d | d
  ·have:=jt (show e+1<=y by omega) (show 0<=a by omega);rw[lP,Int.mul_one]at this;omega
  have:=jt d (show 0<=a by omega);omega
 intro h;rcases Int.lt_or_le e y with d | d
 ·have:=jt (show e+1<=y by omega) (show 0<=a by omega);rw[lP,Int.mul_one]at this;omega
 have:=jt d (show 0<=a by omega);omega
theorem zMn{c:Cfg}{m key:Int}{o:Pa.Pn}{cl:List Pa.Pn}{R:List It}{l:List bA}(q:OG c m o cl R)(e:1<=Ag c)(h:c.rowed)(t:(l.map Ct).Perm (R.filter (λy=>decide (Ff c m-1<y.t))))(j:Nat)(s:(j:Int)<c.rows):
  DR c (D7 c o cl (m-c.aB)) key j=(DV c l key j:Int):=by
 have u:=Ij c h key j;have r:DR c (D7 c o cl (m-c.aB)) key j=D1 (λa=>decide (m-c.aB<(DW c a+1)*Ag c-1)&&G6 c j (AA c key j).toNat a) R:=q.counted e h.r1 _ (iL _) j _ s (by omega);rw[r];unfold DV D1;have n:(l.filter (Nr c key j)).length=((l.map Ct).filter (λa=>AA c a.k j==AA c key j)).length:=by
  rw[List.filter_map,iu];rfl
 rw[n,(t.filter _).length_eq,List.filter_filter];congr 1;refine congrArg List.length (k7 (λa _=>?_));have d:=Yk c m a.t e;unfold DW G6;rw[lH];simp only[iQ,iP,beq_iff_eq];constructor
 ·rintro ⟨i,k⟩;exact⟨by omega,d.1 i⟩
 rintro ⟨i,k⟩;exact⟨d.2 k,by omega⟩
theorem Z0{c:Cfg}{m key:Int}{o:Pa.Pn}{cl:List Pa.Pn}{R:List It}{l:List bA}(j:OG c m o cl R)(k:1<=Ag c)(i:c.rowed)(q:(l.map Ct).Perm (R.filter (λy=>decide (Ff c m-1<y.t)))):
  Gc c o cl key m=Dl c l key c.rows.toNat:=by
 have h:=λs n=>zMn (key:=key) j k i q s n;have t:∀a:Nat,((a:Int)+1<=c.rows)->Ec c (D7 c o cl (m-c.aB)) key (a+1)=Dl c l key (a+1):=by
  intro a;induction a with
  | zero =>
   intro e;have d:=h 0 (by omega);have u:=Nf c l key 0;show min (DR c _ key 0) (DR c _ key 0)=if (DV c l key 0:Int)<(l.length:Int) then(DV c l key 0:Int) else(l.length:Int)
   rw[d];split <;> omega
  | succ a r =>
   intro e;have d:=h (a+1) (by omega);show min (Ec c _ key (a+1)) (DR c _ key (a+1))=if (DV c l key (a+1):Int)<Dl c l key (a+1) then(DV c l key (a+1):Int) else Dl c l key (a+1)
   rw[r (by omega),d];split <;> omega
 unfold Gc;have v:=i.r0;obtain⟨a,e⟩:∃a:Nat,c.rows.toNat=a+1:=⟨c.rows.toNat-1,by omega⟩;rw[e];exact t a (by omega)
theorem RG{u v:Dr.It}(a:Dr.cX u v)(c:Dr.cX v u): u.n=v.n:=by
 unfold Dr.cX at a c;omega
theorem Pu{u v:Dr.It}(c:Dr.cX v u)(d:u.n≠v.n): Dr.aheadT u v=true:=by
 cases hb:Dr.aheadT u v with
 | true=>rfl
 | false=>exact absurd (RG (Dr.not_ahead_leT (a:=v) (b:=u) hb) c) d
theorem Ps{u v:Dr.It}(c:Dr.cX u v)(d:u.n≠v.n): Dr.aheadT u v=false:=by
 cases hb:Dr.aheadT u v with
 | false=>rfl
 | true=>exact absurd (RG c (Dr.ahead_leT (a:=v) (b:=u) hb)) d
theorem VR(u:Dr.It): Dr.aheadT u u=false:=by
 unfold Dr.aheadT;rw[ij rfl];simp
def D3(c:Cfg)(z:bA): Dr.It:=tick c (Ct z)
theorem WV(c:Cfg)(x a:bA)(k:0<=x.d/\x.d<=2147483648)(l:0<=a.d/\a.d<=2147483648): FV c x a=Dr.aheadT (D3 c x) (D3 c a):=by
 have i:=Gn c x.t;have j:=Gn c a.t;unfold FV Dr.aheadT D3 tick Ct FC;simp only;generalize As (Am c x.t)=e at *
 generalize As (Am c a.t)=b at *
 rw[lC i.1 (by omega),lC j.1 (by omega),lC k.1 (by omega),lC l.1 (by omega)];generalize e*a.d=p at *
 generalize b*x.d=h at *
 by_cases d:p=h
 ·rw[ij d];subst d;simp
 rw[ig d];simp[d]
theorem Ur(a:List Dr.It)(m:a.Pairwise (λe b=>Dr.aheadT e b=true/\Dr.aheadT b e=false))(p:Nat)(n:p<a.length): a.filter (λc=>Dr.aheadT c a[p])=a.take p:=by
 have h:a=a.take p++a[p]::a.drop (p+1):=by
  rw[List.getElem_cons_drop,τ]
 conv=>lhs;arg 2;rw[h]
 rw[jo,iY];have i:=m;rw[h]at i;have j:=jb.1 i;have k:(a.take p).filter (λc=>Dr.aheadT c a[p])=a.take p:=kf.2 (λc d=>(j.2.2 c d a[p] List.mem_cons_self).1);have l:(a.drop (p+1)).filter (λc=>Dr.aheadT c a[p])=[]:=jQ.2 (λc d=>by rw[((jn.1 j.2.1).1 c d).2];simp);rw[k,l,VR];simp
theorem Oc(c:Cfg)(l a:List bA)(p:Nat): ∀d,a.foldl (Db c l p) d=(a.filter (λh=>decide (BR c l h=p))).foldl (Db c l p) d:=by
 induction a with
 | nil=>intro d;rfl
 | cons h a i =>
  intro d;rw[jZ,iY];by_cases e:BR c l h=p
  ·rw[ij (by simpa using e),jZ,i]
  rw[ig (by simpa using e),i];unfold Db;rw[ig e]
structure eW (c:Cfg) (l:List bA) (r D:List Dr.It):Prop where
 perm:(r++D).Perm (l.map (D3 c))
 num:((l.map (D3 c)).map (·.n)).Nodup
 hC:r.Pairwise (λa b=>Dr.aheadT a b=true/\Dr.aheadT b a=false)
 rest:∀d,d∈D->∀u,u∈r->Dr.aheadT u d=true/\Dr.aheadT d u=false
 size:D≠[]->(r.length:Int)=c.size+1
 len:(r.length:Int)<=c.size+1
 ds:∀z,z∈l->0<=z.d/\z.d<=2147483648
theorem eW.place{c:Cfg}{l:List bA}{h e:List Dr.It}(d:eW c l h e)(a:bA)(k:a∈l): BR c l a=((h++e).filter (λm=>Dr.aheadT m (D3 c a))).length:=by
 unfold BR;rw[(d.perm.filter _).length_eq,List.filter_map,iu];refine congrArg List.length (k7 (λi j=>WV c i a (d.ds i j) (d.ds a k)))
theorem eW.gN{c:Cfg}{l:List bA}{a i:List Dr.It}(e:eW c l a i)(d:bA)(o:d∈l)(p:Nat)(j:p<a.length)(m:D3 c d=a[p]): BR c l d=p:=by
 rw[e.place d o,m,jo,Ur a e.hC p j];have k:i.filter (λh=>Dr.aheadT h a[p])=[]:=jQ.2 (λh n=>by rw[(e.rest h n a[p] (jk j)).2];simp);rw[k,iC,iG];omega
theorem eW.gY{c:Cfg}{l:List bA}{e i:List Dr.It}(d:eW c l e i)(a:bA)(n:a∈l)(j:D3 c a∈i): (c.size+1:Int)<=(BR c l a:Int):=by
 rw[d.place a n,jo,ic];have k:e.filter (λh=>Dr.aheadT h (D3 c a))=e:=kf.2 (λh m=>(d.rest _ j h m).1);rw[k];have:=d.size (List.ne_nil_of_mem j);omega
theorem eW.only{c:Cfg}{l:List bA}{d q:List Dr.It}(h:eW c l d q)(p:Nat)(L:(p:Int)<=c.size):
  (∃i:p<d.length,∃a,l.filter (λa=>decide (BR c l a=p))=[a]/\D3 c a=d[p])\/(d.length<=p/\l.filter (λa=>decide (BR c l a=p))=[]):=by
 have t:∀a,a∈l->BR c l a=p->∃i:p<d.length,D3 c a=d[p]:=by
  intro a e J;have o:D3 c a∈d++q:=h.perm.mem_iff.2 (iK e);rcases ik.1 o with j | j
  ·obtain⟨v,r,s⟩:=jX.1 j;have:=h.gN a e v r s.symm;have C:v=p:=by omega
   subst C;exact⟨r,s.symm⟩
  have:=h.gY a e j;omega
 by_cases i:p<d.length
 ·left;refine⟨i,?_⟩;have o:d[p]∈l.map (D3 c):=h.perm.mem_iff.1 (by simp[jk i]);obtain⟨a,e,F⟩:=iI.1 o;have G:=h.gN a e p i F;have u:(l.filter (λa=>decide (BR c l a=p))).map (λa=>(D3 c a).n) |>.Nodup:=by
   have z:(l.map (λa=>(D3 c a).n)).Nodup:=by have:=h.num;rw[kk]at this;exact this
   exact List.Nodup.sublist (List.filter_sublist.map _) z
  have n:∀k,k∈l.filter (λa=>decide (BR c l a=p))->D3 c k=d[p]:=λk E=>by
   obtain⟨H,I⟩:=kh.1 E;obtain⟨_,j⟩:=t k H (by simpa using I);exact j
  have B:a∈l.filter (λa=>decide (BR c l a=p)):=kh.2 ⟨e,by simpa using G⟩;generalize l.filter (λa=>decide (BR c l a=p))=x at *
  cases x with
  | nil=>simp at B
  | cons m w =>
   cases w with
   | nil=>exact⟨m,rfl,n m (by simp)⟩
   | cons b w =>
    exfalso;rw[iF,iF]at u;have:=(kA.1 u).1;rw[n m (by simp),n b (by simp)]at this;simp at this
 right;refine⟨by omega,jQ.2 (λa e A=>?_)⟩;obtain⟨D,_⟩:=t a e (by simpa using A);exact i D
theorem WL(a:List Dr.It)(p:Nat)(c:p<a.length): three (a.take (p+1))=three (a.take p)++[a[p].t,a[p].k,a[p].d]:=by
 rw[jm c,Ka];rfl
theorem eW.places{c:Cfg}{l:List bA}{h i:List Dr.It}(j:eW c l h i): ∀p:Nat,(p:Int)<=c.size->C2 c l p=(three (h.take p),0,0):=by
 intro p;induction p with
 | zero=>intro _;rfl
 | succ p o =>
  intro q;have k:=o (by omega);show l.foldl (Db c l p) (C2 c l p)=_;rw[k,Oc];rcases j.only p (by omega) with ⟨e,a,d,n⟩ | ⟨e,d⟩
  ·rw[d];have m:BR c l a=p:=by
    have:a∈l.filter (λa=>decide (BR c l a=p)):=by rw[d];simp
    simpa using(kh.1 this).2
   rw[WL h p e,<-n];show Db c l p _ a=_;unfold Db;rw[ij m,ij (by omega)];rfl
  rw[d,iw e,iw (by omega)];rfl
theorem eW.drawn{c:Cfg}{l:List bA}{a j:List Dr.It}(i:eW c l a j)(s:0<=c.size): Hh c l=three (a.take (min c.size.toNat a.length))++[(Fe c.size.toNat a).v,(Fe c.size.toNat a).d]:=by
 have m:(c.size.toNat:Int)=c.size:=by omega
 have o:=i.places c.size.toNat (by omega);have k:C2 c l (c.size.toNat+1)=(three (a.take c.size.toNat),(Fe c.size.toNat a).v,(Fe c.size.toNat a).d):=by
  show l.foldl (Db c l c.size.toNat) (C2 c l c.size.toNat)=_;rw[o,Oc];unfold Fe;rcases i.only c.size.toNat (by omega) with ⟨h,d,e,r⟩ | ⟨h,e⟩
  ·rw[e,ij h];have q:BR c l d=c.size.toNat:=by
    have:d∈l.filter (λd=>decide (BR c l d=c.size.toNat)):=by rw[e];simp
    simpa using(kh.1 this).2
   rw[Dr.itAt_get a _ h,<-r];show Db c l c.size.toNat _ d=_;unfold Db;rw[ij q,ig (by omega),ij m];rfl
  rw[e,ig (by omega)];rfl
 unfold Hh;rw[k];simp only;congr 2;by_cases n:c.size.toNat<=a.length
 ·rw[jG n]
 rw[lD (by omega),iw (by omega),iw (ir _)]
theorem cW.ids{d:List aJ}{a:List aG}(c:cW d a): d.map (·.id)=a.map (·.id):=by
 induction d generalizing a with
 | nil=>cases a with | nil=>rfl | cons y a=>exact c.elim
 | cons h d e=>cases a with | nil=>exact c.elim | cons y a=>rw[iF,iF,e c.2,c.1.id]
theorem Px{d:List aG}{id:Int}{y h:aG}(i:(d.map (·.id)).Nodup)(c:h∈Do d id y): h=y\/(h∈d/\h.id≠id):=by
 induction d with
 | nil=>simp[Do]at c
 | cons k d m =>
  rw[iF]at i;have j:=kA.1 i;unfold Do at c;by_cases e:k.id=id
  ·rw[ij (by simpa using e)]at c;rcases iA.1 c with a | a
   ·exact .inl a
   refine .inr ⟨by simp[a],λl=>j.1 ?_⟩;rw[e,<-l];exact iK a
  rw[ig (by simpa using e)]at c;rcases iA.1 c with a | a
  ·exact .inr ⟨by simp[a],by rw[a];exact e⟩
  rcases m j.2 a with n | ⟨o,q⟩
  ·exact .inl n
  exact .inr ⟨by simp[o],q⟩
theorem Ot(f:Nat): ∀(y:aG) (mark aC:Int),(BX f y mark aC).id=y.id:=by
 induction f with
 | zero=>intro y mark aC;rfl
 | succ f a =>
  intro y mark aC;unfold BX;split
  ·rfl
  exact a _ _ _
theorem SD(l m:Int): ∀(e:List aG) (b:Int) (y:aG),y∈(BA l m b e).1->∃c,c∈e/\y.id=c.id/\y.c=c.c/\y.items=(Bl l m c).items:=by
 intro e;induction e with
 | nil=>intro b y d;simp[BA]at d
 | cons j e k =>
  intro b y d;unfold BA at d;split at d
  ·rcases iA.1 d with a | a
   ·exact⟨j,by simp,by rw[a];exact Ot _ _ _ _,by rw[a];exact Ko _ _ _ _,by rw[a];rfl⟩
   obtain⟨c,h,i⟩:=k _ y a;exact⟨c,by simp[h],i⟩
  rcases iA.1 d with a | a
  ·exact⟨j,by simp,by rw[a];exact Ot _ _ _ _,by rw[a];exact Ko _ _ _ _,by rw[a]⟩
  obtain⟨c,h,i⟩:=k _ y a;exact⟨c,by simp[h],i⟩
structure JW (s:WS) (r:cV) (A:Int->List It):Prop where
 rel:fY s r
 bC:∀y,y∈r.xs->YI r.clock y (A y.id)
theorem zP2{n:Int}{s:WS}{c:cV}{i:Int->List It}(hi:bQ n s.clock s.xs)(Q:n<4611686018427387904)(E:GW 2 PD s i)(d:JW s c i)(o:aO)(R:IK o): JW (Ax s o).1 (EO c o) (λid=>i id++DU s o id):=by
 obtain⟨e,X⟩:=P6 s c o d.rel R hi Q;have F:(c.xs.map (·.id)).Nodup:=by rw[<-d.rel.xs.ids];exact E.ids
 refine⟨X,λy a=>?_⟩;by_cases D:o.kind=4\/o.kind=5
 ·have j:EO c o=c:=by unfold EO;rw[ij D]
  rw[j]at a ⊢;rw[F5 (.inl (by omega)),iC];exact d.bC y a
 have j:EO c o=(BP c o).1:=by unfold EO;rw[ig D]
 have L:Hw c o=(BP c o).2:=by unfold Hw;rw[ig (by omega)]
 rw[L]at e;rw[j]at a ⊢;by_cases v:o.kind=1
 ·have l:BP c o=CU c o:=by unfold BP;rw[ij v]
  rw[l]at a ⊢;show YI _ y (i y.id++DU s o y.id);rw[F5 (.inl (by omega)),iC];unfold CU at a ⊢;by_cases c1:Ab o.id 0 99=true/\(EI c.xs o.id).isNone=true
  ·rw[ij c1]at a ⊢;by_cases c2:Ak o.cfg=true
   ·rw[ij c2]at a ⊢;by_cases c3:c.xs.length=6
    ·rw[ij c3]at a ⊢;exact d.bC y a
    rw[ig c3]at a ⊢;rcases ik.1 a with k | k
    ·exact d.bC y k
    rw[im]at k;subst k
    have M:i o.id=[]:=E.none o.id (λG=>by
       rw[d.rel.xs.ids]at G;obtain⟨Y,T,U⟩:=iI.1 G;have:=c1.2;unfold EI at this;rw[Option.isNone_iff_eq_none,lB]at this
       exact this Y T (by simpa using U))
    exact⟨by show[]=i o.id;rw[M],λw q=>by simp[CP]at q⟩
   rw[ig c2]at a ⊢;exact d.bC y a
  rw[ig c1]at a ⊢;exact d.bC y a
 by_cases r:o.kind=2
 ·have l:BP c o=Fi c o:=by unfold BP;rw[ig v,ij r]
  rw[l]at a e ⊢;show YI _ y (i y.id++DU s o y.id);unfold Fi at a e ⊢;cases hf:EI c.xs o.id with
  | none =>
   rw[hf]at a e;simp only at a e ⊢;rw[F5 (.inr (by rw[e];simp)),iC];exact d.bC y a
  | some h =>
   rw[hf]at a e;simp only at a e ⊢;have I:h∈c.xs:=jc hf;have V:h.id=o.id:=by have:=List.find?_some hf;simpa using this
   by_cases m:Cp h c.clock o=0
   ·rw[ij m]at a e ⊢;rcases Px F a with k | ⟨u,A⟩
    ·subst k;have t:=d.bC h I;have x:DU s o (Fh h o).id=[⟨o.a,o.b,o.c,(h.items.length:Int)+1⟩]:=by
      unfold DU;rw[ij ⟨r,V.symm,by rw[e]⟩,e];rfl
     rw[x];have P:¬o.a<=c.clock-h.c.aL:=by
      intro z;unfold Cp at m;rw[ij z]at m;split at m <;> omega
     refine⟨?_,λw q=>?_⟩
     ·show(h.items++[_]).map Ct=i h.id++_;rw[iB,t.bC];rfl
     rcases ik.1 q with j | j
     ·exact t.tk w j
     rw[im]at j;subst j;exact⟨iL _,λS=>absurd S (by show ¬(0:Int)<0;omega),λz=>absurd z P⟩
    have x:DU s o y.id=[]:=by unfold DU;rw[ig (λO=>A O.2.1.symm)]
    rw[x,iC];exact d.bC y u
   rw[ig m]at a e ⊢;rw[F5 (.inr (by rw[e];exact m)),iC];rcases Px F a with k | ⟨u,_⟩
   ·subst k;have t:=d.bC h I;exact⟨t.bC,t.tk⟩
   exact d.bC y u
 rw[F5 (.inl r),iC];by_cases C:o.kind=3
 ·have l:BP c o=Ix c o:=by unfold BP;rw[ig v,ig r,ij C]
  rw[l]at a ⊢;unfold Ix at a ⊢;split at a
  ·rename_i c1;rw[ij c1];split at a
   ·rename_i c2;rw[ij c2];obtain⟨B,u,A,W,J⟩:=SD _ _ _ _ _ a;have N:c.clock<=Av c.clock o.a:=by unfold Av;split <;> omega
    have H:=zM0 (aC:=c.aC+1) (d.bC B u) (by have:=d.rel.aC;omega) N;refine⟨by rw[J,A];exact H.bC,λw q=>?_⟩;rw[J]at q;have:=H.tk w q;rw[show(Bl (Av c.clock o.a) (c.aC+1) B).c=B.c from Ko _ _ _ _]at this;rw[W];exact this
   rename_i c2;rw[ig c2];exact d.bC y a
  rename_i c1;rw[ig c1];exact d.bC y a
 have l:BP c o=(c,1,[]):=by unfold BP;rw[ig v,ig r,ig C]
 rw[l]at a ⊢;exact d.bC y a
theorem Yv(c:Cfg)(l h:List bA)(p:Nat): ∀a,(h.foldl (Db c l p) a).1.length<=a.1.length+3*(h.filter (λd=>decide (BR c l d=p))).length:=by
 induction h with
 | nil=>intro a;exact ir _
 | cons d h j =>
  intro a;rw[jZ,iY];have i:=j (Db c l p a d);by_cases e:BR c l d=p
  ·rw[ij (by simpa using e),iD];have:(Db c l p a d).1.length<=a.1.length+3:=by
    unfold Db;rw[ij e];split
    ·simp
    split <;> simp
   omega
  rw[ig (by simpa using e)];have:(Db c l p a d)=a:=by unfold Db;rw[ig e]
  rw[this]at i ⊢;exact i
theorem OP(c:Cfg)(l d:List bA)(p:Nat)(h:c.size<=(p:Int)): ∀a,(d.foldl (Db c l p) a).1=a.1:=by
 induction d with
 | nil=>intro a;rfl
 | cons i d e =>
  intro a;rw[jZ,e];unfold Db;split
  ·rw[ig (by omega)];split <;> rfl
  rfl
theorem eW.fR{c:Cfg}{l:List bA}{j k:List Dr.It}(h:eW c l j k)(u:c.size<=5)(a i:Nat): (B0 c l a i).1.length<=100:=by
 have m:∀a,(C2 c l a).1.length<=15:=by
  intro a;induction a with
  | zero=>show([]:List Int).length<=15;simp
  | succ a o =>
   by_cases n:(a:Int)+1<=c.size
   ·rw[h.places (a+1) (by omega)];show(three (j.take (a+1))).length<=15;rw[Gf,iG];omega
   show(l.foldl (Db c l a) (C2 c l a)).1.length<=15;rw[OP c l l a (by omega)];exact o
 have q:=m a;unfold B0;by_cases n:(a:Int)<c.size
 ·have r:=Yv c l (l.take i) a (C2 c l a);have s:((l.take i).filter (λd=>decide (BR c l d=a))).length<=(l.filter (λd=>decide (BR c l d=a))).length:=((List.take_sublist i l).filter _).length_le;have t:(l.filter (λd=>decide (BR c l d=a))).length<=1:=by
   rcases h.only a (by omega) with ⟨_,d,e,_⟩ | ⟨_,e⟩
   ·rw[e];simp
   rw[e];simp
  omega
 rw[OP c l _ a (by omega)];omega
theorem R6{c:Cfg}{a:List Dr.It}{R:List It}{l:List bA}(j:TG c a R)(k:(l.map Ct).Perm R)(I:(R.map (·.n)).Nodup)(J:∀x,x∈R->fJ c 5 x): ∃d,eW c l (Dr.allL (a.length+1) a).reverse d:=by
 obtain⟨d,C,D,E⟩:=j.ex;obtain⟨A,B⟩:=Dr.dV (a.length+1) a (by omega) j.heap;have m:((Dr.allL (a.length+1) a).reverse).Perm a:=(List.reverse_perm _).trans A;have u:((Dr.allL (a.length+1) a).reverse++d).Perm (l.map (D3 c)):=by
  refine(m.append_right d).trans (C.trans ?_);have:=(k.map (tick c)).symm;rw[kk]at this;exact this
 have s:((l.map (D3 c)).map (·.n)).Nodup:=by
  rw[kk];have F:(l.map ((λS:Dr.It=>S.n) ∘ D3 c))=(l.map Ct).map (·.n):=by rw[kk];rfl
  rw[F];exact(k.map (·.n)).nodup_iff.2 I
 have t:(((Dr.allL (a.length+1) a).reverse++d).map (·.n)).Nodup:=(u.map (·.n)).nodup_iff.2 s;rw[iB]at t;obtain⟨N,_,O⟩:=jH.1 t;have q:(Dr.allL (a.length+1) a).reverse.length=a.length:=m.length_eq;refine⟨d,u,s,?_,λi n e v=>?_,λG=>by rw[q];exact E G,by rw[q];exact j.len,λz M=>?_⟩
 ·have P:(Dr.allL (a.length+1) a).reverse.Pairwise (λh b=>Dr.cX b h):=List.pairwise_reverse.2 B;have Q:(Dr.allL (a.length+1) a).reverse.Pairwise (λh b=>h.n≠b.n):=List.pairwise_map.1 N;exact(P.and Q).imp (λ⟨w,k2⟩=>⟨Pu w k2,Ps w (lE k2)⟩)
 ·have L:e∈a:=m.mem_iff.1 v;have o:=(D i n).2 e L;have r:e.n≠i.n:=O e.n (iK v) i.n (iK n);exact⟨Pu o r,Ps o (lE r)⟩
 have H:Ct z∈R:=k.mem_iff.1 (iK M);have:=MK (J _ H);exact⟨by have:=this.1;show 0<=(Ct z).d;omega,this.2⟩
structure KW (n:Int) (s:WS) (r:cV) (A:Int->List It):Prop where
 inv:bQ n s.clock s.xs
 g2:GW 2 PD s A
 g3:GW 3 PO s A
 g5:GW 5 PT s A
 j:JW s r A
def fW(o:aO): Prop:=o.kind≠6/\o.kind≠7
theorem KW.step{n:Int}{s:WS}{d:cV}{h:Int->List It}(a:KW n s d h)(l:0<=n)(m:n<4611686018427387904)(o:aO)(i:fW o): KW (n+1) (Ax s o).1 (EO d o) (λid=>h id++DU s o id):=by
 have c:o.kind≠7:=i.2;refine⟨PU o a.inv l (Ow c),MZ zOr a.inv a.g2 o c,MZ zPi a.inv a.g3 o c,MZ zPh a.inv a.g5 o c,?_⟩;by_cases e:o.kind=4
 ·have j:(Ax s o).1=s:=by
   unfold Ax;rw[ig (by omega),ig (by omega),ig (by omega),ij e];unfold Eb;split <;> rfl
  have k:EO d o=d:=by unfold EO;rw[ij (.inl e)]
  rw[j,k];refine⟨a.j.rel,λy q=>?_⟩;rw[F5 (.inl (by omega)),iC];exact a.j.bC y q
 exact zP2 a.inv m a.g2 a.j o ⟨e,i⟩
theorem cW.mem{e:List aJ}{a:List aG}(c:cW e a){y:aG}(i:y∈a): ∃d,d∈e/\dG d y:=by
 induction e generalizing a with
 | nil=>cases a with | nil=>simp at i | cons j a=>exact c.elim
 | cons d e m =>
  cases a with
  | nil=>exact c.elim
  | cons j a =>
   rcases iA.1 i with h | h
   ·exact⟨d,by simp,by rw[h];exact c.1⟩
   obtain⟨n,k,l⟩:=m c.2 h;exact⟨n,by simp[k],l⟩
theorem KW.pair{n:Int}{s:WS}{v:cV}{i:Int->List It}(q:KW n s v i){x:aJ}{y:aG}(z:x∈s.xs)(A:y∈v.xs)(u:dG x y){k:Nat}{P:Cfg->Int->aU->List It->Prop}(w:GW k P s i)(r:x.k=k):
  ∃c,P x.c (s.clock-x.c.aL) x.nt c/\(c.map (·.n)).Nodup/\(∀a,a∈c->fJ x.c k a)/\(∀e,((Bv y.items e (s.clock-x.c.aL)).map Ct).Perm (c.filter (λd=>decide (e<d.t))))/\∀d,d∈y.items->fJ x.c k (Ct d):=by
 have h:=w.bL x z r;obtain⟨c,C,_,D,m⟩:=h.whole;have l:=q.j.bC y A;rw[<-u.id]at l;have t:∀a,a∈i x.id->fJ x.c k a:=λa j=>by rw[<-r];exact h.fW a j
 refine⟨c,C,?_,λa j=>t a (m.mem_iff.1 (by simp[j])),λe=>?_,λd B=>t _ (by rw[<-l.bC];exact iK B)⟩
 ·have:=(m.map (·.n)).nodup_iff.2 (OO h.num);rw[iB]at this;exact(jH.1 this).1
 have o:=X1 l e;rw[<-q.j.rel.clock,<-u.c]at o;rw[o];exact YM m D h.wait
theorem KW.gG{n:Int}{s:WS}{t:cV}{z:Int->List It}(a:KW n s t z)(y:aG)(l:y∈t.xs): fX t.clock y:=by
 obtain⟨q,j,d⟩:=a.j.rel.xs.mem l;have L:y.c.kind=q.k:=by rw[<-d.c];exact d.kind
 have u:∀h,q.k=h->(h=2\/h=3)->∀c,fJ q.c h c->0<=c.k/\c.k<=2147483648:=by
  intro h _ i c e;have:=e.fit;rcases i with o | o <;> subst o
  all_goals
   unfold AP Dx at this;simp only at this;split at this
   ·rename_i B;exact Bu B
   omega
 refine⟨λi c e=>?_,λi c e=>?_,λi r E=>?_⟩
 ·rcases i with o | o
  ·obtain⟨_,_,_,_,_,m⟩:=a.pair j l d a.g2 (by omega);exact u 2 (by omega) (.inl rfl) _ (m c e)
  obtain⟨_,_,_,_,_,m⟩:=a.pair j l d a.g3 (by omega);exact u 3 (by omega) (.inr rfl) _ (m c e)
 ·obtain⟨_,_,_,_,_,m⟩:=a.pair j l d a.g5 (by omega);have:=MK (m c e);exact⟨by have:=this.1;show 0<=(Ct c).d;omega,this.2⟩
 obtain⟨J,F,G,x,H,_⟩:=a.pair j l d a.g5 (by omega);have v:=H (-1);rw[kf.2 (λr C=>by have:=(x r C).t0;simp;omega)]at v;obtain⟨I,A⟩:=R6 F v G x;have w:=(a.inv.bD q j);have D:=EA (k:=5) w.valid (by rw[w.kind];omega) rfl;rw[<-a.j.rel.clock,<-d.c];exact A.fR D.2 r E
theorem KW.query{n:Int}{s:WS}{u:cV}{z:Int->List It}(h:KW n s u z)(o:aO)(F:o.kind=4): (Ax s o).2=FR u o:=by
 have r:Ax s o=Eb s o:=by
  unfold Ax;rw[ig (by omega),ig (by omega),ig (by omega),ij F]
 rw[r];unfold Eb FR;rcases h.j.rel.xs.find o.id with ⟨m,b⟩ | ⟨a,y,m,b,d⟩
 ·rw[m,b]
 rw[m,b];have q:a∈s.xs:=jc m;have t:y∈u.xs:=jc b;have i:=h.inv.bD a q;have I:y.c.kind=a.k:=by rw[<-d.c];exact d.kind
 simp only;show Bc a.k a.c a.nt o.a (s.clock-a.c.aL)=_;rw[<-h.j.rel.clock,I,<-d.c];have N:=i.k1;have O:=i.k5;rcases Au N O with c | c | c | c | c
 ·unfold Bc;rw[ig (show ¬a.k=4 by omega),ij c,ij (show(a.k:Int)=1 by omega),d.gE c,<-d.c]
 ·obtain⟨v,j,_,_,l,_⟩:=h.pair q t d h.g2 c;unfold Bc;rw[ig (show ¬a.k=4 by omega),ig (show ¬a.k=1 by omega),ij c,ig (show ¬(a.k:Int)=1 by omega),ij (show(a.k:Int)=2 by omega)];unfold Gb;by_cases e:Ab o.a 1 a.c.aB=true
  ·rw[ij e,ij e];have S:=Bu e;have D:=ZT (T:=s.clock-a.c.aL-o.a) j (by omega) (l (s.clock-a.c.aL-o.a));rw[D];rfl
  rw[ig e,ig e]
 ·obtain⟨v,j,_,_,l,_⟩:=h.pair q t d h.g3 c;obtain⟨_,L,G,_,_⟩:=D5 (k:=3) i.valid (by rw[i.kind];omega) rfl;unfold Bc;rw[ig (show ¬a.k=4 by omega),ig (show ¬a.k=1 by omega),ig (show ¬a.k=2 by omega),ij c,ig (show ¬(a.k:Int)=1 by omega),ig (show ¬(a.k:Int)=2 by omega),ij (show(a.k:Int)=3 by omega)];by_cases e:Ab o.a 0 2147483648=true
  ·rw[ij e,ij e,Z0 j G L (l _)]
  rw[ig e,ig e]
 ·unfold Bc;rw[ij c,ig (show ¬(a.k:Int)=1 by omega),ig (show ¬(a.k:Int)=2 by omega),ig (show ¬(a.k:Int)=3 by omega),ig (show ¬(a.k:Int)=5 by omega)];obtain⟨A,B,C⟩:=YD y.c y.items 0 0 d.tick (by omega) (by omega);have M:=d.sum c;have U:=d.r0;have V:=d.r1;rw[<-d.c]at A B C;have r:a.nt.q=(Dc a.c y.items 0 0).1:=by omega
  have E:a.nt.r=(Dc a.c y.items 0 0).2:=by omega
  rw[r,E]
 obtain⟨v,j,Q,x,l,_⟩:=h.pair q t d h.g5 c;have w:=l (-1);rw[kf.2 (λP J=>by have:=(x P J).t0;simp;omega)]at w;obtain⟨R,H⟩:=R6 j w Q x;have M:=EA (k:=5) i.valid (by rw[i.kind];omega) rfl;unfold Bc;rw[ig (show ¬a.k=4 by omega),ig (show ¬a.k=1 by omega),ig (show ¬a.k=2 by omega),ig (show ¬a.k=3 by omega),ij c,ig (show ¬(a.k:Int)=1 by omega),ig (show ¬(a.k:Int)=2 by omega),ig (show ¬(a.k:Int)=3 by omega),ij (show(a.k:Int)=5 by omega),H.drawn (by omega)];rfl
theorem KW.hS{n:Int}{s:WS}{d:cV}{e:Int->List It}(a:KW n s d e)(h:n<4611686018427387904)(o:aO)(i:fW o): (Ax s o).2=Hu d o:=by
 unfold Hu;split
 ·rename_i c;exact a.query o c
 rename_i c;exact(P6 s d o a.j.rel ⟨c,i⟩ a.inv h).1
theorem dJ: fY Dh Br:=⟨rfl,by simp[Br],trivial,by simp[Dh],by simp[Dh]⟩
theorem RP: KW 0 Dh Br (λ_=>[]):=⟨IB,⟨by simp[Dh],λ_ _=>rfl,λc a=>by simp[Dh]at a⟩,⟨by simp[Dh],λ_ _=>rfl,λc a=>by simp[Dh]at a⟩,⟨by simp[Dh],λ_ _=>rfl,λc a=>by simp[Dh]at a⟩,⟨dJ,λy d=>by simp[Br]at d⟩⟩
theorem Q2(f m:Nat): 1<=(Ck f m).length:=by
 cases f with
 | zero=>simp[Ck]
 | succ f=>unfold Ck;split <;> simp
theorem Yw(f:Nat): ∀a,a<128 ^ (f+1)->a<128 ^ (Ck f a).length/\∀c,c<(Ck f a).length->(Ck f a).getD c 0%128=a/128 ^ c%128/\((Ck f a).getD c 0<128↔c+1=(Ck f a).length)/\(Ck f a).getD c 0<256:=by
 induction f with
 | zero =>
  intro a e;have n:a<128:=by simpa using e
  refine⟨by simpa[Ck] using n,λc d=>?_⟩;have h:c=0:=by simp[Ck]at d;exact d
  subst h;simp[Ck];omega
 | succ f q =>
  intro a e;unfold Ck;split
  ·rename_i k;refine⟨by simp;omega,λc d=>?_⟩;have h:c=0:=by simp at d;exact d
   subst h;simp;omega
  rename_i k;have o:a/128<128 ^ (f+1):=(lI (by omega)).2 (by rw[kM]at e;exact e);obtain⟨l,m⟩:=q (a/128) o;have r:=Q2 f (a/128);refine⟨?_,λc d=>?_⟩
  ·rw[iD,kM];exact(lI (by omega)).1 l
  cases c with
  | zero =>
   rw[List.getD_cons_zero,iD,Nat.pow_zero,lN];omega
  | succ c =>
   rw[iD]at d;obtain⟨i,b,j⟩:=m c (by omega);rw[List.getD_cons_succ,iD];refine⟨?_,by rw[b];omega,j⟩;rw[i,Nat.div_div_eq_div_mul,kM,lF]
theorem YV(f:Nat): ∀a c,1<=a->c<128 ^ a->(Ck f c).length<=a:=by
 induction f with
 | zero=>intro a c d _;simp[Ck];exact d
 | succ f j =>
  intro a c d e;unfold Ck;split
  ·simp;exact d
  rename_i k;have l:2<=a:=by
   rcases kC a 2 with i | i
   ·have:a=1:=by omega
    subst this;simp at e;omega
   exact i
  obtain⟨h,rfl⟩:∃h,a=h+1:=⟨a-1,by omega⟩;have:=j h (c/128) (by omega) ((lI (by omega)).2 (by rw[kM]at e;exact e));simp;omega
theorem zKs(n:Int)(a:n<=9223372036854775807): (enc n).length<=9 :=
 YV 9 9 _ (by omega) (by have:(128:Nat) ^ 9=9223372036854775808:=(by decide);rw[this];omega)
theorem T1(m i:Nat): m%128 ^ (i+1)=m%128 ^ i+(m/128 ^ i%128)*128 ^ i:=by
 rw[kM,Nat.mod_mul,lF]
theorem zP4(m i:Nat): m%128 ^ i ||| (m/128 ^ i%128)*128 ^ i=m%128 ^ (i+1):=by
 have a:(128:Nat) ^ i=2 ^ (7*i):=by rw[Nat.pow_mul]
 have c:m%128 ^ i<2 ^ (7*i):=by rw[<-a];exact Nat.mod_lt _ (Nat.pow_pos (by omega))
 rw[T1];have:=Nat.shiftLeft_add_eq_or_of_lt c (m/128 ^ i%128);rw[Nat.shiftLeft_eq,<-a]at this;rw[Nat.or_comm,<-this,k6]
theorem Jz(l:List Nat): (AQ l).size=l.length:=by
 unfold AQ strOfNums;show(List.toArray _).size=_;simp
theorem Z4(l:List Nat)(i:Nat)(hi:i<l.length)(c:l.getD i 0<256)(h:i<(AQ l).size): (((AQ l)[i]'h).toNat:Int)=((l.getD i 0:Nat):Int):=by
 have a:(AQ l)[i]'h=UInt8.ofNat (l.getD i 0):=by
  show(AQ l).data[i]=_;unfold AQ strOfNums;simp[List.getD_eq_getElem?_getD,h9 hi]
 rw[a,UInt8.toNat_ofNat'];omega
theorem Qc(l:List Nat)(k:Nat): (AQ l).extract k (AQ l).size=AQ (l.drop k):=by
 rw[Jz];unfold AQ strOfNums;rw[ByteArray.extract_mk];congr 2;rw[List.map_drop,List.map_drop];rw[iw (by simp)]
theorem VC(a b:Nat)(c:a<9223372036854775808)(d:b<9223372036854775808): bits .or .i64 (a:Int) (b:Int)=((a ||| b:Nat):Int):=by
 have e:a ||| b<2 ^ 63:=Nat.or_lt_two_pow (by omega) (by omega)
 show IntKind.i64.wrap ((BitVec.ofInt 64 (a:Int) ||| BitVec.ofInt 64 (b:Int)).toNat:Int)=_;rw[BitVec.toNat_or,ofInt_u64 a (by omega),ofInt_u64 b (by omega),il];omega
structure aR (w:World) (r:Nat) (l:List Nat):Prop where
 aF:aD w r [.string (AQ l),.bool false] 169
 len:l.length<=140737488355328
theorem aR.keeps{M:Nat->Prop}{w w':World}{a:Nat}{l:List Nat}(c:aR w a l)(d:aA M w w')(e:¬M a): aR w' a l:=⟨c.aF.keeps d e,c.len⟩
theorem zKf(m:Nat)(n:Int)(tl:List Nat)(w:World)(h:aR w m (enc n++tl))(ap:0<=n)(n1:n<=9223372036854775807):
  Calls prog 123 #[π m] w λj S=>j=.returned (.tuple #[ι n,.bool true])/\aR S m tl/\aA (λa=>a=m) w S:=by
 obtain⟨c,rfl⟩:=jl ap;have F:enc (c:Int)=Ck 9 c:=by unfold enc;rw[iM]
 have ak:c<128 ^ 9:=by have:(128:Nat) ^ 9=9223372036854775808:=(by decide);omega
 have G:c<9223372036854775808:=by omega
 have a1:=zKs (c:Int) n1;have C:=Yw 9 c (by have:(128:Nat) ^ (9+1)=1180591620717411303424:=(by decide);omega);rw[<-F]at C;have al:=Q2 9 c;rw[<-F]at al;have c0:=h.aF.c0;have av:=h.aF.frozen;have O:(AQ (enc (c:Int)++tl)).size=(enc (c:Int)).length+tl.length:=by rw[Jz,ic]
 have aj:=h.len;rw[ic]at aj
 have X:=Aa (show ∀a,a<(enc (c:Int)).length->∀h:a<(AQ (enc (c:Int)++tl)).size,(((AQ (enc (c:Int)++tl))[a]'h).toNat:Int)=(((enc (c:Int)).getD a 0:Nat):Int) from λa k aw=>by
    have j:(enc (c:Int)++tl).getD a 0=(enc (c:Int)).getD a 0:=by
     rw[γ,γ,iN k]
    rw[Z4 _ a (by rw[ic];omega) (by rw[j];exact(C.2 a k).2.2),j])
 have V:=Aa (show ∀a,a+1=(enc (c:Int)).length->(AQ (enc (c:Int)++tl)).extract (a+1) (AQ (enc (c:Int)++tl)).size=AQ tl from λa k=>by
    rw[Qc,k,List.drop_left])
 have I:=Aa C;have T:=Aa h.aF;have aa:=Aa (show tl.length<=140737488355328 by omega);clear h F C;generalize enc (c:Int)=E at *
 generalize ag:E.length=l at *
 generalize M:tl.length=ae at *
 generalize AQ (E++tl)=ar at *
 obtain⟨SZ,o⟩:∃SZ:Nat,SZ=l+ae:=⟨_,rfl⟩;rw[<-o]at O;have Z:=Aa o;have ab:=Aa M;clear o ag M;go_enter func123,ntmps123;by_cases L:(SZ:Int)<9;all_goals
  go_wp2;clear L;go_loopw [4,13] (λaq H wr=>∃a:Nat,a<l/\H=ι a/\aq=ι ((c%128 ^ a:Nat):Int)/\wr=w) (λ_ H _=>9-(intOf H).toNat)
  case atStart=>exact⟨0,by omega,rfl,by rw[Nat.pow_zero,Nat.mod_one];rfl,rfl⟩
  case round =>
   obtain⟨a,k,rfl,rfl,rfl⟩:=hrel;have o:=Z.o;have a0:(a:Int)<(SZ:Int):=by omega
   have az:(a:Int)<9:=by omega
   have ay:(0:Int)<=(a:Int):=by omega
   have a3:IntKind.i64.wrap (7*(a:Int))=((7*a:Nat):Int):=by rw[il];omega
   have ai:=X.o a k (by omega);obtain⟨i,P⟩:∃i,E.getD a 0=i:=⟨_,rfl⟩;obtain⟨D,s,Q⟩:=I.o.2 a k;rw[P]at D s Q ai;obtain⟨t,x⟩:∃t,c%128 ^ a=t:=⟨_,rfl⟩;obtain⟨d,z⟩:∃d,i%128=d:=⟨_,rfl⟩;obtain⟨u,B⟩:∃u,c%128 ^ (a+1)=u:=⟨_,rfl⟩;obtain⟨e,A⟩:∃e,d*128 ^ a=e:=⟨_,rfl⟩;have r:=zP4 c a;rw[<-D,z,A,x,B]at r;have af:t<=c:=by rw[<-x];exact Nat.mod_le _ _
   have N:e<=c:=by
    rw[<-A,<-z,D];exact jN (Nat.mul_le_mul_right _ (Nat.mod_le _ _)) (Nat.div_mul_le_self _ _)
   have au:bits BinOp.and IntKind.u8 (i:Int) 127=(d:Int):=by
    have:=u8_and_nat i 127 Q (by omega);rw[nat_mask7,z]at this;exact this
   have am:wrap64 ((d:Int)*2 ^ (7*a))=(e:Int):=by
    have j:((d:Int)*2 ^ (7*a))=(e:Int):=by
     rw[<-A,Int.natCast_mul,Int.natCast_pow];congr 1;rw[Int.pow_mul];rfl
    rw[j];have:=il (e:Int);unfold wrap64;have L:(e:Int)<9223372036854775808:=Int.ofNat_lt.2 (Nat.lt_of_le_of_lt N G);clear j r;omega
   have a2:wrap64 (d:Int)=(d:Int):=by
    have:=il (d:Int);unfold wrap64;clear r am;omega
   have ah:=VC t e (Nat.lt_of_le_of_lt af G) (Nat.lt_of_le_of_lt N G);rw[r]at ah;have W:=Aa (show a+1=l->ar.extract (a+1) SZ=AQ tl from λh=>by rw[<-O];exact V.o a h);have ad:=Aa (show a+1=l->u=c from λh=>by rw[<-B,h];exact Nat.mod_eq_of_lt I.o.1);have J:=Aa B;rw[x];clear D x z B A r P o;by_cases R:i<128
   ·have q:=s.1 R;have ax:=W.o q;have ao:=ad.o q;subst ao;have an:(i:Int)<128:=by omega
    have U:=Aa (T.o.setCell 0 (.string (AQ tl)));have Y:=Aa ((aA.refl (λa=>a=m) wr).setCell (p:=⟨m,0,none⟩) (Or.inl rfl) (.string (AQ tl)));clear s q ak;go_wp2;refine iV (v:=.tuple #[ι u,.bool true]) (by simp[results,results123,go_sem]) rfl ?_;exact⟨rfl,⟨U.o,by rw[ab.o];exact aa.o⟩,Y.o⟩
   have an:decide ((i:Int)<128)=false:=by simp;omega
   have q:a+1<l:=by
    have:¬(a+1=l):=λh=>R (s.2 h);omega
   clear s;go_wp2;go_roundw;case rel=>exact⟨a+1,q,by go_num,by first | (rw[J.o];done) | simp[J.o],by trivial⟩
   case measure=>simp[intOf];omega
theorem Gk(c:Nat)(w:World): Calls prog 124 #[π c,.bool true] w λa d=>a=.returned (.tuple #[])/\d=w:=by
 go_enter func124,ntmps124;go_wp2;go_end0;exact⟨rfl,rfl⟩
theorem EP(a:Nat)(n lo hi:Int)(tl:List Nat)(w:World)(i:aR w a (enc n++tl))(t:0<=n)(n1:n<=9223372036854775807)(o:lo<=n)(q:n<=hi):
  Calls prog 77 #[π a,ι lo,ι hi] w λd k=>d=.returned (ι n)/\aR k a tl/\aA (λs=>s=a) w k:=by
 have r:Ab n lo hi=true:=by simp[Ab,o,q]
 go_enter func77,ntmps77;go_wp2_with fail
 refine(zKf a n tl w i t n1).mono ?_;rintro d v ⟨rfl,e,j⟩;have m:=Aa e;have l:=Aa j;have u:=e.aF.c1;clear i e j;go_wp2_with fail
 refine(AN n lo hi _).mono ?_;rintro d h ⟨rfl,c⟩;rw[c,r];clear c h;go_wp2_with fail
 refine(Gk a _).mono ?_;rintro d h ⟨rfl,c⟩;rw[c];clear c h;go_wp2;go_ret;exact⟨rfl,m.o,l.o⟩
def DF: List Value->List Nat->List Int->List Value
 | cs,o::os,n::ns=>DF (cs.set o (ι n)) os ns
 | cs,_,_=>cs
theorem Uz(a:List Nat): ∀(cs:List Value) (ns:List Int),(DF cs a ns).length=cs.length:=by
 induction a with
 | nil=>intro cs ns;rfl
 | cons e a c =>
  intro cs ns;cases ns with
  | nil=>rfl
  | cons d ns=>show(DF (cs.set e (ι d)) a ns).length=_;rw[c];simp
theorem XN(a:List Nat): ∀(cs:List Value) (ns:List Int) (o:Nat) (n:Int),a.length=ns.length->DF cs (a++[o]) (ns++[n])=(DF cs a ns).set o (ι n):=by
 induction a with
 | nil =>
  intro cs ns o n c;cases ns with
  | nil=>rfl
  | cons d ns=>simp at c
 | cons d a e =>
  intro cs ns o n c;cases ns with
  | nil=>simp at c
  | cons b ns =>
   show DF (cs.set d (ι b)) (a++[o]) (ns++[n])=(DF (cs.set d (ι b)) a ns).set o (ι n);exact e _ _ _ _ (by simpa using c)
theorem Mb(j i:Nat)(d:List Nat)(ns:List Int)(cs:List Value)(T:TypeId)(B:Value)(base:Nat)(tl:List Nat)(w:World)(D:aR w j (Ae ns++tl))(A:w.ownsRow base 163 1 B d.length (CF (at' i d)))(E:aD w i cs T)(hlen:d.length=ns.length)(M:∀h,h∈d->h<cs.length)(L:i≠j)(N:∀c,B.ownBlock=some c->c≠j/\c≠i)(J:∀e,e∈ns->0<=e/\e<=9223372036854775807)(a6:d.length<=1000):
  Calls prog 128 #[π j,B] w λk C=>k=.returned (.tuple #[])/\aR C j tl/\aD C i (DF cs d ns) T/\aA (λc=>c=j\/c=i) w C:=by
 have ag:=Aa D;have ae:=Aa A;have W:=Aa E;have ad:=Aa M;have af:=Aa N;have aa:=Aa J;obtain⟨a7,a8,av,R⟩:=D6 A;have ak:=Aa R;clear D A E M N J R;subst av;generalize I:d.length=m at *
 have u:=Aa I;have n:=Aa hlen;clear I hlen;go_enter func128,ntmps128;go_wp2;go_loopw [8] (λc wr=>∃a:Nat,c=ι a/\a<=m/\Hid (aR wr j (Ae (ns.drop a)++tl))/\Hid (aD wr i (DF cs (d.take a) (ns.take a)) T)/\Hid (aA (λc=>c=j\/c=i) w wr)) (λc _=>m-(intOf c).toNat)
 case atStart=>exact⟨0,rfl,iT _,ag,W,aA.refl _ _⟩
 case round =>
  obtain⟨a,rfl,a4,v,s,t⟩:=hrel;by_cases H:a<m
  ·obtain⟨g,ar,a3⟩:=ak.o (by omega);subst ar;have G:a<d.length:=by rw[u.o];exact H
   have o:a<ns.length:=by rw[<-n.o];exact H
   obtain⟨h,q⟩:∃h,d[a]?=some h:=⟨_,h9 G⟩;obtain⟨e,l⟩:∃e,ns[a]?=some e:=⟨_,h9 o⟩;have P:=FB ae.o t.o (λc x aq=>by have:=af.o c x;rcases aq with k | k <;> omega);have ap:κ wr g a (.pointer (some ⟨i,h,none⟩)):=by
    rcases Mj P with ⟨a0,_⟩ | ⟨az,ay,aw,ao⟩
    ·omega
    cases aw;exact ao a _ (by unfold CF at';rw[iS,iS,q];rfl)
   obtain⟨S,U⟩:=aa.o e (iz l);have au:=ad.o h (iz q)
   have ab:=Aa (show aR wr j (enc e++(Ae (ns.drop (a+1))++tl)) by
      have:=v.o;rw[δ o,BQ,ε]at this;rw[h9 o]at l;cases l
      exact this)
   have aj:=Aa (show DF cs (d.take (a+1)) (ns.take (a+1))=(DF cs (d.take a) (ns.take a)).set h (ι e) by
      rw[ji,ji,q,l]
      exact XN _ _ _ _ _ (by rw[iG,iG,u.o,<-n.o]))
   have a5:(0:Int)<=(a:Int):=by omega
   have F:(a:Int)<(m:Int):=by omega
   clear P q l G o;go_wp2_with fail
   refine(EP j e 0 9223372036854775807 _ wr ab.o S U S U).mono ?_;rintro k ax ⟨rfl,O,z⟩;have ah:=Aa O;have r:=Aa (s.o.keeps z L);have Y:=Aa (t.o.trans z (λc x _=>.inl x));clear O z ap;obtain⟨V,Q⟩:∃V,(DF cs (d.take a) (ns.take a))[h]?=some V:=⟨_,h9 (by rw[Uz];exact au)⟩;have a1:=r.o.cell Q;have a2:=r.o.frozen h;have X:=Aa (r.o.setCell h (ι e));have ai:=Aa (ah.o.keeps ((aA.refl (λc=>c=i) ax).setCell (p:=⟨i,h,none⟩) (Or.inl rfl) (ι e)) (λk=>L k.symm));have Z:=Aa (Y.o.setCell (p:=⟨i,h,none⟩) (Or.inl (.inr rfl)) (ι e));clear Q;go_wp2;go_roundw;case rel=>exact⟨a+1,by go_num,by omega,ai,Aa (by rw[aj.o];exact X.o),Z⟩
   case measure=>simp[intOf];omega
  have F:a=m:=by omega
  subst F;have al:d.take a=d:=iw (by rw[u.o];exact ir _);have am:ns.take a=ns:=iw (by rw[<-n.o];exact ir _);have an:ns.drop a=[]:=List.drop_eq_nil_iff.2 (by rw[<-n.o];exact ir _);rw[al,am]at s;rw[an]at v;go_wp2;go_end0;exact⟨rfl,v.o,s.o,t.o⟩
theorem NM(w:World)(m:TypeId)(b c i:Nat)(s:ByteArray)(cs:List Value)(d:cs=((s.extract 0 (Nat.min s.size c)).data.map λ(b:UInt8)=>Value.int .u8 (b.toNat:Int)).toList)(j:∀a,a<cs.length->(w.cell? ⟨b,a,none⟩).isSome=true)(k:∀a,a<cs.length->w.frozen? ⟨b,a,none⟩=false):
  (Builtin.copy_ #[129,9] m #[σ b c i,.string s]).run prog w=.ok (goInt (Nat.min s.size c)) (w.setCells b 0 cs):=by
 obtain⟨t,l,o,q,r⟩:=jg Rv
 have e:=kS (P:=prog) b 0 cs 0 w (by simpa using j) (by simpa using k) (λu h=>by
    rw[d,Array.toList_map]at h;obtain⟨n,_,rfl⟩:=iI.1 h
    rfl)
 subst d;simp[Builtin.copy_,jL underlying129,Builtin.lenOf,Builtin.firstCells,sizeOf,typeInfo,l];simp at e;rw[e];rfl
theorem Q5: (prog.info? 166).map (·.size)=some 8:=by kernel_rfl
theorem Xt(rest:List Nat): BB Bz=(((AQ (Bz++rest)).extract 0 (Nat.min (AQ (Bz++rest)).size 8)).data.map λ(b:UInt8)=>Value.int .u8 (b.toNat:Int)).toList:=by
 have a:Nat.min (AQ (Bz++rest)).size 8=8:=by
  rw[Jz,ic];exact lD (by show 8<=8+rest.length;omega)
 rw[a];unfold AQ strOfNums;rw[ByteArray.extract_mk];rw[iB,iB,kJ];rw[je (by simp[Bz])];clear a;simp[Bz,BB]
theorem LH(rest:List Nat)(w:World): Calls prog 122 #[.string (AQ (Bz++rest))] w λT X=>T=.returned (.agg (BB Bz).toArray)/\lX w X:=by
 go_enter func122,ntmps122;have k:=Aa (show aD ((w.alloc (.cells #[.int .u8 0,.int .u8 0,.int .u8 0,.int .u8 0,.int .u8 0,.int .u8 0,.int .u8 0,.int .u8 0] 166)).alloc (.cells #[.int .u8 0,.int .u8 0,.int .u8 0,.int .u8 0,.int .u8 0,.int .u8 0,.int .u8 0,.int .u8 0] 166)) (w.heap.size+1) [.int .u8 0,.int .u8 0,.int .u8 0,.int .u8 0,.int .u8 0,.int .u8 0,.int .u8 0,.int .u8 0] 166 from aD.newAt (by simp) _ _);have r:=Aa (show aD ((w.alloc (.cells #[.int .u8 0,.int .u8 0,.int .u8 0,.int .u8 0,.int .u8 0,.int .u8 0,.int .u8 0,.int .u8 0] 166)).alloc (.cells #[.int .u8 0,.int .u8 0,.int .u8 0,.int .u8 0,.int .u8 0,.int .u8 0,.int .u8 0,.int .u8 0] 166)) w.heap.size [.int .u8 0,.int .u8 0,.int .u8 0,.int .u8 0,.int .u8 0,.int .u8 0,.int .u8 0,.int .u8 0] 166 from(aD.new w _ _).alloc _);have q:=Aa (show lX w ((w.alloc (.cells #[.int .u8 0,.int .u8 0,.int .u8 0,.int .u8 0,.int .u8 0,.int .u8 0,.int .u8 0,.int .u8 0] 166)).alloc (.cells #[.int .u8 0,.int .u8 0,.int .u8 0,.int .u8 0,.int .u8 0,.int .u8 0,.int .u8 0,.int .u8 0] 166)) from((aA.refl _ _).alloc _).alloc _);obtain⟨h,n⟩:∃h,((w.alloc (.cells #[.int .u8 0,.int .u8 0,.int .u8 0,.int .u8 0,.int .u8 0,.int .u8 0,.int .u8 0,.int .u8 0] 166)).alloc (.cells #[.int .u8 0,.int .u8 0,.int .u8 0,.int .u8 0,.int .u8 0,.int .u8 0,.int .u8 0,.int .u8 0] 166))=h:=⟨_,rfl⟩;rw[n]at k r q;obtain⟨e,l⟩:∃e,h.setCells (w.heap.size+1) 0 (BB Bz)=e:=⟨_,rfl⟩;have U:(Builtin.copy_ #[129,9] 3 #[σ (w.heap.size+1) 8 8,.string (AQ (Bz++rest))]).run prog ((w.alloc (.cells #[.int .u8 0,.int .u8 0,.int .u8 0,.int .u8 0,.int .u8 0,.int .u8 0,.int .u8 0,.int .u8 0] 166)).alloc (.cells #[.int .u8 0,.int .u8 0,.int .u8 0,.int .u8 0,.int .u8 0,.int .u8 0,.int .u8 0,.int .u8 0] 166))=.ok (goInt (Nat.min (AQ (Bz++rest)).size 8)) e:=by
  rw[n,<-l];exact NM h 3 (w.heap.size+1) 8 8 _ _ (Xt rest) (λj V=>by rw[k.o.cell (v:=.int .u8 0) (by have:j<8:=V;match j,this with | 0,_=>rfl | 1,_=>rfl | 2,_=>rfl | 3,_=>rfl | 4,_=>rfl | 5,_=>rfl | 6,_=>rfl | 7,_=>rfl)];rfl) (λj _=>k.o.frozen j)
 have d:=Aa (show aD e (w.heap.size+1) (BB Bz) 166 by
    rw[<-l]
    exact(((((((k.o.setCell 0 (.int .u8 115)).setCell 1 (.int .u8 107)).setCell 2 (.int .u8 101)).setCell 3 (.int .u8 116)).setCell 4 (.int .u8 99)).setCell 5 (.int .u8 104)).setCell 6 (.int .u8 32)).setCell 7 (.int .u8 49))
 have o:aA (λa=>a=w.heap.size+1) h e:=by rw[<-l];exact aA.setCells (M:=λa=>a=w.heap.size+1) (b:=w.heap.size+1) (Or.inl rfl) _ _ _ (aA.refl _ _)
 have u:=Aa (q.o.trans o (λa Y Z=>by omega));have c:=Aa (r.o.keeps o (by omega));have A:=d.o.cell (i:=0) rfl;have B:=d.o.cell (i:=1) rfl;have C:=d.o.cell (i:=2) rfl;have D:=d.o.cell (i:=3) rfl;have E:=d.o.cell (i:=4) rfl;have F:=d.o.cell (i:=5) rfl;have G:=d.o.cell (i:=6) rfl;have H:=d.o.cell (i:=7) rfl;have I:=c.o.cell (i:=0) rfl;have J:=c.o.cell (i:=1) rfl;have L:=c.o.cell (i:=2) rfl;have N:=c.o.cell (i:=3) rfl;have O:=c.o.cell (i:=4) rfl;have P:=c.o.cell (i:=5) rfl;have Q:=c.o.cell (i:=6) rfl;have R:=c.o.cell (i:=7) rfl;have S:=c.o.frozen;have x:=Aa (((((((((u.o.setCell (p:=⟨w.heap.size,0,none⟩) (Or.inr (ir _)) (.int .u8 115)).setCell (p:=⟨w.heap.size,1,none⟩) (Or.inr (ir _)) (.int .u8 107)).setCell (p:=⟨w.heap.size,2,none⟩) (Or.inr (ir _)) (.int .u8 101)).setCell (p:=⟨w.heap.size,3,none⟩) (Or.inr (ir _)) (.int .u8 116)).setCell (p:=⟨w.heap.size,4,none⟩) (Or.inr (ir _)) (.int .u8 99)).setCell (p:=⟨w.heap.size,5,none⟩) (Or.inr (ir _)) (.int .u8 104)).setCell (p:=⟨w.heap.size,6,none⟩) (Or.inr (ir _)) (.int .u8 32)).setCell (p:=⟨w.heap.size,7,none⟩) (Or.inr (ir _)) (.int .u8 49)));have t:=Aa (show aD _ w.heap.size (BB Bz) 166 from(((((((c.o.setCell 0 (.int .u8 115)).setCell 1 (.int .u8 107)).setCell 2 (.int .u8 101)).setCell 3 (.int .u8 116)).setCell 4 (.int .u8 99)).setCell 5 (.int .u8 104)).setCell 6 (.int .u8 32)).setCell 7 (.int .u8 49));clear n l o;go_wp2;clear A B C D E F G H I J L N O P Q R S d c U;generalize(((((((e.setCell ⟨w.heap.size,0,none⟩ (.int .u8 115)).setCell ⟨w.heap.size,1,none⟩ (.int .u8 107)).setCell ⟨w.heap.size,2,none⟩ (.int .u8 101)).setCell ⟨w.heap.size,3,none⟩ (.int .u8 116)).setCell ⟨w.heap.size,4,none⟩ (.int .u8 99)).setCell ⟨w.heap.size,5,none⟩ (.int .u8 104)).setCell ⟨w.heap.size,6,none⟩ (.int .u8 32)).setCell ⟨w.heap.size,7,none⟩ (.int .u8 49)=m at *
 have z:=Aa (show(loadVar 166 ⟨w.heap.size,0,none⟩).run prog m=.ok (.agg (BB Bz).toArray) m from lu m w.heap.size 0 166 (BB Bz) _ (λj s W=>by rw[ja];exact t.o.cell W) underlying166 rfl (by rw[Q5];rfl));refine iV (v:=.agg (BB Bz).toArray) (by simp[results,results122,asAddr,z.o]) rfl ?_;exact⟨rfl,x.o⟩
theorem Xh(w:World): (Op.equalIn 10000 166 (.agg (BB Bz).toArray) (.agg (BB Bz).toArray)).run prog w=.ok true w:=by kernel_rfl
theorem Td(rest:List Nat)(w:World)(m:rest.length<=140737488355328): Calls prog 76 #[.string (AQ (Bz++rest))] w λa r=>∃e,a=.returned (π e)/\w.heap.size<=e/\aR r e rest/\lX w r:=by
 have j:(AQ (Bz++rest)).extract 8 (AQ (Bz++rest)).size=AQ rest:=by
  rw[Qc];rfl
 have d:(AQ (Bz++rest)).size=8+rest.length:=by rw[Jz,ic];rfl
 go_enter func76,ntmps76;go_wp2_with fail
 refine(LH rest w).mono ?_;rintro a z ⟨rfl,k⟩;have h:=Aa k;clear k;go_wp2_with fail
 have hF:(Value.string ⟨#[115,107,101,116,99,104,32,49]⟩)=.string (AQ (Bz++[])):=by kernel_rfl
 rw[hF];refine(LH [] z).mono ?_;rintro a s ⟨rfl,l⟩;have i:=Aa (h.o.then l);have A:=Xh s;clear l h hF;obtain⟨q,c⟩:∃q,AQ (Bz++rest)=q:=⟨_,rfl⟩;rw[c]at j d;rw[c];clear c;have t:=Aa m;obtain⟨o,n⟩:∃o,rest.length=o:=⟨_,rfl⟩;rw[n]at d m;clear n;rw[d]at j;have v:=Aa (aD.new s [.string (AQ rest),.bool false] 169);have u:=Aa (i.o.alloc (.cells #[.string (AQ rest),.bool false] 169));have x:=i.o.size;go_wp2;go_ret;exact⟨_,rfl,x,⟨v.o,t.o⟩,u.o⟩
def G9(c:Cfg): Cfg:={ EL with kind:=c.kind }
def Gd(c:Cfg): Cfg:={ EL with kind:=c.kind,aL:=c.aL,bF:=c.bF,cap:=c.cap }
def Dq(k:Nat)(c:Cfg): Cfg:=match k with
 | 1=>{ Gd c with k:=c.k,aB:=c.aB }
 | 2=>{ Gd c with bits:=c.bits,aB:=c.aB }
 | 3=>{ Gd c with rows:=c.rows,width:=c.width,aM:=c.aM,aB:=c.aB }
 | 4=>{ Gd c with degree:=c.degree,half:=c.half,mark:=c.mark }
 | _=>{ Gd c with degree:=c.degree,half:=c.half,mark:=c.mark,size:=c.size }
def Ew(p:Nat)(d c:Cfg): Cfg:={ d with bV:=if 1<=p then c.bV else 0,bW:=if 1<=p then c.bW else 0,cI:=if 2<=p then c.cI else 0,cJ:=if 2<=p then c.cJ else 0,cS:=if 3<=p then c.cS else 0,cT:=if 3<=p then c.cT else 0 }
def Al(k:Nat)(c:Cfg): Cfg:=Ew (Bh k c).toNat (Dq k c) c
theorem XC(c:Cfg): DF EL.cells [0] [c.kind]=(G9 c).cells:=rfl
theorem Uv(c:Cfg): DF (G9 c).cells [1,2,3] ([1,2,3].map c.num)=(Gd c).cells:=rfl
theorem WP(k:Nat)(c:Cfg)(d:1<=k)(e:k<=5): DF (Gd c).cells (Cm k) ((Cm k).map c.num)=(Dq k c).cells:=by
 rcases Au d e with a | a | a | a | a <;> subst a <;> rfl
theorem Wk(k p:Nat)(c:Cfg)(d:1<=k)(e:k<=5)(i:p<=3): DF (Dq k c).cells (Bg p) ((Bg p).map c.num)=(Ew p (Dq k c) c).cells:=by
 have h:p=0\/p=1\/p=2\/p=3:=by omega
 rcases Au d e with a | a | a | a | a <;> subst a <;> rcases h with a | a | a | a <;> subst a <;> rfl
theorem UT(k:Nat)(c:Cfg)(d:1<=k)(e:k<=5): Bh k (Dq k c)=Bh k c:=by
 rcases Au d e with a | a | a | a | a <;> subst a <;> rfl
theorem zMs(k p:Nat)(c:Cfg)(a:Bh k c=p): Ew p (Dq k c) c=Al k c:=by unfold Al;rw[a];rfl
theorem zMe(c:Cfg): c.cells.toArray.all (·.oneCell')=true:=by simp[Cfg.cells,Value.oneCell']
theorem NR{w:World}{b:Nat}{e:List Value}(c:Cfg)(a:aD w b e 46)(k:e.length=20): (E0 46 (π b) (.agg c.cells.toArray)).run prog w=.ok .skip (w.setCells b 0 c.cells):=by
 unfold E0;have i:w.there b 0 c.cells.toArray.size:=by
  intro d h;have j:d<20:=h;rw[ja];exact⟨a.some (by omega),a.frozen d⟩
 rw[jq,lq _ b 0 46 c.cells.toArray i (by rw[Lc];rfl) (zMe c),ly];rfl
theorem zOt: (prog.info? 75).map (·.size)=some 6:=by kernel_rfl
theorem QK(cs:List Value): ∀a:List Value,a.length=cs.length->over a 0 cs=cs:=λa c=>by
 unfold over;rw[jP,jv,ja,List.drop_eq_nil_iff.2 (by omega),iC]
structure LC (w:World) (r cb:Nat) (d:Cfg) (tl:List Nat) (w':World):Prop where
 cfg:aD w' cb d.cells 46
 hK:aD w' w.heap.size EL.cells 46
 hO:aD w' (w.heap.size+1) [.nilFunc,.nilFunc,.nilFunc,.nilFunc,.nilFunc,.nilFunc] 75
 rd:aR w' r tl
 kp:aA (λi=>i=r) w w'
 gZ:cb=w.heap.size+1+1
 rl:r<w.heap.size
theorem LC.still{w:World}{h d:Nat}{e:Cfg}{tl:List Nat}{w' i:World}(a:LC w h d e tl w')(c:lX w' i): LC w h d e tl i :=
 ⟨a.cfg.keeps c id,a.hK.keeps c id,a.hO.keeps c id,a.rd.keeps c id,a.kp.trans c (λ_ a _=>a.elim),a.gZ,a.rl⟩
theorem KA{w:World}{h e:Nat}{l d':Cfg}{d:List Nat}{ns:List Int}{tl:List Nat}{w':World}{k:Value}{base:Nat}(a:LC w h e l (Ae ns++tl) w')(z:w'.ownsRow base 163 1 k (at' e d).length (CF (at' e d)))(s:DF l.cells d ns=d'.cells)(hlen:d.length=ns.length)(x:∀j,j∈d->j<20)(A:∀c,k.ownBlock=some c->w.heap.size+1+1<c)(v:∀m,m∈ns->0<=m/\m<=9223372036854775807)(t:d.length<=1000):
  Calls prog 128 #[π h,k] w' λn r=>n=.returned (.tuple #[])/\LC w h e d' tl r/\aA (λc=>c=h\/c=e) w' r:=by
 have C:=a.rl;have D:=a.gZ;refine(Mb h e d ns l.cells 46 k base tl w' a.rd (by have:=z;unfold at' at this ⊢;rw[iu]at this;exact this) a.cfg hlen (λj u=>x j u) (by omega) (λc q=>by have:=A c q;omega) v t).mono ?_;rintro n F ⟨rfl,B,o,i⟩;rw[s]at o;exact⟨rfl,⟨o,a.hK.keeps i (by omega),a.hO.keeps i (by omega),B,a.kp.trans i (λc q E=>by omega),a.gZ,a.rl⟩,i⟩
attribute [local go_sem ↓] AH JS
attribute [local go_sem] AI
theorem S6(u:Nat)(c:Cfg)(k:Nat)(tl:List Nat)(w:World)(h:aR w u (Ae (BV k c)++tl))(b6:c.kind=k)(m:1<=k)(s:k<=5)(dj:0<=Bh k c)(dk:Bh k c<=3)(t:∀o,o∈BV k c->0<=o/\o<=9223372036854775807)(G:Ak (Al k c)=true):
  Calls prog 125 #[π u] w λl a4=>l=.returned (.tuple #[(Al k c).val,.agg (B6 k).toArray,.bool true])/\aR a4 u tl/\aA (λd=>d=u) w a4:=by
 have cn:=Aa (show ∃o:Nat,Bh k c=o/\o<=3 from⟨(Bh k c).toNat,by omega,by omega⟩);obtain⟨r,av,aw⟩:=cn.o;have bo:=Aa av;have J:=Aa (show BV k c=[c.kind]++([1,2,3].map c.num++((Cm k).map c.num++(Bg r).map c.num)) by unfold BV;rw[av,iM];rfl);have S:=Aa t;have cr:=Aa G;have ba:=Aa b6;obtain⟨C,D⟩:∃C,C=(((w.alloc (.cells EL.cells.toArray 46)).alloc (.cells #[.nilFunc,.nilFunc,.nilFunc,.nilFunc,.nilFunc,.nilFunc] 75)).alloc (.cells EL.cells.toArray 46)).alloc (.cells (CF (at' (w.heap.size+1+1) [0])).toArray 163):=⟨_,rfl⟩;have aq:lX w C:=by rw[D];exact((((aA.refl _ _).alloc _).alloc _).alloc _).alloc _
 have bg:=Aa (show LC w u (w.heap.size+1+1) EL (Ae [c.kind]++(Ae ([1,2,3].map c.num++((Cm k).map c.num++(Bg r).map c.num))++tl)) C from
    ⟨by rw[D];exact(aD.newAt (by simp) _ _).alloc _,by rw[D];exact(((aD.new w _ _).alloc _).alloc _).alloc _,by rw[D];exact((aD.newAt (by simp) _ _).alloc _).alloc _,by
       have:=h.keeps aq id;rw[J.o,B3,ε]at this
       exact this,aq.mono (λ_ _ h=>h.elim),rfl,h.aF.lt⟩)
 have bn:=Aa (show C.ownsRow (w.heap.size+1+1+1) 163 1 (σ (w.heap.size+1+1+1) 1 1) (at' (w.heap.size+1+1) [0]).length (CF (at' (w.heap.size+1+1) [0])) by
    have df:(((w.alloc (.cells EL.cells.toArray 46)).alloc (.cells #[.nilFunc,.nilFunc,.nilFunc,.nilFunc,.nilFunc,.nilFunc] 75)).alloc (.cells EL.cells.toArray 46)).heap.size=w.heap.size+1+1+1:=by simp
    have:=FO (w:=((w.alloc (.cells EL.cells.toArray 46)).alloc (.cells #[.nilFunc,.nilFunc,.nilFunc,.nilFunc,.nilFunc,.nilFunc] 75)).alloc (.cells EL.cells.toArray 46)) (w':=C) (ps:=at' (w.heap.size+1+1) [0]) (n:=1) rfl (by omega) (by rw[D];exact iH _ _);rw[df]at this
    exact this)
 have bv:=Aa (show(((w.alloc (.cells #[ι 0,ι 0,ι 0,ι 0,ι 0,ι 0,ι 0,ι 0,ι 0,ι 0,ι 0,ι 0,ι 0,ι 0,ι 0,ι 0,ι 0,ι 0,ι 0,ι 0] 46)).alloc (.cells #[.nilFunc,.nilFunc,.nilFunc,.nilFunc,.nilFunc,.nilFunc] 75)).alloc (.cells #[ι 0,ι 0,ι 0,ι 0,ι 0,ι 0,ι 0,ι 0,ι 0,ι 0,ι 0,ι 0,ι 0,ι 0,ι 0,ι 0,ι 0,ι 0,ι 0,ι 0] 46)).alloc (.cells #[π (w.heap.size+1+1)] 163)=C from D.symm);clear D aq h t G b6 av dj dk;go_enter func125,ntmps125;go_wp2_with fail
 rw[bv.o];refine(KA (d':=G9 c) bg.o bn.o (XC c) rfl (by simp) (λd j=>by have:w.heap.size+1+1+1=d:=(by simpa[Value.ownBlock] using j);omega) (λo t=>S.o o (by rw[J.o];exact ik.2 (.inl t))) (by simp)).mono ?_;rintro l cb ⟨rfl,b7,cv⟩;have R:=Aa b7;clear b7 cv bg bn bv;generalize b1:w.heap.size+1+1=q at *
 have A:=Aa b1;have c0:κ cb q 0 (ι c.kind):=R.o.cfg.cell rfl;clear b1;go_wp2_with fail
 refine(Qg c.kind k cb ba.o m s).mono ?_;rintro l H ⟨rfl,al⟩;unfold B6 fn;have ag:=Aa (aD.new H [.func (.func (Bi k)) #[] #[],.func (.func (AU k)) #[] #[],.func (.func (AV k)) #[] #[],.func (.func (AO k)) #[] #[],.func (.func (AR k)) #[] #[],.func (.func (Be k)) #[] #[]] 75);have bc:=Aa (R.o.still (al.alloc (.cells #[.func (.func (Bi k)) #[] #[],.func (.func (AU k)) #[] #[],.func (.func (AV k)) #[] #[],.func (.func (AO k)) #[] #[],.func (.func (AR k)) #[] #[],.func (.func (Be k)) #[] #[]] 75)));have d5:q<H.heap.size:=(R.o.cfg.keeps al id).lt;have aa:=Aa (show q+1<=H.heap.size by omega);clear al c0 R;go_wp2_with fail
 generalize P:H.heap.size=e at *
 generalize H.alloc (.cells #[.func (.func (Bi k)) #[] #[],.func (.func (AU k)) #[] #[],.func (.func (AV k)) #[] #[],.func (.func (AO k)) #[] #[],.func (.func (AR k)) #[] #[],.func (.func (Be k)) #[] #[]] 75)=a5 at *
 clear P H;refine(NO q a5).mono ?_;rintro l d6 ⟨b9,rfl,V,am⟩;obtain⟨dl,dp,Q,_⟩:=D6 V;subst Q;have bh:=Aa (show ∀d,(Value.slice dl (at' q [1,2,3]).length dp).ownBlock=some d->a5.heap.size<=d from λd j=>(V.lt d j).1);have bd:=Aa (bc.o.still am);have bq:=Aa (ag.o.keeps am id);have bx:=Aa (show q+1<a5.heap.size from by have:=ag.o.lt;omega);have bk:=Aa V;clear V am bc ag;go_wp2_with fail
 refine(KA (d':=Gd c) (ns:=[1,2,3].map c.num) (tl:=Ae ((Cm k).map c.num++(Bg r).map c.num)++tl) (by have:=bd.o;rw[B3,ε]at this;exact this) bk.o (Uv c) (by simp) (by simp) (λd j=>by have m:=bh.o d j;have N:=bx.o;have O:=A.o;omega) (λo t=>S.o o (by rw[J.o];exact ik.2 (.inr (ik.2 (.inl t))))) (by simp)).mono ?_;rintro l Y ⟨rfl,ar,b3⟩;have ab:=Aa ar;have ah:=Aa (bq.o.keeps b3 (by have m:=aa.o;have N:=ar.rl;have O:=A.o;omega));clear ar b3 bd bq bk bh bx;have dh:κ Y e 1 (.func (.func (AU k)) #[] #[]):=ah.o.cell rfl;have cy:=Pq k m s;go_wp2_with fail
 refine(Pw k q Y m s).mono ?_;rintro l d7 ⟨b9,rfl,W,an⟩;obtain⟨dm,dq,Q,_⟩:=D6 W;subst Q;have bi:=Aa (show ∀d,(Value.slice dm (at' q (Cm k)).length dq).ownBlock=some d->Y.heap.size<=d from λd j=>(W.lt d j).1);have be:=Aa (ab.o.still an);have br:=Aa (ah.o.keeps an id);have bz:=Aa (show q<Y.heap.size from ab.o.cfg.lt);have bl:=Aa W;clear W an ab ah dh cy;go_wp2_with fail
 refine(KA (d':=Dq k c) (ns:=(Cm k).map c.num) (tl:=Ae ((Bg r).map c.num)++tl) (by have:=be.o;rw[B3,ε]at this;exact this) (by have:=bl.o;exact this) (WP k c m s) (by simp) (PE k) (λd j=>by have m:=bi.o d j;have N:=bz.o;have O:=A.o;omega) (λo t=>S.o o (by rw[J.o];exact ik.2 (.inr (ik.2 (.inr (ik.2 (.inl t))))))) (by unfold Cm;split <;> simp)).mono ?_;rintro l cc ⟨rfl,au,b4⟩;have ad:=Aa au;have ai:=Aa (br.o.keeps b4 (by have m:=aa.o;have N:=au.rl;have O:=A.o;omega));clear au b4 be br bl bi bz;have di:κ cc e 2 (.func (.func (AV k)) #[] #[]):=ai.o.cell rfl;obtain⟨de,cu⟩:=CM ad.o.cfg 20 rfl;have da:=PS k m s;have cx:(if (3:Int)<(r:Int) then(3:Int) else(r:Int))=(r:Int):=by rw[ig (by omega)]
 go_wp2_with fail
 refine(PC k (Dq k c) cc m s).mono ?_;rintro l a6 ⟨rfl,ao⟩;rw[UT k c m s,bo.o];have ae:=Aa (ad.o.still ao);have bs:=Aa (ai.o.keeps ao id);clear ao ad ai di da de cu;go_wp2_with fail
 refine(Pi q r a6 aw).mono ?_;rintro l d8 ⟨b9,rfl,X,ap⟩;obtain⟨dn,dr,Q,_⟩:=D6 X;subst Q;have bj:=Aa (show ∀d,(Value.slice dn (at' q (Bg r)).length dr).ownBlock=some d->a6.heap.size<=d from λd j=>(X.lt d j).1);have bf:=Aa (ae.o.still ap);have bt:=Aa (bs.o.keeps ap id);have b0:=Aa (show q<a6.heap.size from ae.o.cfg.lt);have bm:=Aa X;clear X ap ae bs cx;go_wp2_with fail
 refine(KA (d':=Ew r (Dq k c) c) (ns:=(Bg r).map c.num) (tl:=tl) bf.o (by have:=bm.o;exact this) (Wk k r c m s aw) (by simp) (Pp r aw) (λd j=>by have m:=bj.o d j;have N:=b0.o;have O:=A.o;omega) (λo t=>S.o o (by rw[J.o];exact ik.2 (.inr (ik.2 (.inr (ik.2 (.inr t))))))) (by simp[Bg];omega)).mono ?_;rintro l d1 ⟨rfl,U,b5⟩;rw[zMs k r c bo.o]at U;have af:=Aa U;have bu:=Aa (bt.o.keeps b5 (by have m:=aa.o;have N:=U.rl;have O:=A.o;omega));clear U b5 bf bt bm bj b0;obtain⟨ax,ak⟩:=CM af.o.cfg 20 rfl;have a9:=Aa (show(Al k c).kind=k by have:=ba.o;rcases Au m s with l | l | l | l | l <;> subst l <;> exact this);obtain⟨a,d4,_,_,cs,ct⟩:=F2 cr.o;have cw:a=k:=by have:=a9.o;omega
 subst cw;go_wp2_with fail
 refine(LG (Al a c) a d1 a9.o m s cs ct).mono ?_;rintro l a7 ⟨rfl,P⟩;unfold B6 fn;have E:=Aa (af.o.still P);have z:=Aa (bu.o.keeps P id);clear P ax ak af bu;have ay:=z.o.cell (i:=0) rfl;have az:=z.o.cell (i:=1) rfl;have a0:=z.o.cell (i:=2) rfl;have a1:=z.o.cell (i:=3) rfl;have a2:=z.o.cell (i:=4) rfl;have a3:=z.o.cell (i:=5) rfl;have d0:=z.o.frozen;have d2:=A.o;have d3:=E.o.rl;have cq:=Aa (((((((z.o.setCell 0 (.func (.func (Bi a)) #[] #[])).setCell 1 (.func (.func (AU a)) #[] #[])).setCell 2 (.func (.func (AV a)) #[] #[])).setCell 3 (.func (.func (AO a)) #[] #[])).setCell 4 (.func (.func (AR a)) #[] #[])).setCell 5 (.func (.func (Be a)) #[] #[])));have cj:=Aa (show aA (λd=>d=e) a7 _ from(((((((aA.refl (λd=>d=e) a7).setCell (p:=⟨e,0,none⟩) (Or.inl rfl) (.func (.func (Bi a)) #[] #[])).setCell (p:=⟨e,1,none⟩) (Or.inl rfl) (.func (.func (AU a)) #[] #[])).setCell (p:=⟨e,2,none⟩) (Or.inl rfl) (.func (.func (AV a)) #[] #[])).setCell (p:=⟨e,3,none⟩) (Or.inl rfl) (.func (.func (AO a)) #[] #[])).setCell (p:=⟨e,4,none⟩) (Or.inl rfl) (.func (.func (AR a)) #[] #[])).setCell (p:=⟨e,5,none⟩) (Or.inl rfl) (.func (.func (Be a)) #[] #[])));go_wp2_with fail
 generalize(((((a7.setCell ⟨e,0,none⟩ (.func (.func (Bi a)) #[] #[])).setCell ⟨e,1,none⟩ (.func (.func (AU a)) #[] #[])).setCell ⟨e,2,none⟩ (.func (.func (AV a)) #[] #[])).setCell ⟨e,3,none⟩ (.func (.func (AO a)) #[] #[])).setCell ⟨e,4,none⟩ (.func (.func (AR a)) #[] #[])).setCell ⟨e,5,none⟩ (.func (.func (Be a)) #[] #[])=wc at *
 clear ay az a0 a1 a2 a3 d0;have L:=Aa (cj.o.drew);have ce:=Aa (show aD wc.drew q (Al a c).cells 46 from E.o.cfg.keeps L.o (show ¬(q=e) by omega));have bp:=Aa (show aD wc.drew w.heap.size EL.cells 46 from E.o.hK.keeps L.o (show ¬(w.heap.size=e) by omega));have cp:=Aa (show aD wc.drew (w.heap.size+1) [.nilFunc,.nilFunc,.nilFunc,.nilFunc,.nilFunc,.nilFunc] 75 from E.o.hO.keeps L.o (show ¬(w.heap.size+1=e) by omega));have co:=Aa (show aR wc.drew u tl from E.o.rd.keeps L.o (show ¬(u=e) by omega));have ck:=Aa (show aA (λd=>d=u) w wc.drew from E.o.kp.trans L.o (λd j b8=>by have b2:d=e:=j;omega));have B:=Aa (show aD wc.drew e [.func (.func (Bi a)) #[] #[],.func (.func (AU a)) #[] #[],.func (.func (AV a)) #[] #[],.func (.func (AO a)) #[] #[],.func (.func (AR a)) #[] #[],.func (.func (Be a)) #[] #[]] 75 from cq.o);obtain⟨ax,ak⟩:=CM ce.o 20 rfl;have dc:=NR (Al a c) bp.o rfl;have aj:=aD.setCells (Al a c).cells 0 wc.drew _ bp.o (by show 0+20<=20;omega);rw[QK _ _ (by rfl)]at aj;have T:aA (λd=>d=w.heap.size) wc.drew (wc.drew.setCells w.heap.size 0 (Al a c).cells):=aA.setCells (M:=λd=>d=w.heap.size) (b:=w.heap.size) (Or.inl rfl) _ _ _ (aA.refl _ _);have bb:=Aa T;have cd:=Aa aj;have F:=Aa (B.o.keeps T (show ¬(e=w.heap.size) by omega));have x:=Aa (cp.o.keeps T (show ¬(w.heap.size+1=w.heap.size) by omega));generalize wc.drew.setCells w.heap.size 0 (Al a c).cells=a8 at *
 clear aj T;have ay:κ wc e 0 (.func (.func (Bi a)) #[] #[]):=B.o.cell (i:=0) rfl;have az:κ wc e 1 (.func (.func (AU a)) #[] #[]):=B.o.cell (i:=1) rfl;have a0:κ wc e 2 (.func (.func (AV a)) #[] #[]):=B.o.cell (i:=2) rfl;have a1:κ wc e 3 (.func (.func (AO a)) #[] #[]):=B.o.cell (i:=3) rfl;have a2:κ wc e 4 (.func (.func (AR a)) #[] #[]):=B.o.cell (i:=4) rfl;have a3:κ wc e 5 (.func (.func (Be a)) #[] #[]):=B.o.cell (i:=5) rfl;have u0:=F.o.cell (i:=0) rfl;have u1:=F.o.cell (i:=1) rfl;have u2:=F.o.cell (i:=2) rfl;have u3:=F.o.cell (i:=3) rfl;have u4:=F.o.cell (i:=4) rfl;have u5:=F.o.cell (i:=5) rfl;have ds:=x.o.cell (i:=0) rfl;have dt:=x.o.cell (i:=1) rfl;have du:=x.o.cell (i:=2) rfl;have dw:=x.o.cell (i:=3) rfl;have dx:=x.o.cell (i:=4) rfl;have dy:=x.o.cell (i:=5) rfl;have dz:=x.o.frozen;have cg:=Aa ((((((x.o.setCell 0 (.func (.func (Bi a)) #[] #[])).setCell 1 (.func (.func (AU a)) #[] #[])).setCell 2 (.func (.func (AV a)) #[] #[])).setCell 3 (.func (.func (AO a)) #[] #[])).setCell 4 (.func (.func (AR a)) #[] #[])).setCell 5 (.func (.func (Be a)) #[] #[]));have Z:=Aa (show aA (λd=>d=w.heap.size+1) a8 _ from(((((((aA.refl (λd=>d=w.heap.size+1) a8).setCell (p:=⟨w.heap.size+1,0,none⟩) (Or.inl rfl) (.func (.func (Bi a)) #[] #[])).setCell (p:=⟨w.heap.size+1,1,none⟩) (Or.inl rfl) (.func (.func (AU a)) #[] #[])).setCell (p:=⟨w.heap.size+1,2,none⟩) (Or.inl rfl) (.func (.func (AV a)) #[] #[])).setCell (p:=⟨w.heap.size+1,3,none⟩) (Or.inl rfl) (.func (.func (AO a)) #[] #[])).setCell (p:=⟨w.heap.size+1,4,none⟩) (Or.inl rfl) (.func (.func (AR a)) #[] #[])).setCell (p:=⟨w.heap.size+1,5,none⟩) (Or.inl rfl) (.func (.func (Be a)) #[] #[])));go_region
 go_wp2;clear ay az a0 a1 a2 a3 u0 u1 u2 u3 u4 u5 ds dt du dw dx dy dz dc ax ak;generalize(((((a8.setCell ⟨w.heap.size+1,0,none⟩ (.func (.func (Bi a)) #[] #[])).setCell ⟨w.heap.size+1,1,none⟩ (.func (.func (AU a)) #[] #[])).setCell ⟨w.heap.size+1,2,none⟩ (.func (.func (AV a)) #[] #[])).setCell ⟨w.heap.size+1,3,none⟩ (.func (.func (AO a)) #[] #[])).setCell ⟨w.heap.size+1,4,none⟩ (.func (.func (AR a)) #[] #[])).setCell ⟨w.heap.size+1,5,none⟩ (.func (.func (Be a)) #[] #[])=I at *
 have cf:=Aa (cd.o.keeps Z.o (show ¬(w.heap.size=w.heap.size+1) by omega));have db:=co.o.keeps bb.o (show ¬(u=w.heap.size) by omega);have ci:=Aa (db.keeps Z.o (show ¬(u=w.heap.size+1) by omega));have ch:=Aa ((ck.o.trans bb.o (λd j b8=>by have b2:d=w.heap.size:=j;omega)).trans Z.o (λd j b8=>by have b2:d=w.heap.size+1:=j;omega));have cm:=Aa (show(loadVar 46 ⟨w.heap.size,0,none⟩).run prog I=.ok (.agg (Al a c).cells.toArray) I from lu I w.heap.size 0 46 (Al a c).cells _ (λdg ca G=>by rw[ja];exact cf.o.cell G) underlying46 rfl (by rw[Lc];rfl));have cl:=Aa (show(loadVar 75 ⟨w.heap.size+1,0,none⟩).run prog I=.ok (.agg #[.func (.func (Bi a)) #[] #[],.func (.func (AU a)) #[] #[],.func (.func (AV a)) #[] #[],.func (.func (AO a)) #[] #[],.func (.func (AR a)) #[] #[],.func (.func (Be a)) #[] #[]]) I from lu I (w.heap.size+1) 0 75 [.func (.func (Bi a)) #[] #[],.func (.func (AU a)) #[] #[],.func (.func (AV a)) #[] #[],.func (.func (AO a)) #[] #[],.func (.func (AR a)) #[] #[],.func (.func (Be a)) #[] #[]] _ (λdg ca G=>by rw[ja];exact cg.o.cell G) underlying75 rfl (by rw[zOt];rfl));refine iV (v:=.tuple #[(Al a c).val,.agg #[.func (.func (Bi a)) #[] #[],.func (.func (AU a)) #[] #[],.func (.func (AV a)) #[] #[],.func (.func (AO a)) #[] #[],.func (.func (AR a)) #[] #[],.func (.func (Be a)) #[] #[]],.bool true]) (by simp[results,results125,asAddr,cm.o,cl.o];rfl) rfl ?_;exact⟨rfl,ci.o,ch.o⟩
end
section
def Jq(m acc rel:Int)(nv:Value): List Value:=[ι m,ι acc,ι rel,nv]
theorem U0(a i n:Nat)(c:Cfg)(h e m acc rel:Int)(nv:Value)(tl:List Nat)(w:World)(Q:aD w a (ED c 0 0) 194)(d:aR w i (Ae [h,e]++tl))(A:aD w n (Jq m acc rel nv) 177)(r:a≠i)(U:n≠i)(T:n≠a)(X:0<=h)(av:h<=rel)(P:0<=e)(aj:e<=2305843009213693951)(a3:rel<=4611686018427387904)(R:h<rel\/e=0)(S:0<h\/rel<=e):
  Calls prog 156 #[π a,π i,π n] w λD C=>D=.returned (.tuple #[])/\aD C a (ED c h e) 194/\aR C i tl/\aA (λj=>j=i\/j=a) w C:=by
 rw[BQ,En,ε]at d;have E:=Aa Q;have H:=Aa A;have au:=A.c2;have J:=Aa (EP i h 0 rel (enc e++tl) w d X (by omega) X av);clear d Q A;go_enter func156,ntmps156;go_wp2_with fail
 refine J.o.mono ?_;rintro D o ⟨rfl,V,s⟩;have u:=Aa (E.o.keeps s r);have aa:=Aa (H.o.keeps s U);have am:κ o a 20 (ι 0):=u.o.cell rfl;have ao:=u.o.frozen;have F:=Aa (show aD (o.setCell ⟨a,20,none⟩ (ι h)) a (ED c h 0) 194 from u.o.setCell 20 (ι h));have M:=Aa (V.keeps ((aA.refl (λj=>j=a) o).setCell (p:=⟨a,20,none⟩) (Or.inl rfl) (ι h)) (λd=>r d.symm));have I:=Aa (aa.o.aW (p:=⟨a,20,none⟩) (λd=>T d.symm) (ι h));have L:=Aa (show aA (λj=>j=i\/j=a) w (o.setCell ⟨a,20,none⟩ (ι h)) from(s.mono (λ_ _ d=>.inl d)).setCell (p:=⟨a,20,none⟩) (Or.inl (.inr rfl)) _);clear V s au J E H;go_wp2_with fail
 clear am ao;generalize o.setCell ⟨a,20,none⟩ (ι h)=ax at *
 refine(EP i e 0 2305843009213693951 tl ax M.o P (by omega) P aj).mono ?_;rintro D q ⟨rfl,W,t⟩;have v:=Aa (F.o.keeps t r);have ab:=Aa (I.o.keeps t U);have an:κ q a 21 (ι 0):=v.o.cell rfl;have ap:=v.o.frozen;have x:=Aa (show aD (q.setCell ⟨a,21,none⟩ (ι e)) a (ED c h e) 194 from v.o.setCell 21 (ι e));have N:=Aa (W.keeps ((aA.refl (λj=>j=a) q).setCell (p:=⟨a,21,none⟩) (Or.inl rfl) (ι e)) (λd=>r d.symm));have ad:=Aa (ab.o.aW (p:=⟨a,21,none⟩) (λd=>T d.symm) (ι e));have ae:=Aa (show aA (λj=>j=i\/j=a) w (q.setCell ⟨a,21,none⟩ (ι e)) from(L.o.trans t (λ_ d _=>.inl d)).setCell (p:=⟨a,21,none⟩) (Or.inl (.inr rfl)) _);clear W t F M I L;go_wp2_with fail
 clear an ap;generalize q.setCell ⟨a,21,none⟩ (ι e)=k at *
 have ag:κ k a 20 (ι h):=x.o.cell rfl;have ah:κ k a 21 (ι e):=x.o.cell rfl;have ai:=ad.o.c2;have G:=Aa (show ∀z B,Calls prog 124 #[π i,.bool true] (World.drewN z B) λe aw=>e=.returned (.tuple #[])/\aw=World.drewN z B from λz B=>Gk i _);have aq:(decide (h<rel)=true)\/(decide (h<rel)=false/\(e==0)=true):=by
  by_cases d:h<rel
  ·exact .inl (by simpa using d)
  refine .inr ⟨by simpa using d,?_⟩;rcases R with l | l
  ·exact absurd l d
  simpa using l
 have ar:(decide (0<h)=true)\/(decide (0<h)=false/\decide (rel<=e)=true):=by
  by_cases d:0<h
  ·exact .inl (by simpa using d)
  refine .inr ⟨by simpa using d,?_⟩;rcases S with l | l
  ·exact absurd l d
  simpa using l
 clear R S;rcases aq with ak | ⟨ak,a1⟩;all_goals
  go_quiet (first | (go_at_call 124;refine jA (G.o k _)))
  have ay:κ (k.drewN nq) a 20 (ι h):=ag;have az:κ (k.drewN nq) a 21 (ι e):=ah;have a0:κ (k.drewN nq) n 2 (ι rel):=ai;have Z:=Aa (show aD (k.drewN nq) a (ED c h e) 194 from x.o);have O:=Aa (show aR (k.drewN nq) i tl from⟨N.o.aF,N.o.len⟩);have af:=Aa (ae.o.trans (aA.drewN (λ_=>False) k nq) (λ_ d _=>d.elim));generalize k.drewN nq=Y at *
  go_wp2_with fail
  rcases ar with al | ⟨al,a2⟩;all_goals
   go_quiet (first | (go_at_call 124;refine jA (G.o Y _)))
   go_wp2;go_end0;exact⟨rfl,Z.o,⟨O.o.aF,O.o.len⟩,af.o.trans (aA.drewN (λ_=>False) Y _) (λ_ d _=>d.elim)⟩
end
section
attribute [local go_sem ↓] AH JS
attribute [local go_sem] AI A3 A4 AJ AL B8 B9 Bd B2
theorem RO(k j:Nat)(c:AE[k]?=some j)(w:World): (Instr.index 127 (.agg #[ι 5,ι 6,ι 7,ι 8,ι 10,ι 9,ι 11]) (ι (k:Int))).run prog w=.ok (ι (j:Int)) w:=by
 have h:k<7:=by have:=(iq.1 c).1;exact this
 have e:k=0\/k=1\/k=2\/k=3\/k=4\/k=5\/k=6:=by omega
 rcases e with a | a | a | a | a | a | a;all_goals
  subst a;have d:=jD c;rw[<-d];clear d c
 ·exact Ll w
 ·exact Lm w
 ·exact Ln w
 ·exact Lo w
 ·exact Lp w
 ·exact Lq w
 exact Lr w
def Dw(c:Cfg)(clock:Int): Int :=
 let t:=if 0<(if clock-c.aL+1<clock then clock-c.aL+1 else clock) then(if clock-c.aL+1<clock then clock-c.aL+1 else clock) else 0
 if 4611686018427387904/c.cap<t then 4611686018427387904 else c.cap*t
theorem XP(m:SB)(x:aJ)(clock:Int)(w:World)(e:bJ w m x)(A:0<=x.c.aL)(B:x.c.aL<=100)(O:1<=x.c.cap)(P:x.c.cap<=8)(c0:0<=clock)(c1:clock<=4611686018427387904):
  Calls prog 126 #[π m.s,ι clock] w λn D=>n=.returned (ι (Dw x.c clock))/\D=w:=by
 have q:=e.aF.c2;have J:=e.aF.c4;have t:=Aa (G3 m.s x.c.aL clock w q A B c0 c1);clear e q;obtain⟨d,i,I⟩:∃d,(if clock-x.c.aL+1<clock then clock-x.c.aL+1 else clock)=d/\d<=clock:=⟨_,rfl,by split <;> omega⟩;obtain⟨c,j,M,z⟩:∃c,(if 0<d then d else 0)=c/\c<=clock/\0<=c:=⟨_,rfl,by split <;> omega,by split <;> omega⟩;have s:=Aa (show Dw x.c clock=if 4611686018427387904/x.c.cap<c then 4611686018427387904 else x.c.cap*c by unfold Dw;simp only;rw[i,j]);have Q:IntKind.i64.wrap (clock-x.c.aL+1)=clock-x.c.aL+1:=by rw[il];omega
 have L:(4611686018427387904:Int).tdiv x.c.cap=4611686018427387904/x.c.cap:=jd (by omega);generalize x.c.cap=a at *
 generalize x.c.aL=C at *
 have G:0<=4611686018427387904/a:=jO (by omega) (by omega);have H:4611686018427387904/a<=4611686018427387904:=jS _ (by omega);have N:wrap64 (4611686018427387904/a)=4611686018427387904/a:=by
  have:=il (4611686018427387904/a);unfold wrap64;omega
 have v:4611686018427387904/a<c\/(c<=4611686018427387904/a/\IntKind.i64.wrap (a*c)=a*c):=by
  by_cases e:4611686018427387904/a<c
  ·exact .inl e
  refine .inr ⟨by omega,?_⟩;have l:a*c<=4611686018427387904:=by
   have h:c<=4611686018427387904/a:=by omega
   have o:=jt h (show 0<=a by omega);have u:=Int.mul_ediv_self_le (x:=4611686018427387904) (k:=a) (by omega);omega
  have F:0<=a*c:=kL (by omega) z;rw[il];omega
 by_cases l:clock-C+1<clock;all_goals
  by_cases h:0<d;all_goals
   rcases v with o | ⟨o,u⟩;all_goals
    first | rw[ij l]at i | rw[ig l]at i
    first | rw[ij h]at j | rw[ig h]at j
    subst j;subst i
   all_goals
    first
     | (exfalso;omega)
     | (go_enter func126,ntmps126
        go_wp2_with fail
        refine t.o.mono ?_;rintro n E ⟨rfl,r⟩;rw[r];clear r E;go_wp2;go_ret
        exact⟨by rw[s.o];first | (rw[ij (by omega)];rfl) | (rw[ig (by omega)];simp[go_sem];done),rfl⟩)
structure eK (w:World) (r:Nat) (sb:SB) (x:aJ) (tl:List Nat) (w':World):Prop where
 cY:bJ w' sb x
 rd:aR w' r tl
 kp:aA (λi=>i=r) w w'
 new:∀i,sb.aQ x.k i->w.heap.size<=i
 rl:r<w.heap.size
theorem eK.apart{w:World}{c:Nat}{d:SB}{x:aJ}{tl:List Nat}{w':World}(a:eK w c d x tl w')(i:Nat)(hi:d.aQ x.k i): ¬i=c:=λe=>by
 have h:=a.new i hi;have j:=a.rl;omega
theorem eK.still{w:World}{d:Nat}{e:SB}{x:aJ}{tl:List Nat}{w' h:World}(a:eK w d e x tl w')(c:lX w' h): eK w d e x tl h :=
 ⟨a.cY.still c,a.rd.keeps c id,a.kp.trans c (λ_ a _=>a.elim),a.new,a.rl⟩
theorem eK.number{w:World}{c:Nat}{i:SB}{x:aJ}{n lo hi:Int}{tl:List Nat}{w':World}(a:eK w c i x (enc n++tl) w')(o:0<=n)(n1:n<=9223372036854775807)(k:lo<=n)(l:n<=hi):
  Calls prog 77 #[π c,ι lo,ι hi] w' λh j=>h=.returned (ι n)/\eK w c i x tl j/\aA (λe=>e=c) w' j:=by
 refine(EP c n lo hi tl w' a.rd o n1 k l).mono ?_;rintro h q ⟨rfl,m,d⟩;exact⟨rfl,⟨a.cY.keeps d (λe hi=>a.apart e hi),m,a.kp.then d,a.new,a.rl⟩,d⟩
theorem eK.set{w:World}{k:Nat}{c:SB}{x x2:aJ}{tl:List Nat}{w':World}(a:eK w k c x tl w')(o:Nat)(v:Value)(m:(D8 c x).set o v=D8 c x2)(q:x2.l=x.l)(j:x2.k=x.k)(l:x2.c=x.c)(r:x2.nt=x.nt): eK w k c x2 tl (w'.setCell ⟨c.s,o,none⟩ v):=by
 have e:aA (λd=>d=c.s) w' (w'.setCell ⟨c.s,o,none⟩ v):=(aA.refl (λd=>d=c.s) w').setCell (p:=⟨c.s,o,none⟩) (Or.inl rfl) v;have z:=a.new c.s (.inl rfl);have u:=a.rl;refine⟨⟨?_,?_,?_,a.cY.sq,a.cY.sg,?_⟩,a.rd.keeps e (show ¬(k=c.s) by omega),a.kp.trans e (λd i t=>by have s:d=c.s:=i;omega),?_,a.rl⟩
 ·rw[<-m];exact a.cY.aF.setCell o v
 ·rw[q];exact a.cY.dM.keeps e (λh=>a.cY.sq h.symm) (λg n h=>a.cY.sg g n h.symm)
 ·rw[j,l,r];exact a.cY.note.keeps e (λd i=>(a.cY.sn d i).1)
 ·rw[j];exact a.cY.sn
 rw[j];exact a.new
def CN(l:List Int): Nat->List Int
 | 0=>[0,0,0,0,0,0,0,0,0,0,0,0]
 | k+1=>(CN l k).set (AE.getD k 0) (Ac l (AE.getD k 0))
theorem NU(l:List Int)(k:Nat): (CN l k).length=12:=by
 induction k with
 | zero=>rfl
 | succ k a=>unfold CN;rw[jw,a]
theorem Mq(c:Nat)(l:List Nat)(w:World)(a:aR w c l): Calls prog 79 #[π c] w λd e=>d=.returned (.bool false)/\e=w:=by
 have h:=a.aF.c1;clear a;go_enter func79,ntmps79;go_wp2;go_ret;exact⟨rfl,rfl⟩
structure gM (x:aJ) (clock:Int):Prop where
 fS:0<=x.id/\x.id<=99
 cfg:∀n,n∈BV x.k x.c->0<=n/\n<=9223372036854775807
 p0:0<=Bh x.k x.c
 p3:Bh x.k x.c<=3
 kind:x.c.kind=x.k
 k1:1<=x.k
 k5:x.k<=5
 valid:Ak (Al x.k x.c)=true
 ref:∀j,0<=Ac x.ref j/\Ac x.ref j<=4611686018427387904
 dJ:0<=x.rel
 hM:x.rel<=Dw (Al x.k x.c) clock
 hN:x.rel<=4611686018427387000
 c0:0<=clock
 c1:clock<=4611686018427387904
 aL:0<=(Al x.k x.c).aL/\(Al x.k x.c).aL<=100
 cap:1<=(Al x.k x.c).cap/\(Al x.k x.c).cap<=8
end
section
theorem O0{w:World}{base:Nat}{v:Value}{l:List Int}(i:w.ownsRow base 3 1 v l.length (Af l)): ∃h c,v=.slice h l.length c/\(0<l.length->∃g,h=some ⟨g,0,none⟩/\∀a,a<l.length->w.cell? ⟨g,a,none⟩=some (ι (l.getD a 0))):=by
 rcases Mj i with ⟨d,e⟩ | ⟨g,c,d,e⟩
 ·exact⟨none,0,by rw[e,d],λi=>by omega⟩
 refine⟨_,c,d,λ_=>⟨g,rfl,λa j=>e a _ ?_⟩⟩;unfold Af;rw[iS,h9 j,γ,h9 j];rfl
theorem ZS(v:Value)(base:Nat)(l:List Int)(n:Int)(w:World)(j:w.ownsRow base 3 1 v l.length (Af l))(A:l.length<=1000)(o:n ∉ l):
  Calls prog 211 #[v,ι n] w λt C=>t=.returned (ι (-1))/\C=w:=by
 obtain⟨D,E,q,k⟩:=O0 j;obtain⟨c,e⟩:∃c,l.length=c:=⟨_,rfl⟩;rw[e]at q A;subst q;have r:=Aa k;have i:=Aa e;have s:=Aa o;clear j k e o;go_enter func211,ntmps211;go_wp2;go_loopw [8] (λh wr=>∃a:Nat,a<=c/\h=ι a/\wr=w) (λh _=>c-(intOf h).toNat)
 case atStart=>exact⟨0,by omega,rfl,rfl⟩
 case round =>
  obtain⟨a,G,rfl,rfl⟩:=hrel;by_cases z:a<c
  ·obtain⟨g,u,m⟩:=r.o (by rw[i.o];omega);subst u;have d:a<l.length:=by rw[i.o];exact z
   have F:=m a d;have J:(n==l.getD a 0)=false:=by
    have B:l.getD a 0∈l:=by rw[γ,h9 d];exact jk d
    cases hb:(n==l.getD a 0) with
    | false=>rfl
    | true=>exact absurd (by rw[beq_iff_eq]at hb;rw[hb];exact B) s.o
   generalize l.getD a 0=L at *
   have H:(0:Int)<=(a:Int):=by omega
   have I:(a:Int)<(c:Int):=by omega
   clear m d;go_wp2;go_roundw;case rel=>exact⟨a+1,by omega,by go_num,by trivial⟩
   case measure=>simp[intOf];omega
  have x:a=c:=by omega
  subst x;go_wp2;go_ret;exact⟨rfl,rfl⟩
theorem Vk(v:Value)(base:Nat)(l:List Int)(n:Int)(w:World)(c:w.ownsRow base 3 1 v l.length (Af l))(i:l.length<=1000)(d:n ∉ l):
  Calls prog 168 #[v,ι n] w λa j=>a=.returned (.bool false)/\j=w:=by
 have h:=Aa (ZS v base l n w c i d);clear c d;go_enter func168,ntmps168;go_wp2_with fail
 refine h.o.mono ?_;rintro a k ⟨rfl,e⟩;rw[e];clear e k;go_wp2;go_ret;exact⟨rfl,rfl⟩
structure dB (w:World) (kn:Nat) (m acc rel:Int) (nv:Value) (ns:List Int):Prop where
 aF:aD w kn (Jq m acc rel nv) 177
 row:w.ownsRow (kn+1) 3 1 nv ns.length (Af ns)
theorem dB.keeps{M:Nat->Prop}{w w':World}{a:Nat}{m acc rel:Int}{nv:Value}{ns:List Int}(c:dB w a m acc rel nv ns)(d:aA M w w')(h:¬M a)(i:∀e,nv.ownBlock=some e->¬M e): dB w' a m acc rel nv ns :=
 ⟨c.aF.keeps d h,FB c.row d i⟩
theorem NT(h c:Nat)(m acc rel n:Int)(nv:Value)(ns:List Int)(tl:List Nat)(w:World)(d:aR w h (enc n++tl))(z:dB w c m acc rel nv ns)(am:h<c)(n1:1<=n)(ag:n<=acc)(ah:acc<=4611686018427387904)(N:n ∉ ns)(ae:ns.length<=900):
  Calls prog 127 #[π c,π h] w λv G=>v=.returned (ι n)/\aR G h tl/\(∃R,dB G c m acc rel R (ns++[n])/\(∀a,R.ownBlock=some a->nv.ownBlock=some a\/w.heap.size<=a))/\aA (λa=>a=h\/a=c\/nv.ownBlock=some a) w G:=by
 have V:=Aa z;have af:=z.aF.c1;have J:=Aa (EP h n 1 acc tl w d (by omega) (by omega) n1 ag);have X:=Aa N;have M:=λa j=>(z.row.lt a j).1;have u:=Aa (show ∀a,nv.ownBlock=some a->c+1<=a from M);clear d z N M;go_enter func127,ntmps127;go_wp2_with fail
 refine J.o.mono ?_;rintro v l ⟨rfl,P,D⟩;have aa:=Aa P;have I:=Aa D;have o:=Aa (V.o.keeps D (show ¬(c=h) by omega) (λa j=>show ¬(a=h) by have:=u.o a j;omega));have ao:=o.o.aF.c3;clear P D af J;go_wp2_with fail
 refine(Vk nv (c+1) ns n l o.o.row (by omega) X.o).mono ?_;rintro v H ⟨rfl,s⟩;rw[s];clear s H;go_wp2_with fail
 refine(Gk h _).mono ?_;rintro v H ⟨rfl,s⟩;rw[s];clear s H;obtain⟨q,r,Q,_⟩:=O0 o.o.row;obtain⟨e,B⟩:∃e,ns.length=e:=⟨_,rfl⟩;rw[B]at Q ae;subst Q;have al:=o.o.aF.lt;have ad:=Aa (show l.ownsRow (c+1) 3 1 (.slice q e r) e (Af ns) by have:=o.o.row;rw[B]at this;exact this);have Z:=Aa B;have U:=Aa (o.o.aF.alloc (.cells #[ι n] 3));clear B;go_wp2_with (at_builtin;refine Fl rfl _ _ rfl (c+1) (.slice q e r) e ns rfl (by exact DY ad.o ((aA.refl (λ_=>False) l).alloc _) (λ_ _ d=>d)) l.heap.size 1 [n] rfl rfl (by exact aD.new l [ι n] 3) (by omega) (by omega) (by simp;omega) ?_;intro k c2 t O F C;have x:=U.o.keeps F (λd=>by have:=u.o c d;omega);have ai:=x.cell (i:=3) rfl;have aj:=x.frozen)
 have ak:k≠c:=by
  rcases C with d | d
  ·have:=u.o k d;omega
  simp at d;omega
 have an:=I.o.size;have A:aA (λa=>a=c) t (t.setCell ⟨c,3,none⟩ (σ k (e+1) c2)):=(aA.refl (λa=>a=c) t).setCell (p:=⟨c,3,none⟩) (Or.inl rfl) _;have T:=Aa (x.setCell 3 (σ k (e+1) c2));have Y:=Aa (FB O A (λa j=>show ¬(a=c) by have L:k=a:=(by simpa[Value.ownBlock] using j);omega));have E:aA (λa=>(Value.slice q e r).ownBlock=some a) l t:=((aA.refl _ l).alloc _).then F;have ab:=Aa ((aa.o.keeps E (λd=>by have:=u.o h d;omega)).keeps A (show ¬(h=c) by omega));have W:=Aa (show aA (λa=>a=h\/a=c\/(Value.slice q e r).ownBlock=some a) w (t.setCell ⟨c,3,none⟩ (σ k (e+1) c2)) from((I.o.mono (λ_ _ d=>.inl d)).trans E (λa j _=>.inr (.inr j))).trans A (λa j _=>.inr (.inl j)))
 have S:=Aa (show ∀a,(Value.slice (some ⟨k,0,none⟩) (e+1) c2).ownBlock=some a->(Value.slice q e r).ownBlock=some a\/w.heap.size<=a from λa j=>by
    have L:k=a:=by simpa[Value.ownBlock] using j
    subst L;rcases C with d | d
    ·exact .inl d
    simp at d;exact .inr (by omega))
 clear x O F C A E;go_wp2;go_ret;exact⟨rfl,ab.o,⟨_,⟨T.o,by rw[ic,jh,Z.o];exact Y.o⟩,S.o⟩,W.o⟩
def rowFrom(cs:List Int)(k:Nat): Nat->Nat->List Int
 | 0,_=>[]
 | n+1,j=>cs.getD (k*16+j) 0::rowFrom cs k n (j+1)
def Fp(cs:List Int)(wd:Nat): Nat->Nat->List Int
 | 0,_=>[]
 | n+1,k=>rowFrom cs k wd 0++Fp cs wd n (k+1)
theorem WM(cs:List Int)(k n j:Nat): (List.range' j n).map (λj=>cs.getD (k*16+j) 0)=rowFrom cs k n j:=by
 induction n generalizing j with
 | zero=>rfl
 | succ n a=>rw[kU,iF,rowFrom,a]
theorem QR(cs:List Int)(k a:Nat): CQ a cs k=rowFrom cs k a 0:=by rw[<-WM,<-List.range_eq_range'];rfl
theorem Tm(cs:List Int)(a n k:Nat): (List.range' k n).flatMap (CQ a cs)=Fp cs a n k:=by
 induction n generalizing k with
 | zero=>rfl
 | succ n c=>rw[kU,jz,Fp,c,QR]
theorem Ys(cs:List Int)(a n:Nat): Eo n a cs=Fp cs a n 0:=by rw[<-Tm,<-List.range_eq_range'];rfl
def Bp(l:List Int): Int:=l.foldr (λa b=>a+b) 0
structure fI (R W:Nat) (most s:Int) (cs:List Int):Prop where
 nn:∀i,0<=cs.getD i 0
 ze:∀i,(R<=i/16\/W<=i%16)->cs.getD i 0=0
 row:∀j,j<R->Bp (CQ W cs j)=s
 s0:0<s
 s1:s<=most
theorem Uo{R W:Nat}{d s:Int}{cs:List Int}(a:fI R W d s cs)(k n j:Nat): 0<=Bp (rowFrom cs k n j):=by
 induction n generalizing j with
 | zero=>exact iL _
 | succ n c =>
  have e:=c (j+1);have h:=a.nn (k*16+j);show 0<=cs.getD (k*16+j) 0+Bp (rowFrom cs k n (j+1));omega
theorem YY{w:World}{a e:Nat}{c:Cfg}{p p':Pa.Pn}(i:Nat)(x:Int)(hi:i<48)(j:aD w a (Bm c p e) 233)(k:p'.no=p.no)(l:p'.cs=p.cs.set i x):
  aD (w.setCell ⟨a,21+i,none⟩ (ι x)) a (Bm c p' e) 233:=by
 have d:=j.setCell (21+i) (ι x);rw[show 21+i=20+(i+1) by omega,Qn c p e (i+1) _ (by omega)]at d;have h:p.cells.set (i+1) (ι x)=p'.cells:=by
  unfold Pa.Pn.cells;rw[List.set_cons_succ,k,l,kO]
 rw[h]at d;rw[show 21+i=20+(i+1) by omega];exact d
theorem YS{w:World}{a d:Nat}{c:Cfg}{p:Pa.Pn}(i:Nat)(hi:i<48)(e:aD w a (Bm c p d) 233): w.cell? ⟨a,21+i,none⟩=some (ι (p.cs.getD i 0)):=by
 rw[show 21+i=20+(i+1) by omega];refine e.cell ((J5 c _ d (i+1) (by omega)).trans ?_);show((ι p.no::p.cs.map (ι ·):List Value))[i+1]?=_;rw[k3,iS,γ,h9 (by rw[p.len];exact hi)];rfl
theorem Vn(l:List Int)(i j:Nat)(x:Int)(hi:i<l.length): (l.set i x).getD j 0=if j=i then x else l.getD j 0:=by
 simp only[γ,jI];by_cases a:i=j
 ·subst a;simp[hi]
 simp[a,lE a]
theorem ZY(i u l R W:Nat)(c:Cfg)(z:Int)(cs:List Int)(F:cs.length=48)(C s:Int)(tl:List Nat)(w:World)(P:aD w i (Bm c (Cy z) u) 233)(ag:aR w l (Ae (Eo R W cs)++tl))(af:i≠l)(ad:c.rows=(R:Int))(ae:c.width=(W:Int))(a1:1<=R)(a2:R<=3)(a3:W<=16)(M:fI R W C s cs)(bf:C<=4611686018427387904):
  Calls prog 199 #[π i,π l,ι C] w λt X=>t=.returned (ι s)/\aD X i (Bm c ⟨z,cs,F⟩ u) 233/\aR X l tl/\aA (λd=>d=l\/d=i) w X:=by
 have c7:κ w i 7 (ι (R:Int)):=ad ▸ P.cell (Ch c _ u 7 (by omega));have n:=Aa P;have q:=Aa ag;have D:=Aa M;have ap:=Aa ae;have bg:=M.s0;have bh:=M.s1;clear P ag M ad ae;go_enter func199,ntmps199;go_wp2_with fail
 clear c7;go_loopw [7,17] (λO x wr=>∃(H:Int) (a r:Nat) (p:Pa.Pn),O=ι H/\x=ι (a:Int)/\a+r=R/\(a=0\/H=s)/\Hid (p.no=z)/\Hid (∀d,(d<a*16->p.cs.getD d 0=cs.getD d 0)/\(a*16<=d->p.cs.getD d 0=0))/\Hid (aD wr i (Bm c p u) 233)/\Hid (aR wr l (Ae (Fp cs W r a)++tl))/\Hid (aA (λd=>d=l\/d=i) w wr)) (λ_ x _=>R-(intOf x).toNat)
 case atStart =>
  refine⟨0,0,R,Cy z,rfl,rfl,by omega,.inl rfl,rfl,λd=>⟨λh=>by omega,λ_=>?_⟩,n,?_,aA.refl _ _⟩
  ·show(List.replicate 48 (0:Int)).getD d 0=0;rw[γ,k0];split <;> rfl
  have:=q.o;rw[Ys]at this;exact this
 case round =>
  clear q n;obtain⟨H,a,r,p,rfl,rfl,be,S,B,o,n,q,A⟩:=hrel;cases r with
  | zero =>
   have U:a=R:=by omega
   subst U;have au:decide ((a:Int)<(a:Int))=false:=by simp
   have av:H=s:=by rcases S with h | h;omega;exact h
   subst av
   have ar:=Aa (show aD wr i (Bm c ⟨z,cs,F⟩ u) 233 by
      have t:p=⟨z,cs,F⟩:=by
       have aa:p.cs=cs:=by
        apply ke;intro d;by_cases h:d<48
        ·have L:p.cs.getD d 0=cs.getD d 0:=by
          by_cases v:d<a*16
          ·exact(o.o d).1 v
          rw[(o.o d).2 (by omega),D.o.ze d (.inl (by omega))]
         simp only[γ]at L;rw[h9 (by rw[p.len];exact h),h9 (by rw[F];exact h)]at L ⊢;exact congrArg some L
        rw[jC (by rw[p.len];omega),jC (by rw[F];omega)]
       have ab:=B.o;cases p;simp only at aa ab;subst aa ab;rfl
      rw[<-t]
      exact n.o)
   go_wp2;go_ret;refine⟨rfl,ar.o,?_,A.o⟩;have:=q.o;rw[Fp]at this;exact this
  | succ r =>
   have U:a<R:=by omega
   have bd:(a:Int)<(R:Int):=by omega
   have bb:(0:Int)<=(a:Int):=by omega
   have bc:(a:Int)<3:=by omega
   have c8:κ wr i 8 (ι (W:Int)):=ap.o ▸ n.o.cell (Ch c _ u 8 (by omega))
   have E:=Aa (show aR wr l (Ae (rowFrom cs a W 0)++(Ae (Fp cs W r (a+1))++tl)) by
      have:=q.o;rw[Fp,B3,ε]at this
      exact this)
   have ao:=Aa (show Bp (rowFrom cs a W 0)=s by rw[<-QR];exact D.o.row a U);clear q;go_wp2_with fail
   clear c8;go_loopw [9,25] (λO x wr=>∃(k:Int) (e m:Nat) (p:Pa.Pn),O=ι k/\x=ι (e:Int)/\e+m=W/\0<=k/\k<=s/\Hid (k+Bp (rowFrom cs a m e)=s)/\Hid (p.no=z)/\Hid (∀d,(d<a*16+e->p.cs.getD d 0=cs.getD d 0)/\(a*16+e<=d->p.cs.getD d 0=0))/\Hid (aD wr i (Bm c p u) 233)/\Hid (aR wr l (Ae (rowFrom cs a m e)++(Ae (Fp cs W r (a+1))++tl)))/\Hid (aA (λd=>d=l\/d=i) w wr)) (λ_ x _=>W-(intOf x).toNat)
   case atStart=>exact⟨0,0,W,p,rfl,rfl,by omega,by omega,by omega,by show _=_;rw[ao.o];omega,B,o,n,E,A⟩
   case round =>
    clear B o n E A;obtain⟨k,e,m,p,rfl,rfl,ba,bi,bj,Z,B,o,n,q,A⟩:=hrel;cases m with
    | zero =>
     have aw:e=W:=by omega
     subst aw;have au:decide ((e:Int)<(e:Int))=false:=by simp
     have ay:k=s:=by have:=Z.o;rw[rowFrom]at this;simpa[Bp] using this
     subst ay;have an:=Aa (show aR wr l (Ae (Fp cs e r (a+1))++tl) from q.o)
     have N:=Aa (show ∀d,(d<(a+1)*16->p.cs.getD d 0=cs.getD d 0)/\((a+1)*16<=d->p.cs.getD d 0=0) from λd=>⟨λh=>by
          by_cases v:d<a*16+e
          ·exact(o.o d).1 v
          rw[(o.o d).2 (by omega),D.o.ze d (.inr (by omega))],λh=>(o.o d).2 (by omega)⟩)
     have ax:((a:Int)==0)=true\/(((a:Int)==0)=false/\(k==H)=true):=by
      rcases S with h | h
      ·exact .inl (by simp[h])
      by_cases v:a=0
      ·exact .inl (by simp[v])
      exact .inr ⟨by simp;omega,by simp[h]⟩
     clear S;rcases ax with g | ⟨g,a6⟩;all_goals
      go_wp2_with fail
      refine(Gk l _).mono ?_;rintro t az ⟨rfl,ai⟩;rw[ai];clear ai az;go_wp2;go_roundw;case rel=>exact⟨k,a+1,r,p,rfl,by go_num,by omega,.inr rfl,B,N,n,an,A⟩
      case measure=>simp[intOf];omega
    | succ m =>
     obtain⟨j,G⟩:∃j,cs.getD (a*16+e) 0=j:=⟨_,rfl⟩;have aj:0<=j:=by rw[<-G];exact D.o.nn _
     have Y:=Aa (show(k+j)+Bp (rowFrom cs a m (e+1))=s by
        have h:=Z.o;rw[rowFrom,G]at h;have v:Bp (j::rowFrom cs a m (e+1))=j+Bp (rowFrom cs a m (e+1)):=rfl
        omega)
     have a0:k+j<=s:=by have L:=Y.o;have v:=Uo D.o a m (e+1);omega
     have E:=Aa (show aR wr l (enc j++(Ae (rowFrom cs a m (e+1))++(Ae (Fp cs W r (a+1))++tl))) by
        have:=q.o;rw[rowFrom,BQ,G,ε]at this
        exact this)
     have a9:(e:Int)<(W:Int):=by omega
     have a7:(0:Int)<=(e:Int):=by omega
     have a8:(e:Int)<16:=by omega
     have Q:a*16+e<48:=by omega
     have bk:IntKind.i64.wrap (C-k)=C-k:=by rw[il];omega
     have bl:IntKind.i64.wrap (k+j)=k+j:=by rw[il];omega
     have aq:=Aa G;clear q G;go_wp2_with fail
     refine(EP l j 0 (C-k) _ wr E.o aj (by omega) aj (by omega)).mono ?_;rintro t I ⟨rfl,ah,T⟩;have J:=Aa (n.o.keeps T af);have a5:κ I i (21+a*16+e) (ι (p.cs.getD (a*16+e) 0)):=by rw[show 21+a*16+e=21+(a*16+e) by omega];exact YS (a*16+e) Q J.o
     have a4:=J.o.frozen;have V:aA (λd=>d=i) I (I.setCell ⟨i,21+a*16+e,none⟩ (ι j)):=(aA.refl (λd=>d=i) I).setCell (p:=⟨i,21+a*16+e,none⟩) (Or.inl rfl) _;have am:=Aa (ah.keeps V (λh=>af h.symm));have al:=Aa ((A.o.trans T (λ_ h _=>.inl h)).trans V (λ_ h _=>.inr h))
     have ak:=Aa (show aD (I.setCell ⟨i,21+a*16+e,none⟩ (ι j)) i (Bm c ⟨p.no,p.cs.set (a*16+e) j,by rw[jw];exact p.len⟩ u) 233 by
        rw[show 21+a*16+e=21+(a*16+e) by omega]
        exact YY (a*16+e) j Q J.o rfl rfl)
     have N:=Aa (show ∀d,(d<a*16+(e+1)->(p.cs.set (a*16+e) j).getD d 0=cs.getD d 0)/\(a*16+(e+1)<=d->(p.cs.set (a*16+e) j).getD d 0=0) from λd=>by
        rw[Vn _ _ _ _ (by rw[p.len];exact Q)];refine⟨λh=>?_,λh=>?_⟩
        ·by_cases t:d=a*16+e
         ·rw[ij t,t,aq.o]
         rw[ig t];exact(o.o d).1 (by omega)
        rw[ig (by omega)];exact(o.o d).2 (by omega))
     clear ah T V E n J;go_wp2;go_roundw;case rel=>exact⟨k+j,e+1,m,⟨p.no,p.cs.set (a*16+e) j,by rw[jw];exact p.len⟩,rfl,by go_num,by omega,by omega,a0,Y,B,N,ak,am,al⟩
     case measure=>simp[intOf];omega
def sP(W:Nat)(p:Pa.Pn): Int:=Bp (CQ W p.cs 0)
structure gW (c:Cfg) (R W:Nat) (m rel:Int) (ps:List Pa.Pn):Prop where
 len:(ps.length:Int)<=c.aM+1
 eH:ps.Pairwise (λa b=>a.no<b.no)
 gJ:∀p,p∈ps->0<=p.no/\p.no<=m/Ag c
 hH:∀p,p∈ps->fI R W (sP W p) (sP W p) p.cs
 sum:Bp (ps.map (sP W))<=rel
def Hi(s:Pa.Pn×List Pa.Pn)(p:Pa.Pn): Pa.Pn×List Pa.Pn:=(p,(A8 s.1 s.2 p.no).2)
def Ef(ps:List Pa.Pn): Pa.Pn×List Pa.Pn:=ps.foldl Hi (Pa.pn0,[])
structure OL (w:World) (d q r:Nat) (og:Option Nat) (c:Cfg) (s:Pa.Pn×List Pa.Pn) (tl:List Nat) (og2:Option Nat) (wr:World):Prop where
 eQ:cR wr d q og2 c s.1 s.2
 rd:aR wr r tl
 kp:aA (λi=>i=r\/i=d\/i=q\/og=some i) w wr
 fo:og2=og\/∃k,og2=some k/\w.heap.size<=k
 ap:d≠r/\q≠r/\og≠some r/\r<w.heap.size
theorem OL.g{w:World}{i l h:Nat}{k:Option Nat}{c:Cfg}{s:Pa.Pn×List Pa.Pn}{tl:List Nat}{e:Option Nat}{wr:World}(a:OL w i l h k c s tl e wr)(g:Nat)(d:e=some g): g≠h:=λj=>by
 rcases a.fo with f | ⟨n,f,m⟩
 ·exact a.ap.2.2.1 (by rw[<-f,d,j])
 rw[d]at f;have:=jD f;have:=a.ap.2.2.2;omega
theorem OL.still{w:World}{e j k:Nat}{h:Option Nat}{c:Cfg}{s:Pa.Pn×List Pa.Pn}{tl:List Nat}{i:Option Nat}{wr l:World}(a:OL w e j k h c s tl i wr)(d:lX wr l): OL w e j k h c s tl i l :=
 ⟨a.eQ.still d,a.rd.keeps d id,a.kp.trans d (λ_ a _=>a.elim),a.fo,a.ap⟩
theorem OL.number{w:World}{i m d:Nat}{k:Option Nat}{c:Cfg}{s:Pa.Pn×List Pa.Pn}{n lo hi:Int}{tl:List Nat}{l:Option Nat}{wr:World}(a:OL w i m d k c s (enc n++tl) l wr)(v:0<=n)(n1:n<=9223372036854775807)(o:lo<=n)(q:n<=hi):
  Calls prog 77 #[π d,ι lo,ι hi] wr λj h=>j=.returned (ι n)/\OL w i m d k c s tl l h/\aA (λu=>u=d) wr h:=by
 refine(EP d n lo hi tl wr a.rd v n1 o q).mono ?_;rintro j h ⟨rfl,t,e⟩;exact⟨rfl,⟨a.eQ.keeps e a.ap.1 a.ap.2.1 (λg r=>a.g g r),t,a.kp.trans e (λ_ a _=>.inl a),a.fo,a.ap⟩,e⟩
theorem OL.turn{w:World}{h i m:Nat}{u:Option Nat}{c:Cfg}{s s2:Pa.Pn×List Pa.Pn}{tl:List Nat}{j k:Option Nat}{wr l:World}(d:OL w h i m u c s tl j wr)(v:aD l h (Bm c s2.1 i) 233)(z:Pa.aH l h i k s2.2)(q:aA (λe=>e=h\/e=i\/j=some e) wr l)(r:k=j\/∃e,k=some e/\wr.heap.size<=e): OL w h i m u c s2 tl k l:=by
 have C:=d.kp.size;refine⟨⟨v,z,d.eQ.dq,λg o=>?_⟩,d.rd.keeps q (λa=>?_),d.kp.trans q (λA x B=>?_),?_,d.ap⟩
 ·rcases r with f | ⟨e,f,t⟩
  ·exact d.eQ.dg g (by rw[<-f,o])
  rw[o]at f;have:=jD f;have:=d.eQ.aF.lt;omega
 ·rcases a with a | a | a
  ·exact d.ap.1 a.symm
  ·exact d.ap.2.1 a.symm
  exact d.g m a rfl
 ·rcases x with a | a | a
  ·exact .inr (.inl a)
  ·exact .inr (.inr (.inl a))
  rcases d.fo with f | ⟨e,f,t⟩
  ·exact .inr (.inr (.inr (by rw[<-f];exact a)))
  have n:j=some A:=a;rw[f]at n;have:=jD n;omega
 rcases r with f | ⟨e,f,t⟩
 ·rw[f];exact d.fo
 exact .inr ⟨e,f,by omega⟩
theorem OL.fill{w:World}{e k h:Nat}{n:Option Nat}{c:Cfg}{o p:Pa.Pn}{cl:List Pa.Pn}{tl r:List Nat}{q:Option Nat}{wr i:World}(d:OL w e k h n c (o,cl) tl q wr)(s:aD i e (Bm c p k) 233)(u:aR i h r)(m:aA (λj=>j=h\/j=e) wr i): OL w e k h n c (p,cl) r q i:=by
 refine⟨⟨s,d.eQ.row.keeps m (λa=>a.elim d.ap.2.1 (λa=>d.eQ.dq a.symm)) (λg l a=>a.elim (d.g g l) (λa=>d.eQ.dg g l a.symm)),d.eQ.dq,d.eQ.dg⟩,u,d.kp.trans m (λj t v=>?_),d.fo,d.ap⟩;rcases t with a | a
 ·exact .inl a
 exact .inr (.inl a)
theorem fI.up{R W:Nat}{a b s:Int}{cs:List Int}(c:fI R W a s cs)(d:s<=b): fI R W b s cs:=⟨c.nn,c.ze,c.row,c.s0,d⟩
theorem XE{o p:Pa.Pn}{cl:List Pa.Pn}(a:o=Pa.pn0\/o.no<p.no): (A8 o cl p.no).1=Cy p.no:=by
 unfold A8;split
 ·rename_i c;rcases a with a | a
  ·rw[<-c,a];rfl
  omega
 rfl
theorem Gl(a:Int)(l:List Int): Bp (a::l)=a+Bp l:=rfl
theorem U3(d h i l R W:Nat)(j:Option Nat)(c:Cfg)(m acc rel:Int)(nv:Value)(ps:List Pa.Pn)(tl:List Nat)(w:World)(e:cR w d h j c Pa.pn0 [])(Y:aR w i (Ae ((ps.length:Int)::Co c ps)++tl))(aj:aD w l (Jq m acc rel nv) 177)(V:d≠i/\h≠i/\j≠some i)(F:l≠i/\l≠d/\l≠h/\j≠some l)(ai:gW c R W m rel ps)(ae:c.rows=(R:Int))(af:c.width=(W:Int))(I:c.paned)(Z:c.rowed)(b2:1<=Ag c)(ci:0<=m\/ps=[])(de:m<=4611686018427387904)(df:rel<=4611686018427387904)(cj:0<=rel):
  Calls prog 151 #[π d,π i,π l] w λr v=>r=.returned (.tuple #[])/\∃B,OL w d h i j c (Ef ps) tl B v:=by
 have cb:=Y.aF.lt
 have ap:=Aa (show ∀v,aA (λa=>a=i\/a=d\/a=h\/j=some a) w v->κ v l 0 (ι m)/\κ v l 2 (ι rel) from λv a6=>by
    have bb:¬(l=i\/l=d\/l=h\/j=some l):=λr=>r.elim F.1 (λr=>r.elim F.2.1 (λr=>r.elim F.2.2.1 F.2.2.2))
    exact⟨(aj.keeps a6 bb).cell rfl,(aj.keeps a6 bb).cell rfl⟩)
 have bg:=Aa F.1;have au:=Aa (λbr b0 b1=>LZ d c br b0 b1 (by have:=I.w0;omega) I.w1 I.p0)
 have ax:=Aa (show OL w d h i j c (Pa.pn0,[]) (enc (ps.length:Int)++(Ae (Co c ps)++tl)) j w by
    rw[BQ,ε]at Y
    exact⟨e,Y,aA.refl _ _,.inl rfl,⟨V.1,V.2.1,V.2.2,cb⟩⟩)
 have D:=Aa ai;obtain⟨z,ad⟩:∃z,ps.length=z:=⟨_,rfl⟩;have b3:=ai.len;rw[ad]at b3;have S:=Aa ad;have cr:=I.p1;have cq:=I.p0;have bp:1<=R:=by have:=Z.r0;omega
 have bq:R<=3:=by have:=Z.r1;omega
 have bs:W<=16:=by have:=Z.w1;omega
 have bk:=Aa ae;have bn:=Aa af;have bj:=Aa (show ∀p,FY c p=p.no::Eo R W p.cs from λp=>by unfold FY;rw[ae,af];rfl);obtain⟨cg,ch⟩:=ap.o w (aA.refl _ _);have c9:κ w d 9 (ι c.aM):=e.aF.cell (Ch c _ h 9 (by omega));have ck:IntKind.i64.wrap (c.aM+1)=c.aM+1:=by rw[il];omega
 clear e Y aj ai V F ae af I Z ad;go_enter func151,ntmps151;go_wp2_with fail
 refine((show OL w d h i j c (Pa.pn0,[]) (enc (z:Int)++(Ae (Co c ps)++tl)) j w by rw[<-S.o];exact ax.o).number (by omega) (by omega) (by omega) (by omega)).mono ?_;rintro r dg ⟨rfl,a7,_⟩;have aw:=Aa a7;clear a7 ax cg ch c9 ck;go_wp2_with fail
 go_loopw [6,7,21] (λbu b al wr=>∃(t N:Int) (a:Nat) (x:Pa.Pn×List Pa.Pn) (B:Option Nat),bu=ι t/\b=ι N/\al=ι (a:Int)/\a<=z/\0<=t/\t<=rel/\0<=N/\Hid (Bp ((ps.drop a).map (sP W))<=t)/\Hid (∀p,p∈ps.drop a->N<=p.no/\(x.1=Pa.pn0\/x.1.no<p.no))/\Hid ((ps.take a).foldl Hi (Pa.pn0,[])=x)/\Hid (x.2.length<=a)/\Hid (OL w d h i j c x (Ae (Co c (ps.drop a))++tl) B wr)) (λ_ _ al _=>z-(intOf al).toNat)
 case atStart=>exact⟨rel,0,0,(Pa.pn0,[]),j,rfl,rfl,rfl,iT _,cj,iL _,iL _,D.o.sum,λp H=>⟨(D.o.gJ p H).1,.inl rfl⟩,rfl,ir _,aw⟩
 case round =>
  clear aw;obtain⟨t,N,a,x,B,rfl,rfl,rfl,b4,db,dc,da,ay,ar,ab,bl,P⟩:=hrel;by_cases b5:a<z
  ·obtain⟨p,H⟩:∃p,ps[a]?=some p:=⟨_,h9 (by rw[S.o];exact b5)⟩
   have O:=Aa (show ps.drop a=p::ps.drop (a+1) by
      have ba:=iq.1 H
      rw[δ ba.1,ba.2])
   have bm:=Aa (show(ps.take (a+1)).foldl Hi (Pa.pn0,[])=Hi x p by rw[ji,H,Option.toList_some,jV,ab.o];rfl);have L:=iz H;have a9:=ar.o p (by rw[O.o];simp);have ak:=D.o.gJ p L;have am:0<=m:=by
    rcases ci with e | e
    ·exact e
    rw[e]at L;simp at L
   have aq:=Aa (D.o.hH p L)
   have az:=Aa (show sP W p+Bp ((ps.drop (a+1)).map (sP W))<=t by
      have e:=ay.o;rw[O.o,iF,Gl]at e
      exact e)
   have bi:=Aa (show ∀M:List Pa.Pn,(∀k,k∈M->k∈ps)->0<=Bp (M.map (sP W)) from λM=>by
      induction M with
      | nil=>intro _;exact iL _
      | cons k M cf=>intro A;rw[iF,Gl];have T:=cf (λy ce=>A y (by simp[ce]));have U:=(D.o.hH k (A k (by simp))).s0;omega)
   have cc:sP W p<=t:=by have T:=az.o;have U:=bi.o (ps.drop (a+1)) (λk A=>iE A);omega
   have cu:=aq.o.s0
   have C:=Aa (show OL w d h i j c x (enc p.no++(Ae (Eo R W p.cs)++(Ae (Co c (ps.drop (a+1)))++tl))) B wr by
      have e:=P.o;rw[O.o]at e
      simpa only[Co,jz,bj.o p,BQ,B3,ε,θ] using e)
   have av:=Aa (show ∀k,k∈ps.drop (a+1)->p.no+1<=k.no/\(p=Pa.pn0\/p.no<k.no) by
      have T:=D.o.eH;rw[<-τ a ps]at T;have U:=(jb.1 T).2.1;rw[O.o]at U;intro k A;have:=(jn.1 U).1 k A
      exact⟨by omega,.inr this⟩)
   clear P H L ay ar ab;obtain⟨s,q⟩:=x;have co:q.length<=a:=bl.o;have cp:(a:Int)<(z:Int):=by omega
   obtain⟨bv,bx⟩:=ap.o wr C.o.kp;have c5:κ wr d 5 (ι c.aB):=C.o.eQ.aF.cell (Ch c _ h 5 (by omega));have c9:κ wr d 9 (ι c.aM):=C.o.eQ.aF.cell (Ch c _ h 9 (by omega));obtain⟨n,a3⟩:∃n,Ag c=n:=⟨_,rfl⟩;rw[a3]at b2 ak au;clear a3;obtain⟨u,G⟩:∃u,p.no=u:=⟨_,rfl⟩;rw[G]at a9 ak C av;obtain⟨b7,b8⟩:=a9;obtain⟨b9,ca⟩:=ak;have cd:m.tdiv n=m/n:=jd am;have cs:0<=m/n:=jO am (by omega);have ct:m/n<=m:=jS _ am;have cv:IntKind.i64.wrap (m.tdiv n)=m/n:=by rw[cd,il];omega
   have cw:IntKind.i64.wrap (m/n)=m/n:=by rw[il];omega
   have cn:¬n=0:=by omega
   have aa:=Aa (show ¬(l=i)/\¬(d=i) from⟨bg.o,C.o.ap.1⟩);go_wp2_with fail
   go_region_held3 (λv=>v.cell? ⟨l,0,none⟩=some (ι m)/\v.cell? ⟨d,5,none⟩=some (ι c.aB)/\v.cell? ⟨d,9,none⟩=some (ι c.aM))
    (first | (go_split_ands;exact⟨by assumption,by assumption,by assumption⟩) | (go_split_ands;exact⟨J.cell (by assumption) id,J.cell (by assumption) id,J.cell (by assumption) id⟩) | (go_split_ands;exact⟨X.cell (by assumption) aa.o.1,X.cell (by assumption) aa.o.2,X.cell (by assumption) aa.o.2⟩))
    (first | (go_at_call 193;refine(au.o _ (by first | assumption | simpa using c5) (by first | assumption | simpa using c9)).mono ?_;rintro r cm ⟨rfl,J⟩) | (go_at_call 77;refine((C.o.still (((aA.refl (λ_=>False) wr).drew).then J)).number (lo:=N) (hi:=m/n) b9 (by omega) b7 ca).mono ?_;rintro r bt ⟨rfl,a8,X⟩))
   have E:=Aa a8;clear a8 J X C bv bx c5 c9;have a0:=Aa (XE (o:=s) (cl:=q) (p:=p) (by rw[G];exact b8));rw[G]at a0;go_wp2_with fail
   refine(QI d h B c s q u bt E.o.eQ.aF E.o.eQ.row E.o.eQ.dq E.o.eQ.dg (by omega)).mono ?_;rintro r a1 ⟨rfl,an,ag,bd,a4,bc⟩;have Q:=Aa (E.o.turn (s2:=A8 s q u) ag bd a4 bc);have ao:=Aa (show aD a1 d (Bm c (Cy u) h) 233 by rw[<-a0.o];exact ag);clear ag bd a4 bc E;have cy:IntKind.i64.wrap (t-sP W p)=t-sP W p:=by rw[il];omega
   have cx:IntKind.i64.wrap (u+1)=u+1:=by rw[il];omega
   go_wp2_with fail
   refine(ZY d h i R W c u p.cs p.len t (sP W p) _ a1 ao.o Q.o.rd Q.o.ap.1 bk.o bn.o bp bq bs (aq.o.up cc) (by omega)).mono ?_;rintro r a2 ⟨rfl,ah,be,a5⟩
   have bh:=Aa (show OL w d h i j c (Hi (s,q) p) (Ae (Co c (ps.drop (a+1)))++tl) an a2 by
      have bz:(⟨u,p.cs,p.len⟩:Pa.Pn)=p:=by rw[<-G]
      rw[bz]at ah;show OL w d h i j c (p,(A8 s q p.no).2) _ an a2;rw[G]
      exact OL.fill (o:=(A8 s q u).1) Q.o ah be a5)
   clear ah be a5 Q ao;have bf:=Aa (show(Hi (s,q) p).2.length<=a+1 by have:=Qd s q p.no;show(A8 s q p.no).2.length<=a+1;omega);go_wp2;go_roundw;case rel=>exact⟨t-sP W p,u+1,a+1,Hi (s,q) p,an,rfl,rfl,by go_num,by omega,by omega,by omega,by omega,by have:=az.o;show _<=_;omega,(λk A=>by have:=av.o k A;exact⟨this.1,by show p=Pa.pn0\/p.no<k.no;rw[G];exact this.2⟩),bm,bf,bh⟩
   case measure=>simp[intOf];omega
  have b6:a=z:=by omega
  subst b6
  have bo:=Aa (show OL w d h i j c (Ef ps) tl B wr by
     have e:=P.o;rw[<-ab.o,show ps.take a=ps from by rw[<-S.o];exact lg,show ps.drop a=[] from by rw[<-S.o];exact kK]at e
     exact e)
  clear P;go_wp2;go_end0;exact⟨rfl,B,bo.o⟩
