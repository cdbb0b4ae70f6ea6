import Derived.Test.YtnokbhcennjanaaGreatDoorXBO
open Go.RowKit Go.Proofs.Tryz
set_option maxRecDepth 100000
set_option maxHeartbeats 16000000
namespace Go.Proofs.YtnokbhcennjanaaGreatDoor
section
def D8(cs:List Int)(j pl:Nat): Int:=cs.getD (j*16+pl) 0
def Ds(f:It->Bool)(R:List It): Int:=((R.filter f).length:Int)
theorem Ws(f:It->Bool)(R:List It)(y:It): Ds f (R++[y])=Ds f R+if f y=true then 1 else 0:=by
 unfold Ds;rw[jj,hY];by_cases a:f y=true
 ·rw[h9 a,List.filter_cons_of_pos a];simp
 rw[hZ a,List.filter_cons_of_neg a];simp
theorem Pk{f:It->Bool}{R:List It}(c:∀a∈R,f a=false): Ds f R=0:=by
 unfold Ds;rw[jL.2 (λa d=>by rw[c a d];simp)];rfl
theorem Yu{f:It->Bool}{R:List It}(c:Ds f R=0): ∀a∈R,f a=false:=by
 intro a d;unfold Ds at c;have:R.filter f=[]:=List.eq_nil_of_length_eq_zero (by omega);have:=jL.1 this a d;simpa using this
theorem V5{f g:It->Bool}{R:List It}(c:∀a∈R,f a=g a): Ds f R=Ds g R:=by
 unfold Ds;rw[kU c]
theorem zM1{f g e:It->Bool}{R:List It}(h:∀a∈R,e a=(f a||g a))(j:∀a∈R,¬(f a=true/\g a=true)): Ds e R=Ds f R+Ds g R:=by
 induction R with
 | nil=>rfl
 | cons a R i =>
  have i:=i (λc d=>h c (by simp[d])) (λc d=>j c (by simp[d]));have k:=h a (by simp);unfold Ds at *
  rw[iR,iR,iR];cases hf:f a <;> cases hg:g a <;> simp_all <;> omega
def DR(c:Cfg)(r:It): Int:=r.t/Ag c
def Gw(c:Cfg)(j pl:Nat)(r:It): Bool:=decide (AA c r.k j=(pl:Int))
def Ed(c:Cfg)(R:List It)(no:Int)(j pl:Nat): Int:=Ds (λr=>decide (DR c r=no)&&Gw c j pl r) R
structure OG (c:Cfg) (m:Int) (o:Pa.Pn) (cl:List Pa.Pn) (R:List It):Prop where
 eF:cl.Pairwise (λa b=>a.no<b.no)
 lt:∀p∈cl,p.no<o.no
 ex:∀p,p∈cl\/p=o->∀(j pl:Nat),(j:Int)<c.rows->pl<16->D8 p.cs j pl=Ed c R p.no j pl
 gN:∀r∈R,(∃p,(p∈cl\/p=o)/\p.no=DR c r)\/(DR c r+1)*Ag c-1<=m-c.aB
 top:∀r∈R,DR c r<=o.no
 cur:o.no=0\/∃r∈R,DR c r=o.no
theorem IY(j a:Nat): D8 Ax j a=0:=by
 unfold D8 Ax;rw[List.getD_eq_getElem?_getD,kQ];split <;> rfl
theorem OG.zero(c:Cfg)(m:Int): OG c m Pa.pn0 [] []:=by
 refine⟨List.Pairwise.nil,λp a=>by simp at a,λp a e h _ _=>?_,λi d=>by simp at d,λi d=>by simp at d,.inl rfl⟩;rcases a with a | a
 ·simp at a
 rw[a];exact IY e h
theorem OG.later{c:Cfg}{m d:Int}{o:Pa.Pn}{cl:List Pa.Pn}{R:List It}(a:OG c m o cl R)(i:m<=d): OG c d o cl R :=
 ⟨a.eF,a.lt,a.ex,λh e=>(a.gN h e).imp id (λa=>by omega),a.top,a.cur⟩
theorem ZW(cs:List Int)(i:cs.length=48)(j c a b:Nat)(k:c<16)(e:a<3)(h:b<16): D8 (F8 cs (a*16+b)) j c=D8 cs j c+if j=a/\c=b then 1 else 0:=by
 unfold D8 F8;rw[List.getD_eq_getElem?_getD,jE];by_cases d:j=a/\c=b
 ·rw[h9 d,d.1,d.2,h9 rfl,h9 (by omega)];rfl
 rw[hZ d,hZ (by omega),kO,List.getD_eq_getElem?_getD]
theorem PC(c:Cfg)(l:c.rowed)(key:Int)(cs:List Int)(m:cs.length=48)(j e:Nat)(n:e<16): ∀a:Nat,a<=3->D8 (BK c key a cs) j e=D8 cs j e+if j<a/\AA c key j=(e:Int) then 1 else 0:=by
 intro a;induction a with
 | zero=>intro _;simp[BK]
 | succ a o =>
  intro r;have q:=Ib c l key a;rw[show BK c key (a+1) cs=F8 (BK c key a cs) (a*16+(AA c key a).toNat) from rfl,ZW _ (by rw[IM,m]) j e a _ n (by omega) (by omega),o (by omega)];by_cases i:j=a
  ·subst i;rw[hZ (by omega)];by_cases d:AA c key j=(e:Int)
   ·rw[h9 ⟨rfl,by omega⟩,h9 ⟨by omega,d⟩];omega
   rw[hZ (λh=>d (by omega)),hZ (λh=>d h.2)];omega
  have k:(if j=a/\e=(AA c key a).toNat then(1:Int) else 0)=0:=hZ (λh=>i h.1);rw[k];by_cases d:j<a/\AA c key j=(e:Int)
  ·rw[h9 d,h9 ⟨by omega,d.2⟩];omega
  rw[hZ d,hZ (λh=>d ⟨by omega,h.2⟩)];omega
theorem LG(c:Cfg)(t:Int): ∀a:List Pa.Pn,∀p∈a,p∈a.drop (B5 c a t)\/AS c p<=t
 | [],p,hp=>by simp at hp
 | q::a,p,hp=>by
  unfold B5;rw[jB];split
  ·rename_i e;rw[iA,kx];rcases iw.1 hp with d | d
   ·right;rw[d];simpa using e
   exact LG c t a p d
  left;rw[jZ,kD];exact hp
theorem OG.rel{c:Cfg}{m:Int}{o:Pa.Pn}{cl:List Pa.Pn}{R:List It}(j:OG c m o cl R)(V:1<=Ag c)(J:c.rowed)(Y:1<=c.rows)(Z:c.rows<=3)(y:It)(U:0<=y.t)(T:∀e∈R,e.t<=y.t):
  OG c m (Cg c o cl y m).1 (Cg c o cl y m).2 (R++[y]):=by
 obtain⟨l,v⟩:∃l,l=DR c y:=⟨_,rfl⟩;have W:0<=l:=by rw[v];exact jK U (by omega)
 have H:∀e∈R,DR c e<=l:=λe d=>by rw[v];exact Int.ediv_le_ediv (by omega) (T e d)
 have X:o.no<=l:=by
  rcases j.cur with G | ⟨e,d,G⟩
  ·omega
  rw[<-G];exact H e d
 have S:∃k q,A8 o cl l=(k,q)/\k.no=l/\q.Pairwise (λA b=>A.no<b.no)/\(∀p∈q,p.no<l) /\
   (∀p,p∈q\/p=k->∀(h i:Nat),(h:Int)<c.rows->i<16->D8 p.cs h i=Ed c R p.no h i)/\(∀e∈R,(∃p,(p∈q\/p=k)/\p.no=DR c e)\/(DR c e+1)*Ag c-1<=m-c.aB):=by
  unfold A8;by_cases r:o.no=l
  ·rw[h9 r];exact⟨o,cl,rfl,r,j.eF,λp a=>by rw[<-r];exact j.lt p a,j.ex,j.gN⟩
  rw[hZ r]
  have I:∀h i,Ed c R l h i=0:=λh i=>Pk (λe d=>by
     have x:=j.top e d
     rw[lf (by omega)];rfl)
  by_cases x:o.cs=Ax
  ·rw[h9 x];refine⟨Ct l,cl,rfl,rfl,j.eF,λp a=>by have:=j.lt p a;omega,λp a h i u t=>?_,λe d=>?_⟩
   ·rcases a with a | a
    ·exact j.ex p (.inl a) h i u t
    rw[a];exact(IY h i).trans (I h i).symm
   rcases j.gN e d with ⟨p,a,s⟩ | n
   ·rcases a with a | a
    ·exact .inl ⟨p,.inl a,s⟩
    exfalso;have B:=Ib c J e.k 0;have n:=j.ex o (.inr rfl) 0 (AA c e.k 0).toNat (by omega) (by omega);rw[x,IY]at n;have z:=Yu n.symm e d;rw[a]at s;rw[decide_eq_true s.symm]at z;unfold Gw at z;rw[decide_eq_true (by omega)]at z;simp at z
   exact .inr n
  rw[hZ x];refine⟨Ct l,cl++[o],rfl,rfl,?_,λp a=>?_,λp a h i u t=>?_,λe d=>?_⟩
  ·exact iY.2 ⟨j.eF,by simp,λA P b B=>by rw[ij]at B;rw[B];exact j.lt A P⟩
  ·rcases ig.1 a with a | a
   ·have:=j.lt p a;omega
   rw[ij]at a;rw[a];omega
  ·rcases a with a | a
   ·rcases ig.1 a with a | a
    ·exact j.ex p (.inl a) h i u t
    rw[ij]at a;exact j.ex p (.inr a) h i u t
   rw[a];exact(IY h i).trans (I h i).symm
  rcases j.gN e d with ⟨p,a,s⟩ | n
  ·refine .inl ⟨p,.inl ?_,s⟩;rcases a with a | a
   ·simp[a]
   simp[a]
  exact .inr n
 obtain⟨k,q,L,D,M,E,F,N⟩:=S;have O:Cg c o cl y m=(Ez c y.k c.rows.toNat k,q.drop (B5 c q (m-c.aB))):=by
  unfold Cg;show(Ez c y.k c.rows.toNat (A8 o cl (y.t/Ag c)).1,_)=_;rw[show y.t/Ag c=l from v.symm,L]
 rw[O];have C:∀p,p∈q.drop (B5 c q (m-c.aB))->p∈q:=λp a=>iB a;have w:(Ez c y.k c.rows.toNat k).no=l:=D;refine⟨M.sublist (jW _ _),λp a=>?_,λp a h i u t=>?_,λe d=>?_,λe d=>?_,.inr ⟨y,by simp,by rw[w,v]⟩⟩
 ·show p.no<(Ez c y.k c.rows.toNat k).no;rw[w];exact E p (C p a)
 ·unfold Ed;rw[Ws];rcases a with a | a
  ·have Q:DR c y≠p.no:=by have:=E p (C p a);omega
   rw[lf Q,hZ (by simp)];rw[F p (.inl (C p a)) h i u t];unfold Ed;omega
  subst a;show D8 (BK c y.k c.rows.toNat k.cs) h i=_;rw[PC c J y.k k.cs k.len h i t _ (by omega),F k (.inr rfl) h i u t];unfold Ed;rw[show(Ez c y.k c.rows.toNat k).no=k.no from rfl,decide_eq_true (show DR c y=k.no by omega)];unfold Gw;by_cases r:AA c y.k h=(i:Int)
  ·rw[h9 ⟨by omega,r⟩,h9 (by simp[r])]
  rw[hZ (λj=>r j.2),hZ (by simp[r])]
 ·rcases ig.1 d with d | d
  ·rcases N e d with ⟨p,a,s⟩ | n
   ·rcases a with a | a
    ·rcases LG c (m-c.aB) q p a with n | n
     ·exact .inl ⟨p,.inl n,s⟩
     right;rw[<-s];exact n
    exact .inl ⟨_,.inr rfl,by rw[w,<-D,<-s,a]⟩
   exact .inr n
  rw[ij]at d;exact .inl ⟨_,.inr rfl,by rw[w,v,d]⟩
 rw[w];rcases ig.1 d with d | d
 ·exact H e d
 rw[ij]at d;rw[d,v];exact iG _
def PO(c:Cfg)(m:Int)(nt:aU)(R:List It): Prop:=OG c m nt.op nt.cl R
theorem zOo: eK 3 PO where
 zero:=λc m _ _=>OG.zero c m
 later:=λc m m' nt R _ _ hm h=>OG.later h hm
 rel:=λc m nt R y hv hk h hr hy _=>by
  obtain⟨_,hrw,hL,_,_⟩:=Dw (k:=3) hv hk rfl;exact OG.rel h hL hrw hrw.r0 hrw.r1 y hy.t0 (λr hrm=>by have:=(hr r hrm).2.1;unfold dH at this;omega)
 fJ:=λc m nt R b _ _ h=>h
theorem WU(a b:List Int)(i:a.length=48)(k:b.length=48)(j c:Nat)(l:j<3)(m:c<16): D8 (List.zipWith (·+·) a b) j c=D8 a j c+D8 b j c:=by
 unfold D8;have d:j*16+c<a.length:=by omega
 have e:j*16+c<b.length:=by omega
 have h:j*16+c<(List.zipWith (·+·) a b).length:=by rw[List.length_zipWith];omega
 simp[List.getD_eq_getElem?_getD,hX d,hX e,hX h]
theorem zMv{c:Cfg}{R:List It}{j a:Nat}(v:(j:Int)<c.rows)(x:c.rows<=3)(t:a<16): ∀(l:List Pa.Pn),l.Pairwise (λd b=>d.no<b.no)->(∀p∈l,D8 p.cs j a=Ed c R p.no j a)->∀d:List Int,d.length=48 ->
  D8 (l.foldl Eo d) j a=D8 d j a+Ds (λe=>decide (DR c e∈l.map (·.no))&&Gw c j a e) R:=by
 intro l;induction l with
 | nil=>intro _ _ d _;simp[Pk]
 | cons p l u =>
  intro s o d n;have r:=ji.1 s;rw[jT,u r.2 (λi h=>o i (by simp[h])) _ (Lq n)];unfold Eo;rw[WU _ _ n p.len j a (by omega) t,o p (by simp),Int.add_assoc];congr 1;refine(zM1 (λe _=>?_) (λe _ q=>?_)).symm
  ·cases Gw c j a e <;> simp
   try by_cases k:DR c e=p.no <;> simp[k]
  have k:DR c e=p.no:=by have:=q.1;simp at this;exact this.1
  have m:=q.2;simp only[iK,iI,iE]at m;obtain⟨⟨i,h,w⟩,_⟩:=m;have:=r.1 i h;omega
theorem OG.counted{c:Cfg}{m:Int}{o:Pa.Pn}{cl:List Pa.Pn}{R:List It}(h:OG c m o cl R)(E:1<=Ag c)(D:c.rows<=3)(T:Int)(F:m-c.aB<=T)(j n:Nat)(t:(j:Int)<c.rows)(u:n<16):
  D8 (Dz c o cl T) j n=Ds (λq=>decide (T<(DR c q+1)*Ag c-1)&&Gw c j n q) R:=by
 obtain⟨e,i⟩:∃e,e=cl.drop (B5 c cl T)++(if T<AS c o then[o] else[]):=⟨_,rfl⟩;have v:Dz c o cl T=e.foldl Eo Ax:=by
  unfold Dz Eb;rw[i];by_cases d:T<AS c o
  ·rw[h9 d,h9 d,jP];rfl
  rw[hZ d,hZ d,iz]
 have A:∀p,p∈e->p∈cl\/p=o:=λp a=>by
  rw[i]at a;rcases ig.1 a with a | a
  ·exact .inl (iB a)
  split at a
  ·rw[ij]at a;exact .inr a
  simp at a
 have B:e.Pairwise (λr b=>r.no<b.no):=by
  rw[i];refine iY.2 ⟨h.eF.sublist (jW _ _),by split <;> simp,λr w b k=>?_⟩;split at k
  ·rw[ij]at k;rw[k];exact h.lt r (iB w)
  simp at k
 have z:∀p,p∈e->T<AS c p:=λp a=>by
  rw[i]at a;rcases ig.1 a with a | a
  ·exact JY c (by omega) T cl h.eF p a
  split at a
  ·rename_i d;rw[ij]at a;rw[a];exact d
  simp at a
 have x:∀p,p∈cl\/p=o->T<AS c p->p∈e:=λp a d=>by
  rw[i];rcases a with a | a
  ·rcases LG c T cl p a with s | s
   ·exact ig.2 (.inl s)
   omega
  rw[a]at d;rw[h9 d,a];simp
 rw[v,zMv t D u e B (λp a=>h.ex p (A p a) j n t u) _ Eh,IY,Int.zero_add];refine V5 (λq C=>?_);congr 1;refine decide_eq_decide.2 ⟨λd=>?_,λd=>?_⟩
 ·obtain⟨p,a,l⟩:=iE.1 d;rw[<-l];exact z p a
 rcases h.gN q C with ⟨p,a,l⟩ | s
 ·exact iE.2 ⟨p,x p a (by unfold AS;rw[l];exact d),l⟩
 omega
theorem XR{R c e:List It}{fr a:Int}(l:(R++c).Perm e)(k:∀m∈R,m.t<=a)(j:∀y∈c,a<y.t): (e.filter (λy=>decide (fr<y.t/\y.t<=a))).Perm (R.filter (λy=>decide (fr<y.t))):=by
 refine(l.filter _).symm.trans ?_;rw[jj];have h:c.filter (λy=>decide (fr<y.t/\y.t<=a))=[]:=jL.2 (λy d=>by have:=j y d;simp;omega);have i:R.filter (λy=>decide (fr<y.t/\y.t<=a))=R.filter (λy=>decide (fr<y.t)):=kU (λy d=>by have:=k y d;simp;omega);rw[h,i,iz]
def eW(v:Int)(p:Int->Prop): Prop:=(v=0/\∀k,¬p k)\/(p v/\∀k,p k->k<=v)
theorem eW.to{v:Int}{p i:Int->Prop}(d:eW v p)(k:∀a,p a->i a)(j:∀a,i a->∃c,p c/\a<=c): eW v i:=by
 rcases d with ⟨d,m⟩ | ⟨d,l⟩
 ·left;refine⟨d,λa e=>?_⟩;obtain⟨c,h,_⟩:=j a e;exact m c h
 right;refine⟨k v d,λa e=>?_⟩;obtain⟨c,h,n⟩:=j a e;have:=l c h;omega
def J2(c:Cfg)(n:Nat)(r:It): Int:=Cm (AG c.bV c.bW r.k/n)
def FC(c:Cfg)(n:Nat)(R:List It)(T:Int)(j:Nat)(k:Int): Prop:=∃r∈R,T<r.t/\BZ c n r.k=j/\J2 c n r=k
def cJ(l:List Bk): Prop:=l.Pairwise (λa b=>a.sz<b.sz/\b.t<a.t)
theorem Ot(l:List Bk)(T:Int): (∀b∈l.take (Mk.pastN l T),b.sz<=T)/\(cJ l->∀b∈l.drop (Mk.pastN l T),T<b.sz):=by
 induction l with
 | nil=>exact⟨λb a=>by simp at a,λ_ b a=>by simp at a⟩
 | cons i l j =>
  unfold Mk.pastN at *
  rw[jB];split
  ·rename_i d;have e:i.sz<=T:=by simpa using d
   rw[iA,List.take_succ_cons,kx];refine⟨λb a=>?_,λh=>j.2 (ji.1 h).2⟩;rcases iw.1 a with c | c
   ·rw[c];exact e
   exact j.1 b c
  rename_i d;have e:T<i.sz:=by simpa using d
  refine⟨λb a=>by simp at a,λh b a=>?_⟩;rw[jZ,kD]at a;rcases iw.1 a with c | c
  ·rw[c];exact e
  have:=(ji.1 h).1 b c;omega
theorem Qt(l:List Bk)(q:cJ l)(T:Int): eW (D5 l T) (λj=>∃b∈l,T<b.sz/\b.t=j):=by
 obtain⟨e,h⟩:=Ot l T;have h:=h q;unfold D5;have t:=Mk.pastN_le l T;by_cases d:Mk.pastN l T=l.length
 ·rw[h9 d];left;refine⟨rfl,λj i=>?_⟩;obtain⟨b,c,s,_⟩:=i;rw[d,kZ]at e;have:=e b c;omega
 rw[hZ d];right;have n:Mk.pastN l T<l.length:=by omega
 have m:l.drop (Mk.pastN l T)=Ad l (Mk.pastN l T)::l.drop (Mk.pastN l T+1):=by
  rw[List.drop_eq_getElem_cons n];congr 1;simp[Ad,List.getD_eq_getElem?_getD,hX n]
 have o:Ad l (Mk.pastN l T)∈l.drop (Mk.pastN l T):=by rw[m];simp
 refine⟨⟨_,iB o,h _ o,rfl⟩,λj i=>?_⟩;obtain⟨b,c,s,rfl⟩:=i;have k:b∈l.drop (Mk.pastN l T):=by
  rw[<-List.take_append_drop (Mk.pastN l T) l]at c;rcases ig.1 c with a | a
  ·have:=e b a;omega
  exact a
 have r:cJ (l.drop (Mk.pastN l T)):=kL (jW _ _) q;rw[m]at r k;rcases iw.1 k with a | a
 ·rw[a];exact iG _
 have:=(ji.1 r).1 b a;omega
theorem Qn(d:Int)(l:List Bk): ∀b∈l,b∈AD d l\/b.t<=d:=by
 intro b i;unfold AD;have e:b∈l.reverse:=List.mem_reverse.2 i;rw[<-List.takeWhile_append_dropWhile (p:=λb:Bk=>decide (b.t<=d)) (l:=l.reverse)]at e;rcases ig.1 e with a | a
 ·right;have:∀(l:List Bk),b∈l.takeWhile (λb:Bk=>decide (b.t<=d))->b.t<=d:=by
   intro l;induction l with
   | nil=>intro c;simp at c
   | cons k l j =>
    intro c;rw[jB]at c;split at c
    ·rename_i h;rcases iw.1 c with a | a
     ·rw[a];simpa using h
     exact j a
    simp at c
  exact this _ a
 exact .inl (List.mem_reverse.2 a)
theorem LQ(a:Int)(l:List Bk)(c:0<(AD a l).length): a<(Ad (AD a l) ((AD a l).length-1)).t:=by
 by_cases e:0<l.length
 ·by_cases d:(Ad l (l.length-1)).t<=a
  ·have h:=LA e d;rw[h]at c ⊢;have:(l.take (l.length-1)).length<l.length:=by rw[iD];omega
   exact LQ a (l.take (l.length-1)) c
  rw[LN e d];omega
 ·have:l=[]:=List.eq_nil_of_length_eq_zero (by omega);rw[this]at c;simp[OP]at c
 termination_by l.length
theorem ZB{l:List Bk}{x:Bk}(h:∀b∈l,b.sz<=x.sz)(b:Bk)(a:b∈l\/b=x): ∃e∈CQ l x,b.t<=e.t/\b.sz<=e.sz:=by
 unfold CQ;by_cases d:0<(AD x.t l).length/\(Ad (AD x.t l) ((AD x.t l).length-1)).sz=x.sz
 ·rw[h9 d];have i:Ad (AD x.t l) ((AD x.t l).length-1)∈AD x.t l:=by
   have j:(AD x.t l).length-1<(AD x.t l).length:=by omega
   simp[Ad,List.getD_eq_getElem?_getD,hX j]
  have k:=LQ x.t l d.1;rcases a with a | a
  ·rcases Qn x.t l b a with c | c
   ·exact⟨b,c,iG _,iG _⟩
   exact⟨_,i,by omega,by rw[d.2];exact h b a⟩
  exact⟨_,i,by rw[a];omega,by rw[a,d.2];exact iG _⟩
 rw[hZ d];rcases a with a | a
 ·rcases Qn x.t l b a with c | c
  ·exact⟨b,by simp[c],iG _,iG _⟩
  exact⟨x,by simp,c,h b a⟩
 exact⟨x,by simp,by rw[a];exact iG _,by rw[a];exact iG _⟩
theorem Mg{l:List Bk}{x:Bk}(q:cJ l)(n:∀b∈l,b.sz<=x.sz): cJ (CQ l x):=by
 obtain⟨A,j,_⟩:=Ke x.t l;have d:cJ (AD x.t l):=by rw[j];exact kL (List.take_sublist _ _) q
 have s:∀b∈AD x.t l,b∈l:=λb c=>by rw[j]at c;exact jn c
 unfold CQ;by_cases e:0<(AD x.t l).length/\(Ad (AD x.t l) ((AD x.t l).length-1)).sz=x.sz
 ·rw[h9 e];exact d
 rw[hZ e];refine iY.2 ⟨d,by simp,λk h b c=>?_⟩;rw[ij]at c;subst c;have i:0<(AD b.t l).length:=List.length_pos_of_mem h;have v:=LQ b.t l i;have z:(Ad (AD b.t l) ((AD b.t l).length-1)).sz≠b.sz:=λa=>e ⟨i,a⟩;have o:Ad (AD b.t l) ((AD b.t l).length-1)∈AD b.t l:=by
  have m:(AD b.t l).length-1<(AD b.t l).length:=by omega
  simp[Ad,List.getD_eq_getElem?_getD,hX m]
 have w:=n _ (s _ o);have r:=Jg (AD b.t l) i;generalize Ad (AD b.t l) ((AD b.t l).length-1)=t at *
 generalize(AD b.t l).take ((AD b.t l).length-1)=u at *
 rw[r]at h d;rcases ig.1 h with a | a
 ·have:=(iY.1 d).2.2 k a t (by simp);omega
 rw[ij]at a;rw[a];omega
structure DG (c:Cfg) (n:Nat) (m:Int) (ls:Nat->List Bk) (R:List It):Prop where
 gB:∀j,cJ (ls j)
 src:∀j,∀b∈ls j,∃r∈R,r.t=b.sz/\BZ c n r.k=j/\J2 c n r=b.t
 ex:∀j T,m-c.aB<=T->eW (D5 (ls j) T) (FC c n R T j)
theorem DG.rel{c:Cfg}{n:Nat}{m:Int}{d:Nat->List Bk}{R:List It}(o:DG c n m d R)(y:It)(I:∀e∈R,e.t<=y.t): DG c n m (BQ c n d y m) (R++[y]):=by
 have H:∀j k h,FC c n R k j h->FC c n (R++[y]) k j h:=λj k h ⟨e,a,l⟩=>⟨e,by simp[a],l⟩;have v:∀b∈(d (BZ c n y.k)).drop (Mk.pastN (d (BZ c n y.k)) (m-c.aB)),b.sz<=y.t:=λb i=>by
  obtain⟨e,a,l,_⟩:=o.src _ b (iB i);rw[<-l];exact I e a
 have A:cJ ((d (BZ c n y.k)).drop (Mk.pastN (d (BZ c n y.k)) (m-c.aB))):=kL (jW _ _) (o.gB _);refine⟨λj=>?_,λj b i=>?_,λj k z=>?_⟩
 ·unfold BQ;split
  ·rename_i s;rw[s];exact Mg A v
  exact o.gB j
 ·unfold BQ at i;split at i
  ·rename_i s;rcases Jf i with q | q
   ·obtain⟨e,a,l⟩:=o.src j b (iB q);exact⟨e,by simp[a],l⟩
   rw[q];exact⟨y,by simp,rfl,s.symm,rfl⟩
  obtain⟨e,a,l⟩:=o.src j b i;exact⟨e,by simp[a],l⟩
 by_cases s:j=BZ c n y.k
 ·subst s;have q:BQ c n d y m (BZ c n y.k)=CQ ((d (BZ c n y.k)).drop (Mk.pastN (d (BZ c n y.k)) (m-c.aB))) ⟨y.t,J2 c n y⟩:=by unfold BQ;rw[h9 rfl];rfl
  rw[q];refine(Qt _ (Mg A v) k).to (λh ⟨b,i,t,u⟩=>?_) (λh ⟨e,a,hrT,hrj,hrk⟩=>?_)
  ·rcases Jf i with r | r
   ·obtain⟨e,a,l,x,B⟩:=o.src _ b (iB r);exact⟨e,by simp[a],by rw[l];exact t,x,B.trans u⟩
   subst r;exact⟨y,by simp,t,rfl,u⟩
  have J:∃b,(b∈(d (BZ c n y.k)).drop (Mk.pastN (d (BZ c n y.k)) (m-c.aB))\/b=⟨y.t,J2 c n y⟩)/\k<b.sz/\h<=b.t:=by
   rcases ig.1 a with a | a
   ·have E:=(Ks (AG c.bV c.bW e.k/n)).1;have M:1<=h:=by rw[<-hrk];exact E
    have hold:FC c n R k (BZ c n y.k) h:=⟨e,a,hrT,hrj,hrk⟩;have N:h<=D5 (d (BZ c n y.k)) k:=by
     rcases o.ex (BZ c n y.k) k z with ⟨_,G⟩ | ⟨_,F⟩
     ·exact absurd hold (G h)
     exact F h hold
    rcases Qt (d (BZ c n y.k)) (o.gB _) k with ⟨L,_⟩ | ⟨⟨b,i,t,u⟩,_⟩
    ·omega
    refine⟨b,.inl ?_,t,by omega⟩;rw[<-List.take_append_drop (Mk.pastN (d (BZ c n y.k)) (m-c.aB)) (d (BZ c n y.k))]at i;rcases ig.1 i with r | r
    ·have:=(Ot (d (BZ c n y.k)) (m-c.aB)).1 b r;omega
    exact r
   rw[ij]at a;subst a;exact⟨_,.inr rfl,hrT,by show h<=J2 c n e;omega⟩
  obtain⟨b,i,t,u⟩:=J;obtain⟨w,C,l,x⟩:=ZB v b i;exact⟨w.t,⟨w,C,by omega,rfl⟩,by omega⟩
 have q:BQ c n d y m j=d j:=by unfold BQ;rw[hZ s]
 rw[q];refine(o.ex j k z).to (λh D=>H _ _ _ D) (λh ⟨e,a,hrT,hrj,hrk⟩=>⟨h,⟨e,?_,hrT,hrj,hrk⟩,iG _⟩);rcases ig.1 a with a | a
 ·exact a
 rw[ij]at a;rw[a]at hrj;exact absurd hrj.symm s
def PD(c:Cfg)(m:Int)(nt:aU)(R:List It): Prop:=DG c (Bw c) m nt.rg R
theorem zNy: eK 2 PD where
 zero:=λc m _ _=>⟨λj=>List.Pairwise.nil,λj b hb=>by simp[C8]at hb,λj T _=>.inl ⟨rfl,λk hk=>by obtain⟨r,hr,_⟩:=hk;simp at hr⟩⟩
 later:=λc m m' nt R _ _ hm h=>⟨h.gB,h.src,λj T hT=>h.ex j T (by omega)⟩
 rel:=λc m nt R y hv hk h hr hy _=>DG.rel h y (λr hrm=>by have:=(hr r hrm).2.1;unfold dH at this;omega)
 fJ:=λc m nt R b _ _ h=>h
end
end Go.Proofs.YtnokbhcennjanaaGreatDoor
namespace Go.Proofs.YtnokbhcennjanaaGreatDoor.Dr
open Go.Proofs.YtnokbhcennjanaaGreatDoor
def dv(a:It): Int:=a.v%18446744073709551616
def dd(a:It): Int:=a.d%18446744073709551616
def dpos(a:It): Prop:=0<dd a
def cV(a b:It): Prop:=dv a*dd b<dv b*dd a\/(dv a*dd b=dv b*dd a/\b.n<=a.n)
theorem cV.refl(a:It): cV a a:=.inr ⟨rfl,iG _⟩
theorem KR(a:It): 0<=dd a:=by unfold dd;omega
theorem YP{a b c d e f:Int}(m:0<d)(l:0<=b)(n:0<=f)(j:a*d<=c*b)(k:c*f<=e*d): a*f<=e*b/\((a*d<c*b/\0<f)\/(c*f<e*d/\0<b)->a*f<e*b):=by
 have s:a*d*f<=c*b*f:=jV j n;have t:c*f*b<=e*d*b:=jV k l;have o:a*d*f=a*f*d:=by rw[Int.mul_right_comm]
 have q:c*b*f=c*f*b:=by rw[Int.mul_right_comm]
 have r:e*d*b=e*b*d:=by rw[Int.mul_right_comm]
 refine⟨Int.le_of_mul_le_mul_right (by omega:a*f*d<=e*b*d) m,λh=>?_⟩;refine Int.lt_of_mul_lt_mul_right (a:=d) ?_ (by omega);rcases h with ⟨h,i⟩ | ⟨h,i⟩
 ·have:a*d*f<c*b*f:=Int.mul_lt_mul_of_pos_right h i;omega
 have:c*f*b<e*d*b:=Int.mul_lt_mul_of_pos_right h i;omega
theorem cV.trans{a b c:It}(m:dpos b)(j:dpos a)(n:dpos c)(d:cV a b)(k:cV b c): cV a c:=by
 unfold cV dpos at *
 have l:=KR a;have o:=KR c;have h:dv a*dd b<=dv b*dd a:=by omega
 have i:dv b*dd c<=dv c*dd b:=by omega
 obtain⟨s,e⟩:=YP m l o h i;rcases d with d | ⟨d,r⟩
 ·left;exact e (.inl ⟨d,n⟩)
 rcases k with k | ⟨k,t⟩
 ·left;exact e (.inr ⟨k,j⟩)
 by_cases q:dv a*dd c=dv c*dd a
 ·right;exact⟨q,by omega⟩
 left;omega
theorem ahead_leT{a b:It}(c:BU a b=true): cV a b:=by
 unfold BU aheadT at c;unfold cV dv dd;split at c
 ·rename_i d;simp at c;right;exact⟨d.symm,by omega⟩
 simp at c;left;exact c
theorem not_ahead_leT{a b:It}(c:BU a b=false): cV b a:=by
 unfold BU aheadT at c;unfold cV dv dd;split at c
 ·rename_i d;simp at c;right;exact⟨d,by omega⟩
 rename_i d;simp at c;left;omega
structure bK (l:List It):Prop where
 ok:∀j,j<l.length->dpos (itAt l j)
 up:∀i,0<i->i<l.length->cV (itAt l ((i-1)/2)) (itAt l i)
theorem QC{l:List It}{i j:Nat}(c:∀a,a<l.length->dpos (itAt l a))(hi:i<l.length)(d:j<l.length): ∀a,a<(swapL l i j).length->dpos (itAt (swapL l i j) a):=by
 intro a e;rw[Ca]at e;rw[Dl l i j a hi d];split
 ·exact c i hi
 split
 ·exact c j d
 exact c a e
structure eS (l:List It) (i:Nat):Prop where
 ok:∀j,j<l.length->dpos (itAt l j)
 up:∀j,0<j->j<l.length->j≠i->cV (itAt l ((j-1)/2)) (itAt l j)
 over:∀c,0<i->c<l.length->0<c->(c-1)/2=i->cV (itAt l ((i-1)/2)) (itAt l c)
theorem LR(f:Nat): ∀(l:List It) (i:Nat),i<l.length->i<f->eS l i->bK (riseL f l i):=by
 induction f with
 | zero=>intro l i _ a;omega
 | succ f B =>
  intro l i j C a;unfold riseL;split
  ·rename_i v;refine⟨a.ok,λc e d=>?_⟩;exact a.up c e d (by omega)
  rename_i v;split
  ·rename_i q;have m:=ahead_leT q;have D:(i-1)/2<i:=by omega
   generalize t:(i-1)/2=p at *
   refine B _ p (by rw[Ca];omega) (by omega) ⟨QC a.ok j (by omega),?_,?_⟩
   ·intro c e d z;rw[Ca]at d;rw[Dl l i p _ j (by omega),Dl l i p c j (by omega)];rw[hZ z];by_cases h:c=i
    ·subst h;rw[h9 t,h9 rfl];exact m
    rw[hZ h];by_cases n:(c-1)/2=p
    ·rw[h9 n];have:=a.up c e d h;rw[n]at this;exact cV.trans (a.ok p (by omega)) (a.ok i j) (a.ok c d) m this
    rw[hZ n];by_cases o:(c-1)/2=i
    ·rw[h9 o];have:=a.over c (by omega) d e o;rw[t]at this;exact this
    rw[hZ o];exact a.up c e d h
   intro k A s w x;rw[Ca]at s;rw[Dl l i p _ j (by omega),Dl l i p k j (by omega)];rw[hZ (show(p-1)/2≠p by omega),hZ (show(p-1)/2≠i by omega),hZ (show k≠p by omega)];have u:=a.up p A (by omega) (by omega);by_cases r:k=i
   ·rw[h9 r];exact u
   rw[hZ r];have:=a.up k w s r;rw[x]at this;exact cV.trans (a.ok p (by omega)) (a.ok _ (by omega)) (a.ok k s) u this
  rename_i q;have m:=not_ahead_leT (by simpa using q);refine⟨a.ok,λc e d=>?_⟩;by_cases h:c=i
  ·subst h;exact m
  exact a.up c e d h
structure eT (l:List It) (i:Nat):Prop where
 ok:∀j,j<l.length->dpos (itAt l j)
 up:∀j,0<j->j<l.length->(j-1)/2≠i->cV (itAt l ((j-1)/2)) (itAt l j)
 over:∀c,0<i->c<l.length->0<c->(c-1)/2=i->cV (itAt l ((i-1)/2)) (itAt l c)
theorem Lp(l:List It)(i c:Nat)(e:Bi l i=c): 0<c/\(c-1)/2=i/\∀a,a<l.length->0<a->(a-1)/2=i->cV (itAt l c) (itAt l a):=by
 unfold Bi at e;split at e
 ·split at e
  ·split at e
   ·rename_i k m h;have d:c=2*i+2:=by omega
    subst d;refine⟨by omega,by omega,λa n j o=>?_⟩;have:a=2*i+1\/a=2*i+2:=by omega
    rcases this with rfl | rfl
    ·exact ahead_leT h
    exact cV.refl _
   rename_i k m h;have d:c=2*i+1:=by omega
   subst d;refine⟨by omega,by omega,λa n j o=>?_⟩;have:a=2*i+1\/a=2*i+2:=by omega
   rcases this with rfl | rfl
   ·exact cV.refl _
   exact not_ahead_leT (by simpa using h)
  rename_i k m;have d:c=2*i+1:=by omega
  subst d;refine⟨by omega,by omega,λa n j o=>?_⟩;have:a=2*i+1:=by omega
  subst this;exact cV.refl _
 omega
theorem L0(l:List It)(i:Nat)(c:Bi l i<0): ∀a,a<l.length->0<a->(a-1)/2≠i:=by
 intro a e d h;unfold Bi at c;split at c
 ·split at c
  ·split at c <;> omega
  omega
 omega
theorem L6(f:Nat): ∀(l:List It) (i:Nat),i<l.length->l.length<=f+i->eT l i->bK (sinkL f l i):=by
 induction f with
 | zero=>intro l i _ d;omega
 | succ f D =>
  intro l i m F d;unfold sinkL;split
  ·rename_i t;refine⟨d.ok,λa h e=>?_⟩;exact d.up a h e (L0 l i t a e h)
  rename_i t;rcases G8 l i with q | ⟨c,q,G,k⟩
  ·omega
  rw[q,iH];obtain⟨z,r,u⟩:=Lp l i c q;split
  ·rename_i o;have s:=ahead_leT o;refine D _ c (by rw[Ca];omega) (by rw[Ca];omega) ⟨QC d.ok m k,?_,?_⟩
   ·intro a h e C;rw[Ca]at e;rw[Dl l i c _ m k,Dl l i c a m k,hZ C];by_cases w:a=c
    ·subst w;rw[h9 r,h9 rfl];exact s
    rw[hZ w];by_cases x:a=i
    ·subst x;rw[hZ (show(a-1)/2≠a by omega),h9 rfl];exact d.over c h k z r
    rw[hZ x];by_cases j:(a-1)/2=i
    ·rw[h9 j];exact u a e h j
    rw[hZ j];exact d.up a h e j
   intro n E v A B;rw[Ca]at v;rw[Dl l i c _ m k,Dl l i c n m k];rw[hZ (show(c-1)/2≠c by omega),h9 r,hZ (show n≠c by omega),hZ (show n≠i by omega)];have:=d.up n A v (by omega);rw[B]at this;exact this
  rename_i o;have s:=not_ahead_leT (by simpa using o);refine⟨d.ok,λa h e=>?_⟩;by_cases j:(a-1)/2=i
  ·rw[j];exact cV.trans (d.ok c k) (d.ok i m) (d.ok a e) s (u a e h j)
  exact d.up a h e j
theorem bK.first{l:List It}(a:bK l)(j:Nat)(c:j<l.length): cV (itAt l 0) (itAt l j):=by
 induction j using Nat.strongRecOn with
 | _ j ih =>
  by_cases d:j=0
  ·subst d;exact cV.refl _
  exact cV.trans (a.ok ((j-1)/2) (by omega)) (a.ok 0 (by omega)) (a.ok j c) (ih ((j-1)/2) (by omega) (by omega)) (a.up j (by omega) c)
theorem itAt_get(l:List It)(j:Nat)(a:j<l.length): itAt l j=l[j]:=by
 unfold itAt;rw[List.getD_eq_getElem?_getD,hX a];rfl
theorem IV(l:List It)(i j:Nat)(hi:i<l.length)(a:j<l.length): (swapL l i j).Perm l:=by
 unfold swapL;rw[itAt_get l i hi,itAt_get l j a];exact List.set_set_perm hi a
theorem LM(f:Nat): ∀(l:List It) (i:Nat),i<l.length->(riseL f l i).Perm l:=by
 induction f with
 | zero=>intro l i _;exact jb _
 | succ f c =>
  intro l i a;unfold riseL;split
  ·exact jb _
  split
  ·exact(c _ _ (by rw[Ca];omega)).trans (IV l _ _ a (by omega))
  exact jb _
theorem LE(f:Nat): ∀(l:List It) (i:Nat),i<l.length->(sinkL f l i).Perm l:=by
 induction f with
 | zero=>intro l i _;exact jb _
 | succ f e =>
  intro l i d;unfold sinkL;split
  ·exact jb _
  rename_i j;rcases G8 l i with a | ⟨h,a,k,c⟩
  ·omega
  rw[a,iH];split
  ·exact(e _ _ (by rw[Ca];omega)).trans (IV l _ _ d c)
  exact jb _
theorem put_heap(l:List It)(x:It)(h:bK l)(j:dpos x): bK (riseL (l.length+1) (l++[x]) l.length)/\(riseL (l.length+1) (l++[x]) l.length).Perm (x::l):=by
 have e:∀a,a<l.length->itAt (l++[x]) a=itAt l a:=by
  intro a c;unfold itAt;rw[List.getD_eq_getElem?_getD,List.getD_eq_getElem?_getD,iO c]
 refine⟨LR _ _ _ (by simp) (by omega) ⟨?_,?_,?_⟩,(LM _ _ _ (by simp)).trans (j3 x l)⟩
 ·intro a c;rw[hY,iZ]at c;by_cases d:a<l.length
  ·rw[e a d];exact h.ok a d
  have:a=l.length:=by omega
  subst this;rw[itAt_get _ _ (by simp)];simpa using j
 ·intro a c d q;rw[hY,iZ]at d;rw[e _ (by omega),e a (by omega)];exact h.up a c (by omega)
 intro k m i n o;rw[hY,iZ]at i;omega
theorem take_heap(l:List It)(j:bK l)(q:l≠[]): bK (takeL l)/\(itAt l 0::takeL l).Perm l:=by
 have B:0<l.length:=jG.2 q;unfold takeL;by_cases n:l.length=1
 ·obtain⟨a,rfl⟩:=List.length_eq_one_iff.1 n;refine⟨?_,?_⟩
  ·have z:(sinkL [a].length (([a].set 0 (itAt [a] ([a].length-1))).take ([a].length-1)) 0).length=0:=rfl;exact⟨λv u=>by omega,λv _ u=>by omega⟩
  exact jb _
 obtain⟨a,i,rfl⟩:∃a i,l=a::i:=by cases l with | nil=>exact absurd rfl q | cons a i=>exact⟨a,i,rfl⟩
 obtain⟨d,c,rfl⟩:∃d c,i=d++[c]:=by
  refine⟨i.dropLast,i.getLast (by intro s;subst s;simp at n),?_⟩;rw[List.dropLast_concat_getLast]
 have r:itAt (a::(d++[c])) ((a::(d++[c])).length-1)=c:=by
  rw[itAt_get _ _ (by simp)];simp
 have t:((a::(d++[c])).set 0 (itAt (a::(d++[c])) ((a::(d++[c])).length-1))).take ((a::(d++[c])).length-1)=c::d:=by
  rw[r];simp
 rw[t];have m:∀e,0<e->e<(c::d).length->itAt (c::d) e=itAt (a::(d++[c])) e:=by
  intro e k h;simp only[iA]at h;rw[itAt_get _ _ (by simpa using h),itAt_get _ _ (by simp;omega)];obtain⟨e,rfl⟩:∃w,e=w+1:=⟨e-1,by omega⟩;simp only[List.getElem_cons_succ];rw[List.getElem_append_left (by omega)]
 refine⟨L6 _ _ 0 (by simp) (by simp) ⟨?_,?_,?_⟩,?_⟩
 ·intro e h;by_cases k:e=0
  ·subst k;have:=j.ok ((a::(d++[c])).length-1) (by simp);rw[r]at this;exact this
  rw[m e (by omega) h];exact j.ok e (by simp at h ⊢;omega)
 ·intro e h o A;rw[m _ (by omega) (by omega),m e h o];exact j.up e h (by simp at o ⊢;omega)
 ·intro x k;omega
 refine(List.Perm.cons _ (LE _ _ 0 (by simp))).trans ?_;show(a::c::d).Perm (a::(d++[c]));exact List.Perm.cons a (j3 c d).symm
end Go.Proofs.YtnokbhcennjanaaGreatDoor.Dr
namespace Go.Proofs.YtnokbhcennjanaaGreatDoor
section
theorem Dr.bK.okm{l:List Dr.It}(d:Dr.bK l){y:Dr.It}(e:y∈l): Dr.dpos y:=by
 obtain⟨c,a,rfl⟩:=jR.1 e;have:=d.ok c a;rw[Dr.itAt_get l c a]at this;exact this
theorem Dr.bK.firstm{l:List Dr.It}(d:Dr.bK l){y:Dr.It}(e:y∈l): Dr.cV (Dr.itAt l 0) y:=by
 obtain⟨c,a,rfl⟩:=jR.1 e;have:=d.first c a
 rw[Dr.itAt_get l c a]at this;exact this
theorem Dr.dS(f:Nat): ∀a:List Dr.It,a.length<f->Dr.bK a->(Dr.allL f a).Perm a/\(Dr.allL f a).Pairwise Dr.cV:=by
 induction f with
 | zero=>intro a n;omega
 | succ f l =>
  intro a q e;unfold Dr.allL;by_cases c:a.length=0
  ·rw[h9 c,List.eq_nil_of_length_eq_zero c];exact⟨jb _,List.Pairwise.nil⟩
  rw[hZ c];have j:a≠[]:=λh=>c (by rw[h];rfl);obtain⟨i,d⟩:=Dr.take_heap a e j;have o:=Dr.takeL_length a;obtain⟨p,m⟩:=l (Dr.takeL a) (by omega) i;refine⟨(List.Perm.cons _ p).trans d,ji.2 ⟨λy k=>?_,m⟩⟩;exact e.firstm (d.mem_iff.1 (by simp[p.mem_iff.1 k]))
structure TG (c:Cfg) (tk:List Dr.It) (R:List It):Prop where
 heap:Dr.bK tk
 len:(tk.length:Int)<=c.size+1
 ex:∃D:List Dr.It,(tk++D).Perm (R.map (tick c))/\(∀d∈D,Dr.dpos d/\∀y∈tk,Dr.cV d y)/\(D≠[]->(tk.length:Int)=c.size+1)
theorem TG.rel{c:Cfg}{a:List Dr.It}{R:List It}(r:TG c a R)(I:1<=c.size)(y:It)(F:Dr.dpos (tick c y)): TG c (AU c a y) (R++[y]):=by
 obtain⟨i,E,o,v⟩:=r.ex;obtain⟨k,l⟩:=Dr.put_heap a (tick c y) r.heap F;have hlen:(Dr.riseL (a.length+1) (a++[tick c y]) a.length).length=a.length+1:=by rw[l.length_eq];rfl
 unfold AU;generalize Dr.riseL (a.length+1) (a++[tick c y]) a.length=d at *
 have H:=r.len;have D:(R++[y]).map (tick c)=R.map (tick c)++[tick c y]:=by simp
 have w:(tick c y::(a++i)).Perm ((R++[y]).map (tick c)):=by
  rw[D];exact(List.Perm.cons _ E).trans (j3 _ _).symm
 by_cases x:c.size+1<((a.length+1:Nat):Int)
 ·rw[h9 x];have t:d≠[]:=λe=>by rw[e]at hlen;simp at hlen
  obtain⟨G,m⟩:=Dr.take_heap d k t;have J:=Dr.takeL_length d;have A:=fun {n:Dr.It} (h:n∈d)=>k.firstm h;have B:Dr.itAt d 0∈d:=m.mem_iff.1 (by simp);have C:=k.okm B;refine⟨G,by omega,Dr.itAt d 0::i,?_,λj s=>?_,λ_=>by omega⟩
  ·refine List.Perm.trans ?_ w;refine k0.trans ?_;rw[<-List.cons_append];exact(m.trans l).append_right i
  rcases iw.1 s with e | e
  ·rw[e];exact⟨C,λn h=>A (m.mem_iff.1 (by simp[h]))⟩
  refine⟨(o j e).1,λn h=>?_⟩;rcases iw.1 (l.mem_iff.1 B) with q | q
  ·
   have:(Dr.takeL d).Perm a:=by
    have u:=m.trans l;rw[q]at u;exact(List.perm_cons _).1 u
   exact(o j e).2 n (this.mem_iff.1 h)
  have z:n∈d:=m.mem_iff.1 (by simp[h]);exact Dr.cV.trans C (o j e).1 (k.okm z) ((o j e).2 _ q) (A z)
 rw[hZ x];refine⟨k,by omega,i,?_,λj s=>?_,λt=>?_⟩
 ·refine List.Perm.trans ?_ w;rw[<-List.cons_append];exact l.append_right i
 ·have:=v (List.ne_nil_of_mem s);omega
 have:=v t;omega
theorem M1{c:Cfg}{y:It}(a:fH c 5 y): 1<=y.d/\y.d<=2147483648:=by
 have:=a.fit;unfold AL E8 at this;simp only at this
 revert this
 repeat' split
 all_goals intro this
 all_goals first | omega | (simp_all [Ab];done) | (simp_all [Ab];omega)
theorem Y1{c:Cfg}{y:It}(a:fH c 5 y): Dr.dpos (tick c y):=by
 have:=M1 a;unfold Dr.dpos Dr.dd tick;show 0<y.d%18446744073709551616;omega
def PT(c:Cfg)(_:Int)(nt:aU)(R:List It): Prop:=TG c nt.tk R
theorem zOn: eK 5 PT where
 zero:=λc m hv hk=>⟨⟨λj hj=>by simp[C8]at hj,λi _ hi=>by simp[C8]at hi⟩,by have:=E4 (k:=5) hv hk rfl;show((0:Nat):Int)<=_;omega,[],jb _,λd hd=>by simp at hd,λh=>absurd rfl h⟩
 later:=λc m m' nt R _ _ hm h=>h
 rel:=λc m nt R y hv hk h hr hy _=>TG.rel h (E4 (k:=5) hv hk rfl).1 y (Y1 hy)
 fJ:=λc m nt R b _ _ h=>h
def Co(z:bA): It:=⟨z.t,z.k,z.d,z.n⟩
structure YI (clock:Int) (y:aG) (A:List It):Prop where
 bC:y.items.map Co=A
 tk:∀z,z∈y.items->0<=z.tick/\(0<z.tick↔z.t<=clock-y.c.aK)
theorem Ov{l:List bA}{i:Nat}{t:Int}{c:bA}(d:c∈AZ l i t): c∈l\/c={ Aj l i with tick:=t }:=by
 unfold AZ at d;rcases js d with a | a
 ·exact .inl a
 exact .inr a
theorem VU(l:List bA)(i:Nat)(t:Int)(hi:i<l.length): (AZ l i t).map Co=l.map Co:=by
 unfold AZ;rw[kH];have:Co { Aj l i with tick:=t }=(l.map Co)[i]'(by rw[im];exact hi):=by
  rw[k4,<-Cq l i hi];rfl
 rw[this,List.set_getElem_self]
theorem WC(mark aC:Int)(x:0<aC)(f:Nat): ∀y:aG,(Ap y.items).length<f->(∀a,a∈y.items->0<=a.tick) ->
  (BS f y mark aC).items.map Co=y.items.map Co/\(∀a,a∈(BS f y mark aC).items->0<=a.tick/\(a.tick=0->mark<a.t)/\(0<a.tick->a.t<=mark\/a∈y.items)):=by
 induction f with
 | zero=>intro y i;omega
 | succ f r =>
  intro y w h;unfold BS;rcases Hv y.items mark with ⟨i,m⟩ | ⟨v,j,k,l⟩
  ·rw[h9 (by omega)];exact⟨rfl,λa d=>⟨h a d,m a d,λ_=>.inr d⟩⟩
  rw[hZ (by omega)];have e:(Cx y.items mark).toNat<y.items.length:=j;have z:=If aC (by omega) y.items (Cx y.items mark).toNat e k
  obtain⟨o,q⟩:=r { y with items:=AZ y.items (Cx y.items mark).toNat aC,events:=y.events++[⟨(Aj y.items (Cx y.items mark).toNat).t,mark,false,0⟩] } (by show(Ap (AZ _ _ _)).length<f;omega) (λa d=>by
     rcases Ov d with c | c
     ·exact h a c
     rw[c];show 0<=aC;omega)
  refine⟨o.trans (VU _ _ _ e),λa d=>?_⟩;obtain⟨s,t,u⟩:=q a d;refine⟨s,t,λn=>?_⟩;rcases u n with c | c
  ·exact .inl c
  rcases Ov c with c | c
  ·exact .inr c
  left;rw[c];exact l
theorem zMb{clock c aC:Int}{y:aG}{i:List It}(e:YI clock y i)(o:0<aC)(s:clock<=c): YI c (Bd c aC y) i:=by
 obtain⟨l,m⟩:=WC (c-y.c.aK) aC o (y.items.length+1) y (by have:=E6 y.items;omega) (λd h=>(e.tk d h).1);have n:(Bd c aC y).c=y.c:=JS _ _ _ _;refine⟨l.trans e.bC,λd h=>?_⟩;obtain⟨k,q,r⟩:=m d h;rw[n];refine⟨k,λj=>?_,λt=>?_⟩
 ·rcases r j with a | a
  ·exact a
  have:=(e.tk d a).2.1 j;omega
 rcases Int.lt_or_eq_of_le k with a | a
 ·exact a
 have:=q a.symm;omega
theorem Xa{clock:Int}{y:aG}{d:List It}(e:YI clock y d)(fr:Int): (Bq y.items fr (clock-y.c.aK)).map Co=d.filter (λa=>decide (fr<a.t/\a.t<=clock-y.c.aK)):=by
 rw[<-e.bC,List.filter_map];congr 1;unfold Bq;refine kU (λa i=>?_);have h:=(e.tk a i).2;show _=decide (fr<a.t/\a.t<=clock-y.c.aK);by_cases c:a.t<=clock-y.c.aK
 ·have:=h.2 c;simp[c,this]
 simp[c]
theorem eW.uniq{v d:Int}{p:Int->Prop}(j:eW v p)(i:eW d p): v=d:=by
 rcases j with ⟨c,e⟩ | ⟨c,e⟩
 ·rcases i with ⟨a,_⟩ | ⟨a,_⟩
  ·rw[c,a]
  exact absurd a (e d)
 rcases i with ⟨_,h⟩ | ⟨a,h⟩
 ·exact absurd c (h v)
 have k:=e d a;have b:=h v c;omega
theorem eW.congr{v:Int}{p i:Int->Prop}(j:eW v p)(h:∀a,p a↔i a): eW v i:=by
 rcases j with ⟨c,d⟩ | ⟨c,d⟩
 ·exact .inl ⟨c,λa e=>d a ((h a).2 e)⟩
 exact .inr ⟨(h v).1 c,λa e=>d a ((h a).2 e)⟩
theorem zNj{c:Cfg}{n:Nat}{e:List Int}{s:Nat->Int->Prop}(u:e.length=n)(l:∀a,a<n->eW (e.getD a 0) (s a))(key:Int):
  ∀a,a<n->eW ((EW c n e key).getD a 0) (λh=>s a h\/(BZ c n key=a/\Cm (AG c.bV c.bW key/n)=h)):=by
 intro a t;have v:=(Ks (AG c.bV c.bW key/n)).1;unfold EW;generalize Cm (AG c.bV c.bW key/n)=j at *
 have m:=l a t;by_cases o:BZ c n key=a
 ·rw[o];by_cases r:e.getD a 0<j
  ·rw[h9 r];have k:(e.set a j).getD a 0=j:=by
    rw[List.getD_eq_getElem?_getD,jE];simp[show a<e.length by omega]
   rw[k];refine .inr ⟨.inr ⟨rfl,rfl⟩,λh d=>?_⟩;rcases d with d | d
   ·rcases m with ⟨_,i⟩ | ⟨_,i⟩
    ·exact absurd d (i h)
    have:=i h d;omega
   omega
  rw[hZ r];rcases m with ⟨q,_⟩ | ⟨q,i⟩
  ·omega
  refine .inr ⟨.inl q,λh d=>?_⟩;rcases d with d | d
  ·exact i h d
  omega
 have k:(if e.getD (BZ c n key) 0<j then e.set (BZ c n key) j else e).getD a 0=e.getD a 0:=by
  split
  ·rw[List.getD_eq_getElem?_getD,jE,hZ o,List.getD_eq_getElem?_getD]
  rfl
 rw[k];exact m.congr (λh=>⟨λd=>.inl d,λd=>d.elim id (λl=>absurd l.1 o)⟩)
theorem YN(c:Cfg)(n:Nat)(l:List bA): ∀(h:List Int) (j:Nat->Int->Prop),h.length=n->(∀d,d<n->eW (h.getD d 0) (j d)) ->
  ∀d,d<n->eW ((l.foldl (λh e=>EW c n h e.k) h).getD d 0) (λi=>j d i\/∃e,e∈l/\BZ c n e.k=d/\Cm (AG c.bV c.bW e.k/n)=i):=by
 induction l with
 | nil=>intro h j _ m d o;exact(m d o).congr (λi=>⟨λa=>.inl a,λa=>a.elim id (λ⟨e,hz,_⟩=>by simp at hz)⟩)
 | cons e l t =>
  intro h j s m d o;rw[jT];refine(t (EW c n h e.k) _ (by rw[Od,s]) (zNj s m e.k) d o).congr (λi=>⟨λa=>?_,λa=>?_⟩)
  ·rcases a with (a | a) | ⟨r,q,a⟩
   ·exact .inl a
   ·exact .inr ⟨e,by simp,a⟩
   exact .inr ⟨r,by simp[q],a⟩
  rcases a with a | ⟨r,q,a⟩
  ·exact .inl (.inl a)
  rcases iw.1 q with k | k
  ·rw[k]at a;exact .inl (.inr a)
  exact .inr ⟨r,k,a⟩
theorem ZP{c:Cfg}{n:Nat}{m T:Int}{e:Nat->List Bk}{R:List It}{l:List bA}(w:DG c n m e R)(z:m-c.aB<=T)(s:(l.map Co).Perm (R.filter (λy=>decide (T<y.t)))): Cr e n T=CP c n l:=by
 have hlen:(Cr e n T).length=(CP c n l).length:=by rw[IP,JG]
 refine List.ext_getElem hlen (λa r x=>?_);have k:a<n:=by rw[IP]at r;exact r
 have u:(Cr e n T)[a]=D5 (e a) T:=by simp[Cr]
 have v:(CP c n l)[a]=(CP c n l).getD a 0:=by rw[List.getD_eq_getElem?_getD,hX x];rfl
 rw[u,v];refine(w.ex a T z).uniq ?_;have:=YN c n l (List.replicate n 0) (λ_ _=>False) (by simp) (λa k=>.inl ⟨by rw[List.getD_eq_getElem?_getD,kQ,h9 k];rfl,λC d=>d⟩) a k;refine this.congr (λC=>⟨λd=>?_,λd=>?_⟩)
 ·rcases d with d | ⟨j,q,h,i⟩
  ·exact d.elim
  have o:Co j∈R.filter (λy=>decide (T<y.t)):=s.mem_iff.1 (iF q);obtain⟨D,E⟩:=j7.1 o;exact⟨Co j,D,by simpa using E,h,i⟩
 obtain⟨F,A,B,h,i⟩:=d;have o:F∈l.map Co:=s.mem_iff.2 (j7.2 ⟨A,by simpa using B⟩);obtain⟨j,q,t⟩:=iE.1 o;exact .inr ⟨j,q,by rw[<-t]at h;exact h,by rw[<-t]at i;exact i⟩
theorem XK(c:Cfg)(m t:Int)(o:1<=Ag c): (m-c.aB<(t/Ag c+1)*Ag c-1)↔(EV c m-1<t):=by
 unfold EV;have i:=jX t (Ag c);have j:=j8 t (show Ag c≠0 by omega);have k:=j1 t (show 0<Ag c by omega);have b:=jX (m-c.aB+1) (Ag c);have l:=j8 (m-c.aB+1) (show Ag c≠0 by omega);have n:=j1 (m-c.aB+1) (show 0<Ag c by omega);generalize t/Ag c=e at *
 generalize(m-c.aB+1)/Ag c=y at *
 generalize Ag c=a at *
 rw[Int.mul_comm y a,Int.mul_comm (e+1) a,lG,Int.mul_one];constructor
 ·intro h;rcases Int.lt_or_le e y with d | d
  ·have:=jo (show e+1<=y by omega) (show 0<=a by omega);rw[lG,Int.mul_one]at this;omega
  have:=jo d (show 0<=a by omega);omega
 intro h;rcases Int.lt_or_le e y with d | d
 ·have:=jo (show e+1<=y by omega) (show 0<=a by omega);rw[lG,Int.mul_one]at this;omega
 have:=jo d (show 0<=a by omega);omega
theorem zLy{c:Cfg}{m key:Int}{o:Pa.Pn}{cl:List Pa.Pn}{R:List It}{l:List bA}(q:OG c m o cl R)(e:1<=Ag c)(h:c.rowed)(t:(l.map Co).Perm (R.filter (λy=>decide (EV c m-1<y.t))))(j:Nat)(s:(j:Int)<c.rows):
  DI c (Dz c o cl (m-c.aB)) key j=(DN c l key j:Int):=by
 have u:=Ib c h key j;have r:DI c (Dz c o cl (m-c.aB)) key j=Ds (λa=>decide (m-c.aB<(DR c a+1)*Ag c-1)&&Gw c j (AA c key j).toNat a) R:=q.counted e h.r1 _ (iG _) j _ s (by omega);rw[r];unfold DN Ds;have n:(l.filter (MV c key j)).length=((l.map Co).filter (λa=>AA c a.k j==AA c key j)).length:=by
  rw[List.filter_map,im];rfl
 rw[n,(t.filter _).length_eq,List.filter_filter];congr 1;refine congrArg List.length (kU (λa _=>?_));have d:=XK c m a.t e;unfold DR Gw;rw[lA];simp only[iK,iI,beq_iff_eq];constructor
 ·rintro ⟨i,k⟩;exact⟨by omega,d.1 i⟩
 rintro ⟨i,k⟩;exact⟨d.2 k,by omega⟩
theorem Z0{c:Cfg}{m key:Int}{o:Pa.Pn}{cl:List Pa.Pn}{R:List It}{l:List bA}(j:OG c m o cl R)(k:1<=Ag c)(i:c.rowed)(q:(l.map Co).Perm (R.filter (λy=>decide (EV c m-1<y.t)))):
  FX c o cl key m=Db c l key c.rows.toNat:=by
 have h:=λs n=>zLy (key:=key) j k i q s n;have t:∀a:Nat,((a:Int)+1<=c.rows)->DX c (Dz c o cl (m-c.aB)) key (a+1)=Db c l key (a+1):=by
  intro a;induction a with
  | zero =>
   intro e;have d:=h 0 (by omega);have u:=MM c l key 0;show min (DI c _ key 0) (DI c _ key 0)=if (DN c l key 0:Int)<(l.length:Int) then(DN c l key 0:Int) else(l.length:Int)
   rw[d];split <;> omega
  | succ a r =>
   intro e;have d:=h (a+1) (by omega);show min (DX c _ key (a+1)) (DI c _ key (a+1))=if (DN c l key (a+1):Int)<Db c l key (a+1) then(DN c l key (a+1):Int) else Db c l key (a+1)
   rw[r (by omega),d];split <;> omega
 unfold FX;have v:=i.r0;obtain⟨a,e⟩:∃a:Nat,c.rows.toNat=a+1:=⟨c.rows.toNat-1,by omega⟩;rw[e];exact t a (by omega)
theorem Rp{a v:Dr.It}(c:Dr.cV a v)(d:Dr.cV v a): a.n=v.n:=by
 unfold Dr.cV at c d;omega
theorem OQ{c v:Dr.It}(d:Dr.cV v c)(e:c.n≠v.n): Dr.aheadT c v=true:=by
 cases hb:Dr.aheadT c v with
 | true=>rfl
 | false=>exact absurd (Rp (Dr.not_ahead_leT (a:=v) (b:=c) hb) d) e
theorem OO{c v:Dr.It}(d:Dr.cV c v)(e:c.n≠v.n): Dr.aheadT c v=false:=by
 cases hb:Dr.aheadT c v with
 | false=>rfl
 | true=>exact absurd (Rp d (Dr.ahead_leT (a:=v) (b:=c) hb)) e
theorem VT(a:Dr.It): Dr.aheadT a a=false:=by
 unfold Dr.aheadT;rw[h9 rfl];simp
def Du(c:Cfg)(z:bA): Dr.It:=tick c (Co z)
theorem Wj(c:Cfg)(x a:bA)(k:0<=x.d/\x.d<=2147483648)(l:0<=a.d/\a.d<=2147483648): FO c x a=Dr.aheadT (Du c x) (Du c a):=by
 have i:=Gf c x.t;have j:=Gf c a.t;unfold FO Dr.aheadT Du tick Co F6;simp only;generalize Ar (Am c x.t)=e at *
 generalize Ar (Am c a.t)=b at *
 rw[ll i.1 (by omega),ll j.1 (by omega),ll k.1 (by omega),ll l.1 (by omega)];generalize e*a.d=p at *
 generalize b*x.d=h at *
 by_cases d:p=h
 ·rw[h9 d];subst d;simp
 rw[hZ d];simp[d]
theorem Ul(a:List Dr.It)(m:a.Pairwise (λe b=>Dr.aheadT e b=true/\Dr.aheadT b e=false))(p:Nat)(n:p<a.length): a.filter (λc=>Dr.aheadT c a[p])=a.take p:=by
 have h:a=a.take p++a[p]::a.drop (p+1):=by
  rw[List.getElem_cons_drop,List.take_append_drop]
 conv=>lhs;arg 2;rw[h]
 rw[jj,iR];have i:=m;rw[h]at i;have j:=iY.1 i;have k:(a.take p).filter (λc=>Dr.aheadT c a[p])=a.take p:=j5.2 (λc d=>(j.2.2 c d a[p] List.mem_cons_self).1);have l:(a.drop (p+1)).filter (λc=>Dr.aheadT c a[p])=[]:=jL.2 (λc d=>by rw[((ji.1 j.2.1).1 c d).2];simp);rw[k,l,VT];simp
theorem ND(c:Cfg)(l a:List bA)(p:Nat): ∀d,a.foldl (CS c l p) d=(a.filter (λh=>decide (BO c l h=p))).foldl (CS c l p) d:=by
 induction a with
 | nil=>intro d;rfl
 | cons h a i =>
  intro d;rw[jT,iR];by_cases e:BO c l h=p
  ·rw[h9 (by simpa using e),jT,i]
  rw[hZ (by simpa using e),i];unfold CS;rw[hZ e]
structure eU (c:Cfg) (l:List bA) (r D:List Dr.It):Prop where
 perm:(r++D).Perm (l.map (Du c))
 num:((l.map (Du c)).map (·.n)).Nodup
 hh:r.Pairwise (λa b=>Dr.aheadT a b=true/\Dr.aheadT b a=false)
 rest:∀d,d∈D->∀u,u∈r->Dr.aheadT u d=true/\Dr.aheadT d u=false
 size:D≠[]->(r.length:Int)=c.size+1
 len:(r.length:Int)<=c.size+1
 ds:∀z,z∈l->0<=z.d/\z.d<=2147483648
theorem eU.place{c:Cfg}{l:List bA}{h e:List Dr.It}(d:eU c l h e)(a:bA)(k:a∈l): BO c l a=((h++e).filter (λm=>Dr.aheadT m (Du c a))).length:=by
 unfold BO;rw[(d.perm.filter _).length_eq,List.filter_map,im];refine congrArg List.length (kU (λi j=>Wj c i a (d.ds i j) (d.ds a k)))
theorem eU.gL{c:Cfg}{l:List bA}{a i:List Dr.It}(e:eU c l a i)(d:bA)(o:d∈l)(p:Nat)(j:p<a.length)(m:Du c d=a[p]): BO c l d=p:=by
 rw[e.place d o,m,jj,Ul a e.hh p j];have k:i.filter (λh=>Dr.aheadT h a[p])=[]:=jL.2 (λh n=>by rw[(e.rest h n a[p] (jc j)).2];simp);rw[k,iz,iD];omega
theorem eU.gW{c:Cfg}{l:List bA}{e i:List Dr.It}(d:eU c l e i)(a:bA)(n:a∈l)(j:Du c a∈i): (c.size+1:Int)<=(BO c l a:Int):=by
 rw[d.place a n,jj,hY];have k:e.filter (λh=>Dr.aheadT h (Du c a))=e:=j5.2 (λh m=>(d.rest _ j h m).1);rw[k];have:=d.size (List.ne_nil_of_mem j);omega
theorem eU.only{c:Cfg}{l:List bA}{d q:List Dr.It}(h:eU c l d q)(p:Nat)(L:(p:Int)<=c.size):
  (∃i:p<d.length,∃a,l.filter (λa=>decide (BO c l a=p))=[a]/\Du c a=d[p])\/(d.length<=p/\l.filter (λa=>decide (BO c l a=p))=[]):=by
 have t:∀a,a∈l->BO c l a=p->∃i:p<d.length,Du c a=d[p]:=by
  intro a e J;have o:Du c a∈d++q:=h.perm.mem_iff.2 (iF e);rcases ig.1 o with j | j
  ·obtain⟨v,r,s⟩:=jR.1 j;have:=h.gL a e v r s.symm;have C:v=p:=by omega
   subst C;exact⟨r,s.symm⟩
  have:=h.gW a e j;omega
 by_cases i:p<d.length
 ·left;refine⟨i,?_⟩;have o:d[p]∈l.map (Du c):=h.perm.mem_iff.1 (by simp[jc i]);obtain⟨a,e,F⟩:=iE.1 o;have G:=h.gL a e p i F;have u:(l.filter (λa=>decide (BO c l a=p))).map (λa=>(Du c a).n) |>.Nodup:=by
   have z:(l.map (λa=>(Du c a).n)).Nodup:=by have:=h.num;rw[j9]at this;exact this
   exact List.Nodup.sublist (List.filter_sublist.map _) z
  have n:∀k,k∈l.filter (λa=>decide (BO c l a=p))->Du c k=d[p]:=λk E=>by
   obtain⟨H,I⟩:=j7.1 E;obtain⟨_,j⟩:=t k H (by simpa using I);exact j
  have B:a∈l.filter (λa=>decide (BO c l a=p)):=j7.2 ⟨e,by simpa using G⟩;generalize l.filter (λa=>decide (BO c l a=p))=x at *
  cases x with
  | nil=>simp at B
  | cons m w =>
   cases w with
   | nil=>exact⟨m,rfl,n m (by simp)⟩
   | cons b w =>
    exfalso;rw[iC,iC]at u;have:=(kq.1 u).1;rw[n m (by simp),n b (by simp)]at this;simp at this
 right;refine⟨by omega,jL.2 (λa e A=>?_)⟩;obtain⟨D,_⟩:=t a e (by simpa using A);exact i D
theorem VW(a:List Dr.It)(p:Nat)(c:p<a.length): three (a.take (p+1))=three (a.take p)++[a[p].t,a[p].k,a[p].d]:=by
 rw[je c,JH];rfl
theorem eU.places{c:Cfg}{l:List bA}{h i:List Dr.It}(j:eU c l h i): ∀p:Nat,(p:Int)<=c.size->Cw c l p=(three (h.take p),0,0):=by
 intro p;induction p with
 | zero=>intro _;rfl
 | succ p o =>
  intro q;have k:=o (by omega);show l.foldl (CS c l p) (Cw c l p)=_;rw[k,ND];rcases j.only p (by omega) with ⟨e,a,d,n⟩ | ⟨e,d⟩
  ·rw[d];have m:BO c l a=p:=by
    have:a∈l.filter (λa=>decide (BO c l a=p)):=by rw[d];simp
    simpa using(j7.1 this).2
   rw[VW h p e,<-n];show CS c l p _ a=_;unfold CS;rw[h9 m,h9 (by omega)];rfl
  rw[d,iq e,iq (by omega)];rfl
theorem eU.drawn{c:Cfg}{l:List bA}{a j:List Dr.It}(i:eU c l a j)(s:0<=c.size): GR c l=three (a.take (min c.size.toNat a.length))++[(EU c.size.toNat a).v,(EU c.size.toNat a).d]:=by
 have m:(c.size.toNat:Int)=c.size:=by omega
 have o:=i.places c.size.toNat (by omega);have k:Cw c l (c.size.toNat+1)=(three (a.take c.size.toNat),(EU c.size.toNat a).v,(EU c.size.toNat a).d):=by
  show l.foldl (CS c l c.size.toNat) (Cw c l c.size.toNat)=_;rw[o,ND];unfold EU;rcases i.only c.size.toNat (by omega) with ⟨h,d,e,r⟩ | ⟨h,e⟩
  ·rw[e,h9 h];have q:BO c l d=c.size.toNat:=by
    have:d∈l.filter (λd=>decide (BO c l d=c.size.toNat)):=by rw[e];simp
    simpa using(j7.1 this).2
   rw[Dr.itAt_get a _ h,<-r];show CS c l c.size.toNat _ d=_;unfold CS;rw[h9 q,hZ (by omega),h9 m];rfl
  rw[e,hZ (by omega)];rfl
 unfold GR;rw[k];simp only;congr 2;by_cases n:c.size.toNat<=a.length
 ·rw[jJ n]
 rw[lp (by omega),iq (by omega),iq (il _)]
theorem cU.ids{d:List aI}{a:List aG}(c:cU d a): d.map (·.id)=a.map (·.id):=by
 induction d generalizing a with
 | nil=>cases a with | nil=>rfl | cons y a=>exact c.elim
 | cons h d e=>cases a with | nil=>exact c.elim | cons y a=>rw[iC,iC,e c.2,c.1.id]
theorem Pq{d:List aG}{id:Int}{y h:aG}(i:(d.map (·.id)).Nodup)(c:h∈Di d id y): h=y\/(h∈d/\h.id≠id):=by
 induction d with
 | nil=>simp[Di]at c
 | cons k d m =>
  rw[iC]at i;have j:=kq.1 i;unfold Di at c;by_cases e:k.id=id
  ·rw[h9 (by simpa using e)]at c;rcases iw.1 c with a | a
   ·exact .inl a
   refine .inr ⟨by simp[a],λl=>j.1 ?_⟩;rw[e,<-l];exact iF a
  rw[hZ (by simpa using e)]at c;rcases iw.1 c with a | a
  ·exact .inr ⟨by simp[a],by rw[a];exact e⟩
  rcases m j.2 a with n | ⟨o,q⟩
  ·exact .inl n
  exact .inr ⟨by simp[o],q⟩
theorem NU(f:Nat): ∀(y:aG) (mark aC:Int),(BS f y mark aC).id=y.id:=by
 induction f with
 | zero=>intro y mark aC;rfl
 | succ f a =>
  intro y mark aC;unfold BS;split
  ·rfl
  exact a _ _ _
theorem Su(l m:Int): ∀(e:List aG) (b:Int) (y:aG),y∈(B6 l m b e).1->∃c,c∈e/\y.id=c.id/\y.c=c.c/\y.items=(Bd l m c).items:=by
 intro e;induction e with
 | nil=>intro b y d;simp[B6]at d
 | cons j e k =>
  intro b y d;unfold B6 at d;split at d
  ·rcases iw.1 d with a | a
   ·exact⟨j,by simp,by rw[a];exact NU _ _ _ _,by rw[a];exact JS _ _ _ _,by rw[a];rfl⟩
   obtain⟨c,h,i⟩:=k _ y a;exact⟨c,by simp[h],i⟩
  rcases iw.1 d with a | a
  ·exact⟨j,by simp,by rw[a];exact NU _ _ _ _,by rw[a];exact JS _ _ _ _,by rw[a]⟩
  obtain⟨c,h,i⟩:=k _ y a;exact⟨c,by simp[h],i⟩
structure JW (s:WS) (r:cT) (A:Int->List It):Prop where
 rel:fW s r
 bC:∀y,y∈r.xs->YI r.clock y (A y.id)
theorem zO8{n:Int}{s:WS}{c:cT}{i:Int->List It}(hi:bQ n s.clock s.xs)(Q:n<4611686018427387904)(E:GW 2 PD s i)(d:JW s c i)(o:aO)(R:I4 o): JW (Aw s o).1 (EI c o) (λid=>i id++DK s o id):=by
 obtain⟨e,X⟩:=OJ s c o d.rel R hi Q;have F:(c.xs.map (·.id)).Nodup:=by rw[<-d.rel.xs.ids];exact E.ids
 refine⟨X,λy a=>?_⟩;by_cases D:o.kind=4\/o.kind=5
 ·have j:EI c o=c:=by unfold EI;rw[h9 D]
  rw[j]at a ⊢;rw[Fy (.inl (by omega)),iz];exact d.bC y a
 have j:EI c o=(BL c o).1:=by unfold EI;rw[hZ D]
 have L:Hj c o=(BL c o).2:=by unfold Hj;rw[hZ (by omega)]
 rw[L]at e;rw[j]at a ⊢;by_cases v:o.kind=1
 ·have l:BL c o=CK c o:=by unfold BL;rw[h9 v]
  rw[l]at a ⊢;show YI _ y (i y.id++DK s o y.id);rw[Fy (.inl (by omega)),iz];unfold CK at a ⊢;by_cases c1:Ab o.id 0 99=true/\(EC c.xs o.id).isNone=true
  ·rw[h9 c1]at a ⊢;by_cases c2:Ak o.cfg=true
   ·rw[h9 c2]at a ⊢;by_cases c3:c.xs.length=6
    ·rw[h9 c3]at a ⊢;exact d.bC y a
    rw[hZ c3]at a ⊢;rcases ig.1 a with k | k
    ·exact d.bC y k
    rw[ij]at k;subst k
    have M:i o.id=[]:=E.none o.id (λG=>by
       rw[d.rel.xs.ids]at G;obtain⟨Y,T,U⟩:=iE.1 G;have:=c1.2;unfold EC at this;rw[Option.isNone_iff_eq_none,lk]at this
       exact this Y T (by simpa using U))
    exact⟨by show[]=i o.id;rw[M],λw q=>by simp[CH]at q⟩
   rw[hZ c2]at a ⊢;exact d.bC y a
  rw[hZ c1]at a ⊢;exact d.bC y a
 by_cases r:o.kind=2
 ·have l:BL c o=Fa c o:=by unfold BL;rw[hZ v,h9 r]
  rw[l]at a e ⊢;show YI _ y (i y.id++DK s o y.id);unfold Fa at a e ⊢;cases hf:EC c.xs o.id with
  | none =>
   rw[hf]at a e;simp only at a e ⊢;rw[Fy (.inr (by rw[e];simp)),iz];exact d.bC y a
  | some h =>
   rw[hf]at a e;simp only at a e ⊢;have I:h∈c.xs:=iW hf;have V:h.id=o.id:=by have:=List.find?_some hf;simpa using this
   by_cases m:Ck h c.clock o=0
   ·rw[h9 m]at a e ⊢;rcases Pq F a with k | ⟨u,A⟩
    ·subst k;have t:=d.bC h I;have x:DK s o (EY h o).id=[⟨o.a,o.b,o.c,(h.items.length:Int)+1⟩]:=by
      unfold DK;rw[h9 ⟨r,V.symm,by rw[e]⟩,e];rfl
     rw[x];have P:¬o.a<=c.clock-h.c.aK:=by
      intro z;unfold Ck at m;rw[h9 z]at m;split at m <;> omega
     refine⟨?_,λw q=>?_⟩
     ·show(h.items++[_]).map Co=i h.id++_;rw[iy,t.bC];rfl
     rcases ig.1 q with j | j
     ·exact t.tk w j
     rw[ij]at j;subst j;exact⟨iG _,λS=>absurd S (by show ¬(0:Int)<0;omega),λz=>absurd z P⟩
    have x:DK s o y.id=[]:=by unfold DK;rw[hZ (λO=>A O.2.1.symm)]
    rw[x,iz];exact d.bC y u
   rw[hZ m]at a e ⊢;rw[Fy (.inr (by rw[e];exact m)),iz];rcases Pq F a with k | ⟨u,_⟩
   ·subst k;have t:=d.bC h I;exact⟨t.bC,t.tk⟩
   exact d.bC y u
 rw[Fy (.inl r),iz];by_cases C:o.kind=3
 ·have l:BL c o=Ih c o:=by unfold BL;rw[hZ v,hZ r,h9 C]
  rw[l]at a ⊢;unfold Ih at a ⊢;split at a
  ·rename_i c1;rw[h9 c1];split at a
   ·rename_i c2;rw[h9 c2];obtain⟨B,u,A,W,J⟩:=Su _ _ _ _ _ a;have N:c.clock<=Au c.clock o.a:=by unfold Au;split <;> omega
    have H:=zMb (aC:=c.aC+1) (d.bC B u) (by have:=d.rel.aC;omega) N;refine⟨by rw[J,A];exact H.bC,λw q=>?_⟩;rw[J]at q;have:=H.tk w q;rw[show(Bd (Au c.clock o.a) (c.aC+1) B).c=B.c from JS _ _ _ _]at this;rw[W];exact this
   rename_i c2;rw[hZ c2];exact d.bC y a
  rename_i c1;rw[hZ c1];exact d.bC y a
 have l:BL c o=(c,1,[]):=by unfold BL;rw[hZ v,hZ r,hZ C]
 rw[l]at a ⊢;exact d.bC y a
theorem Xz(c:Cfg)(l h:List bA)(p:Nat): ∀a,(h.foldl (CS c l p) a).1.length<=a.1.length+3*(h.filter (λd=>decide (BO c l d=p))).length:=by
 induction h with
 | nil=>intro a;exact il _
 | cons d h j =>
  intro a;rw[jT,iR];have i:=j (CS c l p a d);by_cases e:BO c l d=p
  ·rw[h9 (by simpa using e),iA];have:(CS c l p a d).1.length<=a.1.length+3:=by
    unfold CS;rw[h9 e];split
    ·simp
    split <;> simp
   omega
  rw[hZ (by simpa using e)];have:(CS c l p a d)=a:=by unfold CS;rw[hZ e]
  rw[this]at i ⊢;exact i
theorem Oq(c:Cfg)(l d:List bA)(p:Nat)(h:c.size<=(p:Int)): ∀a,(d.foldl (CS c l p) a).1=a.1:=by
 induction d with
 | nil=>intro a;rfl
 | cons i d e =>
  intro a;rw[jT,e];unfold CS;split
  ·rw[hZ (by omega)];split <;> rfl
  rfl
theorem eU.fP{c:Cfg}{l:List bA}{j k:List Dr.It}(h:eU c l j k)(u:c.size<=5)(a i:Nat): (Bv c l a i).1.length<=100:=by
 have m:∀a,(Cw c l a).1.length<=15:=by
  intro a;induction a with
  | zero=>show([]:List Int).length<=15;simp
  | succ a o =>
   by_cases n:(a:Int)+1<=c.size
   ·rw[h.places (a+1) (by omega)];show(three (j.take (a+1))).length<=15;rw[Ga,iD];omega
   show(l.foldl (CS c l a) (Cw c l a)).1.length<=15;rw[Oq c l l a (by omega)];exact o
 have q:=m a;unfold Bv;by_cases n:(a:Int)<c.size
 ·have r:=Xz c l (l.take i) a (Cw c l a);have s:((l.take i).filter (λd=>decide (BO c l d=a))).length<=(l.filter (λd=>decide (BO c l d=a))).length:=((List.take_sublist i l).filter _).length_le;have t:(l.filter (λd=>decide (BO c l d=a))).length<=1:=by
   rcases h.only a (by omega) with ⟨_,d,e,_⟩ | ⟨_,e⟩
   ·rw[e];simp
   rw[e];simp
  omega
 rw[Oq c l _ a (by omega)];omega
theorem QM{c:Cfg}{a:List Dr.It}{R:List It}{l:List bA}(j:TG c a R)(k:(l.map Co).Perm R)(I:(R.map (·.n)).Nodup)(J:∀x,x∈R->fH c 5 x): ∃d,eU c l (Dr.allL (a.length+1) a).reverse d:=by
 obtain⟨d,C,D,E⟩:=j.ex;obtain⟨A,B⟩:=Dr.dS (a.length+1) a (by omega) j.heap;have m:((Dr.allL (a.length+1) a).reverse).Perm a:=(List.reverse_perm _).trans A;have u:((Dr.allL (a.length+1) a).reverse++d).Perm (l.map (Du c)):=by
  refine(m.append_right d).trans (C.trans ?_);have:=(k.map (tick c)).symm;rw[j9]at this;exact this
 have s:((l.map (Du c)).map (·.n)).Nodup:=by
  rw[j9];have F:(l.map ((λS:Dr.It=>S.n) ∘ Du c))=(l.map Co).map (·.n):=by rw[j9];rfl
  rw[F];exact(k.map (·.n)).nodup_iff.2 I
 have t:(((Dr.allL (a.length+1) a).reverse++d).map (·.n)).Nodup:=(u.map (·.n)).nodup_iff.2 s;rw[iy]at t;obtain⟨N,_,O⟩:=jD.1 t;have q:(Dr.allL (a.length+1) a).reverse.length=a.length:=m.length_eq;refine⟨d,u,s,?_,λi n e v=>?_,λG=>by rw[q];exact E G,by rw[q];exact j.len,λz M=>?_⟩
 ·have P:(Dr.allL (a.length+1) a).reverse.Pairwise (λh b=>Dr.cV b h):=List.pairwise_reverse.2 B;have Q:(Dr.allL (a.length+1) a).reverse.Pairwise (λh b=>h.n≠b.n):=List.pairwise_map.1 N;exact(P.and Q).imp (λ⟨w,k2⟩=>⟨OQ w k2,OO w (lx k2)⟩)
 ·have L:e∈a:=m.mem_iff.1 v;have o:=(D i n).2 e L;have r:e.n≠i.n:=O e.n (iF v) i.n (iF n);exact⟨OQ o r,OO o (lx r)⟩
 have H:Co z∈R:=k.mem_iff.1 (iF M);have:=M1 (J _ H);exact⟨by have:=this.1;show 0<=(Co z).d;omega,this.2⟩
structure KW (n:Int) (s:WS) (r:cT) (A:Int->List It):Prop where
 inv:bQ n s.clock s.xs
 g2:GW 2 PD s A
 g3:GW 3 PO s A
 g5:GW 5 PT s A
 j:JW s r A
def fU(o:aO): Prop:=o.kind≠6/\o.kind≠7
theorem KW.step{n:Int}{s:WS}{d:cT}{h:Int->List It}(a:KW n s d h)(l:0<=n)(m:n<4611686018427387904)(o:aO)(i:fU o): KW (n+1) (Aw s o).1 (EI d o) (λid=>h id++DK s o id):=by
 have c:o.kind≠7:=i.2;refine⟨OY o a.inv l (NI c),MC zNy a.inv a.g2 o c,MC zOo a.inv a.g3 o c,MC zOn a.inv a.g5 o c,?_⟩;by_cases e:o.kind=4
 ·have j:(Aw s o).1=s:=by
   unfold Aw;rw[hZ (by omega),hZ (by omega),hZ (by omega),h9 e];unfold DW;split <;> rfl
  have k:EI d o=d:=by unfold EI;rw[h9 (.inl e)]
  rw[j,k];refine⟨a.j.rel,λy q=>?_⟩;rw[Fy (.inl (by omega)),iz];exact a.j.bC y q
 exact zO8 a.inv m a.g2 a.j o ⟨e,i⟩
theorem cU.mem{e:List aI}{a:List aG}(c:cU e a){y:aG}(i:y∈a): ∃d,d∈e/\dF d y:=by
 induction e generalizing a with
 | nil=>cases a with | nil=>simp at i | cons j a=>exact c.elim
 | cons d e m =>
  cases a with
  | nil=>exact c.elim
  | cons j a =>
   rcases iw.1 i with h | h
   ·exact⟨d,by simp,by rw[h];exact c.1⟩
   obtain⟨n,k,l⟩:=m c.2 h;exact⟨n,by simp[k],l⟩
theorem KW.pair{n:Int}{s:WS}{v:cT}{i:Int->List It}(q:KW n s v i){x:aI}{y:aG}(z:x∈s.xs)(A:y∈v.xs)(u:dF x y){k:Nat}{P:Cfg->Int->aU->List It->Prop}(w:GW k P s i)(r:x.k=k):
  ∃c,P x.c (s.clock-x.c.aK) x.nt c/\(c.map (·.n)).Nodup/\(∀a,a∈c->fH x.c k a)/\(∀e,((Bq y.items e (s.clock-x.c.aK)).map Co).Perm (c.filter (λd=>decide (e<d.t))))/\∀d,d∈y.items->fH x.c k (Co d):=by
 have h:=w.bL x z r;obtain⟨c,C,_,D,m⟩:=h.whole;have l:=q.j.bC y A;rw[<-u.id]at l;have t:∀a,a∈i x.id->fH x.c k a:=λa j=>by rw[<-r];exact h.fU a j
 refine⟨c,C,?_,λa j=>t a (m.mem_iff.1 (by simp[j])),λe=>?_,λd B=>t _ (by rw[<-l.bC];exact iF B)⟩
 ·have:=(m.map (·.n)).nodup_iff.2 (Oo h.num);rw[iy]at this;exact(jD.1 this).1
 have o:=Xa l e;rw[<-q.j.rel.clock,<-u.c]at o;rw[o];exact XR m D h.wait
theorem KW.gE{n:Int}{s:WS}{t:cT}{z:Int->List It}(a:KW n s t z)(y:aG)(l:y∈t.xs): fV t.clock y:=by
 obtain⟨q,j,d⟩:=a.j.rel.xs.mem l;have L:y.c.kind=q.k:=by rw[<-d.c];exact d.kind
 have u:∀h,q.k=h->(h=2\/h=3)->∀c,fH q.c h c->0<=c.k/\c.k<=2147483648:=by
  intro h _ i c e;have:=e.fit;rcases i with o | o <;> subst o
  all_goals
   unfold AL Dp at this;simp only at this;split at this
   ·rename_i B;exact Bp B
   omega
 refine⟨λi c e=>?_,λi c e=>?_,λi r E=>?_⟩
 ·rcases i with o | o
  ·obtain⟨_,_,_,_,_,m⟩:=a.pair j l d a.g2 (by omega);exact u 2 (by omega) (.inl rfl) _ (m c e)
  obtain⟨_,_,_,_,_,m⟩:=a.pair j l d a.g3 (by omega);exact u 3 (by omega) (.inr rfl) _ (m c e)
 ·obtain⟨_,_,_,_,_,m⟩:=a.pair j l d a.g5 (by omega);have:=M1 (m c e);exact⟨by have:=this.1;show 0<=(Co c).d;omega,this.2⟩
 obtain⟨J,F,G,x,H,_⟩:=a.pair j l d a.g5 (by omega);have v:=H (-1);rw[j5.2 (λr C=>by have:=(x r C).t0;simp;omega)]at v;obtain⟨I,A⟩:=QM F v G x;have w:=(a.inv.bD q j);have D:=E4 (k:=5) w.valid (by rw[w.kind];omega) rfl;rw[<-a.j.rel.clock,<-d.c];exact A.fP D.2 r E
theorem KW.query{n:Int}{s:WS}{u:cT}{z:Int->List It}(h:KW n s u z)(o:aO)(F:o.kind=4): (Aw s o).2=FM u o:=by
 have r:Aw s o=DW s o:=by
  unfold Aw;rw[hZ (by omega),hZ (by omega),hZ (by omega),h9 F]
 rw[r];unfold DW FM;rcases h.j.rel.xs.find o.id with ⟨m,b⟩ | ⟨a,y,m,b,d⟩
 ·rw[m,b]
 rw[m,b];have q:a∈s.xs:=iW m;have t:y∈u.xs:=iW b;have i:=h.inv.bD a q;have I:y.c.kind=a.k:=by rw[<-d.c];exact d.kind
 simp only;show AY a.k a.c a.nt o.a (s.clock-a.c.aK)=_;rw[<-h.j.rel.clock,I,<-d.c];have N:=i.k1;have O:=i.k5;rcases As N O with c | c | c | c | c
 ·unfold AY;rw[hZ (show ¬a.k=4 by omega),h9 c,h9 (show(a.k:Int)=1 by omega),d.gC c,<-d.c]
 ·obtain⟨v,j,_,_,l,_⟩:=h.pair q t d h.g2 c;unfold AY;rw[hZ (show ¬a.k=4 by omega),hZ (show ¬a.k=1 by omega),h9 c,hZ (show ¬(a.k:Int)=1 by omega),h9 (show(a.k:Int)=2 by omega)];unfold FT;by_cases e:Ab o.a 1 a.c.aB=true
  ·rw[h9 e,h9 e];have S:=Bp e;have D:=ZP (T:=s.clock-a.c.aK-o.a) j (by omega) (l (s.clock-a.c.aK-o.a));rw[D];rfl
  rw[hZ e,hZ e]
 ·obtain⟨v,j,_,_,l,_⟩:=h.pair q t d h.g3 c;obtain⟨_,L,G,_,_⟩:=Dw (k:=3) i.valid (by rw[i.kind];omega) rfl;unfold AY;rw[hZ (show ¬a.k=4 by omega),hZ (show ¬a.k=1 by omega),hZ (show ¬a.k=2 by omega),h9 c,hZ (show ¬(a.k:Int)=1 by omega),hZ (show ¬(a.k:Int)=2 by omega),h9 (show(a.k:Int)=3 by omega)];by_cases e:Ab o.a 0 2147483648=true
  ·rw[h9 e,h9 e,Z0 j G L (l _)]
  rw[hZ e,hZ e]
 ·unfold AY;rw[h9 c,hZ (show ¬(a.k:Int)=1 by omega),hZ (show ¬(a.k:Int)=2 by omega),hZ (show ¬(a.k:Int)=3 by omega),hZ (show ¬(a.k:Int)=5 by omega)];obtain⟨A,B,C⟩:=Yk y.c y.items 0 0 d.tick (by omega) (by omega);have M:=d.sum c;have U:=d.r0;have V:=d.r1;rw[<-d.c]at A B C;have r:a.nt.q=(CU a.c y.items 0 0).1:=by omega
  have E:a.nt.r=(CU a.c y.items 0 0).2:=by omega
  rw[r,E]
 obtain⟨v,j,Q,x,l,_⟩:=h.pair q t d h.g5 c;have w:=l (-1);rw[j5.2 (λP J=>by have:=(x P J).t0;simp;omega)]at w;obtain⟨R,H⟩:=QM j w Q x;have M:=E4 (k:=5) i.valid (by rw[i.kind];omega) rfl;unfold AY;rw[hZ (show ¬a.k=4 by omega),hZ (show ¬a.k=1 by omega),hZ (show ¬a.k=2 by omega),hZ (show ¬a.k=3 by omega),h9 c,hZ (show ¬(a.k:Int)=1 by omega),hZ (show ¬(a.k:Int)=2 by omega),hZ (show ¬(a.k:Int)=3 by omega),h9 (show(a.k:Int)=5 by omega),H.drawn (by omega)];rfl
theorem KW.hO{n:Int}{s:WS}{d:cT}{e:Int->List It}(a:KW n s d e)(h:n<4611686018427387904)(o:aO)(i:fU o): (Aw s o).2=Hg d o:=by
 unfold Hg;split
 ·rename_i c;exact a.query o c
 rename_i c;exact(OJ s d o a.j.rel ⟨c,i⟩ a.inv h).1
theorem dI: fW CY Bn:=⟨rfl,by simp[Bn],trivial,by simp[CY],by simp[CY]⟩
theorem Rt: KW 0 CY Bn (λ_=>[]):=⟨Ix,⟨by simp[CY],λ_ _=>rfl,λc a=>by simp[CY]at a⟩,⟨by simp[CY],λ_ _=>rfl,λc a=>by simp[CY]at a⟩,⟨by simp[CY],λ_ _=>rfl,λc a=>by simp[CY]at a⟩,⟨dI,λy d=>by simp[Bn]at d⟩⟩
theorem Qb(f m:Nat): 1<=(BM f m).length:=by
 cases f with
 | zero=>simp[BM]
 | succ f=>unfold BM;split <;> simp
theorem XS(f:Nat): ∀a,a<128 ^ (f+1)->a<128 ^ (BM f a).length/\∀c,c<(BM f a).length->(BM f a).getD c 0%128=a/128 ^ c%128/\((BM f a).getD c 0<128↔c+1=(BM f a).length)/\(BM f a).getD c 0<256:=by
 induction f with
 | zero =>
  intro a e;have n:a<128:=by simpa using e
  refine⟨by simpa[BM] using n,λc d=>?_⟩;have h:c=0:=by simp[BM]at d;exact d
  subst h;simp[BM];omega
 | succ f q =>
  intro a e;unfold BM;split
  ·rename_i k;refine⟨by simp;omega,λc d=>?_⟩;have h:c=0:=by simp at d;exact d
   subst h;simp;omega
  rename_i k;have o:a/128<128 ^ (f+1):=(kV (by omega)).2 (by rw[kt]at e;exact e);obtain⟨l,m⟩:=q (a/128) o;have r:=Qb f (a/128);refine⟨?_,λc d=>?_⟩
  ·rw[iA,kt];exact(kV (by omega)).1 l
  cases c with
  | zero =>
   rw[List.getD_cons_zero,iA,Nat.pow_zero,Nat.div_one];omega
  | succ c =>
   rw[iA]at d;obtain⟨i,b,j⟩:=m c (by omega);rw[List.getD_cons_succ,iA];refine⟨?_,by rw[b];omega,j⟩;rw[i,Nat.div_div_eq_div_mul,kt,ly]
theorem YY(f:Nat): ∀a c,1<=a->c<128 ^ a->(BM f c).length<=a:=by
 induction f with
 | zero=>intro a c d _;simp[BM];exact d
 | succ f j =>
  intro a c d e;unfold BM;split
  ·simp;exact d
  rename_i k;have l:2<=a:=by
   rcases ku a 2 with i | i
   ·have:a=1:=by omega
    subst this;simp at e;omega
   exact i
  obtain⟨h,rfl⟩:∃h,a=h+1:=⟨a-1,by omega⟩;have:=j h (c/128) (by omega) ((kV (by omega)).2 (by rw[kt]at e;exact e));simp;omega
theorem Zn(n:Int)(a:n<=9223372036854775807): (enc n).length<=9 :=
 YY 9 9 _ (by omega) (by have:(128:Nat) ^ 9=9223372036854775808:=(by decide);rw[this];omega)
theorem Ta(m i:Nat): m%128 ^ (i+1)=m%128 ^ i+(m/128 ^ i%128)*128 ^ i:=by
 rw[kt,Nat.mod_mul,ly]
theorem zPa(m i:Nat): m%128 ^ i ||| (m/128 ^ i%128)*128 ^ i=m%128 ^ (i+1):=by
 have a:(128:Nat) ^ i=2 ^ (7*i):=by rw[Nat.pow_mul]
 have c:m%128 ^ i<2 ^ (7*i):=by rw[<-a];exact Nat.mod_lt _ (Nat.pow_pos (by omega))
 rw[Ta];have:=Nat.shiftLeft_add_eq_or_of_lt c (m/128 ^ i%128);rw[Nat.shiftLeft_eq,<-a]at this;rw[Nat.or_comm,<-this,kT]
theorem Ji(l:List Nat): (AM l).size=l.length:=by
 unfold AM strOfNums;show(List.toArray _).size=_;simp
theorem Z3(l:List Nat)(i:Nat)(hi:i<l.length)(c:l.getD i 0<256)(h:i<(AM l).size): (((AM l)[i]'h).toNat:Int)=((l.getD i 0:Nat):Int):=by
 have a:(AM l)[i]'h=UInt8.ofNat (l.getD i 0):=by
  show(AM l).data[i]=_;unfold AM strOfNums;simp[List.getD_eq_getElem?_getD,hX hi]
 rw[a,UInt8.toNat_ofNat'];omega
theorem P3(l:List Nat)(k:Nat): (AM l).extract k (AM l).size=AM (l.drop k):=by
 rw[Ji];unfold AM strOfNums;rw[ByteArray.extract_mk];congr 2;rw[List.map_drop,List.map_drop];rw[iq (by simp)]
theorem UO(a b:Nat)(c:a<9223372036854775808)(d:b<9223372036854775808): bits .or .i64 (a:Int) (b:Int)=((a ||| b:Nat):Int):=by
 have e:a ||| b<2 ^ 63:=Nat.or_lt_two_pow (by omega) (by omega)
 show IntKind.i64.wrap ((BitVec.ofInt 64 (a:Int) ||| BitVec.ofInt 64 (b:Int)).toNat:Int)=_;rw[BitVec.toNat_or,ofInt_u64 a (by omega),ofInt_u64 b (by omega),ic];omega
structure aR (w:World) (r:Nat) (l:List Nat):Prop where
 aF:aD w r [.string (AM l),.bool false] 169
 len:l.length<=140737488355328
theorem aR.keeps{M:Nat->Prop}{w w':World}{a:Nat}{l:List Nat}(c:aR w a l)(d:aA M w w')(e:¬M a): aR w' a l:=⟨c.aF.keeps d e,c.len⟩
theorem Z9(m:Nat)(n:Int)(tl:List Nat)(w:World)(h:aR w m (enc n++tl))(ap:0<=n)(n1:n<=9223372036854775807):
  Calls prog 123 #[.pointer (some ⟨m,0,none⟩)] w λj S=>j=.returned (.tuple #[.int .i64 n,.bool true])/\aR S m tl/\aA (λa=>a=m) w S:=by
 obtain⟨c,rfl⟩:=jd ap;have F:enc (c:Int)=BM 9 c:=by unfold enc;rw[iH]
 have ak:c<128 ^ 9:=by have:(128:Nat) ^ 9=9223372036854775808:=(by decide);omega
 have G:c<9223372036854775808:=by omega
 have a1:=Zn (c:Int) n1;have C:=XS 9 c (by have:(128:Nat) ^ (9+1)=1180591620717411303424:=(by decide);omega);rw[<-F]at C;have al:=Qb 9 c;rw[<-F]at al;have c0:=h.aF.c0;have av:=h.aF.frozen;have O:(AM (enc (c:Int)++tl)).size=(enc (c:Int)).length+tl.length:=by rw[Ji,hY]
 have aj:=h.len;rw[hY]at aj
 have X:=Aa (show ∀a,a<(enc (c:Int)).length->∀h:a<(AM (enc (c:Int)++tl)).size,(((AM (enc (c:Int)++tl))[a]'h).toNat:Int)=(((enc (c:Int)).getD a 0:Nat):Int) from λa k aw=>by
    have j:(enc (c:Int)++tl).getD a 0=(enc (c:Int)).getD a 0:=by
     rw[List.getD_eq_getElem?_getD,List.getD_eq_getElem?_getD,iO k]
    rw[Z3 _ a (by rw[hY];omega) (by rw[j];exact(C.2 a k).2.2),j])
 have V:=Aa (show ∀a,a+1=(enc (c:Int)).length->(AM (enc (c:Int)++tl)).extract (a+1) (AM (enc (c:Int)++tl)).size=AM tl from λa k=>by
    rw[P3,k,List.drop_left])
 have I:=Aa C;have T:=Aa h.aF;have aa:=Aa (show tl.length<=140737488355328 by omega);clear h F C;generalize enc (c:Int)=E at *
 generalize ag:E.length=l at *
 generalize M:tl.length=ae at *
 generalize AM (E++tl)=ar at *
 obtain⟨SZ,o⟩:∃SZ:Nat,SZ=l+ae:=⟨_,rfl⟩;rw[<-o]at O;have Z:=Aa o;have ab:=Aa M;clear o ag M;go_enter func123,ntmps123;by_cases L:(SZ:Int)<9;all_goals
  go_wp2;clear L;go_loopw [4,13] (λaq H wr=>∃a:Nat,a<l/\H=.int .i64 a/\aq=.int .i64 ((c%128 ^ a:Nat):Int)/\wr=w) (λ_ H _=>9-(intOf H).toNat)
  case atStart=>exact⟨0,by omega,rfl,by rw[Nat.pow_zero,Nat.mod_one];rfl,rfl⟩
  case round =>
   obtain⟨a,k,rfl,rfl,rfl⟩:=hrel;have o:=Z.o;have a0:(a:Int)<(SZ:Int):=by omega
   have az:(a:Int)<9:=by omega
   have ay:(0:Int)<=(a:Int):=by omega
   have a3:IntKind.i64.wrap (7*(a:Int))=((7*a:Nat):Int):=by rw[ic];omega
   have ai:=X.o a k (by omega);obtain⟨i,P⟩:∃i,E.getD a 0=i:=⟨_,rfl⟩;obtain⟨D,s,Q⟩:=I.o.2 a k;rw[P]at D s Q ai;obtain⟨t,x⟩:∃t,c%128 ^ a=t:=⟨_,rfl⟩;obtain⟨d,z⟩:∃d,i%128=d:=⟨_,rfl⟩;obtain⟨u,B⟩:∃u,c%128 ^ (a+1)=u:=⟨_,rfl⟩;obtain⟨e,A⟩:∃e,d*128 ^ a=e:=⟨_,rfl⟩;have r:=zPa c a;rw[<-D,z,A,x,B]at r;have af:t<=c:=by rw[<-x];exact Nat.mod_le _ _
   have N:e<=c:=by
    rw[<-A,<-z,D];exact jI (Nat.mul_le_mul_right _ (Nat.mod_le _ _)) (Nat.div_mul_le_self _ _)
   have au:bits BinOp.and IntKind.u8 (i:Int) 127=(d:Int):=by
    have:=u8_and_nat i 127 Q (by omega);rw[nat_mask7,z]at this;exact this
   have am:wrap64 ((d:Int)*2 ^ (7*a))=(e:Int):=by
    have j:((d:Int)*2 ^ (7*a))=(e:Int):=by
     rw[<-A,Int.natCast_mul,Int.natCast_pow];congr 1;rw[Int.pow_mul];rfl
    rw[j];have:=ic (e:Int);unfold wrap64;have L:(e:Int)<9223372036854775808:=Int.ofNat_lt.2 (Nat.lt_of_le_of_lt N G);clear j r;omega
   have a2:wrap64 (d:Int)=(d:Int):=by
    have:=ic (d:Int);unfold wrap64;clear r am;omega
   have ah:=UO t e (Nat.lt_of_le_of_lt af G) (Nat.lt_of_le_of_lt N G);rw[r]at ah;have W:=Aa (show a+1=l->ar.extract (a+1) SZ=AM tl from λh=>by rw[<-O];exact V.o a h);have ad:=Aa (show a+1=l->u=c from λh=>by rw[<-B,h];exact Nat.mod_eq_of_lt I.o.1);have J:=Aa B;rw[x];clear D x z B A r P o;by_cases R:i<128
   ·have q:=s.1 R;have ax:=W.o q;have ao:=ad.o q;subst ao;have an:(i:Int)<128:=by omega
    have U:=Aa (T.o.setCell 0 (.string (AM tl)));have Y:=Aa ((aA.refl (λa=>a=m) wr).setCell (p:=⟨m,0,none⟩) (Or.inl rfl) (.string (AM tl)));clear s q ak;go_wp2;refine iN (v:=.tuple #[.int .i64 u,.bool true]) (by simp[results,results123,go_sem]) rfl ?_;exact⟨rfl,⟨U.o,by rw[ab.o];exact aa.o⟩,Y.o⟩
   have an:decide ((i:Int)<128)=false:=by simp;omega
   have q:a+1<l:=by
    have:¬(a+1=l):=λh=>R (s.2 h);omega
   clear s;go_wp2;go_roundw;case rel=>exact⟨a+1,q,by go_num,by first | (rw[J.o];done) | simp[J.o],by trivial⟩
   case measure=>simp[intOf];omega
theorem Gc(c:Nat)(w:World): Calls prog 124 #[.pointer (some ⟨c,0,none⟩),.bool true] w λa d=>a=.returned (.tuple #[])/\d=w:=by
 go_enter func124,ntmps124;go_wp2;go_end0;exact⟨rfl,rfl⟩
theorem EJ(a:Nat)(n lo hi:Int)(tl:List Nat)(w:World)(i:aR w a (enc n++tl))(t:0<=n)(n1:n<=9223372036854775807)(o:lo<=n)(q:n<=hi):
  Calls prog 77 #[.pointer (some ⟨a,0,none⟩),.int .i64 lo,.int .i64 hi] w λd k=>d=.returned (.int .i64 n)/\aR k a tl/\aA (λs=>s=a) w k:=by
 have r:Ab n lo hi=true:=by simp[Ab,o,q]
 go_enter func77,ntmps77;go_wp2_with fail
 refine(Z9 a n tl w i t n1).mono ?_;rintro d v ⟨rfl,e,j⟩;have m:=Aa e;have l:=Aa j;have u:=e.aF.c1;clear i e j;go_wp2_with fail
 refine(AK n lo hi _).mono ?_;rintro d h ⟨rfl,c⟩;rw[c,r];clear c h;go_wp2_with fail
 refine(Gc a _).mono ?_;rintro d h ⟨rfl,c⟩;rw[c];clear c h;go_wp2;go_ret;exact⟨rfl,m.o,l.o⟩
def D6: List Value->List Nat->List Int->List Value
 | cs,o::os,n::ns=>D6 (cs.set o (.int .i64 n)) os ns
 | cs,_,_=>cs
theorem Ut(a:List Nat): ∀(cs:List Value) (ns:List Int),(D6 cs a ns).length=cs.length:=by
 induction a with
 | nil=>intro cs ns;rfl
 | cons e a c =>
  intro cs ns;cases ns with
  | nil=>rfl
  | cons d ns=>show(D6 (cs.set e (.int .i64 d)) a ns).length=_;rw[c];simp
theorem WT(a:List Nat): ∀(cs:List Value) (ns:List Int) (o:Nat) (n:Int),a.length=ns.length->D6 cs (a++[o]) (ns++[n])=(D6 cs a ns).set o (.int .i64 n):=by
 induction a with
 | nil =>
  intro cs ns o n c;cases ns with
  | nil=>rfl
  | cons d ns=>simp at c
 | cons d a e =>
  intro cs ns o n c;cases ns with
  | nil=>simp at c
  | cons b ns =>
   show D6 (cs.set d (.int .i64 b)) (a++[o]) (ns++[n])=(D6 (cs.set d (.int .i64 b)) a ns).set o (.int .i64 n);exact e _ _ _ _ (by simpa using c)
theorem LB(j i:Nat)(d:List Nat)(ns:List Int)(cs:List Value)(T:TypeId)(B:Value)(base:Nat)(tl:List Nat)(w:World)(D:aR w j (Ae ns++tl))(A:w.ownsRow base 163 1 B d.length (C7 (at' i d)))(E:aD w i cs T)(hlen:d.length=ns.length)(M:∀h,h∈d->h<cs.length)(L:i≠j)(N:∀c,B.ownBlock=some c->c≠j/\c≠i)(J:∀e,e∈ns->0<=e/\e<=9223372036854775807)(a6:d.length<=1000):
  Calls prog 128 #[.pointer (some ⟨j,0,none⟩),B] w λk C=>k=.returned (.tuple #[])/\aR C j tl/\aD C i (D6 cs d ns) T/\aA (λc=>c=j\/c=i) w C:=by
 have ag:=Aa D;have ae:=Aa A;have W:=Aa E;have ad:=Aa M;have af:=Aa N;have aa:=Aa J;obtain⟨a7,a8,av,R⟩:=Dy A;have ak:=Aa R;clear D A E M N J R;subst av;generalize I:d.length=m at *
 have u:=Aa I;have n:=Aa hlen;clear I hlen;go_enter func128,ntmps128;go_wp2;go_loopw [8] (λc wr=>∃a:Nat,c=.int .i64 a/\a<=m/\Hid (aR wr j (Ae (ns.drop a)++tl))/\Hid (aD wr i (D6 cs (d.take a) (ns.take a)) T)/\Hid (aA (λc=>c=j\/c=i) w wr)) (λc _=>m-(intOf c).toNat)
 case atStart=>exact⟨0,rfl,iM _,ag,W,aA.refl _ _⟩
 case round =>
  obtain⟨a,rfl,a4,v,s,t⟩:=hrel;by_cases H:a<m
  ·obtain⟨g,ar,a3⟩:=ak.o (by omega);subst ar;have G:a<d.length:=by rw[u.o];exact H
   have o:a<ns.length:=by rw[<-n.o];exact H
   obtain⟨h,q⟩:∃h,d[a]?=some h:=⟨_,hX G⟩;obtain⟨e,l⟩:∃e,ns[a]?=some e:=⟨_,hX o⟩;have P:=F4 ae.o t.o (λc x aq=>by have:=af.o c x;rcases aq with k | k <;> omega);have ap:wr.cell? ⟨g,a,none⟩=some (.pointer (some ⟨i,h,none⟩)):=by
    rcases LS P with ⟨a0,_⟩ | ⟨az,ay,aw,ao⟩
    ·omega
    cases aw;exact ao a _ (by unfold C7 at';rw[iP,iP,q];rfl)
   obtain⟨S,U⟩:=aa.o e (iu l);have au:=ad.o h (iu q)
   have ab:=Aa (show aR wr j (enc e++(Ae (ns.drop (a+1))++tl)) by
      have:=v.o;rw[List.drop_eq_getElem_cons o,BN,List.append_assoc]at this;rw[hX o]at l;cases l
      exact this)
   have aj:=Aa (show D6 cs (d.take (a+1)) (ns.take (a+1))=(D6 cs (d.take a) (ns.take a)).set h (.int .i64 e) by
      rw[jg,jg,q,l]
      exact WT _ _ _ _ _ (by rw[iD,iD,u.o,<-n.o]))
   have a5:(0:Int)<=(a:Int):=by omega
   have F:(a:Int)<(m:Int):=by omega
   clear P q l G o;go_wp2_with fail
   refine(EJ j e 0 9223372036854775807 _ wr ab.o S U S U).mono ?_;rintro k ax ⟨rfl,O,z⟩;have ah:=Aa O;have r:=Aa (s.o.keeps z L);have Y:=Aa (t.o.trans z (λc x _=>.inl x));clear O z ap;obtain⟨V,Q⟩:∃V,(D6 cs (d.take a) (ns.take a))[h]?=some V:=⟨_,hX (by rw[Ut];exact au)⟩;have a1:=r.o.cell Q;have a2:=r.o.frozen h;have X:=Aa (r.o.setCell h (.int .i64 e));have ai:=Aa (ah.o.keeps ((aA.refl (λc=>c=i) ax).setCell (p:=⟨i,h,none⟩) (Or.inl rfl) (.int .i64 e)) (λk=>L k.symm));have Z:=Aa (Y.o.setCell (p:=⟨i,h,none⟩) (Or.inl (.inr rfl)) (.int .i64 e));clear Q;go_wp2;go_roundw;case rel=>exact⟨a+1,by go_num,by omega,ai,Aa (by rw[aj.o];exact X.o),Z⟩
   case measure=>simp[intOf];omega
  have F:a=m:=by omega
  subst F;have al:d.take a=d:=iq (by rw[u.o];exact il _);have am:ns.take a=ns:=iq (by rw[<-n.o];exact il _);have an:ns.drop a=[]:=List.drop_eq_nil_iff.2 (by rw[<-n.o];exact il _);rw[al,am]at s;rw[an]at v;go_wp2;go_end0;exact⟨rfl,v.o,s.o,t.o⟩
theorem Ny(w:World)(m:TypeId)(b c i:Nat)(s:ByteArray)(cs:List Value)(d:cs=((s.extract 0 (Nat.min s.size c)).data.map λ(b:UInt8)=>Value.int .u8 (b.toNat:Int)).toList)(j:∀a,a<cs.length->(w.cell? ⟨b,a,none⟩).isSome=true)(k:∀a,a<cs.length->w.frozen? ⟨b,a,none⟩=false):
  (Builtin.copy_ #[129,9] m #[.slice (some ⟨b,0,none⟩) c i,.string s]).run prog w=.ok (goInt (Nat.min s.size c)) (w.setCells b 0 cs):=by
 obtain⟨t,l,o,q,r⟩:=jh QX
 have e:=k7 (P:=prog) b 0 cs 0 w (by simpa using j) (by simpa using k) (λu h=>by
    rw[d,Array.toList_map]at h;obtain⟨n,_,rfl⟩:=iE.1 h
    rfl)
 subst d;simp[Builtin.copy_,jY underlying129,Builtin.lenOf,Builtin.firstCells,sizeOf,typeInfo,l];simp at e;rw[e];rfl
theorem PH: (prog.info? 166).map (·.size)=some 8:=by kernel_rfl
theorem WN(rest:List Nat): B7 Bt=(((AM (Bt++rest)).extract 0 (Nat.min (AM (Bt++rest)).size 8)).data.map λ(b:UInt8)=>Value.int .u8 (b.toNat:Int)).toList:=by
 have a:Nat.min (AM (Bt++rest)).size 8=8:=by
  rw[Ji,hY];exact lp (by show 8<=8+rest.length;omega)
 rw[a];unfold AM strOfNums;rw[ByteArray.extract_mk];rw[iy,iy,kD];rw[iX (by simp[Bt])];clear a;simp[Bt,B7]
theorem Lx(rest:List Nat)(w:World): Calls prog 122 #[.string (AM (Bt++rest))] w λT X=>T=.returned (.agg (B7 Bt).toArray)/\lO w X:=by
 go_enter func122,ntmps122;have k:=Aa (show aD ((w.alloc (.cells #[.int .u8 0,.int .u8 0,.int .u8 0,.int .u8 0,.int .u8 0,.int .u8 0,.int .u8 0,.int .u8 0] 166)).alloc (.cells #[.int .u8 0,.int .u8 0,.int .u8 0,.int .u8 0,.int .u8 0,.int .u8 0,.int .u8 0,.int .u8 0] 166)) (w.heap.size+1) [.int .u8 0,.int .u8 0,.int .u8 0,.int .u8 0,.int .u8 0,.int .u8 0,.int .u8 0,.int .u8 0] 166 from aD.newAt (by simp) _ _);have r:=Aa (show aD ((w.alloc (.cells #[.int .u8 0,.int .u8 0,.int .u8 0,.int .u8 0,.int .u8 0,.int .u8 0,.int .u8 0,.int .u8 0] 166)).alloc (.cells #[.int .u8 0,.int .u8 0,.int .u8 0,.int .u8 0,.int .u8 0,.int .u8 0,.int .u8 0,.int .u8 0] 166)) w.heap.size [.int .u8 0,.int .u8 0,.int .u8 0,.int .u8 0,.int .u8 0,.int .u8 0,.int .u8 0,.int .u8 0] 166 from(aD.new w _ _).alloc _);have q:=Aa (show lO w ((w.alloc (.cells #[.int .u8 0,.int .u8 0,.int .u8 0,.int .u8 0,.int .u8 0,.int .u8 0,.int .u8 0,.int .u8 0] 166)).alloc (.cells #[.int .u8 0,.int .u8 0,.int .u8 0,.int .u8 0,.int .u8 0,.int .u8 0,.int .u8 0,.int .u8 0] 166)) from((aA.refl _ _).alloc _).alloc _);obtain⟨h,n⟩:∃h,((w.alloc (.cells #[.int .u8 0,.int .u8 0,.int .u8 0,.int .u8 0,.int .u8 0,.int .u8 0,.int .u8 0,.int .u8 0] 166)).alloc (.cells #[.int .u8 0,.int .u8 0,.int .u8 0,.int .u8 0,.int .u8 0,.int .u8 0,.int .u8 0,.int .u8 0] 166))=h:=⟨_,rfl⟩;rw[n]at k r q;obtain⟨e,l⟩:∃e,h.setCells (w.heap.size+1) 0 (B7 Bt)=e:=⟨_,rfl⟩;have U:(Builtin.copy_ #[129,9] 3 #[.slice (some ⟨w.heap.size+1,0,none⟩) 8 8,.string (AM (Bt++rest))]).run prog ((w.alloc (.cells #[.int .u8 0,.int .u8 0,.int .u8 0,.int .u8 0,.int .u8 0,.int .u8 0,.int .u8 0,.int .u8 0] 166)).alloc (.cells #[.int .u8 0,.int .u8 0,.int .u8 0,.int .u8 0,.int .u8 0,.int .u8 0,.int .u8 0,.int .u8 0] 166))=.ok (goInt (Nat.min (AM (Bt++rest)).size 8)) e:=by
  rw[n,<-l];exact Ny h 3 (w.heap.size+1) 8 8 _ _ (WN rest) (λj V=>by rw[k.o.cell (v:=.int .u8 0) (by have:j<8:=V;match j,this with | 0,_=>rfl | 1,_=>rfl | 2,_=>rfl | 3,_=>rfl | 4,_=>rfl | 5,_=>rfl | 6,_=>rfl | 7,_=>rfl)];rfl) (λj _=>k.o.frozen j)
 have d:=Aa (show aD e (w.heap.size+1) (B7 Bt) 166 by
    rw[<-l]
    exact(((((((k.o.setCell 0 (.int .u8 115)).setCell 1 (.int .u8 107)).setCell 2 (.int .u8 101)).setCell 3 (.int .u8 116)).setCell 4 (.int .u8 99)).setCell 5 (.int .u8 104)).setCell 6 (.int .u8 32)).setCell 7 (.int .u8 49))
 have o:aA (λa=>a=w.heap.size+1) h e:=by rw[<-l];exact aA.setCells (M:=λa=>a=w.heap.size+1) (b:=w.heap.size+1) (Or.inl rfl) _ _ _ (aA.refl _ _)
 have u:=Aa (q.o.trans o (λa Y Z=>by omega));have c:=Aa (r.o.keeps o (by omega));have A:=d.o.cell (i:=0) rfl;have B:=d.o.cell (i:=1) rfl;have C:=d.o.cell (i:=2) rfl;have D:=d.o.cell (i:=3) rfl;have E:=d.o.cell (i:=4) rfl;have F:=d.o.cell (i:=5) rfl;have G:=d.o.cell (i:=6) rfl;have H:=d.o.cell (i:=7) rfl;have I:=c.o.cell (i:=0) rfl;have J:=c.o.cell (i:=1) rfl;have L:=c.o.cell (i:=2) rfl;have N:=c.o.cell (i:=3) rfl;have O:=c.o.cell (i:=4) rfl;have P:=c.o.cell (i:=5) rfl;have Q:=c.o.cell (i:=6) rfl;have R:=c.o.cell (i:=7) rfl;have S:=c.o.frozen;have x:=Aa (((((((((u.o.setCell (p:=⟨w.heap.size,0,none⟩) (Or.inr (il _)) (.int .u8 115)).setCell (p:=⟨w.heap.size,1,none⟩) (Or.inr (il _)) (.int .u8 107)).setCell (p:=⟨w.heap.size,2,none⟩) (Or.inr (il _)) (.int .u8 101)).setCell (p:=⟨w.heap.size,3,none⟩) (Or.inr (il _)) (.int .u8 116)).setCell (p:=⟨w.heap.size,4,none⟩) (Or.inr (il _)) (.int .u8 99)).setCell (p:=⟨w.heap.size,5,none⟩) (Or.inr (il _)) (.int .u8 104)).setCell (p:=⟨w.heap.size,6,none⟩) (Or.inr (il _)) (.int .u8 32)).setCell (p:=⟨w.heap.size,7,none⟩) (Or.inr (il _)) (.int .u8 49)));have t:=Aa (show aD _ w.heap.size (B7 Bt) 166 from(((((((c.o.setCell 0 (.int .u8 115)).setCell 1 (.int .u8 107)).setCell 2 (.int .u8 101)).setCell 3 (.int .u8 116)).setCell 4 (.int .u8 99)).setCell 5 (.int .u8 104)).setCell 6 (.int .u8 32)).setCell 7 (.int .u8 49));clear n l o;go_wp2;clear A B C D E F G H I J L N O P Q R S d c U;generalize(((((((e.setCell ⟨w.heap.size,0,none⟩ (.int .u8 115)).setCell ⟨w.heap.size,1,none⟩ (.int .u8 107)).setCell ⟨w.heap.size,2,none⟩ (.int .u8 101)).setCell ⟨w.heap.size,3,none⟩ (.int .u8 116)).setCell ⟨w.heap.size,4,none⟩ (.int .u8 99)).setCell ⟨w.heap.size,5,none⟩ (.int .u8 104)).setCell ⟨w.heap.size,6,none⟩ (.int .u8 32)).setCell ⟨w.heap.size,7,none⟩ (.int .u8 49)=m at *
 have z:=Aa (show(loadVar 166 ⟨w.heap.size,0,none⟩).run prog m=.ok (.agg (B7 Bt).toArray) m from k9 m w.heap.size 0 166 (B7 Bt) _ (λj s W=>by rw[ja];exact t.o.cell W) underlying166 rfl (by rw[PH];rfl));refine iN (v:=.agg (B7 Bt).toArray) (by simp[results,results122,asAddr,z.o]) rfl ?_;exact⟨rfl,x.o⟩
theorem Xe(w:World): (Op.equalIn 10000 166 (.agg (B7 Bt).toArray) (.agg (B7 Bt).toArray)).run prog w=.ok true w:=by kernel_rfl
theorem Sn(rest:List Nat)(w:World)(m:rest.length<=140737488355328): Calls prog 76 #[.string (AM (Bt++rest))] w λa r=>∃e,a=.returned (.pointer (some ⟨e,0,none⟩))/\w.heap.size<=e/\aR r e rest/\lO w r:=by
 have j:(AM (Bt++rest)).extract 8 (AM (Bt++rest)).size=AM rest:=by
  rw[P3];rfl
 have d:(AM (Bt++rest)).size=8+rest.length:=by rw[Ji,hY];rfl
 go_enter func76,ntmps76;go_wp2_with fail
 refine(Lx rest w).mono ?_;rintro a z ⟨rfl,k⟩;have h:=Aa k;clear k;go_wp2_with fail
 have hF:(Value.string ⟨#[115,107,101,116,99,104,32,49]⟩)=.string (AM (Bt++[])):=by kernel_rfl
 rw[hF];refine(Lx [] z).mono ?_;rintro a s ⟨rfl,l⟩;have i:=Aa (h.o.then l);have A:=Xe s;clear l h hF;obtain⟨q,c⟩:∃q,AM (Bt++rest)=q:=⟨_,rfl⟩;rw[c]at j d;rw[c];clear c;have t:=Aa m;obtain⟨o,n⟩:∃o,rest.length=o:=⟨_,rfl⟩;rw[n]at d m;clear n;rw[d]at j;have v:=Aa (aD.new s [.string (AM rest),.bool false] 169);have u:=Aa (i.o.alloc (.cells #[.string (AM rest),.bool false] 169));have x:=i.o.size;go_wp2;go_ret;exact⟨_,rfl,x,⟨v.o,t.o⟩,u.o⟩
def Gz(c:Cfg): Cfg:={ EF with kind:=c.kind }
def FV(c:Cfg): Cfg:={ EF with kind:=c.kind,aK:=c.aK,bF:=c.bF,cap:=c.cap }
def De(k:Nat)(c:Cfg): Cfg:=match k with
 | 1=>{ FV c with k:=c.k,aB:=c.aB }
 | 2=>{ FV c with bits:=c.bits,aB:=c.aB }
 | 3=>{ FV c with rows:=c.rows,width:=c.width,aM:=c.aM,aB:=c.aB }
 | 4=>{ FV c with degree:=c.degree,half:=c.half,mark:=c.mark }
 | _=>{ FV c with degree:=c.degree,half:=c.half,mark:=c.mark,size:=c.size }
def Er(p:Nat)(d c:Cfg): Cfg:={ d with bV:=if 1<=p then c.bV else 0,bW:=if 1<=p then c.bW else 0,cG:=if 2<=p then c.cG else 0,cH:=if 2<=p then c.cH else 0,cQ:=if 3<=p then c.cQ else 0,cR:=if 3<=p then c.cR else 0 }
def Al(k:Nat)(c:Cfg): Cfg:=Er (Bb k c).toNat (De k c) c
theorem XF(c:Cfg): D6 EF.cells [0] [c.kind]=(Gz c).cells:=rfl
theorem Up(c:Cfg): D6 (Gz c).cells [1,2,3] ([1,2,3].map c.num)=(FV c).cells:=rfl
theorem Wd(k:Nat)(c:Cfg)(d:1<=k)(e:k<=5): D6 (FV c).cells (Ch k) ((Ch k).map c.num)=(De k c).cells:=by
 rcases As d e with a | a | a | a | a <;> subst a <;> rfl
theorem UX(k p:Nat)(c:Cfg)(d:1<=k)(e:k<=5)(i:p<=3): D6 (De k c).cells (Ba p) ((Ba p).map c.num)=(Er p (De k c) c).cells:=by
 have h:p=0\/p=1\/p=2\/p=3:=by omega
 rcases As d e with a | a | a | a | a <;> subst a <;> rcases h with a | a | a | a <;> subst a <;> rfl
theorem Uz(k:Nat)(c:Cfg)(d:1<=k)(e:k<=5): Bb k (De k c)=Bb k c:=by
 rcases As d e with a | a | a | a | a <;> subst a <;> rfl
theorem ZX(k p:Nat)(c:Cfg)(a:Bb k c=p): Er p (De k c) c=Al k c:=by unfold Al;rw[a];rfl
theorem zLq(c:Cfg): c.cells.toArray.all (·.oneCell')=true:=by simp[Cfg.cells,Value.oneCell']
theorem N3{w:World}{b:Nat}{e:List Value}(c:Cfg)(a:aD w b e 46)(k:e.length=20): (Eu 46 (.pointer (some ⟨b,0,none⟩)) (.agg c.cells.toArray)).run prog w=.ok .skip (w.setCells b 0 c.cells):=by
 unfold Eu;have i:w.there b 0 c.cells.toArray.size:=by
  intro d h;have j:d<20:=h;rw[ja];exact⟨a.some (by omega),a.frozen d⟩
 rw[jm,k8 _ b 0 46 c.cells.toArray i (by rw[KG];rfl) (zLq c),lg];rfl
theorem zN1: (prog.info? 75).map (·.size)=some 6:=by kernel_rfl
theorem Qs(cs:List Value): ∀a:List Value,a.length=cs.length->over a 0 cs=cs:=λa c=>by
 unfold over;rw[jM,jt,ja,List.drop_eq_nil_iff.2 (by omega),iz]
structure LC (w:World) (r cb:Nat) (d:Cfg) (tl:List Nat) (w':World):Prop where
 cfg:aD w' cb d.cells 46
 hH:aD w' w.heap.size EF.cells 46
 hK:aD w' (w.heap.size+1) [.nilFunc,.nilFunc,.nilFunc,.nilFunc,.nilFunc,.nilFunc] 75
 rd:aR w' r tl
 kp:aA (λi=>i=r) w w'
 gX:cb=w.heap.size+1+1
 rl:r<w.heap.size
theorem LC.still{w:World}{h d:Nat}{e:Cfg}{tl:List Nat}{w' i:World}(a:LC w h d e tl w')(c:lO w' i): LC w h d e tl i :=
 ⟨a.cfg.keeps c id,a.hH.keeps c id,a.hK.keeps c id,a.rd.keeps c id,a.kp.trans c (λ_ a _=>a.elim),a.gX,a.rl⟩
theorem Kp{w:World}{h e:Nat}{l d':Cfg}{d:List Nat}{ns:List Int}{tl:List Nat}{w':World}{k:Value}{base:Nat}(a:LC w h e l (Ae ns++tl) w')(z:w'.ownsRow base 163 1 k (at' e d).length (C7 (at' e d)))(s:D6 l.cells d ns=d'.cells)(hlen:d.length=ns.length)(x:∀j,j∈d->j<20)(A:∀c,k.ownBlock=some c->w.heap.size+1+1<c)(v:∀m,m∈ns->0<=m/\m<=9223372036854775807)(t:d.length<=1000):
  Calls prog 128 #[.pointer (some ⟨h,0,none⟩),k] w' λn r=>n=.returned (.tuple #[])/\LC w h e d' tl r/\aA (λc=>c=h\/c=e) w' r:=by
 have C:=a.rl;have D:=a.gX;refine(LB h e d ns l.cells 46 k base tl w' a.rd (by have:=z;unfold at' at this ⊢;rw[im]at this;exact this) a.cfg hlen (λj u=>x j u) (by omega) (λc q=>by have:=A c q;omega) v t).mono ?_;rintro n F ⟨rfl,B,o,i⟩;rw[s]at o;exact⟨rfl,⟨o,a.hH.keeps i (by omega),a.hK.keeps i (by omega),B,a.kp.trans i (λc q E=>by omega),a.gX,a.rl⟩,i⟩
attribute [local go_sem ↓] AN JC
attribute [local go_sem] AO
theorem Sd(u:Nat)(c:Cfg)(k:Nat)(tl:List Nat)(w:World)(h:aR w u (Ae (BR k c)++tl))(b6:c.kind=k)(m:1<=k)(s:k<=5)(di:0<=Bb k c)(dj:Bb k c<=3)(t:∀o,o∈BR k c->0<=o/\o<=9223372036854775807)(G:Ak (Al k c)=true):
  Calls prog 125 #[.pointer (some ⟨u,0,none⟩)] w λl a3=>l=.returned (.tuple #[(Al k c).val,.agg (B1 k).toArray,.bool true])/\aR a3 u tl/\aA (λd=>d=u) w a3:=by
 have cm:=Aa (show ∃o:Nat,Bb k c=o/\o<=3 from⟨(Bb k c).toNat,by omega,by omega⟩);obtain⟨r,au,av⟩:=cm.o;have bo:=Aa au;have J:=Aa (show BR k c=[c.kind]++([1,2,3].map c.num++((Ch k).map c.num++(Ba r).map c.num)) by unfold BR;rw[au,iH];rfl);have S:=Aa t;have cq:=Aa G;have ba:=Aa b6;obtain⟨C,D⟩:∃C,C=(((w.alloc (.cells EF.cells.toArray 46)).alloc (.cells #[.nilFunc,.nilFunc,.nilFunc,.nilFunc,.nilFunc,.nilFunc] 75)).alloc (.cells EF.cells.toArray 46)).alloc (.cells (C7 (at' (w.heap.size+1+1) [0])).toArray 163):=⟨_,rfl⟩;have ap:lO w C:=by rw[D];exact((((aA.refl _ _).alloc _).alloc _).alloc _).alloc _
 have bg:=Aa (show LC w u (w.heap.size+1+1) EF (Ae [c.kind]++(Ae ([1,2,3].map c.num++((Ch k).map c.num++(Ba r).map c.num))++tl)) C from
    ⟨by rw[D];exact(aD.newAt (by simp) _ _).alloc _,by rw[D];exact(((aD.new w _ _).alloc _).alloc _).alloc _,by rw[D];exact((aD.newAt (by simp) _ _).alloc _).alloc _,by
       have:=h.keeps ap id;rw[J.o,By,List.append_assoc]at this
       exact this,ap.mono (λ_ _ h=>h.elim),rfl,h.aF.lt⟩)
 have bn:=Aa (show C.ownsRow (w.heap.size+1+1+1) 163 1 (.slice (some ⟨w.heap.size+1+1+1,0,none⟩) 1 1) (at' (w.heap.size+1+1) [0]).length (C7 (at' (w.heap.size+1+1) [0])) by
    have de:(((w.alloc (.cells EF.cells.toArray 46)).alloc (.cells #[.nilFunc,.nilFunc,.nilFunc,.nilFunc,.nilFunc,.nilFunc] 75)).alloc (.cells EF.cells.toArray 46)).heap.size=w.heap.size+1+1+1:=by simp
    have:=FI (w:=((w.alloc (.cells EF.cells.toArray 46)).alloc (.cells #[.nilFunc,.nilFunc,.nilFunc,.nilFunc,.nilFunc,.nilFunc] 75)).alloc (.cells EF.cells.toArray 46)) (w':=C) (ps:=at' (w.heap.size+1+1) [0]) (n:=1) rfl (by omega) (by rw[D];exact iJ _ _);rw[de]at this
    exact this)
 have bv:=Aa (show(((w.alloc (.cells #[.int .i64 0,.int .i64 0,.int .i64 0,.int .i64 0,.int .i64 0,.int .i64 0,.int .i64 0,.int .i64 0,.int .i64 0,.int .i64 0,.int .i64 0,.int .i64 0,.int .i64 0,.int .i64 0,.int .i64 0,.int .i64 0,.int .i64 0,.int .i64 0,.int .i64 0,.int .i64 0] 46)).alloc (.cells #[.nilFunc,.nilFunc,.nilFunc,.nilFunc,.nilFunc,.nilFunc] 75)).alloc (.cells #[.int .i64 0,.int .i64 0,.int .i64 0,.int .i64 0,.int .i64 0,.int .i64 0,.int .i64 0,.int .i64 0,.int .i64 0,.int .i64 0,.int .i64 0,.int .i64 0,.int .i64 0,.int .i64 0,.int .i64 0,.int .i64 0,.int .i64 0,.int .i64 0,.int .i64 0,.int .i64 0] 46)).alloc (.cells #[.pointer (some ⟨w.heap.size+1+1,0,none⟩)] 163)=C from D.symm);clear D ap h t G b6 au di dj;go_enter func125,ntmps125;go_wp2_with fail
 rw[bv.o];refine(Kp (d':=Gz c) bg.o bn.o (XF c) rfl (by simp) (λd j=>by have:w.heap.size+1+1+1=d:=(by simpa[Value.ownBlock] using j);omega) (λo t=>S.o o (by rw[J.o];exact ig.2 (.inl t))) (by simp)).mono ?_;rintro l cb ⟨rfl,b7,cu⟩;have R:=Aa b7;clear b7 cu bg bn bv;generalize b1:w.heap.size+1+1=q at *
 have A:=Aa b1;have c0:cb.cell? ⟨q,0,none⟩=some (.int .i64 c.kind):=R.o.cfg.cell rfl;clear b1;go_wp2_with fail
 refine(PE c.kind k cb ba.o m s).mono ?_;rintro l H ⟨rfl,ak⟩;unfold B1 fn;have af:=Aa (aD.new H [.func (.func (Bu k)) #[] #[],.func (.func (Bg k)) #[] #[],.func (.func (Bh k)) #[] #[],.func (.func (AR k)) #[] #[],.func (.func (AW k)) #[] #[],.func (.func (Bo k)) #[] #[]] 75);have bc:=Aa (R.o.still (ak.alloc (.cells #[.func (.func (Bu k)) #[] #[],.func (.func (Bg k)) #[] #[],.func (.func (Bh k)) #[] #[],.func (.func (AR k)) #[] #[],.func (.func (AW k)) #[] #[],.func (.func (Bo k)) #[] #[]] 75)));have d5:q<H.heap.size:=(R.o.cfg.keeps ak id).lt;have Z:=Aa (show q+1<=H.heap.size by omega);clear ak c0 R;go_wp2_with fail
 generalize P:H.heap.size=e at *
 generalize H.alloc (.cells #[.func (.func (Bu k)) #[] #[],.func (.func (Bg k)) #[] #[],.func (.func (Bh k)) #[] #[],.func (.func (AR k)) #[] #[],.func (.func (AW k)) #[] #[],.func (.func (Bo k)) #[] #[]] 75)=a4 at *
 clear P H;refine(Nz q a4).mono ?_;rintro l d6 ⟨b9,rfl,V,al⟩;obtain⟨dk,dn,Q,_⟩:=Dy V;subst Q;have bh:=Aa (show ∀d,(Value.slice dk (at' q [1,2,3]).length dn).ownBlock=some d->a4.heap.size<=d from λd j=>(V.lt d j).1);have bd:=Aa (bc.o.still al);have bq:=Aa (af.o.keeps al id);have bx:=Aa (show q+1<a4.heap.size from by have:=af.o.lt;omega);have bk:=Aa V;clear V al bc af;go_wp2_with fail
 refine(Kp (d':=FV c) (ns:=[1,2,3].map c.num) (tl:=Ae ((Ch k).map c.num++(Ba r).map c.num)++tl) (by have:=bd.o;rw[By,List.append_assoc]at this;exact this) bk.o (Up c) (by simp) (by simp) (λd j=>by have m:=bh.o d j;have N:=bx.o;have O:=A.o;omega) (λo t=>S.o o (by rw[J.o];exact ig.2 (.inr (ig.2 (.inl t))))) (by simp)).mono ?_;rintro l a5 ⟨rfl,aq,b3⟩;have aa:=Aa aq;have ag:=Aa (bq.o.keeps b3 (by have m:=Z.o;have N:=aq.rl;have O:=A.o;omega));clear aq b3 bd bq bk bh bx;have dg:=ag.o.c1;have cx:=OM k m s;go_wp2_with fail
 refine(Pp k q a5 m s).mono ?_;rintro l d7 ⟨b9,rfl,W,am⟩;obtain⟨dl,dp,Q,_⟩:=Dy W;subst Q;have bi:=Aa (show ∀d,(Value.slice dl (at' q (Ch k)).length dp).ownBlock=some d->a5.heap.size<=d from λd j=>(W.lt d j).1);have be:=Aa (aa.o.still am);have br:=Aa (ag.o.keeps am id);have bz:=Aa (show q<a5.heap.size from aa.o.cfg.lt);have bl:=Aa W;clear W am aa ag dg cx;go_wp2_with fail
 refine(Kp (d':=De k c) (ns:=(Ch k).map c.num) (tl:=Ae ((Ba r).map c.num)++tl) (by have:=be.o;rw[By,List.append_assoc]at this;exact this) (by have:=bl.o;exact this) (Wd k c m s) (by simp) (Pi k) (λd j=>by have m:=bi.o d j;have N:=bz.o;have O:=A.o;omega) (λo t=>S.o o (by rw[J.o];exact ig.2 (.inr (ig.2 (.inr (ig.2 (.inl t))))))) (by unfold Ch;split <;> simp)).mono ?_;rintro l d0 ⟨rfl,ar,b4⟩;have ab:=Aa ar;have ah:=Aa (br.o.keeps b4 (by have m:=Z.o;have N:=ar.rl;have O:=A.o;omega));clear ar b4 be br bl bi bz;have dh:=ah.o.c2;obtain⟨dc,ct⟩:=CE ab.o.cfg 20 rfl;have cy:=OX k m s;have cw:(if (3:Int)<(r:Int) then(3:Int) else(r:Int))=(r:Int):=by rw[hZ (by omega)]
 go_wp2_with fail
 refine(Ph k (De k c) d0 m s).mono ?_;rintro l a6 ⟨rfl,an⟩;rw[Uz k c m s,bo.o];have ad:=Aa (ab.o.still an);have bs:=Aa (ah.o.keeps an id);clear an ab ah dh cy dc ct;go_wp2_with fail
 refine(OR q r a6 av).mono ?_;rintro l d8 ⟨b9,rfl,X,ao⟩;obtain⟨dm,dq,Q,_⟩:=Dy X;subst Q;have bj:=Aa (show ∀d,(Value.slice dm (at' q (Ba r)).length dq).ownBlock=some d->a6.heap.size<=d from λd j=>(X.lt d j).1);have bf:=Aa (ad.o.still ao);have bt:=Aa (bs.o.keeps ao id);have b0:=Aa (show q<a6.heap.size from ad.o.cfg.lt);have bm:=Aa X;clear X ao ad bs cw;go_wp2_with fail
 refine(Kp (d':=Er r (De k c) c) (ns:=(Ba r).map c.num) (tl:=tl) bf.o (by have:=bm.o;exact this) (UX k r c m s av) (by simp) (OK r av) (λd j=>by have m:=bj.o d j;have N:=b0.o;have O:=A.o;omega) (λo t=>S.o o (by rw[J.o];exact ig.2 (.inr (ig.2 (.inr (ig.2 (.inr t))))))) (by simp[Ba];omega)).mono ?_;rintro l d1 ⟨rfl,U,b5⟩;rw[ZX k r c bo.o]at U;have ae:=Aa U;have bu:=Aa (bt.o.keeps b5 (by have m:=Z.o;have N:=U.rl;have O:=A.o;omega));clear U b5 bf bt bm bj b0;obtain⟨aw,aj⟩:=CE ae.o.cfg 20 rfl;have a9:=Aa (show(Al k c).kind=k by have:=ba.o;rcases As m s with l | l | l | l | l <;> subst l <;> exact this);obtain⟨a,d4,_,_,cr,cs⟩:=Fw cq.o;have cv:a=k:=by have:=a9.o;omega
 subst cv;go_wp2_with fail
 refine(L3 (Al a c) a d1 a9.o m s cr cs).mono ?_;rintro l a7 ⟨rfl,P⟩;unfold B1 fn;have E:=Aa (ae.o.still P);have z:=Aa (bu.o.keeps P id);clear P aw aj ae bu;have ax:=z.o.cell (i:=0) rfl;have ay:=z.o.cell (i:=1) rfl;have az:=z.o.cell (i:=2) rfl;have a0:=z.o.cell (i:=3) rfl;have a1:=z.o.cell (i:=4) rfl;have a2:=z.o.cell (i:=5) rfl;have dz:=z.o.frozen;have d2:=A.o;have d3:=E.o.rl;have cp:=Aa (((((((z.o.setCell 0 (.func (.func (Bu a)) #[] #[])).setCell 1 (.func (.func (Bg a)) #[] #[])).setCell 2 (.func (.func (Bh a)) #[] #[])).setCell 3 (.func (.func (AR a)) #[] #[])).setCell 4 (.func (.func (AW a)) #[] #[])).setCell 5 (.func (.func (Bo a)) #[] #[])));have ci:=Aa (show aA (λd=>d=e) a7 _ from(((((((aA.refl (λd=>d=e) a7).setCell (p:=⟨e,0,none⟩) (Or.inl rfl) (.func (.func (Bu a)) #[] #[])).setCell (p:=⟨e,1,none⟩) (Or.inl rfl) (.func (.func (Bg a)) #[] #[])).setCell (p:=⟨e,2,none⟩) (Or.inl rfl) (.func (.func (Bh a)) #[] #[])).setCell (p:=⟨e,3,none⟩) (Or.inl rfl) (.func (.func (AR a)) #[] #[])).setCell (p:=⟨e,4,none⟩) (Or.inl rfl) (.func (.func (AW a)) #[] #[])).setCell (p:=⟨e,5,none⟩) (Or.inl rfl) (.func (.func (Bo a)) #[] #[])));go_wp2_with fail
 generalize(((((a7.setCell ⟨e,0,none⟩ (.func (.func (Bu a)) #[] #[])).setCell ⟨e,1,none⟩ (.func (.func (Bg a)) #[] #[])).setCell ⟨e,2,none⟩ (.func (.func (Bh a)) #[] #[])).setCell ⟨e,3,none⟩ (.func (.func (AR a)) #[] #[])).setCell ⟨e,4,none⟩ (.func (.func (AW a)) #[] #[])).setCell ⟨e,5,none⟩ (.func (.func (Bo a)) #[] #[])=wc at *
 clear ax ay az a0 a1 a2 dz;have L:=Aa (ci.o.drew);have cd:=Aa (show aD wc.drew q (Al a c).cells 46 from E.o.cfg.keeps L.o (show ¬(q=e) by omega));have bp:=Aa (show aD wc.drew w.heap.size EF.cells 46 from E.o.hH.keeps L.o (show ¬(w.heap.size=e) by omega));have co:=Aa (show aD wc.drew (w.heap.size+1) [.nilFunc,.nilFunc,.nilFunc,.nilFunc,.nilFunc,.nilFunc] 75 from E.o.hK.keeps L.o (show ¬(w.heap.size+1=e) by omega));have cn:=Aa (show aR wc.drew u tl from E.o.rd.keeps L.o (show ¬(u=e) by omega));have cj:=Aa (show aA (λd=>d=u) w wc.drew from E.o.kp.trans L.o (λd j b8=>by have b2:d=e:=j;omega));have B:=Aa (show aD wc.drew e [.func (.func (Bu a)) #[] #[],.func (.func (Bg a)) #[] #[],.func (.func (Bh a)) #[] #[],.func (.func (AR a)) #[] #[],.func (.func (AW a)) #[] #[],.func (.func (Bo a)) #[] #[]] 75 from cp.o);obtain⟨aw,aj⟩:=CE cd.o 20 rfl;have db:=N3 (Al a c) bp.o rfl;have ai:=aD.setCells (Al a c).cells 0 wc.drew _ bp.o (by show 0+20<=20;omega);rw[Qs _ _ (by rfl)]at ai;have T:aA (λd=>d=w.heap.size) wc.drew (wc.drew.setCells w.heap.size 0 (Al a c).cells):=aA.setCells (M:=λd=>d=w.heap.size) (b:=w.heap.size) (Or.inl rfl) _ _ _ (aA.refl _ _);have bb:=Aa T;have cc:=Aa ai;have F:=Aa (B.o.keeps T (show ¬(e=w.heap.size) by omega));have x:=Aa (co.o.keeps T (show ¬(w.heap.size+1=w.heap.size) by omega));generalize wc.drew.setCells w.heap.size 0 (Al a c).cells=a8 at *
 clear ai T;have ax:wc.cell? ⟨e,0,none⟩=some (.func (.func (Bu a)) #[] #[]):=B.o.cell (i:=0) rfl;have ay:wc.cell? ⟨e,1,none⟩=some (.func (.func (Bg a)) #[] #[]):=B.o.cell (i:=1) rfl;have az:wc.cell? ⟨e,2,none⟩=some (.func (.func (Bh a)) #[] #[]):=B.o.cell (i:=2) rfl;have a0:wc.cell? ⟨e,3,none⟩=some (.func (.func (AR a)) #[] #[]):=B.o.cell (i:=3) rfl;have a1:wc.cell? ⟨e,4,none⟩=some (.func (.func (AW a)) #[] #[]):=B.o.cell (i:=4) rfl;have a2:wc.cell? ⟨e,5,none⟩=some (.func (.func (Bo a)) #[] #[]):=B.o.cell (i:=5) rfl;have u0:=F.o.cell (i:=0) rfl;have u1:=F.o.cell (i:=1) rfl;have u2:=F.o.cell (i:=2) rfl;have u3:=F.o.cell (i:=3) rfl;have u4:=F.o.cell (i:=4) rfl;have u5:=F.o.cell (i:=5) rfl;have dr:=x.o.cell (i:=0) rfl;have ds:=x.o.cell (i:=1) rfl;have dt:=x.o.cell (i:=2) rfl;have du:=x.o.cell (i:=3) rfl;have dw:=x.o.cell (i:=4) rfl;have dx:=x.o.cell (i:=5) rfl;have dy:=x.o.frozen;have cf:=Aa ((((((x.o.setCell 0 (.func (.func (Bu a)) #[] #[])).setCell 1 (.func (.func (Bg a)) #[] #[])).setCell 2 (.func (.func (Bh a)) #[] #[])).setCell 3 (.func (.func (AR a)) #[] #[])).setCell 4 (.func (.func (AW a)) #[] #[])).setCell 5 (.func (.func (Bo a)) #[] #[]));have Y:=Aa (show aA (λd=>d=w.heap.size+1) a8 _ from(((((((aA.refl (λd=>d=w.heap.size+1) a8).setCell (p:=⟨w.heap.size+1,0,none⟩) (Or.inl rfl) (.func (.func (Bu a)) #[] #[])).setCell (p:=⟨w.heap.size+1,1,none⟩) (Or.inl rfl) (.func (.func (Bg a)) #[] #[])).setCell (p:=⟨w.heap.size+1,2,none⟩) (Or.inl rfl) (.func (.func (Bh a)) #[] #[])).setCell (p:=⟨w.heap.size+1,3,none⟩) (Or.inl rfl) (.func (.func (AR a)) #[] #[])).setCell (p:=⟨w.heap.size+1,4,none⟩) (Or.inl rfl) (.func (.func (AW a)) #[] #[])).setCell (p:=⟨w.heap.size+1,5,none⟩) (Or.inl rfl) (.func (.func (Bo a)) #[] #[])));go_region
 go_wp2;clear ax ay az a0 a1 a2 u0 u1 u2 u3 u4 u5 dr ds dt du dw dx dy db aw aj;generalize(((((a8.setCell ⟨w.heap.size+1,0,none⟩ (.func (.func (Bu a)) #[] #[])).setCell ⟨w.heap.size+1,1,none⟩ (.func (.func (Bg a)) #[] #[])).setCell ⟨w.heap.size+1,2,none⟩ (.func (.func (Bh a)) #[] #[])).setCell ⟨w.heap.size+1,3,none⟩ (.func (.func (AR a)) #[] #[])).setCell ⟨w.heap.size+1,4,none⟩ (.func (.func (AW a)) #[] #[])).setCell ⟨w.heap.size+1,5,none⟩ (.func (.func (Bo a)) #[] #[])=I at *
 have ce:=Aa (cc.o.keeps Y.o (show ¬(w.heap.size=w.heap.size+1) by omega));have da:=cn.o.keeps bb.o (show ¬(u=w.heap.size) by omega);have ch:=Aa (da.keeps Y.o (show ¬(u=w.heap.size+1) by omega));have cg:=Aa ((cj.o.trans bb.o (λd j b8=>by have b2:d=w.heap.size:=j;omega)).trans Y.o (λd j b8=>by have b2:d=w.heap.size+1:=j;omega));have cl:=Aa (show(loadVar 46 ⟨w.heap.size,0,none⟩).run prog I=.ok (.agg (Al a c).cells.toArray) I from k9 I w.heap.size 0 46 (Al a c).cells _ (λdf ca G=>by rw[ja];exact ce.o.cell G) underlying46 rfl (by rw[KG];rfl));have ck:=Aa (show(loadVar 75 ⟨w.heap.size+1,0,none⟩).run prog I=.ok (.agg #[.func (.func (Bu a)) #[] #[],.func (.func (Bg a)) #[] #[],.func (.func (Bh a)) #[] #[],.func (.func (AR a)) #[] #[],.func (.func (AW a)) #[] #[],.func (.func (Bo a)) #[] #[]]) I from k9 I (w.heap.size+1) 0 75 [.func (.func (Bu a)) #[] #[],.func (.func (Bg a)) #[] #[],.func (.func (Bh a)) #[] #[],.func (.func (AR a)) #[] #[],.func (.func (AW a)) #[] #[],.func (.func (Bo a)) #[] #[]] _ (λdf ca G=>by rw[ja];exact cf.o.cell G) underlying75 rfl (by rw[zN1];rfl));refine iN (v:=.tuple #[(Al a c).val,.agg #[.func (.func (Bu a)) #[] #[],.func (.func (Bg a)) #[] #[],.func (.func (Bh a)) #[] #[],.func (.func (AR a)) #[] #[],.func (.func (AW a)) #[] #[],.func (.func (Bo a)) #[] #[]],.bool true]) (by simp[results,results125,asAddr,cl.o,ck.o];rfl) rfl ?_;exact⟨rfl,ch.o,cg.o⟩
