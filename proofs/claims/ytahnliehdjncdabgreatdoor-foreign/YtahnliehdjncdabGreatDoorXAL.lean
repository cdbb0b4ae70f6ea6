import Derived.Test.YtahnliehdjncdabGreatDoorXAJ
import Derived.Test.YtahnliehdjncdabGreatDoorXAK
import Derived.Test.YtahnliehdjncdabGreatDoorXAB
import Derived.Deep.LoopGhost
set_option maxRecDepth 100000
set_option maxHeartbeats 16000000
namespace Go.Proofs.YtahnliehdjncdabGreatDoor
section
open Go.RowKit
theorem zFc{g i:Nat}(h:g+1<=i): (2:Int) ^ i≠2 ^ g:=by
 intro e;have h1:(2:Nat) ^ i=2 ^ g:=by exact_mod_cast e
 have h2:(2:Nat) ^ g<2 ^ i:=Nat.pow_lt_pow_right (by omega) (by omega);omega
theorem qV2{H a:List Bk}(S:List Bk){j:Nat}(hj:j<a.length): qCf (H++a++S) (H.length+j)=a[j]:=by
 unfold qCf;rw[List.append_assoc,List.getD_eq_getElem?_getD,List.getElem?_append_right (by omega),Nat.add_sub_cancel_left,List.getElem?_append_left hj,List.getElem?_eq_getElem hj];rfl
theorem zEg{H:List Bk}(S:List Bk){j:Nat}(hj:j<H.length): qCf (H++S) j=H[j]:=by
 unfold qCf;rw[List.getD_eq_getElem?_getD,List.getElem?_append_left hj,List.getElem?_eq_getElem hj];rfl
theorem qYi{H:List Bk}(b0 b1:Bk)(a' S:List Bk)(x:Bk): qDa (H++(b0::b1::a')++S) H.length x=H++[x]++(a'++S):=by
 unfold qDa;have e:H++(b0::b1::a')++S=H++(b0::b1::(a'++S)):=by simp
 rw[e,List.take_left,<-List.drop_drop,List.drop_left];simp
def qJ5(g:Nat): List (List Int)->List Bk
 | []=>[]
 | x::xs=>x.map (λt=>⟨2 ^ (g+xs.length),t⟩)++qJ5 g xs
def GsOk(K:Nat): List (List Int)->Prop
 | []=>True
 | x::xs=>1<=x.length/\x.length<=K+1/\∀h,h∈xs->K<=h.length/\h.length<=K+1
theorem qMt(g:Nat)(ts:List Int): ∀hs,qJ5 g (hs++[ts])=qJ5 (g+1) hs++ts.map (λt=>⟨2 ^ g,t⟩)
 | []=>by simp[qJ5]
 | x::xs=>by
  rw[List.cons_append];unfold qJ5;rw[qMt g ts xs,List.length_append,List.length_singleton,show g+(xs.length+1)=g+1+xs.length by omega,List.append_assoc]
def Lw(K g:Nat)(l:List Bk): Prop:=∃gs,l=qJ5 g gs/\GsOk K gs
theorem Lw.nil(K g:Nat): Lw K g []:=⟨[],rfl,trivial⟩
theorem Lw.put{K g:Nat}{H a:List Bk}(h:Lw K (g+1) H)(ha:∀b∈a,b.sz=2 ^ g)(h1:1<=a.length)(hl:a.length<=K+1)(hk:H≠[]->K<=a.length): Lw K g (H++a):=by
 obtain⟨gs,e,hg⟩:=h;have ea:(a.map (·.t)).map (λt=>(⟨2 ^ g,t⟩:Bk))=a:=by
  rw[List.map_map]
  conv=>rhs;rw[<-List.map_id a]
  refine List.map_congr_left (λb hb=>?_);show(⟨2 ^ g,b.t⟩:Bk)=b;rw[<-ha b hb]
 refine⟨gs++[a.map (·.t)],by rw[qMt,e,ea],?_⟩;cases gs with
 | nil=>exact⟨by simpa using h1,by simpa using hl,λh hh=>by cases hh⟩
 | cons x xs =>
  obtain⟨g1,g2,g3⟩:=hg;have hne:H≠[]:=by
   rw[e];unfold qJ5;intro e2;have h9:=congrArg List.length e2;rw[List.length_append,List.length_map,List.length_nil]at h9;omega
  refine⟨g1,g2,λh hh=>?_⟩;rcases List.mem_append.1 hh with hh | hh
  ·exact g3 h hh
  ·rw[List.mem_singleton]at hh;subst hh;rw[List.length_map];exact⟨hk hne,hl⟩
theorem Lw.get{K g:Nat}{l:List Bk}(h:Lw K g l): ∃H a,l=H++a/\Lw K (g+1) H/\(∀b∈a,b.sz=2 ^ g)/\a.length<=K+1/\(H≠[]->K<=a.length):=by
 obtain⟨gs,e,hg⟩:=h;rcases List.eq_nil_or_concat gs with e2 | ⟨hs,ts,e2⟩
 ·subst e2;exact⟨[],[],e,Lw.nil K _,(λb hb=>by cases hb),Nat.zero_le _,λh=>absurd rfl h⟩
 ·rw[List.concat_eq_append]at e2
  subst e2;rw[qMt]at e;refine⟨_,_,e,⟨hs,rfl,?_⟩,λb hb=>?_,?_,λhne=>?_⟩
  ·cases hs with
   | nil=>trivial
   | cons x xs=>exact⟨hg.1,hg.2.1,λh hh=>hg.2.2 h (List.mem_append_left _ hh)⟩
  ·obtain⟨t,_,rfl⟩:=List.mem_map.1 hb;rfl
  ·rw[List.length_map]
   cases hs with
   | nil=>exact hg.2.1
   | cons x xs=>exact(hg.2.2 ts (List.mem_append_right _ (List.mem_singleton.2 rfl))).2
  ·rw[List.length_map]
   cases hs with
   | nil=>exact absurd rfl hne
   | cons x xs=>exact(hg.2.2 ts (List.mem_append_right _ (List.mem_singleton.2 rfl))).1
theorem qZ0(g:Nat): ∀gs,∀b∈qJ5 g gs,∃i,g<=i/\b.sz=2 ^ i
 | []=>λb hb=>by cases hb
 | x::xs=>λb hb=>by
  unfold qJ5 at hb;rcases List.mem_append.1 hb with hb | hb
  ·obtain⟨t,_,rfl⟩:=List.mem_map.1 hb;exact⟨_,Nat.le_add_right _ _,rfl⟩
  ·exact qZ0 g xs b hb
theorem Lw.drop{K g:Nat}(hK:1<=K)(n:Nat): ∀ {l:List Bk},Lw K g l->Lw K g (l.drop n):=by
 induction n with
 | zero=>intro l h;exact h
 | succ n ih =>
  intro l h;have h1:Lw K g (l.drop 1):=by
   obtain⟨gs,e,hg⟩:=h
   match gs,e,hg with
   | [],e,_=>subst e;exact Lw.nil K g
   | []::xs,_,hg=>exact absurd hg.1 (by simp)
   | [t]::[],e,_=>subst e;exact Lw.nil K g
   | [t]::y::ys,e,hg =>
    subst e;refine⟨y::ys,rfl,?_,?_,λh hh=>hg.2.2 h (by simp[hh])⟩
    ·have:=(hg.2.2 y (by simp)).1;omega
    ·exact(hg.2.2 y (by simp)).2
   | (t::u::x)::xs,e,hg =>
    subst e;refine⟨(u::x)::xs,rfl,by simp,?_,hg.2.2⟩;have:=hg.2.1;simp at this ⊢;omega
  have:=ih h1;rw[List.drop_drop]at this;rw[show n+1=1+n by omega];exact this
theorem zJ1{g:Nat}{H a:List Bk}(S:List Bk)(hH:∀b∈H,∃i,g+1<=i/\b.sz=2 ^ i)(ha:∀b∈a,b.sz=2 ^ g): ∀j,j<=a.length->qCg (H++a++S) (2 ^ g) (H.length+j)=H.length:=by
 intro j
 induction j with
 | zero =>
  intro _;rw[Nat.add_zero];cases hn:H.length with
  | zero=>rfl
  | succ n =>
   unfold qCg;rw[if_neg];rw[List.append_assoc,zEg (a++S) (by omega:n<H.length)];obtain⟨i,hi,hs⟩:=hH H[n] (List.getElem_mem _);rw[hs];exact zFc hi
 | succ j ih =>
  intro hj;rw[<-Nat.add_assoc];unfold qCg;rw[if_pos (by rw[qV2 S (by omega)];exact ha _ (List.getElem_mem _))];exact ih (by omega)
theorem zD8{K:Nat}(hK:1<=K)(f:Nat): ∀(g:Nat) (H a S:List Bk),Lw K (g+1) H->(∀b∈a,b.sz=2 ^ g)->1<=a.length->a.length<=K+2->(H≠[]->K<=a.length)->(H.length<f\/a.length<=K+1)->(∀Q,Q≠[]->Lw K g Q->Lw K 0 (Q++S)) ->
  Lw K 0 (joinL (K:Int) f (H++a++S) (2 ^ g) (H.length+a.length))/\((joinL (K:Int) f (H++a++S) (2 ^ g) (H.length+a.length)).map (·.t)).Sublist ((H++a++S).map (·.t)):=by
 have hap:∀ {H a:List Bk},1<=a.length->H++a≠[]:=fun {H a} h e=>by
  have h9:=congrArg List.length e;rw[List.length_append,List.length_nil]at h9;omega
 induction f with
 | zero =>
  intro g H a S hH ha h1 hl hk hf hS;rcases hf with h | h
  ·omega
  ·exact⟨hS _ (hap h1) (hH.put ha h1 h hk),List.Sublist.refl _⟩
 | succ f ih =>
  intro g H a S hH ha h1 hl hk hf hS;unfold joinL;rw[zJ1 S (by obtain⟨gs,e,_⟩:=hH;rw[e];exact qZ0 _ gs) ha a.length (Nat.le_refl _)]
  by_cases hc:((H.length+a.length:Nat):Int)-(H.length:Int)<=(K:Int)+1
  ·rw[if_pos hc]
   exact⟨hS _ (hap h1) (hH.put ha h1 (by omega) hk),List.Sublist.refl _⟩
  ·rw[if_neg hc]
   match a,ha,h1,hl,hk,hf,hc with
   | [],_,h1,_,_,_,_=>simp at h1
   | [_],_,_,_,_,_,hc=>simp at hc;omega
   | b0::b1::a',ha,_,hl,hk,hf,hc =>
    have hl2:a'.length+2<=K+2:=by simpa using hl
    have hl3:K<=a'.length:=by simp at hc;omega
    rw[qYi];have hb1:(qCf (H++b0::b1::a'++S) (H.length+1)).t=b1.t:=by rw[qV2 S (by simp)];rfl
    rw[hb1];obtain⟨H',a2,e2,g1,g2,g3,g4⟩:=hH.get;have hx:(2:Int)*2 ^ g=2 ^ (g+1):=by rw[Int.pow_succ,Int.mul_comm]
    rw[hx];have e3:H++[(⟨2 ^ (g+1),b1.t⟩:Bk)]++(a'++S)=H'++(a2++[(⟨2 ^ (g+1),b1.t⟩:Bk)])++(a'++S):=by rw[e2];simp only[List.append_assoc]
    have e4:H.length+1=H'.length+(a2++[(⟨2 ^ (g+1),b1.t⟩:Bk)]).length:=by rw[e2,List.length_append,List.length_append];simp;omega
    have hsub:((H++[(⟨2 ^ (g+1),b1.t⟩:Bk)]++(a'++S)).map (·.t)).Sublist ((H++b0::b1::a'++S).map (·.t)):=by
     simp only[List.map_append,List.map_cons,List.append_assoc,List.cons_append,List.nil_append];exact List.Sublist.append_left (List.Sublist.cons _ (List.Sublist.refl _)) _
    rw[e3]at hsub ⊢;rw[e4]
    have:=ih (g+1) H' (a2++[(⟨2 ^ (g+1),b1.t⟩:Bk)]) (a'++S) g1 (λb hb=>by
       rcases List.mem_append.1 hb with hb | hb
       ·exact g2 b hb
       ·rw[List.mem_singleton]at hb;rw[hb]) (by rw[List.length_append];simp) (by rw[List.length_append];simp;omega) (λhn=>by have:=g4 hn;rw[List.length_append];omega) (by
       by_cases ha2:a2=[]
       ·right;rw[ha2];simp
       ·left
        have hpos:0<a2.length:=List.length_pos_iff.2 ha2;have hHl:H.length=H'.length+a2.length:=by rw[e2,List.length_append]
        rcases hf with h | h
        ·omega
        ·simp at h hc;omega) (λQ hn hQ=>by
       rw[<-List.append_assoc]
       exact hS _ (hap (by omega)) (hQ.put (λb hb=>ha b (by simp[hb])) (by omega) (by omega) (λ_=>hl3)))
    exact⟨this.1,this.2.trans hsub⟩
theorem zB5{c:Cfg}{K:Nat}(hK:1<=K)(hc:c.k=K)(l:List Bk)(t m:Int)(h:Lw K 0 l): Lw K 0 (zFa c l t m)/\((zFa c l t m).map (·.t)).Sublist (l.map (·.t)++[t]):=by
 unfold zFa qTd qQm;rw[hc];have hsb:(((l.drop (pastN l (m-c.window)))).map (·.t)).Sublist (l.map (·.t)):=(List.drop_sublist _ _).map _;obtain⟨H,a,e,h1,h2,h3,h4⟩:=(h.drop hK (pastN l (m-c.window))).get;rw[e]at hsb ⊢
 have:=zD8 hK ((H++a++[(⟨1,t⟩:Bk)]).length+1) 0 H (a++[(⟨1,t⟩:Bk)]) [] h1 (λb hb=>by
    rcases List.mem_append.1 hb with hb | hb
    ·exact h2 b hb
    ·rw[List.mem_singleton]at hb;rw[hb];rfl) (by rw[List.length_append];simp) (by rw[List.length_append];simp;omega) (λhn=>by have:=h4 hn;rw[List.length_append];omega) (.inl (by simp;omega)) (λQ _ hQ=>by rw[List.append_nil];exact hQ)
 rw[List.append_nil,<-List.append_assoc]at this;have e2:H.length+(a++[(⟨1,t⟩:Bk)]).length=(H++a++[(⟨1,t⟩:Bk)]).length:=by simp only[List.length_append,List.length_singleton];omega
 rw[e2]at this;refine⟨this.1,this.2.trans ?_⟩;rw[List.map_append];exact hsb.append_right _
theorem qQk: ∀gs:List (List Int),(∀g,g∈gs->1<=g.length)->(2:Int) ^ gs.length-1<=qDn (qJ5 0 gs)/\∀b∈qJ5 0 gs,1<=b.sz
 | [],_=>⟨by simp[qJ5,qDn],λb hb=>by cases hb⟩
 | x::xs,h=>by
  obtain⟨i1,i2⟩:=qQk xs (λg hg=>h g (by simp[hg]));have hp:(1:Int)<=2 ^ xs.length:=by
   have:0<(2:Nat) ^ xs.length:=Nat.pow_pos (by omega);have e:(2:Int) ^ xs.length=((2 ^ xs.length:Nat):Int):=by simp
   omega
  have hone:∀b∈x.map (λt=>(⟨2 ^ xs.length,t⟩:Bk)),1<=b.sz:=λb hb=>by
   obtain⟨t,_,rfl⟩:=List.mem_map.1 hb;exact hp
  unfold qJ5;rw[Nat.zero_add];refine⟨?_,λb hb=>?_⟩
  ·rw[qDg,List.length_cons,Int.pow_succ]
   have hx:(2:Int) ^ xs.length<=qDn (x.map (λt=>(⟨2 ^ xs.length,t⟩:Bk))):=by
    cases x with
    | nil=>exact absurd (h [] (by simp)) (by simp)
    | cons t x =>
     have:=qCr (l:=x.map (λt=>(⟨2 ^ xs.length,t⟩:Bk))) (λb hb=>hone b (by simp at hb ⊢;exact .inr hb));show _<=2 ^ xs.length+qDn _;omega
   omega
  ·rcases List.mem_append.1 hb with hb | hb
   ·exact hone b hb
   ·exact i2 b hb
theorem qW6{K:Nat}: ∀gs:List (List Int),(∀g,g∈gs->g.length<=K+1)->(qJ5 0 gs).length<=gs.length*(K+1)/\∀b∈qJ5 0 gs,∃i,i<gs.length/\b.sz=2 ^ i
 | [],_=>⟨by simp[qJ5],λb hb=>by cases hb⟩
 | x::xs,h=>by
  obtain⟨i1,i2⟩:=qW6 xs (λg hg=>h g (by simp[hg]));have h2:=h x (by simp);unfold qJ5;rw[Nat.zero_add];refine⟨by rw[List.length_append,List.length_map,List.length_cons,Nat.succ_mul];omega,λb hb=>?_⟩;rcases List.mem_append.1 hb with hb | hb
  ·obtain⟨t,_,rfl⟩:=List.mem_map.1 hb;exact⟨xs.length,by simp,rfl⟩
  ·obtain⟨i,a,b⟩:=i2 b hb;exact⟨i,by simp;omega,b⟩
theorem GsOk.all{K:Nat}(hK:1<=K){gs:List (List Int)}(h:GsOk K gs): ∀g,g∈gs->1<=g.length/\g.length<=K+1:=λg hg=>by
 cases gs with
 | nil=>cases hg
 | cons x xs =>
  rcases List.mem_cons.1 hg with e | e
  ·subst e;exact⟨h.1,h.2.1⟩
  ·have:=h.2.2 g e;omega
theorem GsOk.few{K:Nat}(hK:1<=K){gs:List (List Int)}(h:GsOk K gs)(hs:qDn (qJ5 0 gs)<=4611686018427387904): gs.length<=62:=by
 have h1:=(qQk gs (λg hg=>(h.all hK g hg).1)).1;refine Nat.le_of_not_lt (λhn=>?_);have h7:(2:Nat) ^ 63<=2 ^ gs.length:=Nat.pow_le_pow_right (by omega) (by omega);have h8:(2:Int) ^ gs.length=((2 ^ gs.length:Nat):Int):=by simp
 have h9:(2:Nat) ^ 63=9223372036854775808:=by decide
 omega
theorem Lw.few{K:Nat}(hK:1<=K){l:List Bk}(h:Lw K 0 l)(hs:qDn l<=4611686018427387904): l.length<=62*(K+1)/\∀b∈l,b.sz<4611686018427387904:=by
 obtain⟨gs,e,hg⟩:=h;rw[e]at hs ⊢;have h1:=hg.few hK hs;have h2:=qW6 gs (λg h=>(hg.all hK g h).2);refine⟨Nat.le_trans h2.1 (Nat.mul_le_mul_right _ h1),λb hb=>?_⟩;obtain⟨i,hi,hs⟩:=h2.2 b hb;rw[hs];have h7:(2:Nat) ^ i<=2 ^ 61:=Nat.pow_le_pow_right (by omega) (by omega);have h8:(2:Int) ^ i=((2 ^ i:Nat):Int):=by simp
 have h9:(2:Nat) ^ 61=2305843009213693952:=by decide
 omega
def Fall(l:List Bk): Prop:=l.Pairwise (λa b=>b.t<a.t)
theorem Fall.take{l:List Bk}(h:Fall l)(k:Nat): Fall (l.take k):=List.Pairwise.sublist (List.take_sublist k l) h
theorem Fall.drop{l:List Bk}(h:Fall l)(k:Nat): Fall (l.drop k):=List.Pairwise.sublist (List.drop_sublist k l) h
theorem qWk(r:Int): ∀(n:Nat) (l:List Bk),l.length=n->Fall l->∀b,b∈qCx r l->r<b.t
 | 0,l,hn,_=>λb hb=>by
  have:l=[]:=List.length_eq_zero_iff.1 hn;subst this;rw[qSo]at hb;cases hb
 | n+1,l,hn,hf=>λb hb=>by
  have hp:0<l.length:=by omega
  by_cases hc:(qCf l (l.length-1)).t<=r
  ·rw[qKf hp hc]at hb
   exact qWk r n (l.take (l.length-1)) (by rw[List.length_take];omega) (hf.take _) b hb
  ·rw[qKd hp hc]at hb
   rw[qGf l hp]at hb hf;rcases List.mem_append.1 hb with h1 | h1
   ·have:=(List.pairwise_append.1 hf).2.2 b h1 _ (List.mem_singleton.2 rfl)
    omega
   ·rw[List.mem_singleton]at h1;rw[h1];omega
theorem qOw{l:List Bk}(x:Bk)(h:Fall l): Fall (qG3 l x):=by
 obtain⟨k,hk,_⟩:=qJ1 x.t l;unfold qG3
 split
 ·rw[hk];exact h.take k
 ·refine List.pairwise_append.2 ⟨by rw[hk];exact h.take k,List.pairwise_singleton _ _,λa ha b hb=>?_⟩
  rw[List.mem_singleton]at hb;rw[hb];exact qWk x.t l.length l rfl h a ha
theorem qGi: ∀(l:List Bk) (m:Int),Fall l->(∀b∈l,1<=b.t/\b.t<=m)->(l.length:Int)<=max m 0
 | [],m,_,_=>by simp;omega
 | a::l,m,h,hb=>by
  have h1:=hb a (by simp);have h2:=List.pairwise_cons.1 h;have h3:=qGi l (a.t-1) h2.2 (λb hb'=>⟨(hb b (by simp[hb'])).1,by have:=h2.1 b hb';omega⟩);rw[List.length_cons];omega
end
end Go.Proofs.YtahnliehdjncdabGreatDoor
namespace Go.Proofs.YtahnliehdjncdabGreatDoor.Pa
open Go.RowKit
structure Pn where
 no:Int
 cs:List Int
 len:cs.length=48
def Pn.cells(p:Pn): List Value:=.int .i64 p.no::p.cs.map (.int .i64 ·)
theorem Pn.cells_length(p:Pn): p.cells.length=49:=by simp[Pn.cells,p.len]
def Pn.val(p:Pn): Value:=.agg p.cells.toArray
def pn0: Pn:=⟨0,List.replicate 48 0,by simp⟩
def pnAt(l:List Pn)(i:Nat): Pn:=l.getD i pn0
def flatP(l:List Pn): List Value:=l.flatMap Pn.cells
def qIk(n:Nat): List Value:=List.replicate (n*49) (.int .i64 0)
theorem qH1(x:Pn)(l:List Pn): flatP (x::l)=x.cells++flatP l:=by simp[flatP]
theorem qHm(l:List Pn): (flatP l).length=l.length*49:=by
 induction l with
 | nil=>rfl
 | cons x l ih=>rw[qH1,List.length_append,ih,x.cells_length,List.length_cons];omega
theorem flatP_append(a b:List Pn): flatP (a++b)=flatP a++flatP b:=by simp[flatP]
theorem qOn(l:List Pn)(i:Nat): flatP (l.drop i)=(flatP l).drop (i*49):=by
 induction l generalizing i with
 | nil=>simp[flatP]
 | cons x l ih =>
  cases i with
  | zero=>simp
  | succ i =>
   rw[List.drop_succ_cons,ih,qH1,show(i+1)*49=x.cells.length+i*49 by rw[x.cells_length];omega,<-List.drop_drop,List.drop_left]
theorem pnAt_drop(l:List Pn)(k:Nat)(h:k<l.length): l.drop k=pnAt l k::l.drop (k+1):=by
 rw[List.drop_eq_getElem_cons h]
 congr 1
 simp[pnAt,List.getD_eq_getElem?_getD,List.getElem?_eq_getElem h]
theorem zDy(l:List Pn)(i j:Nat)(h:i<l.length)(hj:j<49): (flatP l)[i*49+j]?=(pnAt l i).cells[j]?:=by
 have h1:(flatP l)[i*49+j]?=((flatP l).drop (i*49))[j]?:=by rw[List.getElem?_drop]
 rw[h1,<-qOn,pnAt_drop l i h,qH1,List.getElem?_append_left (by rw[Pn.cells_length];exact hj)]
theorem Pn.one(p:Pn): ∀u∈p.cells,u.oneCell'=true:=by
 intro u hu;simp only[Pn.cells,List.mem_cons,List.mem_map]at hu;rcases hu with rfl | ⟨y,_,rfl⟩ <;> rfl
theorem zBl(l:List Pn): ∀u∈flatP l,u.oneCell'=true:=by
 intro u hu;simp only[flatP,List.mem_flatMap]at hu;obtain⟨p,_,hp⟩:=hu;exact p.one u hp
theorem qGq(n:Nat): (qIk n).length=n*49:=by simp[qIk]
theorem qXb(n:Nat): ∀u∈qIk n,u.oneCell'=true:=by
 intro u hu;rw[qIk,List.mem_replicate]at hu;rw[hu.2];rfl
structure BRow (w:World) (g cap:Nat) (l:List Pn):Prop where
 ex:∃cur:List Value,Blk w g cur 237/\cur.length=cap*49/\cur.take (l.length*49)=flatP l
 le:l.length<=cap
 max:cap<=maxLen
theorem BRow.lt{w:World}{g cap:Nat}{l:List Pn}(h:BRow w g cap l): g<w.heap.size:=by obtain⟨cur,hb,_⟩:=h.ex;exact hb.lt
theorem BRow.keeps{M:Nat->Prop}{w w':World}{g cap:Nat}{l:List Pn}(h:BRow w g cap l)(k:Keeps M w w')(hn:¬M g): BRow w' g cap l:=by
 obtain⟨cur,hb,r⟩:=h.ex;exact⟨⟨cur,hb.keeps k hn,r⟩,h.le,h.max⟩
theorem BRow.range{w:World}{g cap:Nat}{l:List Pn}(h:BRow w g cap l)(i:Nat)(hi:i<l.length): w.rangeAt g (i*49) (pnAt l i).cells:=by
 obtain⟨cur,hb,hl,ht⟩:=h.ex;intro j v hv;have hj:j<49:=by have:=(List.getElem?_eq_some_iff.1 hv).1;rwa [Pn.cells_length]at this
 refine hb.cell ?_;have hg:cur[i*49+j]?=(flatP l)[i*49+j]?:=by rw[<-ht,List.getElem?_take,if_pos (by omega)]
 rw[hg,zDy l i j hi hj];exact hv
theorem BRow.owns{w:World}{g cap:Nat}{l:List Pn}(h:BRow w g cap l): w.ownsRow 0 237 49 (.slice (some ⟨g,0,none⟩) l.length cap) l.length (flatP l):=by
 obtain⟨cur,hc,hl,ht⟩:=h.ex;exact⟨qHm l,.inr ⟨g,cap,cur.toArray,rfl,Nat.zero_le _,hc,h.le,h.max,by simp[hl],by simpa using ht⟩⟩
theorem brow_of_owns{w:World}{g n cap:Nat}{l:List Pn}(hn:l.length=n)(h:w.ownsRow 0 237 49 (.slice (some ⟨g,0,none⟩) n cap) n (flatP l)): BRow w g cap l:=by
 rcases h.2 with ⟨h1,_⟩ | ⟨g',cap',cur,h1,_,h3,h4,h5,h6,h7⟩
 ·cases h1
 ·cases h1
  subst hn;exact⟨⟨cur.toList,by unfold Blk;simpa using h3,by simpa using h6,h7⟩,h4,h5⟩
def zCc: Value:=.agg (List.replicate 49 (Value.int .i64 0)).toArray
theorem infoBk: (Tryz.prog.info? 237).map (λi=>(i.zero,i.size,i.bytes))=some (some zCc,49,392):=by kernel_rfl
theorem zJr(w:World): (zeroValue 237).run Tryz.prog w=.ok zCc w:=by kernel_rfl
theorem qQs(z:Value)(k:Nat)(hk:0<k)(n:Nat): (Builtin.zeroCells (List.replicate k z).toArray n).toList=List.replicate (n*k) z:=by
 apply List.ext_getElem?;intro j
 by_cases hj:j<n*k
 ·have hm:j%k<k:=Nat.mod_lt _ hk
  simp[Builtin.zeroCells,hj,hm]
 ·rw[List.getElem?_eq_none (by simp[Builtin.zeroCells];omega),List.getElem?_eq_none (by simp;omega)]
theorem qN2(n:Nat): (Builtin.zeroCells (Value.agg #[.int .i64 0,.int .i64 0,.int .i64 0,.int .i64 0,.int .i64 0,.int .i64 0,.int .i64 0,.int .i64 0,.int .i64 0,.int .i64 0,.int .i64 0,.int .i64 0,.int .i64 0,.int .i64 0,.int .i64 0,.int .i64 0,.int .i64 0,.int .i64 0,.int .i64 0,.int .i64 0,.int .i64 0,.int .i64 0,.int .i64 0,.int .i64 0,.int .i64 0,.int .i64 0,.int .i64 0,.int .i64 0,.int .i64 0,.int .i64 0,.int .i64 0,.int .i64 0,.int .i64 0,.int .i64 0,.int .i64 0,.int .i64 0,.int .i64 0,.int .i64 0,.int .i64 0,.int .i64 0,.int .i64 0,.int .i64 0,.int .i64 0,.int .i64 0,.int .i64 0,.int .i64 0,.int .i64 0,.int .i64 0,.int .i64 0]).cells n).toList=qIk n:=qQs (.int .i64 0) 49 (by omega) n
theorem qCo(w:World)(ty:TypeId)(b o n c:Nat)(cs:List Value)(h:Blk w b cs 237)(hn:0<n)(hl:o+n*49<=cs.length):
  (Builtin.clear_ #[246] ty #[.slice (some ⟨b,o,none⟩) n c]).run Tryz.prog w=.ok (.tuple #[]) (w.setCells b o (qIk n)):=by
 have hst:=run_storeCells_cells (P:=Tryz.prog) b o (qIk n) 0 w (λj hj=>h.some (by rw[qGq]at hj;omega)) (λj _=>h.frozen _) (qXb n);simp only[Nat.add_zero]at hst;obtain⟨m,rfl⟩:∃m,n=m+1:=⟨n-1,by omega⟩;simp[Builtin.clear_,run_underlying Tryz.underlying246,qN2,hst]
theorem qF2{w:World}{g cap n j:Nat}{l:List Pn}{cur:List Value}(hn:l.length=n)(hb:Blk w g cur 237)(hl:cur.length=cap*49)(hle:n<=cap)(hmax:cap<=maxLen)(hj:j<=n):
  BRow ((w.setCells g 0 (flatP (l.drop j))).setCells g ((n-j)*49) (qIk j)) g cap (l.drop j):=by
 have h1:(flatP (l.drop j)).length=(n-j)*49:=by rw[qHm];simp[hn]
 have hb1:=Blk.setCells (flatP (l.drop j)) 0 w cur hb (by rw[h1];omega);have hl1:(over cur 0 (flatP (l.drop j))).length=cap*49:=by rw[qBi (by rw[h1];omega),hl]
 have hb2:=Blk.setCells (qIk j) ((n-j)*49) _ _ hb1 (by rw[hl1,qGq];omega);refine⟨⟨_,hb2,by rw[qBi (by rw[hl1,qGq];omega),hl1],?_⟩,by simp[hn];omega,hmax⟩;have hlen:(l.drop j).length*49=(n-j)*49:=by simp[hn]
 rw[hlen];unfold over;rw[List.append_assoc,List.take_append_of_le_length (by simp[h1])];rw[List.take_take,Nat.min_self];simp only[List.take_zero,List.nil_append];rw[List.take_append_of_le_length (by omega),List.take_of_length_le (by omega)]
theorem qEk(w:World):
  Calls Tryz.prog 235 #[.slice none 0 0,.int .i64 0,.int .i64 0] w λe w'=>e=.returned (.slice none 0 0)/\w'=w:=by
 go_enter Tryz.func235,Tryz.ntmps235
 go_wp2
 go_ret
 exact⟨rfl,rfl⟩
theorem qDx(g cap n:Nat)(w:World)(hle:n<=cap):
  Calls Tryz.prog 235 #[.slice (some ⟨g,0,none⟩) n cap,.int .i64 0,.int .i64 0] w λe w'=>e=.returned (.slice (some ⟨g,0,none⟩) n cap)/\w'=w:=by
 have h0:(0:Int)<=(n:Int):=by omega
 have h1:(n:Int)<=(cap:Int):=by omega
 go_enter Tryz.func235,Tryz.ntmps235
 go_wp2
 go_ret
 exact⟨rfl,rfl⟩
theorem qGc(g cap n j:Nat)(l:List Pn)(w:World)(hn:l.length=n)(hr:BRow w g cap l)(hj0:0<j)(hj:j<=n):
  Calls Tryz.prog 235 #[.slice (some ⟨g,0,none⟩) n cap,.int .i64 0,.int .i64 j] w λe w'=>e=.returned (.slice (some ⟨g,0,none⟩) (n-j) cap)/\BRow w' g cap (l.drop j)/\Keeps (·=g) w w':=by
 obtain⟨cur,hb,hl,ht⟩:=hr.ex;have hle:=hr.le;rw[hn]at hle;have hmax:=hr.max;have hcap:cap<=9223372036854775807:=by unfold maxLen at hmax;omega
 have HFIN:=hide (qF2 (w:=w.drew) hn (by exact hb.drew) hl hle hmax hj);obtain⟨news,hnews⟩:∃news,news=flatP (l.drop j):=⟨_,rfl⟩;rw[<-hnews]at HFIN;have hlen:news.length=(n-j)*49:=by rw[hnews,qHm];simp[hn]
 have hget:∀t u,news[t]?=some u->w.cell? ⟨g,j*49+t,none⟩=some u:=by
  intro t u hu;refine hb.cell ?_;have htl:t<(n-j)*49:=by have:=(List.getElem?_eq_some_iff.1 hu).1;omega
  rw[hnews,qOn,List.getElem?_drop,<-ht,List.getElem?_take,if_pos (by omega)]at hu;exact hu
 obtain⟨A,hA,hsrc⟩:∃A:Addr,(if cap=j then some (⟨g,0,none⟩:Addr) else some ⟨g,j*49,none⟩)=some A/\Hid (∀t u,news[t]?=some u->w.drew.cell? (A.add t)=some u):=by
  by_cases h:cap=j
  ·refine⟨⟨g,0,none⟩,by simp[h],λt u hu=>?_⟩
   have h0:news.length=0:=by omega
   rw[List.length_eq_zero_iff.1 h0]at hu;simp at hu
  ·refine⟨⟨g,j*49,none⟩,by simp[h],λt u hu=>?_⟩
   rw[Addr.add_lit];exact hget t u hu
 have s1:Hid (news.length=(n-j)*49):=hlen;have s2:Hid (∀u∈news,u.oneCell'=true):=by rw[hnews];exact zBl _
 have s3:Hid (∀t,t<news.length->(w.drew.cell? ⟨g,0+0*49+t,none⟩).isSome=true/\w.drew.frozen? ⟨g,0+0*49+t,none⟩=false):=by
  intro t ht';exact⟨hb.some (by omega),hb.frozen _⟩
 obtain⟨W1,hW1⟩:∃W1,W1=w.drew.setCells g 0 news:=⟨_,rfl⟩;have hbW:Blk W1 g (over cur 0 news) 237:=by rw[hW1];exact Blk.setCells _ _ _ _ hb.drew (by omega)
 have hcl:∀ty,(Builtin.clear_ #[246] ty #[.slice (some ⟨g,(n-j)*49,none⟩) (n-(n-j)) (cap-(n-j))]).run Tryz.prog W1=.ok (.tuple #[]) (W1.setCells g ((n-j)*49) (qIk (n-(n-j)))) :=
  λty=>qCo W1 ty g _ _ _ _ hbW (by omega) (by rw[qBi (by omega)];omega)
 have hW:Hid (W1=w.drew.setCells g (0+0*49) news):=hW1;have HK:=hide (show Keeps (·=g) w W1 by rw[hW1];exact Keeps.setCells (M:=λx=>x=g) (Or.inl rfl) _ _ _ (Keeps.refl _ _).drew);rw[<-hW1]at HFIN;obtain⟨i0,hi0,hz0,hz1,hz2⟩:=info_parts infoBk;have hjc:j<=cap:=by omega
 have HNJ:=hide (show n-(n-j)=j by omega);clear hW1 hbW hget hnews hlen hb ht hl hr hn hmax hz0 hz2;go_enter Tryz.func235,Tryz.ntmps235
 go_wp2_with fail
 go_region_law (refine step_append_room rfl (.tmp 22) (.tmp 25) 246 rfl 237 i0 49 Tryz.underlying246 hi0 hz1 g 0 0 cap (by simp[Act.eval,Act.put]) A (n-j) (cap-j) news (by simp[Act.eval,Act.put]) s1.out hsrc.out s2.out (by omega) s3.out ?_;rw[<-hW.out])
 go_wp2
 go_ret
 refine⟨by simp,?_,?_⟩
 ·have:=uh HFIN;rw[uh HNJ];exact this
 ·exact Keeps.setCells (M:=λx=>x=g) (Or.inl rfl) _ _ _ (uh HK)
end Go.Proofs.YtahnliehdjncdabGreatDoor.Pa
namespace Go.Proofs.YtahnliehdjncdabGreatDoor.Pa
open Go.RowKit
theorem execOp_loadP(ρ:Operand->Value)(dst:Option Tmp)(x:Operand)(ty:TypeId)(pos:String)(after:Array Edge)(guard:Option (Nat×Bool)):
  execOp ρ { dst,op:=.load 237 x,type:=ty,pos,after,guard }=qE0 237 (ρ x):=rfl
theorem sizeP: (Tryz.prog.info? 237).map (·.size)=some 49:=by kernel_rfl
theorem run_loadP(w:World)(b o:Nat)(h:qA2 w b o 49=true): (qE0 237 (.pointer (some ⟨b,o,none⟩))).run Tryz.prog w=.ok (.value (qAu w b o 49)) w:=by
 unfold qE0;rw[Sem.run_bind,run_loadAt_mid w b o 237 (qB0 w b o 49) _ (qFt h) Tryz.underlying237 rfl (by rw[sizeP];simp[qB0])];rfl
def storeP(ty:TypeId)(a x:Value): Sem Next:=do Instr.storeAt ty a x;pure .skip
theorem execOp_storeP(ρ:Operand->Value)(dst:Option Tmp)(x y:Operand)(ty:TypeId)(pos:String)(after:Array Edge)(guard:Option (Nat×Bool)):
  execOp ρ { dst,op:=.store 237 x y,type:=ty,pos,after,guard }=storeP 237 (ρ x) (ρ y):=rfl
theorem run_storeP(w:World)(b o:Nat)(cs:List Value)(hc:cs.length=49)(ht:w.there b o 49)(h1:∀u∈cs,u.oneCell'=true):
  (storeP 237 (.pointer (some ⟨b,o,none⟩)) (.agg cs.toArray)).run Tryz.prog w=.ok .skip (w.setCells b o cs):=by
 unfold storeP;rw[Sem.run_bind,run_storeAt_mid w b o 237 cs.toArray (by simpa[hc] using ht) (by rw[sizeP];simp[hc]) (by simpa using h1)];rfl
def qE8(arr:Array Value)(o:Nat): List Value->Array Value
 | []=>arr
 | c::r=>qE8 (arr.setIfInBounds o c) (o+1) r
theorem qEs: ∀(cs:List Value) (pre:List Value) (rest:List Value),rest.length=cs.length->qE8 (pre++rest).toArray pre.length cs=(pre++cs).toArray
 | [],pre,rest,h=>by
  have:rest=[]:=List.length_eq_zero_iff.1 h;subst this;rfl
 | c::r,pre,rest,h=>by
  cases rest with
  | nil=>simp at h
  | cons d q =>
   unfold qE8;have h1:((pre++d::q).toArray.setIfInBounds pre.length c)=((pre++[c])++q).toArray:=by simp
   rw[h1];have:=qEs r (pre++[c]) q (by simpa using h);rw[List.length_append]at this;simpa using this
theorem qWz: ∀(cs:List Value) (o:Nat) (arr:Array Value),(cs.zipIdx o).foldl (λ(a:Array Value) (p:Value×Nat)=>a.setIfInBounds (0+p.2) p.1) arr=qE8 arr o cs
 | [],_,_=>rfl
 | c::r,o,arr=>by
  rw[List.zipIdx_cons,List.foldl_cons,qWz r (o+1)];simp[qE8]
theorem zCr(cs:List Value)(zs:List Value)(h:zs.length=cs.length)(s:Nat)(hs:cs.length=s): Instr.fill (λi=>some (i*s,s)) zs.toArray [(0,.agg cs.toArray)]=some cs.toArray:=by
 have h2:=qEs cs [] zs h;simp only[List.nil_append,List.length_nil]at h2;have h3:=qWz cs 0 zs.toArray;simp only[Instr.fill,Value.cells,Nat.zero_mul];rw[if_neg (by simp[hs];omega)];have h4:Array.foldl (λ(a:Array Value) (p:Value×Nat)=>a.setIfInBounds (0+p.2) p.1) zs.toArray cs.toArray.zipIdx=cs.toArray:=by
  rw[<-Array.foldl_toList,Array.toList_zipIdx,h3,h2]
 exact congrArg some h4
def bsP(ty:TypeId)(n:Nat)(ps:Array (Nat×Value)): Sem Next:=do pure (.value (<-Instr.buildSlice ty n ps))
theorem execOp_bsP(ρ:Operand->Value)(dst:Option Tmp)(n:Nat)(x:Array (Nat×Operand))(ty:TypeId)(pos:String)(after:Array Edge)(guard:Option (Nat×Bool)):
  execOp ρ { dst,op:=.buildSlice 246 n x,type:=ty,pos,after,guard }=bsP 246 n (x.map λ(i,y)=>(i,ρ y)):=rfl
theorem run_bsP(p:Pn)(w:World): (bsP 246 1 #[(0,.agg p.cells.toArray)]).run Tryz.prog w=.ok (.value (.slice (some ⟨w.heap.size,0,none⟩) 1 1)) (w.alloc (.cells p.cells.toArray 237)):=by
 obtain⟨i0,hi0,hz0,hz1,hz2⟩:=info_parts infoBk;have hf:Instr.fill (λi=>some (i*49,49)) (List.replicate 49 (Value.int .i64 0)).toArray [(0,.agg p.cells.toArray)]=some p.cells.toArray:=zCr p.cells _ (by rw[p.cells_length];simp) 49 p.cells_length;have hr:((Array.range (1*49)).map (zCc.cells[·%zCc.cells.size]!))=(List.replicate 49 (Value.int .i64 0)).toArray:=by kernel_rfl
 have hzr:(zeroValue 237).run Tryz.prog w=.ok zCc w:=zJr w;have hsz:(sizeOf 237).run Tryz.prog w=.ok 49 w:=by simp[sizeOf,typeInfo,hi0,hz1]
 unfold bsP Instr.buildSlice;simp only[Sem.run_bind,run_underlying Tryz.underlying246,Result.andThen_ok,hsz];rw[if_neg (by decide),if_neg (by decide)];simp only[Sem.run_bind,hzr,Result.andThen_ok,Sem.run_pure,hr,hf];simp[newRow]
end Go.Proofs.YtahnliehdjncdabGreatDoor.Pa
namespace Go.Proofs.YtahnliehdjncdabGreatDoor.Pa
open Go.RowKit
attribute [local go_sem ↓] execOp_loadP execOp_storeP execOp_bsP
attribute [local go_sem] run_loadP run_bsP qAc qAb qAm qAn qAh qAk
def qEc(d:Nat): Value:=.func (.func 202) #[.pointer (some ⟨d,0,none⟩)] #[]
def RowRep(w:World)(d:Nat)(r:Nat)(og:Option Nat)(l:List Pn): Prop :=
 match og with
 | none=>l=[]/\Blk w r [qEc d,.slice none 0 0] 279
 | some g=>r≠g/\∃cap,Blk w r [qEc d,.slice (some ⟨g,0,none⟩) l.length cap] 279/\BRow w g cap l
theorem RowRep.lt{w:World}{d r:Nat}{og:Option Nat}{l:List Pn}(h:RowRep w d r og l): r<w.heap.size/\∀g,og=some g->g<w.heap.size/\r≠g:=by
 cases og with
 | none=>exact⟨h.2.lt,λ_ h=>by cases h⟩
 | some g=>obtain⟨hne,cap,hb,hr⟩:=h;exact⟨hb.lt,λg' h=>by cases h;exact⟨hr.lt,hne⟩⟩
theorem RowRep.keeps{M:Nat->Prop}{w w':World}{d r:Nat}{og:Option Nat}{l:List Pn}(h:RowRep w d r og l)(k:Keeps M w w')(hq:¬M r)(hg:∀g,og=some g->¬M g): RowRep w' d r og l:=by
 cases og with
 | none=>exact⟨h.1,h.2.keeps k hq⟩
 | some g=>obtain⟨hne,cap,hb,hr⟩:=h;exact⟨hne,cap,hb.keeps k hq,hr.keeps k (hg g rfl)⟩
theorem RowRep.still{w w':World}{d r:Nat}{og:Option Nat}{l:List Pn}(h:RowRep w d r og l)(k:Keeps (λ_=>False) w w'): RowRep w' d r og l:=h.keeps k (λh=>h) (λ_ _ h=>h)
theorem rowLen_any(d q:Nat)(og:Option Nat)(l:List Pn)(w:World)(h:RowRep w d q og l):
  Calls Tryz.prog 237 #[.pointer (some ⟨q,0,none⟩)] w λe w'=>e=.returned (.int .i64 l.length)/\w'=w:=by
 cases og with
 | none =>
  obtain⟨hl,hb⟩:=h;have hq1:w.cell? ⟨q,1,none⟩=some (.slice none 0 0):=hb.cell rfl;subst hl;clear hb;go_enter Tryz.func237,Tryz.ntmps237
  go_wp2
  go_ret
  exact⟨rfl,rfl⟩
 | some g =>
  obtain⟨hne,cap,hb,hr⟩:=h;have hq1:w.cell? ⟨q,1,none⟩=some (.slice (some ⟨g,0,none⟩) l.length cap):=hb.cell rfl;clear hb hr;go_enter Tryz.func237,Tryz.ntmps237
  go_wp2
  go_ret
  exact⟨rfl,rfl⟩
theorem lose_any(d q:Nat)(og:Option Nat)(l:List Pn)(k:Nat)(w:World)(h:RowRep w d q og l)(hk:k<=l.length):
  Calls Tryz.prog 205 #[.pointer (some ⟨q,0,none⟩),.int .i64 k] w λe w'=>e=.returned (.tuple #[])/\RowRep w' d q og (l.drop k)/\Keeps (λi=>i=q\/og=some i) w w':=by
 cases og with
 | none =>
  obtain⟨hl,hb⟩:=h;subst hl;have hk0:k=0:=by simpa using hk
  subst hk0;have hq1:w.cell? ⟨q,1,none⟩=some (.slice none 0 0):=hb.cell rfl;have hf:=hb.frozen;have HB:=hide hb;clear hb hk;go_enter Tryz.func205,Tryz.ntmps205
  go_wp2_with fail
  refine(qEk _).mono ?_;rintro e w' ⟨rfl,rfl⟩;go_wp2
  go_end0
  refine⟨rfl,⟨rfl,?_⟩,(Keeps.refl (λi=>i=q\/none=some i) _).setCell (p:=⟨q,1,none⟩) (Or.inl (Or.inl rfl)) _⟩;exact(uh HB).setCell 1 _
 | some g =>
  obtain⟨hne,cap,hb,hr⟩:=h;have hq1:w.cell? ⟨q,1,none⟩=some (.slice (some ⟨g,0,none⟩) l.length cap):=hb.cell rfl;have hlq:=hb.lt;have HB:=hide hb;have HR:=hide hr;clear hb hr;have HC:Hid (Calls Tryz.prog 235 #[.slice (some ⟨g,0,none⟩) l.length cap,.int .i64 0,.int .i64 k] w λe w'=>e=.returned (.slice (some ⟨g,0,none⟩) (l.length-k) cap)/\BRow w' g cap (l.drop k)/\Keeps (λi=>i=g) w w'):=by
   rcases Nat.eq_zero_or_pos k with h0 | h0
   ·subst h0
    refine(qDx g cap l.length w (uh HR).le).mono ?_;rintro e w' ⟨rfl,rfl⟩;exact⟨rfl,uh HR,Keeps.refl _ _⟩
   ·exact qGc g cap l.length k l w rfl (uh HR) h0 hk
  generalize hn:l.length=n at *;have HN:=hide hn;clear hn;go_enter Tryz.func205,Tryz.ntmps205
  go_wp2_with fail
  refine(uh HC).mono ?_;rintro e w1 ⟨rfl,hr1,hk1⟩;have HB1:=hide ((uh HB).keeps hk1 hne);have HR1:=hide hr1;have HK1:=hide hk1;clear hr1 hk1 HC HB HR hq1;have hq1:w1.cell? ⟨q,1,none⟩=some (.slice (some ⟨g,0,none⟩) n cap):=(uh HB1).cell rfl;have hf:=(uh HB1).frozen;go_wp2
  go_end0
  refine⟨rfl,⟨hne,cap,?_,?_⟩,?_⟩
  ·rw[List.length_drop,uh HN];exact(uh HB1).setCell 1 _
  ·exact(uh HR1).keeps (M:=λi=>i=q) ((Keeps.refl (λi=>i=q) _).setCell (p:=⟨q,1,none⟩) (Or.inl rfl) _) (λh=>hne h.symm)
  ·exact((uh HK1).mono (M':=λi=>i=q\/some g=some i) (λi _ h=>.inr (by rw[h]))).setCell (p:=⟨q,1,none⟩) (Or.inl (Or.inl rfl)) _
theorem RowRep.owns{w:World}{d q:Nat}{og:Option Nat}{l:List Pn}(h:RowRep w d q og l):
  ∃cap,Blk w q [qEc d,slV og l.length cap] 279/\w.ownsRow 0 237 49 (slV og l.length cap) l.length (flatP l):=by
 cases og with
 | none=>obtain⟨rfl,hb⟩:=h;exact⟨0,hb,World.ownsRow_nil _ _ _ _⟩
 | some g =>
  obtain⟨hne,cap,hb,hr⟩:=h;exact⟨cap,hb,hr.owns⟩
theorem qF7{w w1:World}{A B:Obj}{d q gg n cap cap':Nat}{og:Option Nat}{l:List Pn}{x:Pn}{v:Value}(hn:l.length=n)(hv:slV og n cap=v)(hlq:q<w.heap.size)(hb:Blk w q [qEc d,v] 279)(hqv:some q≠v.ownBlock)(hown1:w1.ownsRow 0 237 49 (.slice (some ⟨gg,0,none⟩) (n+1) cap') (n+1) (flatP l++x.cells))(hgrow:((w.alloc A).alloc B).drew.grownBy w1 v.ownBlock)(hat:v.ownBlock=some gg\/gg=w.heap.size+2):
  RowRep (w1.setCell ⟨q,1,none⟩ (.slice (some ⟨gg,0,none⟩) (n+1) cap')) d q (some gg) (l++[x]) /\
  Keeps (λk=>k=q\/og=some k) w (w1.setCell ⟨q,1,none⟩ (.slice (some ⟨gg,0,none⟩) (n+1) cap'))/\(og=some gg\/w.heap.size<=gg):=by
 have hob:∀k,v.ownBlock=some k->og=some k:=by
  intro k hk;rw[<-hv]at hk;cases og with
  | none=>simp[slV,Value.ownBlock]at hk
  | some g=>simpa[slV,Value.ownBlock] using hk
 have hqg:q≠gg:=by
  rcases hat with h | h
  ·intro e;apply hqv;rw[h,e]
  ·omega
 have hk1:Keeps (λk=>k=q\/og=some k) w w1:=(((Keeps.refl _ w).alloc A).alloc B).drew.grown hgrow (λk hk=>Or.inl (Or.inr (hob k hk)));have hb1:Blk w1 q [qEc d,v] 279:=by
  unfold Blk;rw[hgrow.block q (by simp;omega) hqv];exact(hb.alloc A).alloc B
 refine⟨⟨hqg,cap',?_,?_⟩,hk1.setCell (Or.inl (Or.inl rfl)) _,?_⟩
 ·have:(l++[x]).length=n+1:=by simp[hn]
  rw[this];exact hb1.setCell 1 _
 ·have hfl:flatP l++x.cells=flatP (l++[x]):=by rw[flatP_append,qH1];simp[flatP]
  rw[hfl]at hown1;exact(brow_of_owns (by simp[hn]) hown1).keeps (M:=λk=>k=q) ((Keeps.refl (λk=>k=q) _).setCell (Or.inl rfl) _) (λh=>hqg h.symm)
 ·rcases hat with h | h
  ·exact .inl (hob gg h)
  ·exact .inr (by omega)
theorem rowPut_any(d q:Nat)(og:Option Nat)(l:List Pn)(x:Pn)(w:World)(h:RowRep w d q og l)(hl:l.length<=1000000000):
  Calls Tryz.prog 234 #[.pointer (some ⟨q,0,none⟩),x.val] w λe w'=>e=.returned (.tuple #[])/\∃og',RowRep w' d q og' (l++[x])/\Keeps (λk=>k=q\/og=some k) w w'/\(og'=og\/∃k,og'=some k/\w.heap.size<=k):=by
 obtain⟨hlq,hlg⟩:=h.lt;obtain⟨cap,hb,hown⟩:=h.owns;have hq1:w.cell? ⟨q,1,none⟩=some (slV og l.length cap):=hb.cell rfl;have hfz:=hb.frozen 1;obtain⟨i0,hi0,hz0,hz1,hz2⟩:=info_parts infoBk;generalize hn:l.length=n at *;generalize hv:slV og n cap=v at *;have hxl:x.cells.length=49:=x.cells_length;unfold Pn.val;have HB:Hid (Blk w q [qEc d,v] 279):=hb;have HV:Hid (slV og n cap=v):=hv;have HN:Hid (l.length=n):=hn;have hqv:some q≠v.ownBlock:=by
  rw[<-hv];cases og with
  | none=>simp[slV,Value.ownBlock]
  | some g=>simp[slV,Value.ownBlock];exact(hlg g rfl).2
 have HF:Hid (∀A B w1,((w.alloc A).alloc B).drew.grownBy w1 v.ownBlock->w1.cell? ⟨q,1,none⟩=some v/\w1.frozen? ⟨q,1,none⟩=false):=λA B w1 hg=>by
  have hb1:w1.heap[q]?=w.heap[q]?:=by
   rw[hg.block q (by simp;omega) hqv];show((w.alloc A).alloc B).heap[q]?=_;rw[Below.heap_alloc _ _ _ (by simp;omega),Below.heap_alloc _ _ _ hlq]
  exact⟨(World.cell?_of_block (a:=⟨q,1,none⟩) hb1).trans hq1,(World.frozen?_of_block (a:=⟨q,1,none⟩) hb1).trans hfz⟩
 have hnew:Hid (∀A B,((w.alloc A).alloc B).drew.heap[w.heap.size+1]?=some B):=λA B=>by
  have:=heap_alloc_new (w.alloc A) B
  rwa [World.size_alloc]at this
 clear hb h hv hn hlg;go_enter Tryz.func234,Tryz.ntmps234
 go_wp2_with fail
 go_region_law
  ((refine step_append_lies _ (by rfl) _ _ _ (by rfl) 0 237 i0 _ 49 392 Tryz.underlying246 hi0 hz0 hz1 hz2 (by rfl) (by omega) v n (flatP l) (by rfl) (((hown.alloc _).alloc _).drew)
        ⟨w.heap.size+1,0,none⟩ 1 1 x.cells (by rfl) (by rw[x.cells_length]) (World.news_of_block (cs:=x.cells.toArray) (t:=237) (fr:=(0,0)) (hnew.out _ _)) x.one
        (by omega) (by unfold maxLen;omega) (by omega) (by omega) (w.heap.size+2) (by simp) ?_;intro gg cap' w1 hown1 hgrow hat hlt;have hcq:=(HF.out _ _ _ hgrow).1;have hfq:=(HF.out _ _ _ hgrow).2))
 all_goals
  have HE:=qF7 HN.out HV.out hlq HB.out hqv hown1 hgrow hat;obtain⟨hQ2,hK2,hog⟩:=HE;go_wp2
  go_end0
  refine⟨rfl,some gg,hQ2,hK2,?_⟩;rcases hog with h | h
  ·exact .inl h.symm
  ·exact .inr ⟨gg,rfl,h⟩
theorem rowNew_any(d:Nat)(w:World):
  Calls Tryz.prog 201 #[qEc d] w λe w'=>e=.returned (.pointer (some ⟨w.heap.size,0,none⟩))/\RowRep w' d w.heap.size none []/\Keeps (λ_=>False) w w'/\w'.heap.size=w.heap.size+1:=by
 unfold qEc;go_enter Tryz.func201,Tryz.ntmps201
 go_wp2
 go_ret
 exact⟨rfl,⟨rfl,Blk.new w [qEc d,.slice none 0 0] 279⟩,(Keeps.refl _ _).alloc _,by simp⟩
end Go.Proofs.YtahnliehdjncdabGreatDoor.Pa
namespace Go.Proofs.YtahnliehdjncdabGreatDoor
section
open Go.RowKit
def qA4(c:Cfg)(o:Pa.Pn)(r:Nat): List Value:=c.cells++(o.cells++[.pointer (some ⟨r,0,none⟩)])
theorem qB2(c:Cfg)(o:Pa.Pn)(r:Nat)(i:Nat)(h:i<20): (qA4 c o r)[i]?=c.cells[i]?:=by
 unfold qA4;rw[List.getElem?_append_left (by simpa[Cfg.cells] using h)]
theorem qJq(c:Cfg)(o:Pa.Pn)(r:Nat)(j:Nat)(h:j<49): (qA4 c o r)[20+j]?=o.cells[j]?:=by
 unfold qA4;rw[List.getElem?_append_right (by simp[Cfg.cells]),List.getElem?_append_left (by rw[o.cells_length];simp[Cfg.cells];omega)];simp[Cfg.cells]
theorem qL5(c:Cfg)(o:Pa.Pn)(r:Nat): (qA4 c o r)[69]?=some (.pointer (some ⟨r,0,none⟩)):=by
 unfold qA4;rw[List.getElem?_append_right (by simp[Cfg.cells]),List.getElem?_append_right (by rw[o.cells_length];simp[Cfg.cells])];simp[Cfg.cells,o.cells_length]
def qBd(c:Cfg): Int:=c.window/c.panes
def qF6(c:Cfg)(p:Pa.Pn): Int:=(p.no+1)*qBd c-1
theorem qKk(d:Nat)(c:Cfg)(w:World)(h5:w.cell? ⟨d,5,none⟩=some (.int .i64 c.window))(h9:w.cell? ⟨d,9,none⟩=some (.int .i64 c.panes))(w0:0<=c.window)(w1:c.window<=1000)(p0:1<=c.panes):
  Calls Tryz.prog 204 #[.pointer (some ⟨d,0,none⟩)] w λe w'=>e=.returned (.int .i64 (qBd c))/\Keeps (λ_=>False) w w':=by
 have hq:c.window.tdiv c.panes=c.window/c.panes:=Int.tdiv_eq_ediv_of_nonneg w0;have hb0:0<=c.window/c.panes:=Int.ediv_nonneg w0 (by omega);have hb1:c.window/c.panes<=c.window:=Int.ediv_le_self _ w0;have hw:IntKind.i64.wrap (c.window.tdiv c.panes)=c.window/c.panes:=by rw[hq,IntKind.wrap_i64];omega
 have hz:(c.panes==0)=false:=by simp;omega
 have hz2:¬c.panes=0:=by omega
 have HL:=hide (show c.window/c.panes=qBd c from rfl);go_enter Tryz.func204,Tryz.ntmps204
 go_wp2
 go_quiet (fail)
 go_wp2
 go_ret
 exact⟨qBa (uh HL),Keeps.drewN _ _ _⟩
end
section
open Go.RowKit
attribute [local go_sem ↓] Pa.execOp_loadP Pa.execOp_storeP Pa.execOp_bsP
attribute [local go_sem] Pa.run_loadP Pa.run_bsP qAc qAb qAm qAn qAh qAk
structure Cfg.paned (c:Cfg):Prop where
 w0:1<=c.window
 w1:c.window<=1000
 p0:1<=c.panes
 p1:c.panes<=8
def OkP(c:Cfg)(p:Pa.Pn): Prop:=0<=p.no/\p.no<=4611686018427387904/\0<=(p.no+1)*qBd c/\(p.no+1)*qBd c<=4611686018427389000
theorem qK5(d:Nat)(c:Cfg)(p:Pa.Pn)(w:World)(h5:w.cell? ⟨d,5,none⟩=some (.int .i64 c.window))(h9:w.cell? ⟨d,9,none⟩=some (.int .i64 c.panes))(hc:c.paned)(hp:OkP c p):
  Calls Tryz.prog 202 #[.pointer (some ⟨d,0,none⟩),.agg p.cells.toArray] w λe w'=>e=.returned (.int .i64 (qF6 c p))/\Keeps (λ_=>False) w w':=by
 obtain⟨W,hW⟩:∃W,W=w.alloc (.cells p.cells.toArray 237):=⟨_,rfl⟩;have HK:=hide (show Keeps (λ_=>False) w W by rw[hW];exact(Keeps.refl _ _).alloc _);have hx0:W.cell? ⟨w.heap.size,0,none⟩=some (.int .i64 p.no):=by rw[hW];exact(Blk.new w p.cells 237).cell rfl
 have g5:W.cell? ⟨d,5,none⟩=some (.int .i64 c.window):=(uh HK).cell h5 (λh=>h);have g9:W.cell? ⟨d,9,none⟩=some (.int .i64 c.panes):=(uh HK).cell h9 (λh=>h);have HW:=hide hW;obtain⟨n0,n1,b0,b1⟩:=hp;have HL:=hide (show(p.no+1)*qBd c-1=qF6 c p from rfl);have HLEN:=hide (λW' h5' h9'=>qKk d c W' h5' h9' (by have:=hc.w0;omega) hc.w1 hc.p0);generalize qBd c=L at *;have hw1:IntKind.i64.wrap (p.no+1)=p.no+1:=by rw[IntKind.wrap_i64];omega
 have hw2:IntKind.i64.wrap ((p.no+1)*L)=(p.no+1)*L:=by rw[IntKind.wrap_i64];omega
 have hw3:IntKind.i64.wrap ((p.no+1)*L-1)=(p.no+1)*L-1:=by rw[IntKind.wrap_i64];omega
 clear hW h5 h9 hc;go_enter Tryz.func202,Tryz.ntmps202
 go_wp2_with fail
 rw[show w.alloc (.cells p.cells.toArray 237)=W from(uh HW).symm];generalize hpb:w.heap.size=pb at *;go_region_held3 (λw'=>w'.cell? ⟨pb,0,none⟩=some (.int .i64 p.no)/\w'.cell? ⟨d,5,none⟩=some (.int .i64 c.window)/\w'.cell? ⟨d,9,none⟩=some (.int .i64 c.panes))
  (first | (go_split_ands;exact⟨by assumption,by assumption,by assumption⟩) | (go_split_ands;exact⟨hka.cell (by assumption) (λh=>h),hka.cell (by assumption) (λh=>h),hka.cell (by assumption) (λh=>h)⟩))
  (first | (go_at_call 204;refine(uh HLEN _ (by first | assumption | simpa using g5) (by first | assumption | simpa using g9)).mono ?_;rintro e W1 ⟨rfl,hka⟩))
 have HK1:=hide ((uh HK).drew.then hka);go_wp2
 go_ret
 exact⟨qBa (uh HL),uh HK1⟩
theorem qMi(p:Pa.Pn)(w:World): ∃W,(Pa.storeP 237 (.pointer (some ⟨w.heap.size,0,none⟩)) (.agg p.cells.toArray)).run Tryz.prog (w.alloc (.cells #[.int .i64 0,.int .i64 0,.int .i64 0,.int .i64 0,.int .i64 0,.int .i64 0,.int .i64 0,.int .i64 0,.int .i64 0,.int .i64 0,.int .i64 0,.int .i64 0,.int .i64 0,.int .i64 0,.int .i64 0,.int .i64 0,.int .i64 0,.int .i64 0,.int .i64 0,.int .i64 0,.int .i64 0,.int .i64 0,.int .i64 0,.int .i64 0,.int .i64 0,.int .i64 0,.int .i64 0,.int .i64 0,.int .i64 0,.int .i64 0,.int .i64 0,.int .i64 0,.int .i64 0,.int .i64 0,.int .i64 0,.int .i64 0,.int .i64 0,.int .i64 0,.int .i64 0,.int .i64 0,.int .i64 0,.int .i64 0,.int .i64 0,.int .i64 0,.int .i64 0,.int .i64 0,.int .i64 0,.int .i64 0,.int .i64 0] 237))=.ok .skip W/\Blk W w.heap.size p.cells 237/\Keeps (λ_=>False) w W:=by
 have hb:Blk (w.alloc (.cells #[.int .i64 0,.int .i64 0,.int .i64 0,.int .i64 0,.int .i64 0,.int .i64 0,.int .i64 0,.int .i64 0,.int .i64 0,.int .i64 0,.int .i64 0,.int .i64 0,.int .i64 0,.int .i64 0,.int .i64 0,.int .i64 0,.int .i64 0,.int .i64 0,.int .i64 0,.int .i64 0,.int .i64 0,.int .i64 0,.int .i64 0,.int .i64 0,.int .i64 0,.int .i64 0,.int .i64 0,.int .i64 0,.int .i64 0,.int .i64 0,.int .i64 0,.int .i64 0,.int .i64 0,.int .i64 0,.int .i64 0,.int .i64 0,.int .i64 0,.int .i64 0,.int .i64 0,.int .i64 0,.int .i64 0,.int .i64 0,.int .i64 0,.int .i64 0,.int .i64 0,.int .i64 0,.int .i64 0,.int .i64 0,.int .i64 0] 237)) w.heap.size (List.replicate 49 (.int .i64 0)) 237:=Blk.new w (List.replicate 49 (.int .i64 0)) _;refine⟨_,Pa.run_storeP _ w.heap.size 0 p.cells p.cells_length (λj hj=>⟨hb.some (by simpa using hj),hb.frozen _⟩) p.one,?_,?_⟩
 ·have:=Blk.setCells p.cells 0 _ _ hb (by rw[p.cells_length];simp)
  have e:over (List.replicate 49 (Value.int .i64 0)) 0 p.cells=p.cells:=by
   unfold over;rw[p.cells_length,List.drop_eq_nil_of_le (by simp)];simp
  rw[e]at this;exact this
 ·exact Keeps.setCells (Or.inr (Nat.le_refl _)) _ _ _ ((Keeps.refl (λ_=>False) w).alloc _)
theorem qXn(d q:Nat)(og:Option Nat)(l:List Pa.Pn)(i:Nat)(w:World)(h:Pa.RowRep w d q og l)(hi:i<l.length):
  Calls Tryz.prog 238 #[.pointer (some ⟨q,0,none⟩),.int .i64 i] w λe w'=>e=.returned (.agg (Pa.pnAt l i).cells.toArray)/\Keeps (λ_=>False) w w':=by
 cases og with
 | none=>obtain⟨hl,hb⟩:=h;subst hl;simp at hi
 | some g =>
  obtain⟨hne,cap,hb,hr⟩:=h;have hq1:w.cell? ⟨q,1,none⟩=some (.slice (some ⟨g,0,none⟩) l.length cap):=hb.cell rfl;have hlq:=hb.lt;have hlg:=hr.lt;have hrg:=qAq (hr.range i hi);rw[Pa.Pn.cells_length]at hrg;have hbv:qAu w g (i*49) 49=.agg (Pa.pnAt l i).cells.toArray:=by unfold qAu;rw[hrg.1]
  have hbh:qA2 w g (i*49) 49=true:=hrg.2;obtain⟨x,hx⟩:∃x,Pa.pnAt l i=x:=⟨_,rfl⟩;rw[hx]at hbv ⊢;generalize l.length=n at *;have hi0:(0:Int)<=(i:Int):=by omega
  have hin:(i:Int)<(n:Int):=by omega
  have hgne:g≠w.heap.size:=by omega
  obtain⟨W2,hst,hb2,hk2⟩:=qMi x w;have HB2:=hide hb2;have HK2:=hide hk2;clear hb hr hrg hx hb2 hk2;go_enter Tryz.func238,Tryz.ntmps238
  go_wp2
  have hlv:(loadVar 237 ⟨w.heap.size,0,none⟩).run Tryz.prog W2=.ok (.agg x.cells.toArray) W2 :=
   run_loadVar_mid W2 w.heap.size 0 237 x.cells _ (λj v hv=>by rw[Nat.zero_add];exact(uh HB2).cell hv) Tryz.underlying237 rfl (by rw[Pa.sizeP,x.cells_length])
  refine bodyPost_ret (v:=.agg x.cells.toArray) ?_ rfl ⟨rfl,uh HK2⟩;simp[results,Tryz.results238,asAddr,hlv]
def qEh(c:Cfg)(l:List Pa.Pn)(t:Int): Nat:=(l.takeWhile (λp=>decide (qF6 c p<=t))).length
theorem qWl(c:Cfg)(l:List Pa.Pn)(t:Int): qEh c l t<=l.length:=(List.takeWhile_prefix _).length_le
theorem qLa(d q:Nat)(og:Option Nat)(c:Cfg)(l:List Pa.Pn)(t:Int)(w:World)(h:Pa.RowRep w d q og l)(hl:l.length<=4398046511104)(h5:w.cell? ⟨d,5,none⟩=some (.int .i64 c.window))(h9:w.cell? ⟨d,9,none⟩=some (.int .i64 c.panes))(hc:c.paned)(hp:∀p∈l,OkP c p):
  Calls Tryz.prog 206 #[.pointer (some ⟨q,0,none⟩),.int .i64 t] w λe w'=>e=.returned (.int .i64 (qEh c l t))/\Keeps (λ_=>False) w w':=by
 cases og with
 | none =>
  obtain⟨hl,hb⟩:=h;have hq1:w.cell? ⟨q,1,none⟩=some (.slice none 0 0):=hb.cell rfl;subst hl;clear hb;go_enter Tryz.func206,Tryz.ntmps206
  go_wp2
  go_loopw [5] (λi wr=>i=.int .i64 0/\wr=w) (λ_ _=>0)
  case atStart=>exact⟨rfl,rfl⟩
  case round =>
   obtain⟨rfl,rfl⟩:=hrel;go_wp2
   go_quiet (fail)
   go_wp2
   go_ret
   exact⟨rfl,Keeps.drewN _ _ _⟩
 | some g =>
  obtain⟨hne,cap,hb,hr⟩:=h;have HB:=hide hb;have HR:=hide hr;have HP:=hide hp;have HC:=hide hc;have hltg:=hr.lt;clear hb hr hp hc;generalize hn:l.length=n at *;have HN:=hide hn;clear hn;go_enter Tryz.func206,Tryz.ntmps206
  go_wp2
  go_loopw [5] (λi wr=>∃k:Nat,i=.int .i64 k/\k<=n/\Hid (Keeps (λ_=>False) w wr)/\Hid (qEh c l t=k+qEh c (l.drop k) t)) (λi _=>n-(intOf i).toNat)
  case atStart=>exact⟨0,rfl,Nat.zero_le _,Keeps.refl _ _,by show _=_;simp⟩
  case round =>
   obtain⟨k,rfl,hk,HK,HE⟩:=hrel;have hq1:wr.cell? ⟨q,1,none⟩=some (.slice (some ⟨g,0,none⟩) n cap):=(uh HK).cell ((uh HB).cell rfl) (λh=>h);have hq0:wr.cell? ⟨q,0,none⟩=some (.func (.func 202) #[.pointer (some ⟨d,0,none⟩)] #[]):=(uh HK).cell ((uh HB).cell rfl) (λh=>h);have g5:wr.cell? ⟨d,5,none⟩=some (.int .i64 c.window):=(uh HK).cell h5 (λh=>h);have g9:wr.cell? ⟨d,9,none⟩=some (.int .i64 c.panes):=(uh HK).cell h9 (λh=>h)
   by_cases hlt:k<n
   ·have hkl:k<l.length:=by rw[uh HN];exact hlt
    have hrg:=qAq (((uh HR).keeps (uh HK) (λh=>h)).range k hkl);rw[Pa.Pn.cells_length]at hrg;have hbv:qAu wr g (k*49) 49=.agg (Pa.pnAt l k).cells.toArray:=by unfold qAu;rw[hrg.1]
    have hbh:qA2 wr g (k*49) 49=true:=hrg.2;have hgr:g<wr.heap.size:=Nat.lt_of_lt_of_le hltg (uh HK).size;clear hrg;have hk0:(0:Int)<=(k:Int):=by omega
    have hkn:(k:Int)<(n:Int):=by omega
    have HD:=hide (Pa.pnAt_drop l k hkl)
    have HOK:=hide (uh HP (Pa.pnAt l k) (by
         have:Pa.pnAt l k=l[k]:=by simp[Pa.pnAt,List.getD_eq_getElem?_getD,List.getElem?_eq_getElem hkl]
         rw[this];exact List.getElem_mem hkl))
    generalize Pa.pnAt l k=x at *;clear hkl;have HLT:=hide (λW h5' h9'=>qK5 d c x W h5' h9' (uh HC) (uh HOK));obtain⟨lt,hlast⟩:∃lt,qF6 c x=lt:=⟨_,rfl⟩;have HLA:=hide hlast;clear hlast
    by_cases ht:lt<=t
    all_goals
     have HT:=hide ht;go_wp2
     go_region_held3 (λw'=>w'.cell? ⟨q,0,none⟩=some (.func (.func 202) #[.pointer (some ⟨d,0,none⟩)] #[])/\w'.cell? ⟨q,1,none⟩=some (.slice (some ⟨g,0,none⟩) n cap) /\
        qAu w' g (k*49) 49=.agg x.cells.toArray/\qA2 w' g (k*49) 49=true/\w'.cell? ⟨d,5,none⟩=some (.int .i64 c.window)/\w'.cell? ⟨d,9,none⟩=some (.int .i64 c.panes)) (first | (go_split_ands;exact⟨by assumption,by assumption,by assumption,by assumption,by assumption,by assumption⟩) | (go_split_ands;exact⟨hka.cell (by assumption) (λh=>h),hka.cell (by assumption) (λh=>h),(qD1 hka (by first | exact hgr | simpa using hgr)).1.trans (by assumption),(qD1 hka (by first | exact hgr | simpa using hgr)).2.trans (by assumption),hka.cell (by assumption) (λh=>h),hka.cell (by assumption) (λh=>h)⟩))
      (first | (go_at_call 202;refine(uh HLT _ (by first | assumption | simpa using g5) (by first | assumption | simpa using g9)).mono ?_;rintro e W1 ⟨rfl,hka⟩;rw[uh HLA]))
     have HK1:=hide (((Keeps.refl (λ_=>False) wr).drew).then hka);clear hka
    ·go_wp2
     go_roundw
     case rel =>
      refine⟨k+1,by go_num,by omega,(uh HK).then (uh HK1),?_⟩;show _=_;rw[uh HE,uh HD];unfold qEh;rw[List.takeWhile_cons,if_pos (by simpa[uh HLA] using uh HT)];simp;omega
     case measure=>simp[intOf];omega
    ·go_wp2
     go_ret
     refine⟨?_,(uh HK).then (uh HK1)⟩;rw[uh HE,uh HD];unfold qEh;rw[List.takeWhile_cons,if_neg (by simpa[uh HLA] using uh HT)];simp
   ·have hd:decide ((k:Int)<(n:Int))=false:=by simp;omega
    go_wp2
    go_quiet (fail)
    go_wp2
    go_ret
    refine⟨?_,(uh HK).then (Keeps.drewN _ _ _)⟩;rw[uh HE,List.drop_eq_nil_of_le (by rw[uh HN];omega)];simp[qEh]
end
end Go.Proofs.YtahnliehdjncdabGreatDoor
