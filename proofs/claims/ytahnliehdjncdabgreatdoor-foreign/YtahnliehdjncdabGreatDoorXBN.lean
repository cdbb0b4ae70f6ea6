import Derived.Test.YtahnliehdjncdabGreatDoorXBM
import Derived.Test.YtahnliehdjncdabGreatDoorXBD
import Derived.Test.YtahnliehdjncdabGreatDoorXBG
import Derived.Test.YtahnliehdjncdabGreatDoorXBB
import Derived.Test.YtahnliehdjncdabGreatDoorXAY
import Derived.Test.YtahnliehdjncdabGreatDoorXAT
set_option maxRecDepth 100000
set_option maxHeartbeats 16000000
namespace Go.Proofs.YtahnliehdjncdabGreatDoor
section
open Go.RowKit
theorem qHd{lo hi:Int}{st:Option (List Nat)}(h:(qAs lo hi st).2≠none): st≠none/\lo<=(qAs lo hi st).1/\(qAs lo hi st).1<=hi:=by
 have hb:=qB4 lo hi st;refine⟨λe=>?_,hb.1,hb.2.2 h⟩;subst e;exact h rfl
theorem qHs{b:Bool}{st:Option (List Nat)}(h:qEm b st≠none): b=true/\st≠none:=by
 cases b with
 | true=>exact⟨rfl,h⟩
 | false=>exact absurd rfl h
theorem qWa(m rel P:Int): ∀q s,s.st=none->(bkR m rel P q s).st=none:=by
 intro q
 induction q with
 | zero=>intro s h;exact h
 | succ q ih =>
  intro s h;refine ih _ ?_;show qEm _ (qAs s.tm m s.st).2=none;rw[h];unfold qAs qEm
  split <;> rfl
theorem qV8(K m rel:Int): ∀b le s,s.st=none->(szR K m rel b le s).st=none:=by
 intro b
 induction b with
 | zero=>intro le s h;exact h
 | succ b ih =>
  intro le s h;refine ih _ _ (qWa _ _ _ _ _ ?_);show(qAs le (K+1) s.st).2=none;rw[h];rfl
theorem zJq(m rel P:Int)(p1:1<=P)(p2:P<=2305843009213693952)(r2:rel<=4611686018427387904): ∀q s,(bkR m rel P q s).st≠none->0<=s.tm->0<=s.it->s.it<=rel ->
  s.st≠none/\0<=(bkR m rel P q s).tm/\0<=(bkR m rel P q s).it/\(bkR m rel P q s).it<=rel/\∃ts:List Int,ts.length=q/\(bkR m rel P q s).l=s.l++ts.map (λt=>(⟨P,t⟩:Bk))/\(∀t,t∈ts->0<=t/\t<=m)/\(bkR m rel P q s).it=s.it+qDn (ts.map (λt=>(⟨P,t⟩:Bk))):=by
 intro q
 induction q with
 | zero=>intro s h t0 i0 i1;exact⟨h,t0,i0,i1,[],rfl,(List.append_nil _).symm,λt ht=>(by cases ht),by simp[qDn,bkR]⟩
 | succ q ih =>
  intro s h t0 i0 i1;have hw:IntKind.i64.wrap (s.it+P)=s.it+P:=by rw[IntKind.wrap_i64];omega
  have hlo:=(qB4 s.tm m s.st).1;have h2:(bkR m rel P q ⟨(qAs s.tm m s.st).1,IntKind.i64.wrap (s.it+P),s.l++[⟨P,(qAs s.tm m s.st).1⟩],qEm (decide (IntKind.i64.wrap (s.it+P)<=rel)) (qAs s.tm m s.st).2⟩).st≠none:=h
  by_cases hc:s.it+P<=rel
  ·obtain⟨a1,a2,a3,a4,ts,b1,b2,b3,b4⟩:=ih _ h2 (by simp only;omega) (by simp only;omega) (by simp only;omega)
   obtain⟨_,c2⟩:=qHs a1;obtain⟨d1,_,d3⟩:=qHd c2;refine⟨d1,a2,a3,a4,(qAs s.tm m s.st).1::ts,by rw[List.length_cons,b1],?_,λt ht=>?_,?_⟩
   ·show(bkR m rel P q _).l=_
    rw[b2,List.map_cons,List.append_assoc];rfl
   ·rcases List.mem_cons.1 ht with e | e
    ·rw[e];omega
    ·exact b3 t e
   ·show(bkR m rel P q _).it=_
    rw[b4,List.map_cons];show IntKind.i64.wrap (s.it+P)+_=s.it+(P+_);omega
  ·exfalso
   have e:qEm (decide (IntKind.i64.wrap (s.it+P)<=rel)) (qAs s.tm m s.st).2=none:=by
    rw[hw,decide_eq_false hc];rfl
   rw[e]at h2;exact h2 (qWa _ _ _ _ _ rfl)
def GsLe(le K:Int): List (List Int)->Prop
 | []=>True
 | x::xs=>le<=x.length/\(x.length:Int)<=K+1/\∀h,h∈xs->K<=h.length/\(h.length:Int)<=K+1
theorem zIn(K m rel:Int)(k1:1<=K)(r2:rel<=4611686018427387904): ∀b le s,b<=62->(szR K m rel b le s).st≠none->0<=le->le<=K->0<=s.tm->0<=s.it->s.it<=rel ->
  s.st≠none/\(szR K m rel b le s).it<=rel/\∃gs:List (List Int),gs.length=b/\(szR K m rel b le s).l=s.l++qJ5 0 gs/\GsLe le K gs/\(∀g,g∈gs->∀t,t∈g->0<=t/\t<=m)/\(szR K m rel b le s).it=s.it+qDn (qJ5 0 gs):=by
 intro b
 induction b with
 | zero=>intro le s _ h _ _ t0 i0 i1;exact⟨h,i1,[],rfl,(List.append_nil _).symm,trivial,λg hg=>(by cases hg),by simp[qJ5,qDn,szR]⟩
 | succ b ih =>
  intro le s hb62 h l0 lK t0 i0 i1;have pb:=qJ6 b (by omega);have h2:(szR K m rel b K (bkR m rel (2 ^ b) (qAs le (K+1) s.st).1.toNat ⟨s.tm,s.it,s.l,(qAs le (K+1) s.st).2⟩)).st≠none:=h;have h3:(bkR m rel (2 ^ b) (qAs le (K+1) s.st).1.toNat ⟨s.tm,s.it,s.l,(qAs le (K+1) s.st).2⟩).st≠none:=λe=>h2 (qV8 _ _ _ _ _ _ e)
  obtain⟨a1,a2,a3,a4,ts,b1,b2,b3,b4⟩:=zJq m rel (2 ^ b) pb.1 (by have:=pb.2;omega) r2 _ _ h3 t0 i0 i1;obtain⟨d1,d2,d3⟩:=qHd a1;obtain⟨_,e2,gs,f1,f2,f3,f4,f5⟩:=ih K _ (by omega) h2 (by omega) (Int.le_refl _) a2 a3 a4;refine⟨d1,e2,ts::gs,by rw[List.length_cons,f1],?_,?_,λg hg=>?_,?_⟩
  ·show(szR K m rel b K _).l=_
   rw[f2,b2,qJ5,Nat.zero_add,f1,List.append_assoc]
  ·refine⟨by omega,by omega,λx hx=>?_⟩
   cases gs with
   | nil=>cases hx
   | cons y ys =>
    rcases List.mem_cons.1 hx with e | e
    ·rw[e];exact⟨f3.1,f3.2.1⟩
    ·exact f3.2.2 x e
  ·rcases List.mem_cons.1 hg with e | e
   ·rw[e];exact b3
   ·exact f4 g e
  ·show(szR K m rel b K _).it=_
   rw[f5,b4,qJ5,qDg,Nat.zero_add,f1];show s.it+_+_=s.it+(_+_);omega
theorem qV9(g:Nat): ∀gs:List (List Int),∀b,b∈qJ5 g gs->∃x,x∈gs/\b.t∈x
 | []=>λb hb=>by cases hb
 | x::xs=>λb hb=>by
  unfold qJ5 at hb;rcases List.mem_append.1 hb with hb | hb
  ·obtain⟨t,ht,rfl⟩:=List.mem_map.1 hb
   exact⟨x,by simp,ht⟩
  ·obtain⟨y,hy,h⟩:=qV9 g xs b hb
   exact⟨y,by simp[hy],h⟩
theorem zGa(K m rel:Int)(st:Option (List Nat))(h:(qUh K m rel st).2≠none)(k1:1<=K)(r0:0<=rel)(r2:rel<=4611686018427387904):
  (∀b∈(qUh K m rel st).1,1<=b.sz)/\qDn (qUh K m rel st).1<=rel/\Lw K.toNat 0 (qUh K m rel st).1/\(∀b∈(qUh K m rel st).1,0<=b.t/\b.t<=m):=by
 have hS:=qB4 0 62 st;obtain⟨a1,a2,gs,b1,b2,b3,b4,b5⟩:=zIn K m rel k1 r2 (qAs 0 62 st).1.toNat 1 ⟨0,0,[],(qAs 0 62 st).2⟩ (by omega) h (by omega) k1 (Int.le_refl _) (Int.le_refl _) r0;have e:(qUh K m rel st).1=qJ5 0 gs:=by
  show(szR K m rel (qAs 0 62 st).1.toNat 1 ⟨0,0,[],(qAs 0 62 st).2⟩).l=_;rw[b2];rfl
 have hg:GsOk K.toNat gs:=by
  cases gs with
  | nil=>trivial
  | cons x xs=>exact⟨by have:=b3.1;omega,by have:=b3.2.1;omega,λy hy=>by have:=b3.2.2 y hy;omega⟩
 rw[e];refine⟨(qQk gs (λg h=>(hg.all (by omega) g h).1)).2,?_,⟨gs,rfl,hg⟩,λb hb=>?_⟩
 ·rw[b5]at a2
  simp only at a2;omega
 ·obtain⟨x,hx,ht⟩:=qV9 0 gs b hb
  exact b4 x hx _ ht
theorem qWu(m:Int): ∀q lt lr l,(mkR m q lt lr l none).2=none:=by
 intro q
 induction q with
 | zero=>intro lt lr l;rfl
 | succ q ih=>intro lt lr l;exact ih _ _ _
theorem zI1(m:Int): ∀q lt lr l st,(mkR m q lt lr l st).2≠none->-1<=lt->1<=lr->lr<=41->Fall l->(∀b∈l,1<=b.t/\b.t<=40/\0<=b.sz/\b.sz<=m/\lr<=b.t) ->
  st≠none/\Fall (mkR m q lt lr l st).1/\(∀b∈(mkR m q lt lr l st).1,1<=b.t/\b.t<=40/\0<=b.sz/\b.sz<=m)/\(mkR m q lt lr l st).1.length=l.length+q:=by
 intro q
 induction q with
 | zero=>intro lt lr l st h _ _ _ hf hb;exact⟨h,hf,λb hm=>⟨(hb b hm).1,(hb b hm).2.1,(hb b hm).2.2.1,(hb b hm).2.2.2.1⟩,rfl⟩
 | succ q ih =>
  intro lt lr l st h t0 r0 r1 hf hb;have h2:(mkR m q (qAs (lt+1) m st).1 (qAs 1 (lr-1) (qAs (lt+1) m st).2).1 (l++[⟨(qAs (lt+1) m st).1,(qAs 1 (lr-1) (qAs (lt+1) m st).2).1⟩]) (qAs 1 (lr-1) (qAs (lt+1) m st).2).2).2≠none:=h;have h3:(qAs 1 (lr-1) (qAs (lt+1) m st).2).2≠none:=λe=>by rw[e,qWu]at h2;exact h2 rfl
  obtain⟨a1,a2,a3⟩:=qHd h3;obtain⟨b1,b2,b3⟩:=qHd a1
  obtain⟨_,c2,c3,c4⟩:=ih _ _ _ _ h2 (by omega) (by omega) (by omega) (List.pairwise_append.2 ⟨hf,List.pairwise_singleton _ _,λx hx y hy=>by
       rw[List.mem_singleton]at hy;rw[hy];have:=(hb x hx).2.2.2.2;show(qAs 1 (lr-1) (qAs (lt+1) m st).2).1<x.t
       omega⟩) (λx hx=>by
     rcases List.mem_append.1 hx with hx | hx
     ·have:=hb x hx
      omega
     ·rw[List.mem_singleton]at hx
      rw[hx];show 1<=(qAs 1 (lr-1) (qAs (lt+1) m st).2).1/\(qAs 1 (lr-1) (qAs (lt+1) m st).2).1<=40/\0<=(qAs (lt+1) m st).1/\(qAs (lt+1) m st).1<=m/\(qAs 1 (lr-1) (qAs (lt+1) m st).2).1<=(qAs 1 (lr-1) (qAs (lt+1) m st).2).1
      omega)
  exact⟨b1,c2,c3,by rw[show(mkR m (q+1) lt lr l st).1=(mkR m q (qAs (lt+1) m st).1 (qAs 1 (lr-1) (qAs (lt+1) m st).2).1 (l++[⟨(qAs (lt+1) m st).1,(qAs 1 (lr-1) (qAs (lt+1) m st).2).1⟩]) (qAs 1 (lr-1) (qAs (lt+1) m st).2).2).1 from rfl,c4,List.length_append,List.length_singleton];omega⟩
theorem qSq(m:Int): ∀k i s,s.st=none->(qTb m k i s).st=none:=by
 intro k
 induction k with
 | zero=>intro i s h;exact h
 | succ k ih =>
  intro i s h;refine ih _ _ ?_;show(mkR m _ (-1) 41 [] (qAs 0 40 s.st).2).2=none;rw[h];exact qWu _ _ _ _ _
def RegI(m:Int)(n:Nat)(ls:Nat->List Bk): Prop:=∀i,Fall (ls i)/\(∀b∈ls i,1<=b.t/\b.t<=40/\0<=b.sz/\b.sz<=m)/\(ls i).length<=n
theorem zHc(m:Int): ∀k i s,(qTb m k i s).st≠none->RegI m s.it s.ls->RegI m (qTb m k i s).it (qTb m k i s).ls:=by
 intro k
 induction k with
 | zero=>intro i s _ h;exact h
 | succ k ih =>
  intro i s h hI;refine ih _ _ h (λj=>?_);have h3:(mkR m (qAs 0 40 s.st).1.toNat (-1) 41 [] (qAs 0 40 s.st).2).2≠none:=λe=>h (qSq m k _ _ e)
  obtain⟨_,a2,a3,a4⟩:=zI1 m _ _ _ _ _ h3 (by omega) (by omega) (by omega) List.Pairwise.nil (λb hb=>by cases hb);obtain⟨b1,b2,b3⟩:=hI j;show Fall (qQf s.ls i _ j)/\(∀b∈qQf s.ls i _ j,_)/\(qQf s.ls i _ j).length<=s.it+(qAs 0 40 s.st).1.toNat;unfold qQf
  by_cases e:j=i
  ·rw[if_pos e]
   refine⟨a2,a3,?_⟩;rw[a4,List.length_nil];omega
  ·rw[if_neg e]
   exact⟨b1,b2,by omega⟩
theorem zH3(m rel:Int)(n:Nat)(st:Option (List Nat))(h:(qYe m rel n st).2≠none): ∀i,Fall ((qYe m rel n st).1 i)/\(∀b∈(qYe m rel n st).1 i,1<=b.t/\b.t<=40/\0<=b.sz/\b.sz<=m)/\(((qYe m rel n st).1 i).length:Int)<=rel:=by
 obtain⟨h1,h2⟩:=qHs (show qEm (decide (((qTb m n 0 ⟨0,λ_=>[],st⟩).it:Int)<=rel)) (qTb m n 0 ⟨0,λ_=>[],st⟩).st≠none from h);have h3:((qTb m n 0 ⟨0,λ_=>[],st⟩).it:Int)<=rel:=by simpa using h1
 intro i;obtain⟨a1,a2,a3⟩:=zHc m n 0 ⟨0,λ_=>[],st⟩ h2 (λi=>⟨List.Pairwise.nil,λb hb=>(by cases hb),Nat.le_refl _⟩) i;exact⟨a1,a2,by show((((qTb m n 0 ⟨0,λ_=>[],st⟩).ls i).length:Nat):Int)<=rel;omega⟩
theorem qS1(most:Int)(k:Nat): ∀n j s,s.st=none->(qFy most k n j s).st=none:=by
 intro n
 induction n with
 | zero=>intro j s h;exact h
 | succ n ih =>
  intro j s h;refine ih _ _ ?_;show(qAs 0 (most-s.sm) s.st).2=none;rw[h];rfl
theorem qMg(most:Int)(W:Nat): ∀n k s,s.st=none->(qCn most W n k s).st=none:=by
 intro n
 induction n with
 | zero=>intro k s h;exact h
 | succ n ih =>
  intro k s h;refine ih _ _ ?_;show qEm _ (qFy most k W 0 ⟨0,s.p,s.st⟩).st=none;rw[qS1 most k W 0 ⟨0,s.p,s.st⟩ h];unfold qEm
  split <;> rfl
theorem qZ6(most:Int)(k:Nat): ∀n j s,s.sm<=(qFy most k n j s).sm/\(qFy most k n j s).p.no=s.p.no:=by
 intro n
 induction n with
 | zero=>intro j s;exact⟨Int.le_refl _,rfl⟩
 | succ n ih =>
  intro j s;have hb:=(qB4 0 (most-s.sm) s.st).1;have:=ih (j+1) ⟨s.sm+(qAs 0 (most-s.sm) s.st).1,qV5 s.p (k*16+j) (qAs 0 (most-s.sm) s.st).1,(qAs 0 (most-s.sm) s.st).2⟩;exact⟨Int.le_trans (by simp only;omega) this.1,this.2⟩
theorem qXu(most:Int)(k:Nat)(B:Int): ∀n j s,(∀x∈s.p.cs,0<=x/\x<=B)->0<=s.sm->(qFy most k n j s).sm<=B->∀x∈(qFy most k n j s).p.cs,0<=x/\x<=B:=by
 intro n
 induction n with
 | zero=>intro j s h _ _;exact h
 | succ n ih =>
  intro j s h h0 hB;have hb:=(qB4 0 (most-s.sm) s.st).1;have hu:=(qZ6 most k n (j+1) ⟨s.sm+(qAs 0 (most-s.sm) s.st).1,qV5 s.p (k*16+j) (qAs 0 (most-s.sm) s.st).1,(qAs 0 (most-s.sm) s.st).2⟩).1;have hB2:(qFy most k n (j+1) ⟨s.sm+(qAs 0 (most-s.sm) s.st).1,qV5 s.p (k*16+j) (qAs 0 (most-s.sm) s.st).1,(qAs 0 (most-s.sm) s.st).2⟩).sm<=B:=hB;simp only at hu;refine ih (j+1) _ (λx hx=>?_) (by simp only;omega) hB;have hx2:x∈s.p.cs.set (k*16+j) (qAs 0 (most-s.sm) s.st).1:=hx;rcases List.mem_or_eq_of_mem_set hx2 with e | e
  ·exact h x e
  ·rw[e];omega
theorem zAs(most:Int)(W:Nat): ∀n k s,(qCn most W n k s).st≠none->(∀x∈s.p.cs,0<=x/\x<=s.sm)->(k=0->s.sm=0) ->
  s.st≠none/\(∀x∈(qCn most W n k s).p.cs,0<=x/\x<=(qCn most W n k s).sm)/\(qCn most W n k s).p.no=s.p.no/\(1<=n->0<(qCn most W n k s).sm):=by
 intro n
 induction n with
 | zero=>intro k s h hc _;exact⟨h,hc,rfl,λh=>by omega⟩
 | succ n ih =>
  intro k s h hc hk;have h2:(qCn most W n (k+1) ⟨(qFy most k W 0 ⟨0,s.p,s.st⟩).sm,(qFy most k W 0 ⟨0,s.p,s.st⟩).p,qEm (decide (0<(qFy most k W 0 ⟨0,s.p,s.st⟩).sm)&&((k:Int)==0||(qFy most k W 0 ⟨0,s.p,s.st⟩).sm==s.sm)) (qFy most k W 0 ⟨0,s.p,s.st⟩).st⟩).st≠none:=h;have hu:=qZ6 most k W 0 ⟨0,s.p,s.st⟩;have hrc:=λB=>qXu most k B W 0 ⟨0,s.p,s.st⟩
  have hrn:=qS1 most k W 0 ⟨0,s.p,s.st⟩;have hE:qCn most W (n+1) k s=qCn most W n (k+1) ⟨(qFy most k W 0 ⟨0,s.p,s.st⟩).sm,(qFy most k W 0 ⟨0,s.p,s.st⟩).p,qEm (decide (0<(qFy most k W 0 ⟨0,s.p,s.st⟩).sm)&&((k:Int)==0||(qFy most k W 0 ⟨0,s.p,s.st⟩).sm==s.sm)) (qFy most k W 0 ⟨0,s.p,s.st⟩).st⟩:=rfl;rw[hE];clear hE h;generalize qFy most k W 0 ⟨0,s.p,s.st⟩=t at *;have h3:qEm (decide (0<t.sm)&&((k:Int)==0||t.sm==s.sm)) t.st≠none:=λe=>h2 (qMg _ _ _ _ _ e)
  obtain⟨c1,c2⟩:=qHs h3;simp only[Bool.and_eq_true,Bool.or_eq_true,decide_eq_true_eq,beq_iff_eq]at c1;obtain⟨c3,c4⟩:=c1;have hsm:s.sm<=t.sm:=by
   rcases c4 with e | e
   ·have:=hk (by omega);omega
   ·omega
  have hcells:=hrc t.sm (λx hx=>by have:=hc x hx;omega) (Int.le_refl _) (Int.le_refl _);obtain⟨a1,a2,a3,a4⟩:=ih (k+1) _ h2 hcells (λe=>by omega);refine⟨λe=>c2 (hrn e),a2,a3.trans hu.2,λ_=>?_⟩;cases n with
  | zero=>exact c3
  | succ n=>exact a4 (by omega)
theorem zBy(l:List Pa.Pn)(p:Pa.Pn): qGh (l++[p])=qGh l+qI4 p:=by rw[qFo];simp[qGh]
structure OfI (L last rel:Int) (i:Nat) (s:OR):Prop where
 lf0:0<=s.lf
 on0:0<=s.s.1.no
 onT:s.s.1.no*L<=last
 asc:s.s.2.Pairwise (λa b=>a.no<b.no)
 lt:∀p∈s.s.2,0<=p.no/\p.no<s.s.1.no
 ocs:∀x∈s.s.1.cs,0<=x
 ccs:∀p∈s.s.2,∀x∈p.cs,0<=x
 tops:qGh s.s.2+qI4 s.s.1+s.lf<=rel
 new:(s.s.1.no<s.le/\s.s.2.length+1<=i)\/(s.s=(Pa.pn0,[])/\s.le=0)
theorem qOs(R W:Nat)(M:Int): ∀n s,s.st=none->(qIc R W M n s).st=none:=by
 intro n
 induction n with
 | zero=>intro s h;exact h
 | succ n ih =>
  intro s h;refine ih _ ?_;show(qCn s.lf W R 0 ⟨0,(qBp s.s.1 s.s.2 (qAs s.le M s.st).1).1,(qAs s.le M s.st).2⟩).st=none;refine qMg _ _ _ _ _ ?_;show(qAs s.le M s.st).2=none;rw[h];rfl
theorem zC3(R W:Nat)(M L last rel:Int)(R1:1<=R)(hM:∀no,0<=no->no<=M->0<rel->no*L<=last): ∀n i s,(qIc R W M n s).st≠none->OfI L last rel i s->OfI L last rel (i+n) (qIc R W M n s):=by
 intro n
 induction n with
 | zero=>intro i s _ h;exact h
 | succ n ih =>
  intro i s h hI;obtain⟨lf,le,⟨o,cl⟩,st⟩:=s;have hE:qIc R W M (n+1) ⟨lf,le,(o,cl),st⟩=qIc R W M n ⟨lf-(qI3 lf R W (qBp o cl (qAs le M st).1).1 (qAs le M st).2).sm,(qAs le M st).1+1,((qI3 lf R W (qBp o cl (qAs le M st).1).1 (qAs le M st).2).p,(qBp o cl (qAs le M st).1).2),(qI3 lf R W (qBp o cl (qAs le M st).1).1 (qAs le M st).2).st⟩:=rfl;rw[hE]at h ⊢;rw[show i+(n+1)=(i+1)+n by omega];refine ih (i+1) _ h ?_;have h2:(qI3 lf R W (qBp o cl (qAs le M st).1).1 (qAs le M st).2).st≠none:=λe=>h (qOs _ _ _ _ _ e)
  clear hE h ih;have hle:0<=le:=by
   rcases hI.new with e | e
   ·have:=hI.on0;have:=e.1;simp only at *;omega
   ·have:=e.2;simp only at this;omega
  have hzero:∀x∈(qBp o cl (qAs le M st).1).1.cs,0<=x/\x<=0:=λx hx=>by
   unfold qBp at hx
   split at hx
   ·rename_i e
    rcases hI.new with e2 | e2
    ·have:=(qB4 le M st).1
     have:=e2.1;simp only at this;omega
    ·have e3:o=Pa.pn0:=congrArg Prod.fst e2.1
     rw[e3]at hx;have:=(List.mem_replicate.1 (show x∈List.replicate 48 (0:Int) from hx)).2;omega
   ·have:=(List.mem_replicate.1 (show x∈List.replicate 48 (0:Int) from hx)).2
    omega
  have hfb:=qRl lf W hI.lf0 R 0 ⟨0,(qBp o cl (qAs le M st).1).1,(qAs le M st).2⟩ (Int.le_refl _) hI.lf0;obtain⟨a1,a2,a3,a4⟩:=zAs lf W R 0 ⟨0,(qBp o cl (qAs le M st).1).1,(qAs le M st).2⟩ h2 hzero (λ_=>rfl);obtain⟨b1,b2,b3⟩:=qHd a1;have hF:qCn lf W R 0 ⟨0,(qBp o cl (qAs le M st).1).1,(qAs le M st).2⟩=qI3 lf R W (qBp o cl (qAs le M st).1).1 (qAs le M st).2:=rfl;rw[hF]at hfb a2 a3 a4;have a5:=a4 R1;have hno:(qBp o cl (qAs le M st).1).1.no=(qAs le M st).1:=by
   unfold qBp
   split
   ·rename_i e;exact e
   ·rfl
  have a6:=a3.trans hno;generalize qI3 lf R W (qBp o cl (qAs le M st).1).1 (qAs le M st).2=F at *;generalize(qAs le M st).1=no at *;have htop:=qRm (cs:=F.p.cs) (B:=F.sm) (by omega) (λx hx=>(a2 x hx).2);have hto:0<=qI4 o:=qK3 o.cs;have htops:=hI.tops;have hs1:=qJ7 cl;simp only at htops;have hcl:(qBp o cl no).2=cl\/((qBp o cl no).2=cl++[o]/\o.no<le/\cl.length+1<=i):=by
   unfold qBp
   split
   ·exact .inl rfl
   ·dsimp only
    split
    ·exact .inl rfl
    ·rename_i h1 h2
     rcases hI.new with e | e
     ·exact .inr ⟨rfl,e.1,e.2⟩
     ·have e3:o=Pa.pn0:=congrArg Prod.fst e.1
      exact absurd (show o.cs=qAw by rw[e3];rfl) h2
  have hon:o.no<no\/cl=[]:=by
   rcases hI.new with e | e
   ·have:=e.1;simp only at this;exact .inl (by omega)
   ·exact .inr (congrArg Prod.snd e.1)
  have hlen:cl.length<=i:=by
   rcases hI.new with e | e
   ·have:=e.2;simp only at this;omega
   ·rw[show cl=[] from congrArg Prod.snd e.1];simp
  have hlt:=hI.lt;have hccs:=hI.ccs;have hasc:=hI.asc;have hocs:=hI.ocs;have hon0:=hI.on0;simp only at hlt hccs hasc hocs hon0;rcases hcl with e | ⟨e,e2,e3⟩
  ·rw[e]
   exact⟨by simp only;omega,by show 0<=F.p.no;omega,by show F.p.no*L<=last;rw[a6];exact hM no (by omega) b3 (by omega),hasc,(λp hp=>by
        rcases hon with f | f
        ·have:=hlt p hp;show _/\p.no<F.p.no;omega
        ·have hp2:p∈cl:=hp
         rw[f]at hp2;cases hp2),λx hx=>(a2 x hx).1,hccs,by show qGh cl+F.p.cs.foldr max 0+(lf-F.sm)<=rel;omega,.inl ⟨by show F.p.no<no+1;omega,by show cl.length+1<=i+1;omega⟩⟩
  ·rw[e]
   refine⟨by simp only;omega,by show 0<=F.p.no;omega,by show F.p.no*L<=last;rw[a6];exact hM no (by omega) b3 (by omega),List.pairwise_append.2 ⟨hasc,List.pairwise_singleton _ _,λp hp q hq=>?_⟩,λp hp=>?_,λx hx=>(a2 x hx).1,λp hp=>?_,?_,.inl ⟨by show F.p.no<no+1;omega,by show(cl++[o]).length+1<=i+1;rw[List.length_append,List.length_singleton];omega⟩⟩
   ·rw[List.mem_singleton]at hq;rw[hq];exact(hlt p hp).2
   ·show _/\p.no<F.p.no
    rcases List.mem_append.1 hp with hp | hp
    ·have:=hlt p hp;omega
    ·rw[List.mem_singleton]at hp;rw[hp];omega
   ·rcases List.mem_append.1 hp with hp | hp
    ·exact hccs p hp
    ·rw[List.mem_singleton]at hp;rw[hp];exact hocs
   ·show qGh (cl++[o])+F.p.cs.foldr max 0+(lf-F.sm)<=rel
    rw[zBy];omega
theorem zGd(c:Cfg)(m rel last:Int)(st:Option (List Nat))(h:(qPi c m rel st).st≠none)(hrw:c.rowed)(hL:1<=qBd c)(r0:0<=rel)(hp:1<=c.panes)(l0:0<=last)(hm:0<=m->m<=last)(hn:m<0->rel=0):
  OInv c rel last (qPi c m rel st).s.1 (qPi c m rel st).s.2:=by
 have h0:qPi c m rel st=qIc c.rows.toNat c.width.toNat (m.tdiv (qBd c)) (qAs 0 (c.panes+1) st).1.toNat ⟨rel,0,(Pa.pn0,[]),(qAs 0 (c.panes+1) st).2⟩:=rfl;have hN:=qB4 0 (c.panes+1) st;have hr:=hrw.r0
 have hI:=zC3 c.rows.toNat c.width.toNat (m.tdiv (qBd c)) (qBd c) last rel (by omega) (λno n0 n1 hpos=>by
    have hm0:0<=m:=by
     rcases Int.lt_or_le m 0 with e | e
     ·have:=hn e;omega
     ·exact e
    rw[Int.tdiv_eq_ediv_of_nonneg hm0]at n1;have h1:=Int.mul_le_mul_of_nonneg_right n1 (show 0<=qBd c by omega);have h2:=Int.ediv_mul_le m (show qBd c≠0 by omega);have:=hm hm0;omega) (qAs 0 (c.panes+1) st).1.toNat 0 ⟨rel,0,(Pa.pn0,[]),(qAs 0 (c.panes+1) st).2⟩ (by rw[<-h0];exact h) ⟨r0,Int.le_refl _,by show(0:Int)*qBd c<=last;omega,List.Pairwise.nil,λp hp=>(by cases hp),λx hx=>by
     have:=(List.mem_replicate.1 (show x∈List.replicate 48 (0:Int) from hx)).2;omega,λp hp=>(by cases hp),by
     have:=qRm (cs:=Pa.pn0.cs) (B:=0) (Int.le_refl _) (λx hx=>by have:=(List.mem_replicate.1 (show x∈List.replicate 48 (0:Int) from hx)).2;omega);show(0:Int)+Pa.pn0.cs.foldr max 0+rel<=rel
     omega,.inr ⟨rfl,rfl⟩⟩
 rw[<-h0]at hI;have hlf:=hI.lf0;refine⟨hI.on0,hI.onT,hI.asc,hI.lt,hI.ocs,hI.ccs,by have:=hI.tops;omega,?_⟩;rcases hI.new with e | e
 ·have:=e.2;omega
 ·rw[show(qPi c m rel st).s.2=[] from congrArg Prod.snd e.1];simp;omega
theorem qFe(b:Bool): qEm b none=none:=by unfold qEm;split <;> rfl
theorem zFy{acc:Int}{ns:List Int}{st:Option (List Nat)}(h:(knR acc ns st).2≠none): st≠none/\1<=(knR acc ns st).1/\(knR acc ns st).1<=acc:=by
 obtain⟨_,h2⟩:=qHs (show qEm _ (qAs 1 acc st).2≠none from h);exact qHd h2
theorem qIs(k:Nat): (qAy k none).2=none:=by
 induction k with
 | zero=>rfl
 | succ k ih=>exact ih
theorem qSr{k:Nat}{st:Option (List Nat)}(h:(qAy k st).2≠none): st≠none:=λe=>by
 rw[e]at h;exact h (qIs k)
theorem zGk{c:Cfg}{tk:List Dr.It}(y:It)(h:∀z∈tk,qY7 z)(hy:(0<=y.t/\y.t<=4611686018427387904)/\(0<=y.k/\y.k<=4611686018427387904)/\(0<=y.d/\y.d<=4611686018427387904)/\(0<=y.n/\y.n<=4611686018427387904)): ∀z∈qG1 c tk y,qY7 z:=by
 have:=zA8 (k:=5) (c:=c) (nt:={ qC9 with tk:=tk }) ⟨λb hb=>(by cases hb),λi b hb=>(by cases hb),λi=>List.Pairwise.nil,λ_=>h⟩ y 0 hy.1.1 hy.1.2 (λ_=>hy.2);exact this.tt rfl
theorem zC8(c:Cfg)(m acc:Int)(m1:m<=4611686018427387904)(a1:acc<=4611686018427387904): ∀n s,(qId c m acc n s).st≠none->(∀z∈s.tk,qY7 z)->(∀z∈(qId c m acc n s).tk,qY7 z)/\(qId c m acc n s).tk.length<=s.tk.length+n:=by
 intro n
 induction n with
 | zero=>intro s _ h;exact⟨h,Nat.le_refl _⟩
 | succ n ih =>
  intro s h hz;have hE:qId c m acc (n+1) s=if (qGr c m acc s).st.isNone then qGr c m acc s else qId c m acc n (qGr c m acc s):=rfl
  rw[hE]at h ⊢;clear hE
  by_cases hn:(qGr c m acc s).st=none
  ·rw[if_pos (by rw[hn];rfl)]at h
   exact absurd hn h
  ·have hi:¬(qGr c m acc s).st.isNone=true:=λe=>hn (Option.isNone_iff_eq_none.1 e)
   rw[if_neg hi]at h ⊢;obtain⟨c1,c2⟩:=qHs (show qEm (inB (itD (knR acc s.ns s.st).1 (qAy 3 (knR acc s.ns s.st).2).1).t 0 m&&qCy c 5 (itD (knR acc s.ns s.st).1 (qAy 3 (knR acc s.ns s.st).2).1)==0) (qAy 3 (knR acc s.ns s.st).2).2≠none from hn);obtain⟨_,d2,d3⟩:=zFy (qSr c2);have hT:(qGr c m acc s).tk=qG1 c s.tk (itD (knR acc s.ns s.st).1 (qAy 3 (knR acc s.ns s.st).2).1):=by
    show(if (qGr c m acc s).st.isNone then s.tk else _)=_;rw[if_neg hi]
   simp only[Bool.and_eq_true,beq_iff_eq]at c1;obtain⟨e1,e2⟩:=qCq c1.1;have hk:=qH5 c1.2 rfl;have hz2:∀z∈(qGr c m acc s).tk,qY7 z:=by
    rw[hT];exact zGk _ hz ⟨⟨e1,by omega⟩,hk.1,hk.2,by show 0<=(knR acc s.ns s.st).1/\(knR acc s.ns s.st).1<=_;omega⟩
   obtain⟨a,b⟩:=ih _ h hz2;refine⟨a,Nat.le_trans b ?_⟩;rw[hT];have:=qSj c s.tk (itD (knR acc s.ns s.st).1 (qAy 3 (knR acc s.ns s.st).2).1);omega
theorem zF8(c:Cfg)(m acc rel:Int)(ns:List Int)(st:Option (List Nat))(h:(qWr c m acc rel ns st).st≠none)(m1:m<=4611686018427387904)(a1:acc<=4611686018427387904)(s0:1<=c.size): (∀z∈(qWr c m acc rel ns st).tk,qY7 z)/\((qWr c m acc rel ns st).tk.length:Int)<=c.size+1:=by
 obtain⟨a,b⟩:=zC8 c m acc m1 a1 (qPh rel (c.size+1)).toNat ⟨[],ns,st⟩ h (λz hz=>by cases hz);refine⟨a,?_⟩;have h1:=(qUt rel (c.size+1)).2.1;have h2:(qWr c m acc rel ns st).tk.length<=0+(qPh rel (c.size+1)).toNat:=b;omega
theorem zI6{k:Nat}{c:Cfg}{m acc rel last:Int}{ns:List Int}{st:Option (List Nat)}(h:(ldN k c m acc rel ns st).2≠none)(hv:qA5 c=true)(hk:c.kind=(k:Int))(k1:1<=k)(k5:k<=5)(m1:m<=4611686018427387904)(a1:acc<=4611686018427387904)(r0:0<=rel)(r1:rel<=4611686018427387904)(l0:0<=last)(hm:0<=m->m<=last)(hn:m<0->rel=0):
  NInv k c rel last (ldN k c m acc rel ns st).1/\NX k (ldN k c m acc rel ns st).1:=by
 rcases five k1 k5 with e | e | e | e | e
 ·subst e
  have hc:=qBy hv hk rfl;obtain⟨a1',a2,a3,a4⟩:=zGa c.k m rel st h hc.1 r0 r1
  exact⟨⟨Int.le_refl _,r0,Int.le_refl _,by show(0:Int)<_;omega,a1',a2,λi b hb=>(by cases hb),λi=>r0,λe=>(by cases e),λe=>(by cases e),λ_=>⟨hc.1,hc.2.1,a3⟩,λe=>absurd rfl e,λi=>List.Pairwise.nil⟩,
     ⟨λb hb=>by have:=a4 b hb;omega,λi b hb=>(by cases hb),λi=>List.Pairwise.nil,λe=>(by cases e)⟩⟩
 ·subst e
  have hd:=zH3 m rel (qFx c) st h
  exact⟨⟨Int.le_refl _,r0,Int.le_refl _,by show(0:Int)<_;omega,λb hb=>(by cases hb),r0,λi b hb=>⟨((hd i).2.1 b hb).1,((hd i).2.1 b hb).2.1⟩,λi=>(hd i).2.2,λe=>(by cases e),λe=>(by cases e),λe=>(by cases e),λ_=>rfl,λi=>(hd i).1⟩,
     ⟨λb hb=>(by cases hb),λi b hb=>by have:=(hd i).2.1 b hb;omega,λi=>(hd i).1,λe=>(by cases e)⟩⟩
 ·subst e
  obtain⟨hp,hr,hL,_,_⟩:=qBr hv hk rfl;have ho:=zGd c m rel last st h hr hL r0 hp.p0 l0 hm hn
  exact⟨⟨Int.le_refl _,r0,Int.le_refl _,by show(0:Int)<_;omega,λb hb=>(by cases hb),r0,λi b hb=>(by cases hb),λi=>r0,λ_=>ho,λe=>(by cases e),λe=>(by cases e),λ_=>rfl,λi=>List.Pairwise.nil⟩,
     ⟨λb hb=>(by cases hb),λi b hb=>(by cases hb),λi=>List.Pairwise.nil,λe=>(by cases e)⟩⟩
 ·subst e
  have hd:(qXc rel st).2≠none:=h;obtain⟨_,d2⟩:=qHs (show qEm _ (qEm _ (qAs 0 2305843009213693951 (qAs 0 rel st).2).2)≠none from hd);obtain⟨_,d3⟩:=qHs d2;obtain⟨d4,d5,d6⟩:=qHd d3;obtain⟨_,d7,d8⟩:=qHd d4
  exact⟨⟨d7,d8,d5,by show(qAs 0 2305843009213693951 (qAs 0 rel st).2).1<_;omega,λb hb=>(by cases hb),r0,λi b hb=>(by cases hb),λi=>r0,λe=>(by cases e),λe=>(by cases e),λe=>(by cases e),λ_=>rfl,λi=>List.Pairwise.nil⟩,
     ⟨λb hb=>(by cases hb),λi b hb=>(by cases hb),λi=>List.Pairwise.nil,λe=>(by cases e)⟩⟩
 ·subst e
  have hs:=qC4 hv hk rfl;have hd:=zF8 c m acc rel ns st h m1 a1 hs.1
  exact⟨⟨Int.le_refl _,r0,Int.le_refl _,by show(0:Int)<_;omega,λb hb=>(by cases hb),r0,λi b hb=>(by cases hb),λi=>r0,λe=>(by cases e),λ_=>hd.2,λe=>(by cases e),λ_=>rfl,λi=>List.Pairwise.nil⟩,
     ⟨λb hb=>(by cases hb),λi b hb=>(by cases hb),λi=>List.Pairwise.nil,λ_=>hd.1⟩⟩
structure ItI (x:Ser) (clock A:Int) (l:List It):Prop where
 heap:HeapL l
 its:∀y,y∈l->(0<=y.t/\y.t<=4611686018427387904)/\clock-x.c.lag<y.t/\qCy x.c x.k y=0/\(1<=y.n/\y.n<=A)
 cap:(l.length:Int)<=x.c.cap
theorem zEk(x:Ser)(clock A:Int)(s:IR)(h:s.st=none): (itR x clock A s).st=none:=by
 show qEm _ (qAy _ (knR A s.ns s.st).2).2=none;rw[h,show(knR A s.ns none).2=none from qFe _,qIs];exact qFe _
theorem qZp(x:Ser)(clock A:Int): ∀n s,s.st=none->(qV7 x clock A n s).st=none:=by
 intro n
 induction n with
 | zero=>intro s h;exact h
 | succ n ih=>intro s h;exact ih _ (zEk x clock A s h)
theorem zEp(x:Ser)(clock A:Int): ∀n s,(qV7 x clock A n s).l.length=s.l.length+n:=by
 intro n
 induction n with
 | zero=>intro s;rfl
 | succ n ih =>
  intro s;show(qV7 x clock A n (itR x clock A s)).l.length=_;rw[ih];show(qQ5 s.l _).length+n=_;unfold qQ5;rw[riseL_length,List.length_append,List.length_singleton];omega
theorem zG0(x:Ser)(clock A:Int): ∀n s,(qV7 x clock A n s).st≠none->ItI x clock A s.l->ItI x clock A (qV7 x clock A n s).l/\s.st≠none:=by
 intro n
 induction n with
 | zero=>intro s hn h;exact⟨h,hn⟩
 | succ n ih =>
  intro s hn h;have h2:(qV7 x clock A n (itR x clock A s)).st≠none:=hn;have h3:(itR x clock A s).st≠none:=λe=>h2 (qZp _ _ _ _ _ e)
  obtain⟨c1,c2⟩:=qHs (show qEm (qIw { x with l:=s.l } clock (itD (knR A s.ns s.st).1 (qAy (qB9 x.k).length (knR A s.ns s.st).2).1)==0) (qAy (qB9 x.k).length (knR A s.ns s.st).2).2≠none from h3);obtain⟨d1,d2,d3⟩:=zFy (qSr c2);have hr:qIw { x with l:=s.l } clock (itD (knR A s.ns s.st).1 (qAy (qB9 x.k).length (knR A s.ns s.st).2).1)=0:=by simpa using c1
  obtain⟨e1,e2,e3,e4,_,e6,_⟩:=qJo hr;have hp:=put_heap s.l (itD (knR A s.ns s.st).1 (qAy (qB9 x.k).length (knR A s.ns s.st).2).1) h.heap;refine⟨(ih _ h2 ⟨hp.1,λy hy=>?_,?_⟩).1,d1⟩
  ·rcases List.mem_cons.1 (hp.2.subset hy) with f | f
   ·rw[f];exact⟨⟨e1,e2⟩,e4,e6,d2,d3⟩
   ·exact h.its y f
  ·show((qQ5 s.l _).length:Int)<=_
   unfold qQ5;rw[riseL_length,List.length_append,List.length_singleton];have e3':(s.l.length:Int)<x.c.cap:=e3;omega
theorem zC6: ∀n k f st,(∀v∈f,0<=v/\v<=4611686018427387904)->∀v∈(qJ3 n k f st).1,0<=v/\v<=4611686018427387904:=by
 intro n
 induction n with
 | zero=>intro k f st h;exact h
 | succ n ih =>
  intro k f st h;refine ih _ _ _ (λv hv=>?_);have hb:=qB4 0 4611686018427387904 st;rcases List.mem_or_eq_of_mem_set hv with e | e
  ·exact h v e
  ·rw[e];omega
def qSk(clock:Int)(y:Ser): Ser:={ y with last:=if 0<=clock-y.c.lag then clock-y.c.lag else 0 }
theorem zFf{clock:Int}{st:Option (List Nat)}{y:Ser}(h:(qO2 clock st).1=some y)(c0:0<=clock)(c1:clock<=4611686018427387904):
  SInv 4611686018427387904 (qSk clock y)/\SX (qSk clock y)/\((qSk clock y).last=0\/(qSk clock y).last<=clock-(qSk clock y).c.lag):=by
 unfold qO2 at h;simp only at h;have hid:=qB4 0 99 st;generalize qAs 0 99 st=i0 at *;obtain⟨id,st1⟩:=i0;simp only at h hid
 split at h
 ·rename_i hg
  obtain⟨hv,hk,k1,k5⟩:=qRc hg;generalize qMl st1=C at *;obtain⟨c,k,stC,gd⟩:=C;simp only at hv hk k1 k5;obtain⟨lg0,lg1,_,_,cp0,cp1⟩:=qG8 hv;unfold qVu at h;simp only at h;have hfl:=qSv 7 0 [0,0,0,0,0,0,0,0,0,0,0,0] stC;have hfo:=zC6 7 0 [0,0,0,0,0,0,0,0,0,0,0,0] stC (λv hv=>by simp at hv;omega);generalize qJ3 7 0 [0,0,0,0,0,0,0,0,0,0,0,0] stC=F at *;obtain⟨f,st2⟩:=F;simp only at h hfl hfo;have hmb:=qVz c clock cp0;have hb1:=qB4 0 (qEg c clock) st2;have hmn:clock-c.lag<0->qEg c clock=0:=λhneg=>by
   unfold qEg;simp only;rw[if_neg (show ¬0<(if clock-c.lag+1<clock then clock-c.lag+1 else clock) by split <;> omega),if_neg (by have:=Int.ediv_nonneg (show(0:Int)<=4611686018427387904 by omega) (show 0<=c.cap by omega);omega),Int.mul_zero]
  generalize qAs 0 (qEg c clock) st2=R at *;obtain⟨rel,st3⟩:=R;simp only at h hb1;have hmd:=qUt c.cap (4611686018427387904-rel);have hb2:=qB4 0 (qPh c.cap (4611686018427387904-rel)) st3;generalize qAs 0 (qPh c.cap (4611686018427387904-rel)) st3=T at *;obtain⟨L0,st4⟩:=T;simp only at h hb2;obtain⟨L,rfl⟩:∃L:Nat,L0=(L:Int):=⟨L0.toNat,by omega⟩;rw[Int.toNat_natCast]at h;have hil:=zEp ⟨id,c,k,0,rel,f,[],qC9,0⟩ clock (rel+L) L ⟨[],[],st4⟩;have hio:=zG0 ⟨id,c,k,0,rel,f,[],qC9,0⟩ clock (rel+L) L ⟨[],[],st4⟩;generalize qV7 ⟨id,c,k,0,rel,f,[],qC9,0⟩ clock (rel+L) L ⟨[],[],st4⟩=S at *;have hld:=λ(hne:(ldN k c (clock-c.lag) (rel+L) rel S.ns S.st).2≠none)=>zI6 (last:=if 0<=clock-c.lag then clock-c.lag else 0) hne hv hk k1 k5 (by omega) (by omega) (by omega) (by omega) (by split <;> omega) (λh0=>by rw[if_pos h0];exact Int.le_refl _) (λhneg=>by have:=hmn hneg;omega)
  have hln:=λ(e:S.st=none)=>show(ldN k c (clock-c.lag) (rel+L) rel S.ns S.st).2=none by
   rw[e];rcases five k1 k5 with e | e | e | e | e
   ·subst e;exact qV8 _ _ _ _ _ _ rfl
   ·subst e
    show qEm _ (qTb _ _ _ _).st=none;rw[qSq _ _ _ _ rfl];exact qFe _
   ·subst e;exact qOs _ _ _ _ _ rfl
   ·subst e
    show qEm _ (qEm _ none)=none;rw[qFe];exact qFe _
   ·subst e
    show(qId _ _ _ _ ⟨[],S.ns,none⟩).st=none;cases (qPh rel (c.size+1)).toNat with
    | zero=>rfl
    | succ n =>
     have hs:(qGr c (clock-c.lag) (rel+↑L) ⟨[],S.ns,none⟩).st=none:=by
      show qEm _ (qAy 3 (knR _ S.ns none).2).2=none;rw[show(knR (rel+↑L) S.ns none).2=none from qFe _,qIs];exact qFe _
     rw[qId,if_pos (by rw[hs];rfl)];exact hs
  generalize ldN k c (clock-c.lag) (rel+L) rel S.ns S.st=N at *;obtain⟨nt,stN⟩:=N;simp only at h hld hln;cases stN with
  | none=>simp at h
  | some lN =>
   have hy:y=⟨id,c,k,rel+L,rel,f,S.l,nt,0⟩:=by simpa using h.symm
   subst hy;obtain⟨n1,n2⟩:=hld (by simp);obtain⟨⟨i1,i2,i3⟩,_⟩:=hio (λe=>by have:=hln e;cases this) ⟨λi _ hi=>absurd hi (by simp),λy hy=>(by cases hy),by show((0:Nat):Int)<=c.cap;omega⟩;have hil2:S.l.length=L:=by rw[hil];simp
   refine⟨⟨hv,hk,k1,k5,by show 0<=rel+(L:Int);omega,by show rel+(L:Int)<=_;omega,by show 0<=rel;omega,by show rel+(S.l.length:Int)=rel+(L:Int);rw[hil2],hfl,hfo,i3,λy hy=>(i2 y hy).1,n1,i1,?_,?_,λy hy=>?_,λy hy=>(i2 y hy).2.2.1⟩,⟨by show 0<=id/\id<=99;omega,by show rel+(L:Int)<=_;omega,λy hy=>?_,λv hv=>(hfo v hv).2,n2⟩,?_⟩
   ·show 0<=if 0<=clock-c.lag then clock-c.lag else 0
    split <;> omega
   ·show(if 0<=clock-c.lag then clock-c.lag else 0)<=_
    split <;> omega
   ·show(if 0<=clock-c.lag then clock-c.lag else 0)<=y.t
    have h7:clock-c.lag<y.t:=(i2 y hy).2.1;have h8:=(i2 y hy).1
    split <;> omega
   ·have h9:=(i2 y hy).2.2.2
    omega
   ·show(if 0<=clock-c.lag then clock-c.lag else 0)=0\/(if 0<=clock-c.lag then clock-c.lag else 0)<=clock-c.lag
    split <;> omega
 ·cases h
theorem zDn{w2 w3:World}{O:Obj}{e:Nat}{v nv:Value}{clock:Int}{ps:List (SB×Ser)}{b2:SB}{x:Ser}{gg m cap':Nat}(hE:ERep w2 e v clock ps)(hm:ps.length=m)(hnv:nv=.slice (some ⟨gg,0,none⟩) (m+1) cap')(hs2:SRep w2 b2 x)(hap:∀i,b2.foot x.k i->¬EFoot e v ps i)(hown:w3.ownsRow 0 74 1 nv (m+1) (ptrs ps++[.pointer (some ⟨b2.s,0,none⟩)]))(hgrow:(w2.alloc O).grownBy w3 v.ownBlock)(hat:v.ownBlock=some gg\/gg=w2.heap.size+1):
  ERep (w3.setCell ⟨e,1,none⟩ nv) e nv clock (ps++[(b2,x)])/\Keeps (EFoot e v ps) w2 (w3.setCell ⟨e,1,none⟩ nv)/\(∀i,EFoot e nv (ps++[(b2,x)]) i->EFoot e v ps i\/b2.foot x.k i\/w2.heap.size<=i):=by
 have hnb:nv.ownBlock=some gg:=by rw[hnv];rfl
 have hk3:Keeps (λi=>v.ownBlock=some i) w2 w3:=((Keeps.refl (λi=>v.ownBlock=some i) w2).alloc O).grown hgrow (λk hk=>Or.inl hk);have hk4:Keeps (λi=>i=e) w3 (w3.setCell ⟨e,1,none⟩ nv):=(Keeps.refl (λi=>i=e) w3).setCell (p:=⟨e,1,none⟩) (Or.inl rfl) _;have hele:=hE.blk.lt;have hge:gg≠e:=by
  rcases hat with h | h
  ·intro he;exact hE.ev (by rw[h,he])
  ·omega
 have hsnew:SRep w3 b2 x:=hs2.keeps hk3 (λi hi h=>hap i hi (.inr (.inl h)));refine⟨⟨?_,?_,?_,?_,?_,?_⟩,?_,?_⟩
 ·exact(hE.blk.keeps hk3 (λh=>hE.ev h)).setCell 1 nv
 ·have:=qBk hown hk4 (λi hi h=>by rw[hnb]at hi;injection hi with hi;omega)
  rw[qMx,List.length_append,hm];exact this
 ·intro p hp
  rcases List.mem_append.1 hp with hp | hp
  ·exact((hE.reps p hp).keeps hk3 (λi hi h=>(hE.ef p hp i hi).2 h)).keeps hk4 (λi hi h=>(hE.ef p hp i hi).1 h)
  ·rw[List.mem_singleton]at hp;subst hp
   exact hsnew.keeps hk4 (λi hi h=>hap i hi (.inl h))
 ·refine List.pairwise_append.2 ⟨hE.apart,List.pairwise_singleton _ _,?_⟩
  intro p hp q hq i hi hqi;rw[List.mem_singleton]at hq;subst hq;exact hap i hqi (.inr (.inr ⟨p,hp,hi⟩))
 ·rw[hnb];intro h;injection h with h;exact hge h
 ·intro p hp i hi
  rw[hnb];rcases List.mem_append.1 hp with hp | hp
  ·refine⟨(hE.ef p hp i hi).1,λh=>?_⟩
   injection h with h;have h1:=(hE.reps p hp).lt i hi;rcases hat with h2 | h2
   ·exact(hE.ef p hp i hi).2 (by rw[h2,h])
   ·omega
  ·rw[List.mem_singleton]at hp;subst hp
   have h2:=hs2.lt i hi;refine⟨λh=>hap i hi (.inl h),λh=>?_⟩;injection h with h;rcases hat with h3 | h3
   ·exact hap i hi (.inr (.inl (by rw[h3,h])))
   ·omega
 ·exact(hk3.mono (M':=EFoot e v ps) (λi _ h=>.inr (.inl h))).trans hk4 (λi hi _=>.inl hi)
 ·intro i hi
  rcases hi with hi | hi | ⟨p,hp,hi⟩
  ·exact .inl (.inl hi)
  ·rw[hnb]at hi;injection hi with hi
   rcases hat with h | h
   ·exact .inl (.inr (.inl (by rw[h,hi])))
   ·exact .inr (.inr (by omega))
  ·rcases List.mem_append.1 hp with hp | hp
   ·exact .inl (.inr (.inr ⟨p,hp,hi⟩))
   ·rw[List.mem_singleton]at hp;subst hp
    exact .inr (.inl hi)
end
section
open Go.RowKit
theorem qTn(r:Nat)(clock:Int)(st:Option (List Nat))(w:World)(h:RdS w r st)(cl0:0<=clock)(cl1:clock<=4611686018427387904):
  Calls Tryz.prog 89 #[.pointer (some ⟨r,0,none⟩),.int .i64 clock] w λe w'=>zFz w w' (qO2 clock st).1 e/\RdS w' r (qO2 clock st).2/\Keeps (λi=>i=r) w w':=by
 have hE:qO2 clock st=if (qMl (qAs 0 99 st).2).good then qVu (qAs 0 99 st).1 clock (qMl (qAs 0 99 st).2) else(none,(qMl (qAs 0 99 st).2).st):=rfl
 rw[hE];cases hg:(qMl (qAs 0 99 st).2).good with
 | true =>
  rw[if_pos rfl];exact qVg r clock _ _ st _ w h rfl rfl hg cl0 cl1
 | false =>
  rw[if_neg (by simp)];refine(qY5 r clock _ _ st _ w h rfl rfl hg).mono ?_;rintro e w' ⟨rfl,hr,hk⟩;exact⟨rfl,hr,hk⟩
theorem SRep.last{w:World}{sb:SB}{x:Ser}(h:SRep w sb x)(v:Int): SRep w sb { x with last:=v }:=⟨h.blk,h.que,h.note,h.sq,h.sg,h.sn⟩
def qLh(clock:Int): Nat->List Ser->Option (List Nat)->Option (List Ser)×Option (List Nat)
 | 0,xs,st=>(some xs,st)
 | n+1,xs,st=>match (qO2 clock st).1 with
  | none=>(none,(qO2 clock st).2)
  | some y=>if (xs.find? (λx=>x.id==y.id)).isSome then(none,(qO2 clock st).2) else qLh clock n (xs++[qSk clock y]) (qO2 clock st).2
def qBn(t:ByteArray): Option WS :=
 let a:=qAs 0 4611686018427387904 (qLm t)
 let n:=qAs 0 6 a.2
 let r:=qLh a.1 n.1.toNat [] n.2
 match r.1 with
 | none=>none
 | some xs=>if r.2.isNone then none else if qFp a.1 xs=t then some ⟨a.1,xs⟩ else none
theorem qYn{ps:List (SB×Ser)}{id:Int}(h:(ps.map (·.2)).find? (λx=>x.id==id)=none): qD9 ps id=none:=by
 unfold qD9;rw[List.find?_eq_none]at h ⊢;exact λp hp=>h p.2 (List.mem_map_of_mem hp)
theorem qZj{ps:List (SB×Ser)}{id:Int}(h:((ps.map (·.2)).find? (λx=>x.id==id)).isSome=true): ∃p,qD9 ps id=some p:=by
 obtain⟨x,hx⟩:=Option.isSome_iff_exists.1 h;have h1:=List.mem_of_find?_eq_some hx;have h2:=List.find?_some hx;obtain⟨p,hp,rfl⟩:=List.mem_map.1 h1;unfold qD9;cases hf:ps.find? (λp=>p.2.id==id) with
 | some q=>exact⟨q,rfl⟩
 | none =>
  rw[List.find?_eq_none]at hf;exact absurd h2 (hf p hp)
structure SerG (clock:Int) (x:Ser):Prop where
 i:SInv 4611686018427387904 x
 sx:SX x
 mr:x.last=0\/x.last<=clock-x.c.lag
def qPx(w w':World)(o:Option WS)(res:Ending): Prop:=match o with
 | none=>res=.returned (.pointer none)
 | some s=>∃(e:Nat) (v:Value) (ps:List (SB×Ser)),res=.returned (.pointer (some ⟨e,0,none⟩))/\ERep w' e v s.clock ps/\ps.map (·.2)=s.xs/\(∀i,EFoot e v ps i->w.heap.size<=i)
attribute [local go_sem ↓ 2000] qK7
theorem qYf(t:ByteArray)(w:World)(ht:t.size<=9223372036854775807):
  Calls Tryz.prog 61 #[.string t] w λres w'=>qPx w w' (qBn t) res/\Keeps (λ_=>False) w w':=by
 have HNR:=hide (qPo t w ht);clear ht;unfold qBn;simp only;obtain⟨st0,hst0⟩:∃st0,qLm t=st0:=⟨_,rfl⟩;rw[hst0]at HNR ⊢;have hb1:=qB4 0 4611686018427387904 st0;obtain⟨a0,ha0⟩:∃a0,qAs 0 4611686018427387904 st0=a0:=⟨_,rfl⟩;rw[ha0]at hb1 ⊢;obtain⟨clock,st1⟩:=a0;simp only at hb1 ⊢;obtain⟨c0,c1⟩:0<=clock/\clock<=4611686018427387904:=by omega
 have hb2:=qB4 0 6 st1;obtain⟨n0,hn0⟩:∃n0,qAs 0 6 st1=n0:=⟨_,rfl⟩;rw[hn0]at hb2 ⊢;obtain⟨N0,st2⟩:=n0;simp only at hb2 ⊢;obtain⟨n,rfl⟩:∃n:Nat,N0=(n:Int):=⟨N0.toNat,by omega⟩;rw[Int.toNat_natCast];have six:n<=6:=by omega
 obtain⟨R,hR⟩:∃R,qLh clock n [] st2=R:=⟨_,rfl⟩;rw[hR];have HR:=hide hR;obtain⟨Z,hZ⟩:∃Z:Option WS,(match R.1 with | none=>none | some xs=>if R.2.isNone=true then none else if qFp clock xs=t then some ⟨clock,xs⟩ else none)=Z:=⟨_,rfl⟩;rw[hZ];have HZ:=hide hZ;have HN1:=hide ha0;have HN2:=hide hn0;clear hst0 hb1 ha0 hb2 hn0 hR hZ;go_enter Tryz.func61,Tryz.ntmps61
 go_wp2_with fail
 refine(uh HNR).mono ?_;rintro res w1 ⟨r,rfl,hrw,hr1,hk1⟩;have HK1:=hide hk1;have hr1l:=hr1.lt;have HR1:=hide hr1;clear hr1 hk1 HNR;have HG1:=hide (qCd r 0 4611686018427387904 st0 w1 (uh HR1));rw[uh HN1]at HG1;go_wp2_with fail
 refine(uh HG1).mono ?_;rintro res w2 ⟨rfl,hr2,hk2⟩;have hs2:=hk2.size;have HE3:=hide (show ERep (w2.alloc (.cells #[.int .i64 clock,.slice none 0 0] 60)) w2.heap.size (.slice none 0 0) clock [] from⟨Blk.new w2 [_,_] _,World.ownsRow_nil _ _ _ _,λp hp=>by simp at hp,List.Pairwise.nil,by simp[Value.ownBlock],λp hp=>by simp at hp⟩);have HR3:=hide (hr2.keeps ((Keeps.refl (λ_=>False) w2).alloc (.cells #[.int .i64 clock,.slice none 0 0] 60)) (λh=>h));have HK3:=hide (show Keeps (λ_=>False) w (w2.alloc (.cells #[.int .i64 clock,.slice none 0 0] 60)) from((uh HK1).trans hk2 (λi hi hlt=>by have h2:i=r:=hi;omega)).alloc _);have her:w2.heap.size≠r:=by omega
 have hwe:w.heap.size<=w2.heap.size:=by have:=(uh HK1).size;omega
 clear hr2 hk2 HR1 HK1 HG1 HN1;go_wp2_with fail
 generalize w2.alloc (.cells #[.int .i64 clock,.slice none 0 0] 60)=w3 at *;generalize w2.heap.size=e at *;have HG2:=hide (qCd r 0 6 st1 w3 (uh HR3));rw[uh HN2]at HG2;refine(uh HG2).mono ?_;rintro res w4 ⟨rfl,hr4,hk4⟩
 have HE4:=hide ((uh HE3).keepsM hk4 (λi hi=>by
      rcases hi with h | h | ⟨p,hp,_⟩
      ·intro h2;have h3:i=r:=h2;omega
      ·simp[Value.ownBlock]at h
      ·simp at hp))
 have HR4:=hide hr4;have HK4:=hide (show Keeps (λ_=>False) w w4 from(uh HK3).trans hk4 (λi hi hlt=>by have h2:i=r:=hi;omega));clear hr4 hk4 HE3 HR3 HK3 HG2 HN2;go_wp2_with fail
 go_loopw [14] (λiv wr=>∃(i:Nat) (v:Value) (ps:List (SB×Ser)) (sg:Option (List Nat)),i<=n/\iv=.int .i64 i/\ps.length=i/\Hid (ERep wr e v clock ps)/\Hid (qLh clock (n-i) (ps.map (·.2)) sg=R)/\Hid (∀x,x∈ps.map (·.2)->SerG clock x)/\Hid (RdS wr r sg)/\Hid (∀j,EFoot e v ps j->w.heap.size<=j/\j≠r)/\Hid (Keeps (λ_=>False) w wr)) (λiv _=>n-(intOf iv).toNat)
 case atStart=>exact⟨0,.slice none 0 0,[],_,by omega,rfl,rfl,HE4,HR,(λx hx=>by cases hx),HR4,(λj hj=>by
      rcases hj with h | h | ⟨p,hp,_⟩
      ·exact⟨by omega,by omega⟩
      ·simp[Value.ownBlock]at h
      ·simp at hp),HK4⟩
 case round =>
  clear HE4 HR4 HK4 HR;obtain⟨i,v,ps,sg,hi,rfl,hpl,HE,HRi,HSG,HR,HF,HK⟩:=hrel;have HPL:=hide hpl
  by_cases hin:i<n
  ·obtain⟨nn,hnn⟩:∃nn,n-i=nn+1:=⟨n-i-1,by omega⟩
   have HN1:=hide (show n-(i+1)=nn by omega);have HLD:=hide (qTn r clock sg wr (uh HR) c0 c1)
   have HRn:=hide (show(match (qO2 clock sg).1 with | none=>(none,(qO2 clock sg).2) | some y=>if ((ps.map (·.2)).find? (λx=>x.id==y.id)).isSome then(none,(qO2 clock sg).2) else qLh clock nn (ps.map (·.2)++[qSk clock y]) (qO2 clock sg).2)=R by
      have h:=uh HRi;rw[hnn]at h
      exact h)
   have HOK:=hide (λy (hy:(qO2 clock sg).1=some y)=>zFf hy c0 c1);clear HRi hpl;generalize qO2 clock sg=Y at *;obtain⟨oy,sg2⟩:=Y;simp only at HLD HRn HOK;have hcl:wr.cell? ⟨e,0,none⟩=some (.int .i64 clock):=(uh HE).blk.cell rfl;have hii:(i:Int)<(n:Int):=by omega
   go_wp2_with fail
   refine(uh HLD).mono ?_;rintro res w5 ⟨ho,hr5,hk5⟩;have HE5:=hide ((uh HE).keepsM hk5 (λj hj=>(uh HF j hj).2));have HR5:=hide hr5;have HK5:=hide (show Keeps (λ_=>False) w w5 from(uh HK).trans hk5 (λj hj hlt=>by have h2:j=r:=hj;omega));have HRL:=hide (show r<wr.heap.size from(uh HR).lt);have HKS:=hide (uh HK).size;have HEL:=hide (λj hj=>(uh HE).lt j hj);clear hr5 hk5 hcl HLD HE HR HK;cases oy with
   | none =>
    have ho2:res=.returned (.pointer none):=ho;subst ho2;clear ho
    have HZN:=hide (show Z=none by
       have h1:(none,sg2)=R:=uh HRn;have h9:=uh HZ;rw[<-h1]at h9
       exact h9.symm)
    go_wp2
    go_ret
    rw[uh HZN];exact⟨rfl,uh HK5⟩
   | some y =>
    obtain⟨sb,rfl,hs5,hn5⟩:=ho;have HS5:=hide hs5;have hid5:w5.cell? ⟨sb.s,0,none⟩=some (.int .i64 y.id):=hs5.blk.cell rfl
    have HAP:=hide (show ∀j,sb.foot y.k j->¬EFoot e v ps j from λj hj hE=>by
       have h1:=hn5 j hj;have h2:=uh HEL j hE
       omega)
    have HNW:=hide (show ∀j,sb.foot y.k j->w.heap.size<=j/\j≠r from λj hj=>by
       have h1:=hn5 j hj;have h2:=uh HKS;have h3:=uh HRL
       omega)
    have HFA:=hide (qD2 e v clock y.id ps w5 (uh HE5) (by rw[uh HPL];omega));clear hs5 hn5;cases hfd:((ps.map (·.2)).find? (λx=>x.id==y.id)).isSome with
    | true =>
     obtain⟨p,hp⟩:=qZj hfd;rw[hp]at HFA
     have HZN:=hide (show Z=none by
        have h1:=uh HRn;simp only[hfd,if_pos]at h1;have h9:=uh HZ;rw[<-h1]at h9
        exact h9.symm)
     clear hp;unfold qI7 at HFA;simp only at HFA;go_wp2_with fail
     refine(uh HFA).mono ?_;rintro res w6 ⟨rfl,hw6⟩;rw[hw6];clear hw6 w6 HFA;go_wp2
     go_ret
     rw[uh HZN];exact⟨rfl,uh HK5⟩
    | false =>
     have hfn:(ps.map (·.2)).find? (λx=>x.id==y.id)=none:=by simpa using hfd
     rw[qYn hfn]at HFA
     have HRs:=hide (show qLh clock nn (ps.map (·.2)++[qSk clock y]) sg2=R by
        have h1:=uh HRn;simp only[hfd]at h1
        simpa using h1)
     clear hfn hfd HRn;obtain⟨g1,g2,g3⟩:=uh HOK y rfl;have HGY:=hide (show SerG clock (qSk clock y) from⟨g1,g2,g3⟩);clear g1 g2 g3 HOK;go_wp2_with fail
     refine(uh HFA).mono ?_;rintro res w6 ⟨rfl,hw6⟩;rw[hw6];clear hw6 w6 HFA;obtain⟨va,vcap,hv,hva⟩:=qCh (uh HE5).row;rw[uh HPL]at hv;subst hv;have hv5:w5.cell? ⟨e,1,none⟩=some (.slice va i vcap):=(uh HE5).blk.cell rfl;have hfe:=(uh HE5).blk.frozen;obtain⟨gg,cap',w7,hrun7,hown7,hgrow,hat,hlt7⟩:=qKx w5 va i vcap (ptrs ps) (.pointer (some ⟨sb.s,0,none⟩)) rfl (by have:=(uh HE5).row;rw[uh HPL]at this;exact this) (by omega);have hel:=(uh HE5).blk.lt;have hc7:w7.cell? ⟨e,1,none⟩=some (.slice va i vcap):=by
      rw[hgrow.cell_far ⟨e,1,none⟩ (by simp;omega) (λh=>(uh HE5).ev h.symm),World.cell?_alloc_lt _ _ _ hel];exact hv5
     have hf7:∀j,w7.frozen? ⟨e,j,none⟩=false:=λj=>by
      rw[hgrow.frozen_far ⟨e,j,none⟩ (by simp;omega) (λh=>(uh HE5).ev h.symm),World.frozen?_alloc_old _ _ _ (by show e≠_;omega)];exact hfe j
     have HPU:=hide (zDn (x:=qSk clock y) (nv:=.slice (some ⟨gg,0,none⟩) (i+1) cap') (uh HE5) (uh HPL) rfl ((uh HS5).last _) (uh HAP) hown7 hgrow hat);have hs57:=hgrow.size;clear hown7 hgrow hat;unfold qI7;go_wp2
     go_roundw
     case rel =>
      obtain⟨p1,p2,p3⟩:=uh HPU;refine⟨i+1,_,ps++[(sb,qSk clock y)],sg2,by omega,by go_num,by rw[List.length_append,uh HPL];rfl,hide p1,hide (by rw[uh HN1,List.map_append];exact uh HRs),hide (λx hx=>?_),hide ((uh HR5).keeps p2 (λh=>(uh HF r h).2 rfl)),hide (λj hj=>?_),hide ((uh HK5).trans p2 (λj hj hlt=>by have:=(uh HF j hj).1;omega))⟩
      ·rw[List.map_append]at hx
       rcases List.mem_append.1 hx with hx | hx
       ·exact uh HSG x hx
       ·have e1:x=qSk clock y:=by simpa using hx
        rw[e1];exact uh HGY
      ·rcases p3 j hj with h | h | h
       ·exact uh HF j h
       ·exact uh HNW j h
       ·have h1:=(uh HK5).size
        have h2:=(uh HR5).lt;omega
     case measure=>simp[intOf];omega
  ·have hie:i=n:=by omega
   subst hie;have hff:decide ((i:Int)<(i:Int))=false:=by simp
   have HRE:=hide (show(some (ps.map (·.2)),sg)=R by
      have h:=uh HRi;rw[Nat.sub_self]at h
      exact h)
   clear HRi hpl;have HZ2:=hide (show(if sg.isNone=true then none else if qFp clock (ps.map (·.2))=t then some (⟨clock,ps.map (·.2)⟩:WS) else none)=Z by have h9:=uh HZ;rw[<-uh HRE]at h9;exact h9);clear HRE
   have HSV:=hide (qSc e v clock ps wr (uh HE) (λy hy=>by
        have hG:=uh HSG y hy
        exact qPz hG.sx hG.i (by have:=hG.i.rela;have:=hG.sx.accm;omega)) (by rw[uh HPL];omega) c0 c1)
   obtain⟨sv,hsv⟩:∃sv,qFp clock (ps.map (·.2))=sv:=⟨_,rfl⟩;rw[hsv]at HSV HZ2;have HSVE:=hide hsv;clear hsv;go_wp2_with fail
   refine(qHe r sg wr (uh HR)).mono ?_;rintro res w5 ⟨rfl,hw5⟩;rw[hw5];clear hw5 w5;cases sg with
   | none =>
    have HZN:=hide (show Z=none from(uh HZ2).symm);go_wp2
    go_ret
    rw[uh HZN];exact⟨rfl,uh HK⟩
   | some lg =>
    go_wp2_with fail
    refine(uh HSV).mono ?_;rintro res w5 ⟨rfl,hk5⟩;have HE5:=hide ((uh HE).still hk5);have HK5:=hide ((uh HK).then hk5);clear hk5 HSV;have HZ3:=hide (show(if sv=t then some (⟨clock,ps.map (·.2)⟩:WS) else none)=Z from uh HZ2);clear HZ2
    by_cases hst:sv=t
    ·subst hst
     have HZS:=hide (show Z=some ⟨clock,ps.map (·.2)⟩ by rw[<-uh HZ3,if_pos rfl]);go_wp2
     go_ret
     rw[uh HZS];exact⟨⟨e,v,ps,rfl,uh HE5,rfl,λj hj=>(uh HF j hj).1⟩,uh HK5⟩
    ·have HZS:=hide (show Z=none by rw[<-uh HZ3,if_neg hst])
     have hbe:(sv.toList==t.toList)=false:=by
      cases hq:(sv.toList==t.toList) with
      | false=>rfl
      | true =>
       exfalso;apply hst;have h2:sv.toList=t.toList:=by simpa using hq
       rw[ByteArray.toList_eq,ByteArray.toList_eq]at h2;exact ByteArray.ext (Array.ext' h2)
     clear hst;go_wp2
     go_ret
     rw[uh HZS];exact⟨rfl,uh HK5⟩
end
section
open Go.RowKit
attribute [local go_sem ↓] qAd qAe
attribute [local go_sem] qAf qAl qAc qAb qAm qAn qAi qAj
theorem zFo(e:Nat)(v:Value)(clock:Int)(ps:List (SB×Ser))(o:OpM)(w:World)(h:ERep w e v clock ps)(hkind:o.kind=7)(clock':Int)(xs':List Ser)(code:Int)(nums:List Int)(hc:∀w0,ERep w0 e v clock ps->Calls Tryz.prog 37 #[.pointer (some ⟨e,0,none⟩),o.val] w0 λr w'=>StepPost w0 e v ps clock' xs' code nums r w'):
  Calls Tryz.prog 23 #[.pointer (some ⟨e,0,none⟩),o.val] w λr w'=>StepPost w e v ps clock' xs' code nums r w':=by
 have h0:o.cells[0]?=some (.int .i64 o.kind):=rfl;have hv0:qAu (w.alloc (.cells o.cells.toArray 34)) w.heap.size 0 26=.agg o.cells.toArray:=qAh w o.cells 34 26 rfl;have hh0:qA2 (w.alloc (.cells o.cells.toArray 34)) w.heap.size 0 26=true:=qDq w o.cells 34 26 rfl;have hn1:(o.kind==1)=false:=by simp[hkind]
 have hn2:(o.kind==2)=false:=by simp[hkind]
 have hn3:(o.kind==3)=false:=by simp[hkind]
 have hn4:(o.kind==4)=false:=by simp[hkind]
 have hn5:(o.kind==5)=false:=by simp[hkind]
 have hn6:(o.kind==6)=false:=by simp[hkind]
 have hn7:(o.kind==7)=true:=by simp[hkind]
 have HE:=hide h;have HC:=hide hc;clear h hc hkind;unfold OpM.val;go_enter Tryz.func23,Tryz.ntmps23
 go_wp2_with fail
 have hk0:Keeps (λ_=>False) w ((w.alloc (.cells o.cells.toArray 34)).alloc (.cells #[.int .i64 0,.slice none 0 0,.string ⟨#[]⟩] 38)):=((Keeps.refl (λ_=>False) w).alloc _).alloc _;have HO0:=hide (show Blk ((w.alloc (.cells o.cells.toArray 34)).alloc (.cells #[.int .i64 0,.slice none 0 0,.string ⟨#[]⟩] 38)) w.heap.size o.cells 34 from(Blk.new w o.cells 34).alloc _);have HR0:=hide (show Blk ((w.alloc (.cells o.cells.toArray 34)).alloc (.cells #[.int .i64 0,.slice none 0 0,.string ⟨#[]⟩] 38)) (w.heap.size+1) [.int .i64 0,.slice none 0 0,.string qAa] 38 from Blk.newAt (by simp) [_,_,_] 38);have HE0:=hide ((uh HE).still hk0);have HK0:=hide hk0;clear hk0;generalize(w.alloc (.cells o.cells.toArray 34)).alloc (.cells #[.int .i64 0,.slice none 0 0,.string ⟨#[]⟩] 38)=w0 at *;have HLT:=hide (show ∀i,EFoot e v ps i->i<w.heap.size from(uh HE).lt);generalize hob:w.heap.size=ob at *;have HOB:=hide hob;clear hob;have hsz0:ob+1<w0.heap.size:=(uh HR0).lt;refine(uh HC w0 (uh HE0)).mono ?_;rintro r w1 ⟨nv,v',ps',rfl,hE1,hx1,hn1,hk1,hf1,hd1⟩;obtain⟨na,ncap,hnv⟩:=qGt hn1;subst hnv;unfold qC0;have HR1:=hide ((uh HR0).keeps hk1 (λh=>by have:=uh HLT _ h;omega));have HW:=hide (show ∀w9,Keeps (λi=>i=ob+1) w1 w9->StepPost w e v ps clock' xs' code nums (.returned (qC0 code (.slice na nums.length ncap))) w9 from λw9 hkf=>qF0 (uh HK0) (uh HOB) (uh HLT) hsz0 hE1 hx1 hn1 hk1 hf1 hd1 hkf);clear hE1 hx1 hn1 hk1 hf1 hd1;have r0:w1.cell? ⟨ob+1,0,none⟩=some (.int .i64 0):=(uh HR1).cell rfl;have r1:w1.cell? ⟨ob+1,1,none⟩=some (.slice none 0 0):=(uh HR1).cell rfl;have r2:w1.cell? ⟨ob+1,2,none⟩=some (.string qAa):=(uh HR1).cell rfl;have rf:=(uh HR1).frozen;go_wp2
 have hbf:=(((uh HR1).setCell 0 (.int .i64 code)).setCell 1 (.slice na nums.length ncap)).setCell 2 (.string qAa);have HKF:=hide ((((Keeps.refl (λi=>i=ob+1) w1).setCell (p:=⟨ob+1,0,none⟩) (Or.inl rfl) (.int .i64 code)).setCell (p:=⟨ob+1,1,none⟩) (Or.inl rfl) (.slice na nums.length ncap)).setCell (p:=⟨ob+1,2,none⟩) (Or.inl rfl) (.string qAa));have e9:(((w1.setCell ⟨ob+1,0,none⟩ (.int .i64 code)).setCell ⟨ob+1,1,none⟩ (.slice na nums.length ncap)).setCell ⟨ob+1,2,none⟩ (.string ⟨#[]⟩))=(((w1.setCell ⟨ob+1,0,none⟩ (.int .i64 code)).setCell ⟨ob+1,1,none⟩ (.slice na nums.length ncap)).setCell ⟨ob+1,2,none⟩ (.string qAa)):=rfl
 first | rw[e9] | skip
 generalize(((w1.setCell ⟨ob+1,0,none⟩ (.int .i64 code)).setCell ⟨ob+1,1,none⟩ (.slice na nums.length ncap)).setCell ⟨ob+1,2,none⟩ (.string qAa))=w9 at *;have q0:w9.cell? ⟨ob+1,0,none⟩=some (.int .i64 code):=hbf.cell rfl;have q1:w9.cell? ⟨ob+1,1,none⟩=some (.slice na nums.length ncap):=hbf.cell rfl;have q2:w9.cell? ⟨ob+1,2,none⟩=some (.string qAa):=hbf.cell rfl;refine bodyPost_ret (v:=qC0 code (.slice na nums.length ncap)) (by simp[results,Tryz.results23,go_sem,q0,q1,q2,qC0]) rfl ?_;have hkf:=uh HKF;exact uh HW w9 hkf
end
section
open Go.RowKit
attribute [local go_sem ↓] qAd qAe qDy
attribute [local go_sem] qAf qAl qAc qAb qAm qAn qAi qAj
def stepG(ld:ByteArray->Option WS)(s:WS)(o:OpM): WS×Int×List Int :=
 if o.kind=7 then(match ld o.bytes with | none=>(s,14,[]) | some s'=>(s',0,[])) else qCk s o
def qLf(ld:ByteArray->Option WS): WS->List OpM->List (Int×List Int)
 | _,[]=>[]
 | s,o::r=>(stepG ld s o).2::qLf ld (stepG ld s o).1 r
def qH6(ld:ByteArray->Option WS): WS->List OpM->WS
 | s,[]=>s
 | s,o::r=>qH6 ld (stepG ld s o).1 r
theorem zAz(ld:ByteArray->Option WS)(s:WS)(l:List OpM)(o:OpM): qH6 ld s (l++[o])=(stepG ld (qH6 ld s l) o).1:=by
 induction l generalizing s with
 | nil=>rfl
 | cons a l ih=>exact ih _
theorem zBk(ld:ByteArray->Option WS)(s:WS)(l:List OpM)(o:OpM): qLf ld s (l++[o])=qLf ld s l++[(stepG ld (qH6 ld s l) o).2]:=by
 induction l generalizing s with
 | nil=>rfl
 | cons a l ih=>simp only[List.cons_append,qLf,qH6,ih]
theorem qL6(ld:ByteArray->Option WS)(s:WS)(l:List OpM): (qLf ld s l).length=l.length:=by
 induction l generalizing s with
 | nil=>rfl
 | cons a l ih=>simp[qLf,ih]
theorem qTf(ld:ByteArray->Option WS)(s:WS)(a b:List OpM): qLf ld s (a++b)=qLf ld s a++qLf ld (qH6 ld s a) b:=by
 induction a generalizing s with
 | nil=>rfl
 | cons x l ih=>simp[qLf,qH6,ih]
def qE4(ld:ByteArray->Option WS): WS->List OpM->List ByteArray
 | _,[]=>[]
 | s,o::r=>qEo s o::qE4 ld (stepG ld s o).1 r
theorem qYr(ld:ByteArray->Option WS)(s:WS)(l:List OpM)(o:OpM): qE4 ld s (l++[o])=qE4 ld s l++[qEo (qH6 ld s l) o]:=by
 induction l generalizing s with
 | nil=>rfl
 | cons a l ih=>simp only[List.cons_append,qE4,qH6,ih]
theorem qQ9(ld:ByteArray->Option WS)(s:WS)(l:List OpM): (qE4 ld s l).length=l.length:=by
 induction l generalizing s with
 | nil=>rfl
 | cons a l ih=>simp[qE4,ih]
theorem qS0(ld:ByteArray->Option WS)(s:WS)(a b:List OpM): qE4 ld s (a++b)=qE4 ld s a++qE4 ld (qH6 ld s a) b:=by
 induction a generalizing s with
 | nil=>rfl
 | cons x l ih=>simp[qE4,qH6,ih]
theorem zCt(ld:ByteArray->Option WS)(N:Nat->Int)(sb so cap:Nat)(ops:List OpM)(w:World)(hsc:ScriptAt w sb so ops)(hlt:sb<w.heap.size)(hlen:ops.length<=651562446090)(hT:Tab w)(hI:∀i:Nat,i<=ops.length->EInv (N i) (qH6 ld ws0 (ops.take i)).clock (qH6 ld ws0 (ops.take i)).xs)(hstep:∀(i:Nat) (e:Nat) (v:Value) (clock:Int) (ps:List (SB×Ser)) (o:OpM) (w:World),ops[i]?=some o->(⟨clock,ps.map (·.2)⟩:WS)=qH6 ld ws0 (ops.take i)->ERep w e v clock ps->EInv (N i) clock (ps.map (·.2))->i<ops.length->Tab w->¬EFoot e v ps 2 ->
     Calls Tryz.prog 23 #[.pointer (some ⟨e,0,none⟩),o.val] w λr w'=>qG9 w e v ps (stepG ld ⟨clock,ps.map (·.2)⟩ o).1.clock (stepG ld ⟨clock,ps.map (·.2)⟩ o).1.xs (stepG ld ⟨clock,ps.map (·.2)⟩ o).2.1 (stepG ld ⟨clock,ps.map (·.2)⟩ o).2.2 (qEo ⟨clock,ps.map (·.2)⟩ o) r w'):
  Calls Tryz.prog 11 #[.slice (some ⟨sb,so,none⟩) ops.length cap] w λr w'=>∃v l,r=.returned v/\ARep w' w.heap.size v l/\l.map (λx=>(x.code,x.nums))=qLf ld ws0 ops/\l.map (·.bs)=qE4 ld ws0 ops/\Keeps (λ_=>False) w w':=by
 have HSC:=hide hsc;have HST:=hide hstep;have HTW:=hide hT;have HLO:=hide hI;have hw0:=hT.lt;clear hsc hstep hT hI;obtain⟨i0,hi0,hz0,hz1,hz2⟩:=info_parts zFb;go_enter Tryz.func11,Tryz.ntmps11
 generalize hn:ops.length=n at *;have HN:=hide hn;clear hn;go_wp2_with (at_make;refine wpList_make_own _ rfl _ _ _ rfl w.heap.size 38 i0 _ 3 Tryz.underlying26 hi0 hz0 hz1 _ _ _ n rfl rfl rfl (by rw[hz2];omega) (by unfold maxLen;omega) (by simp) ?_;intro w1 ho1 hg1)
 rw[World.size_alloc]at ho1;have hkw1:Keeps (λ_=>False) w w1:=((Keeps.refl (λ_=>False) w).alloc _).grown hg1 (λk hk=>by cases hk);have hbe:Blk w1 w.heap.size [.int .i64 0,.slice none 0 0] 60:=by
  unfold Blk;rw[hg1.block w.heap.size (by simp) (by simp)];exact Blk.new w [.int .i64 0,.slice none 0 0] 60
 have HE1:=hide (show ERep w1 w.heap.size (.slice none 0 0) 0 [] from⟨hbe,World.ownsRow_nil _ _ _ _,λp hp=>by simp at hp,List.Pairwise.nil,by simp[Value.ownBlock],λp hp=>by simp at hp⟩);have HA1:=hide (show ARep w1 w.heap.size (.slice (some ⟨w.heap.size+1,0,none⟩) 0 n) [] from⟨ho1,λx hx=>by simp at hx,λx hx=>by simp at hx⟩);have HK1:=hide hkw1;clear hg1 ho1 hkw1 hbe;generalize hen:w.heap.size=e at *;have HEN:=hide hen;clear hen;go_loopw [4,12] (λav i wr=>∃(k:Nat) (v:Value) (ps:List (SB×Ser)) (l:List Ans),k<=n/\i=.int .i64 k/\Hid (ERep wr e v (qH6 ld ws0 (ops.take k)).clock ps)/\Hid (ps.map (·.2)=(qH6 ld ws0 (ops.take k)).xs)/\Hid (ARep wr w.heap.size av l)/\Hid (l.map (λx=>(x.code,x.nums))=qLf ld ws0 (ops.take k))/\Hid (l.map (·.bs)=qE4 ld ws0 (ops.take k))/\Hid (Keeps (λ_=>False) w wr)/\Hid (∀i,EFoot e v ps i->w.heap.size<=i)/\Hid (∀i,qZ1 av l i->¬EFoot e v ps i)) (λ_ i _=>n-(intOf i).toNat)
 case atStart =>
  have hen:=uh HEN;refine⟨0,.slice none 0 0,[],[],by omega,rfl,HE1,rfl,by show ARep _ _ _ _;rw[hen];exact uh HA1,rfl,rfl,HK1,λi hi=>?_,λi hi hf=>?_⟩
  ·rcases hi with hi | hi | ⟨p,hp,_⟩
   ·omega
   ·simp[Value.ownBlock]at hi
   ·simp at hp
  ·have hie:i=e:=by
    rcases hf with hf | hf | ⟨p,hp,_⟩
    ·exact hf
    ·simp[Value.ownBlock]at hf
    ·simp at hp
   rcases hi with hi | ⟨x,hx,_⟩
   ·have:e+1=i:=by simpa[Value.ownBlock] using hi
    omega
   ·simp at hx
 case round =>
  obtain⟨k,v,ps,l,hk,rfl,HEr,HXr,HAr,HMr,HBr,HKr,HLr,HDr⟩:=hrel;generalize u4=av at *
  by_cases hkn:k<n
  ·obtain⟨o,ho⟩:∃o,ops[k]?=some o:=⟨ops[k]'(by rw[uh HN];exact hkn),List.getElem?_eq_getElem _⟩
   have HO:=hide ho;have hsb:=qAq (uh HSC k o ho);have hkp:=qBm (o:=so+k*26) (n:=26) (uh HKr) (λh=>h) (by rw[uh HEN];exact hlt);have hv0:qAu wr sb (so+k*26) 26=.agg o.cells.toArray:=by
    rw[hkp.1];unfold qAu;have:=hsb.1;rw[show o.cells.length=26 from rfl]at this;rw[this]
   have hh0:qA2 wr sb (so+k*26) 26=true:=by rw[hkp.2];exact hsb.2
   have hst:∀zs:List Value,zs.length=26->(qDr 34 (.pointer (some ⟨wr.heap.size,0,none⟩)) (.agg o.cells.toArray)).run Tryz.prog (wr.alloc (.cells zs.toArray 34))=.ok .skip (wr.alloc (.cells o.cells.toArray 34)):=λzs hz=>qVb wr zs o.cells hz rfl (qOy o)
   have hv1:qAu (wr.alloc (.cells o.cells.toArray 34)) wr.heap.size 0 26=.agg o.cells.toArray:=qAh wr o.cells 34 26 rfl;have hh1:qA2 (wr.alloc (.cells o.cells.toArray 34)) wr.heap.size 0 26=true:=qDq wr o.cells 34 26 rfl;have hk0:(0:Int)<=(k:Int):=by omega
   have hkn':(k:Int)<(n:Int):=by omega
   clear ho hsb hkp;go_wp2_with fail
   have hkl:(ops.take k).length=k:=by rw[List.length_take,uh HN];omega
   have hinv:EInv (N k) (qH6 ld ws0 (ops.take k)).clock (ps.map (·.2)):=by
    rw[uh HXr];exact uh HLO k hk
   have hws:(⟨(qH6 ld ws0 (ops.take k)).clock,ps.map (·.2)⟩:WS)=qH6 ld ws0 (ops.take k):=by rw[uh HXr]
   have hst2:=uh HST k e v (qH6 ld ws0 (ops.take k)).clock ps o (wr.alloc (.cells o.cells.toArray 34)) (uh HO) hws ((uh HEr).still ((Keeps.refl (λ_=>False) wr).alloc _)) hinv hkn (((uh HTW).keeps (uh HKr) (λh=>h)).keeps ((Keeps.refl (λ_=>False) wr).alloc _) (λh=>h)) (λh=>by have h1:=uh HLr 2 h;have h2:=uh HEN;omega);rw[hws]at hst2;refine hst2.mono ?_;clear hst2 hinv hws;have htk:ops.take (k+1)=ops.take k++[o]:=by
    have ho:=uh HO;rw[List.take_add_one,ho];rfl
   have HSN:=hide (show qH6 ld ws0 (ops.take (k+1))=(stepG ld (qH6 ld ws0 (ops.take k)) o).1 by rw[htk,zAz ld]);have HRN:=hide (show qLf ld ws0 (ops.take (k+1))=qLf ld ws0 (ops.take k)++[(stepG ld (qH6 ld ws0 (ops.take k)) o).2] by rw[htk,zBk ld]);have HBN:=hide (show qE4 ld ws0 (ops.take (k+1))=qE4 ld ws0 (ops.take k)++[qEo (qH6 ld ws0 (ops.take k)) o] by rw[htk,qYr ld]);clear htk hv0 hh0 hst hv1 hh1;generalize hbm:qEo (qH6 ld ws0 (ops.take k)) o=bm at *;generalize hsm:stepG ld (qH6 ld ws0 (ops.take k)) o=sm at *;obtain⟨s',code,nums⟩:=sm;rintro r w2 ⟨nv,v',ps',rfl,hE2,hx2,hn2,hk2,hf2,hd2⟩;obtain⟨na,ncap,hnv⟩:=qGt hn2;subst hnv;unfold ansB;have hlk:l.length=k:=by
    have:=congrArg List.length (uh HMr);rw[List.length_map,qL6 ld,hkl]at this;exact this
   have HLK:=hide hlk
   have HOW:=hide (show w2.ownsRow w.heap.size 38 3 av k (qEt l) by
      have h1:=(uh HAr).row;rw[hlk]at h1
      exact qBk h1 (((Keeps.refl (EFoot e v ps) wr).alloc _).then hk2) (λi hi=>uh HDr i (.inl hi)))
   have HE2:=hide hE2;have HX2:=hide hx2;have HN2:=hide hn2;have HK2:=hide hk2;have HF2:=hide hf2;have HD2:=hide hd2;have hb2:w.heap.size<=w2.heap.size:=by have h1:=(uh HKr).size;have h2:=hk2.size;rw[World.size_alloc]at h2;omega
   clear hE2 hx2 hn2 hk2 hf2 hd2 hlk hkl hsm hbm;go_wp2_with (at_builtin;refine wpList_append_lies _ rfl _ _ _ rfl w.heap.size 38 i0 _ 3 48 Tryz.underlying26 hi0 hz0 hz1 hz2 rfl (by omega) av k (qEt l) rfl ((uh HOW).alloc _) ⟨w2.heap.size,0,none⟩ 1 1 [.int .i64 code,.slice na nums.length ncap,.string bm] rfl rfl (World.news_of_block (cs:=#[.int .i64 code,.slice na nums.length ncap,.string bm]) (t:=38) (fr:=(0,0)) (heap_alloc_new w2 _)) (by simp[Value.oneCell']) (by omega) (by unfold maxLen;omega) (by omega) (by simp;omega) (w2.heap.size+1) (by simp) ?_;intro gg cap' w3 hown3 hgrow hat hl3)
   go_roundw
   case rel =>
    have hlk:=uh HLK;have hrr:=qZd (code:=code) (bs:=bm) (av':=.slice (some ⟨gg,0,none⟩) (k+1) cap') (uh HKr) (uh HAr) (uh HLr) (uh HDr) (uh HE2) (uh HN2) (uh HK2) (uh HF2) (uh HD2) (by rw[hlk]) (by rw[hlk];exact hown3) hgrow hat;obtain⟨g1,g2,g3,g4,g5⟩:=hrr;have hsn:=uh HSN;have hrn:=uh HRN;have hbn:=uh HBN;refine⟨k+1,v',ps',l++[(⟨code,.slice na nums.length ncap,nums,bm⟩:Ans)],by omega,by go_num,?_,?_,hide g2,?_,?_,hide g3,hide g4,hide g5⟩
    ·show ERep _ _ _ _ _;rw[hsn];exact g1
    ·show _=_;rw[hsn];exact uh HX2
    ·show _=_;rw[hrn,List.map_append,uh HMr];rfl
    ·show _=_;rw[hbn,List.map_append,uh HBr];rfl
   case measure=>simp[intOf];omega
  ·have hkk:k=n:=by omega
   subst hkk;go_wp2
   go_ret
   refine⟨av,l,rfl,uh HAr,?_,?_,uh HKr⟩
   ·have:=uh HMr
    rwa [List.take_of_length_le (by rw[uh HN];omega)]at this
   ·have:=uh HBr
    rwa [List.take_of_length_le (by rw[uh HN];omega)]at this
end
section
open Go.RowKit
attribute [local go_sem ↓] qAd qAe
attribute [local go_sem] qAf qAl qAc qAb qAm qAn qAi qAj
theorem zBh(e:Nat)(v:Value)(clock clock':Int)(ps:List (SB×Ser))(o:OpM)(xs:List Ser)(w:World)(h:ERep w e v clock ps)(t:ByteArray)(hb:o.bytes=t)(hA:∀w0,Calls Tryz.prog 61 #[.string t] w0 λres w'=>qPx w0 w' (some ⟨clock',xs⟩) res/\Keeps (λ_=>False) w0 w'):
  Calls Tryz.prog 37 #[.pointer (some ⟨e,0,none⟩),o.val] w λr w'=>StepPost w e v ps clock' xs 0 [] r w':=by
 have HE:=hide h;have HA:=hide hA;have hele:=h.blk.lt;have hk0:Keeps (λ_=>False) w ((w.alloc (.cells o.cells.toArray 34)).alloc (.cells #[.int .i64 0,.slice none 0 0,.string ⟨#[]⟩] 38)):=((Keeps.refl (λ_=>False) w).alloc _).alloc _;have HO0:=hide (show Blk ((w.alloc (.cells o.cells.toArray 34)).alloc (.cells #[.int .i64 0,.slice none 0 0,.string ⟨#[]⟩] 38)) w.heap.size o.cells 34 from(Blk.new w o.cells 34).alloc _);have HR0:=hide (show Blk ((w.alloc (.cells o.cells.toArray 34)).alloc (.cells #[.int .i64 0,.slice none 0 0,.string ⟨#[]⟩] 38)) (w.heap.size+1) [.int .i64 0,.slice none 0 0,.string qAa] 38 from Blk.newAt (by simp) [_,_,_] 38);have h25:((w.alloc (.cells o.cells.toArray 34)).alloc (.cells #[.int .i64 0,.slice none 0 0,.string ⟨#[]⟩] 38)).cell? ⟨w.heap.size,25,none⟩=some (.string t):=by rw[<-hb];exact(uh HO0).cell rfl
 have HK0:=hide hk0;clear h hA hb hk0;unfold OpM.val;go_enter Tryz.func37,Tryz.ntmps37
 go_wp2_with fail
 generalize(w.alloc (.cells o.cells.toArray 34)).alloc (.cells #[.int .i64 0,.slice none 0 0,.string ⟨#[]⟩] 38)=w0 at *;refine(uh HA w0).mono ?_;rintro r w1 ⟨⟨e2,v2,p2,rfl,hE2,hx2,hf2⟩,hk1⟩;obtain⟨va,vcap,hv2,_⟩:=qCh hE2.row;obtain⟨m2,hm2⟩:∃m2,p2.length=m2:=⟨_,rfl⟩;rw[hm2]at hv2;clear hm2;subst hv2;obtain⟨v2,hv2⟩:∃v2,v2=Value.slice va m2 vcap:=⟨_,rfl⟩;have hz0:=(uh HK0).size;have hzr:=(uh HR0).lt;have HR1:=hide ((uh HR0).keeps hk1 (λh=>h));have HK1:=hide ((uh HK0).then hk1);have HE1:=hide ((uh HE).still (uh HK1));have HE2:=hide hE2;have HX2:=hide hx2;have HF2:=hide hf2;have a0:w1.cell? ⟨e2,0,none⟩=some (.int .i64 clock'):=hE2.blk.cell rfl;have a1:w1.cell? ⟨e2,1,none⟩=some (.slice va m2 vcap):=hE2.blk.cell rfl;have b0:w1.cell? ⟨e,0,none⟩=some (.int .i64 clock):=(uh HE1).blk.cell rfl;have b1:w1.cell? ⟨e,1,none⟩=some v:=(uh HE1).blk.cell rfl;have bf:=(uh HE1).blk.frozen;have HBE:=hide (((uh HE1).blk.setCell 0 (.int .i64 clock')).setCell 1 (.slice va m2 vcap));have HKE:=hide (show Keeps (λi=>i=e) w1 _ from((Keeps.refl (λi=>i=e) w1).setCell (p:=⟨e,0,none⟩) (Or.inl rfl) (.int .i64 clock')).setCell (p:=⟨e,1,none⟩) (Or.inl rfl) (.slice va m2 vcap));have HR2:=hide (((uh HR1).setCell_far (p:=⟨e,0,none⟩) (show e≠w.heap.size+1 by omega) (.int .i64 clock')).setCell_far (p:=⟨e,1,none⟩) (show e≠w.heap.size+1 by omega) (.slice va m2 vcap));have r0:=(uh HR2).cell (i:=0) rfl;have r1:=(uh HR2).cell (i:=1) rfl;have r2:=(uh HR2).cell (i:=2) rfl;have rf:=(uh HR2).frozen;clear hE2 hx2 hf2 hk1 h25;have HF1:=hide ((((uh HR2).setCell 0 (.int .i64 0)).setCell 1 (.slice none 0 0)).setCell 2 (.string qAa));have HKF:=hide (show Keeps (λi=>i=w.heap.size+1) ((w1.setCell ⟨e,0,none⟩ (.int .i64 clock')).setCell ⟨e,1,none⟩ (.slice va m2 vcap)) _ from(((Keeps.refl (λi=>i=w.heap.size+1) ((w1.setCell ⟨e,0,none⟩ (.int .i64 clock')).setCell ⟨e,1,none⟩ (.slice va m2 vcap))).setCell (p:=⟨w.heap.size+1,0,none⟩) (Or.inl rfl) (.int .i64 0)).setCell (p:=⟨w.heap.size+1,1,none⟩) (Or.inl rfl) (.slice none 0 0)).setCell (p:=⟨w.heap.size+1,2,none⟩) (Or.inl rfl) (.string qAa));clear hv2 v2;go_wp2
 have e9:((((w1.setCell ⟨e,0,none⟩ (.int .i64 clock')).setCell ⟨e,1,none⟩ (.slice va m2 vcap)).setCell ⟨w.heap.size+1,0,none⟩ (.int .i64 0)).setCell ⟨w.heap.size+1,1,none⟩ (.slice none 0 0)).setCell ⟨w.heap.size+1,2,none⟩ (.string ⟨#[]⟩)=((((w1.setCell ⟨e,0,none⟩ (.int .i64 clock')).setCell ⟨e,1,none⟩ (.slice va m2 vcap)).setCell ⟨w.heap.size+1,0,none⟩ (.int .i64 0)).setCell ⟨w.heap.size+1,1,none⟩ (.slice none 0 0)).setCell ⟨w.heap.size+1,2,none⟩ (.string qAa):=rfl
 first | rw[e9] | skip
 clear e9;have HKT:=hide (((uh HKE).mono (M':=λi=>i=e\/i=w.heap.size+1) (λ_ _ h=>.inl h)).trans (uh HKF) (λi hi _=>.inr hi));have hBK:=(uh HBE).keeps (uh HKF) (show ¬(e=w.heap.size+1) by omega);have HBK:=hide hBK;clear hBK HBE HKE HKF HR2 r0 r1 r2 rf;generalize((((w1.setCell ⟨e,0,none⟩ (.int .i64 clock')).setCell ⟨e,1,none⟩ (.slice va m2 vcap)).setCell ⟨w.heap.size+1,0,none⟩ (.int .i64 0)).setCell ⟨w.heap.size+1,1,none⟩ (.slice none 0 0)).setCell ⟨w.heap.size+1,2,none⟩ (.string qAa)=w9 at *;have q0:w9.cell? ⟨w.heap.size+1,0,none⟩=some (.int .i64 0):=(uh HF1).cell rfl;have q1:w9.cell? ⟨w.heap.size+1,1,none⟩=some (.slice none 0 0):=(uh HF1).cell rfl;have q2:w9.cell? ⟨w.heap.size+1,2,none⟩=some (.string qAa):=(uh HF1).cell rfl;refine bodyPost_ret (v:=qC0 0 (.slice none 0 0)) (by simp[results,Tryz.results37,go_sem,q0,q1,q2,qC0]) rfl ?_;have hE:=uh HE2;have hF:∀i,EFoot e2 (.slice va m2 vcap) p2 i->¬(i=e\/i=w.heap.size+1):=λi hi h=>by
  have h1:=uh HF2 i hi;rcases h with h | h <;> omega
 have hne:∀i,EFoot e2 (.slice va m2 vcap) p2 i->i≠e:=λi hi h=>hF i hi (.inl h)
 refine⟨.slice none 0 0,.slice va m2 vcap,p2,rfl,⟨uh HBK,qNn hE.row (uh HKT) (λi hi=>hF i (.inr (.inl hi))),λp hp=>(hE.reps p hp).keeps (uh HKT) (λi hi=>hF i (.inr (.inr ⟨p,hp,hi⟩))),hE.apart,λh=>hne e (.inr (.inl h)) rfl,λp hp i hi=>⟨hne i (.inr (.inr ⟨p,hp,hi⟩)),(hE.ef p hp i hi).2⟩⟩,uh HX2,World.ownsRow_nil _ _ _ _,?_,?_,λi hi=>by cases hi⟩
 ·exact(uh HK1).mono (M':=EFoot e v ps) (λ_ _ h=>h.elim) |>.trans (uh HKT) (λi hi hlt=>by
     rcases hi with h | h
     ·exact .inl h
     ·omega)
 ·intro i hi
  rcases hi with h | h | ⟨p,hp,h⟩
  ·exact .inl (.inl h)
  ·have:=uh HF2 i (.inr (.inl h));exact .inr (by omega)
  ·have:=uh HF2 i (.inr (.inr ⟨p,hp,h⟩));exact .inr (by omega)
theorem qW9(e:Nat)(v:Value)(clock:Int)(ps:List (SB×Ser))(o:OpM)(w:World)(h:ERep w e v clock ps)(nb:ByteArray)(hb:o.bytes=nb)(hl:∀w0,Calls Tryz.prog 61 #[.string nb] w0 λres w'=>qPx w0 w' none res/\Keeps (λ_=>False) w0 w'):
  Calls Tryz.prog 37 #[.pointer (some ⟨e,0,none⟩),o.val] w λr w'=>StepPost w e v ps clock (ps.map (·.2)) 14 [] r w':=by
 have HE:=hide h;have hk0:Keeps (λ_=>False) w ((w.alloc (.cells o.cells.toArray 34)).alloc (.cells #[.int .i64 0,.slice none 0 0,.string ⟨#[]⟩] 38)):=((Keeps.refl (λ_=>False) w).alloc _).alloc _;have HO0:=hide (show Blk ((w.alloc (.cells o.cells.toArray 34)).alloc (.cells #[.int .i64 0,.slice none 0 0,.string ⟨#[]⟩] 38)) w.heap.size o.cells 34 from(Blk.new w o.cells 34).alloc _);have HR0:=hide (show Blk ((w.alloc (.cells o.cells.toArray 34)).alloc (.cells #[.int .i64 0,.slice none 0 0,.string ⟨#[]⟩] 38)) (w.heap.size+1) [.int .i64 0,.slice none 0 0,.string qAa] 38 from Blk.newAt (by simp) [_,_,_] 38);have h25:((w.alloc (.cells o.cells.toArray 34)).alloc (.cells #[.int .i64 0,.slice none 0 0,.string ⟨#[]⟩] 38)).cell? ⟨w.heap.size,25,none⟩=some (.string nb):=by rw[<-hb];exact(uh HO0).cell rfl
 have HLE:=hide hl;have HK0:=hide hk0;clear h hb hk0 hl;unfold OpM.val;go_enter Tryz.func37,Tryz.ntmps37
 go_wp2_with fail
 generalize(w.alloc (.cells o.cells.toArray 34)).alloc (.cells #[.int .i64 0,.slice none 0 0,.string ⟨#[]⟩] 38)=w0 at *;refine(uh HLE w0).mono ?_;rintro r w1 ⟨rfl,hk1⟩;have HR1:=hide ((uh HR0).keeps hk1 (λh=>h));have HK1:=hide ((uh HK0).then hk1);clear hk1 h25;go_wp2_with fail
 refine(qGg 14 w1).mono ?_;rintro r w2 ⟨rfl,hk2⟩;have HR2:=hide ((uh HR1).keeps hk2 (λh=>h));have HK2:=hide ((uh HK1).then hk2);clear hk2;unfold qC0;have r0:=(uh HR2).cell (i:=0) rfl;have r1:=(uh HR2).cell (i:=1) rfl;have r2:=(uh HR2).cell (i:=2) rfl;have rf:=(uh HR2).frozen;have HF1:=hide ((((uh HR2).setCell 0 (.int .i64 14)).setCell 1 (.slice none 0 0)).setCell 2 (.string qAa));have HKF:=hide (show Keeps (λi=>i=w.heap.size+1) w2 _ from(((Keeps.refl (λi=>i=w.heap.size+1) w2).setCell (p:=⟨w.heap.size+1,0,none⟩) (Or.inl rfl) (.int .i64 14)).setCell (p:=⟨w.heap.size+1,1,none⟩) (Or.inl rfl) (.slice none 0 0)).setCell (p:=⟨w.heap.size+1,2,none⟩) (Or.inl rfl) (.string qAa));go_wp2
 clear r0 r1 r2 rf HR2;generalize((w2.setCell ⟨w.heap.size+1,0,none⟩ (.int .i64 14)).setCell ⟨w.heap.size+1,1,none⟩ (.slice none 0 0)).setCell ⟨w.heap.size+1,2,none⟩ (.string qAa)=w9 at *;have q0:w9.cell? ⟨w.heap.size+1,0,none⟩=some (.int .i64 14):=(uh HF1).cell rfl;have q1:w9.cell? ⟨w.heap.size+1,1,none⟩=some (.slice none 0 0):=(uh HF1).cell rfl;have q2:w9.cell? ⟨w.heap.size+1,2,none⟩=some (.string qAa):=(uh HF1).cell rfl;refine bodyPost_ret (v:=qC0 14 (.slice none 0 0)) (by simp[results,Tryz.results37,go_sem,q0,q1,q2,qC0]) rfl ?_;exact qB8 (uh HE) ((uh HK2).trans (uh HKF) (λi hi hlt=>by have h2:i=w.heap.size+1:=hi;omega)) (World.ownsRow_nil _ _ _ _)
theorem zEh(clock:Int)(c0:0<=clock)(c1:clock<=4611686018427387904): ∀n xs st xs',(qLh clock n xs st).1=some xs'->(∀x,x∈xs->SerG clock x)->(∀x,x∈xs'->SerG clock x)/\xs'.length=xs.length+n:=by
 intro n
 induction n with
 | zero=>intro xs st xs' h hx;cases (show some xs=some xs' from h);exact⟨hx,rfl⟩
 | succ n ih =>
  intro xs st xs' h hx;unfold qLh at h;have hok:=λy (hy:(qO2 clock st).1=some y)=>zFf hy c0 c1
  generalize qO2 clock st=Y at *;obtain⟨oy,sg⟩:=Y;cases oy with
  | none=>cases h
  | some y =>
   simp only at h
   split at h
   ·cases h
   ·obtain⟨g1,g2,g3⟩:=hok y rfl
    obtain⟨a,b⟩:=ih _ _ _ h (λx hx2=>by
       rcases List.mem_append.1 hx2 with e | e
       ·exact hx x e
       ·rw[List.mem_singleton]at e;rw[e];exact⟨g1,g2,g3⟩)
    exact⟨a,by rw[b,List.length_append,List.length_singleton];omega⟩
theorem qLs{t:ByteArray}{s:WS}(h:qBn t=some s): EInv 4611686018427387904 s.clock s.xs/\EX s/\qNs s=t:=by
 unfold qBn at h;simp only at h;have hb1:=qB4 0 4611686018427387904 (qLm t);generalize qAs 0 4611686018427387904 (qLm t)=a at *;obtain⟨clock,st1⟩:=a;simp only at h hb1;have hb2:=qB4 0 6 st1;generalize qAs 0 6 st1=n at *;obtain⟨n,st2⟩:=n;simp only at h hb2;have hs:=λxs' h=>zEh clock (by omega) (by omega) n.toNat [] st2 xs' h (λx hx=>by cases hx)
 generalize qLh clock n.toNat [] st2=R at *;obtain⟨ox,st3⟩:=R;cases ox with
 | none=>cases h
 | some xs =>
  simp only at h
  split at h
  ·cases h
  ·split at h
   ·rename_i he
    have e:s=⟨clock,xs⟩:=(Option.some.inj h).symm;subst e;obtain⟨g1,g2⟩:=hs xs rfl;exact⟨⟨by show 0<=clock;omega,by show clock<=_;omega,by show xs.length<=6;rw[g2];simp;omega,λx hx=>(g1 x hx).i,λx hx=>(g1 x hx).mr⟩,λx hx=>(g1 x hx).sx,he⟩
   ·cases h
theorem zBc{s:WS}(o:OpM)(h:EInv 4611686018427387904 s.clock s.xs): EInv 4611686018427387904 (stepG qBn s o).1.clock (stepG qBn s o).1.xs:=by
 unfold stepG
 split
 ·split
  ·exact h
  ·rename_i s' hs'
   exact(qLs hs').1
 ·rename_i h7
  exact qWt o h (by omega) (.inr ⟨Int.le_refl _,rfl⟩) (λe=>absurd e h7)
theorem zE0{s:WS}(o:OpM)(h:EInv 4611686018427387904 s.clock s.xs)(hx:EX s): EX (stepG qBn s o).1:=by
 unfold stepG
 split
 ·split
  ·exact hx
  ·rename_i s' hs'
   exact(qLs hs').2.1
 ·rename_i h7
  exact qWs o hx h (λe=>absurd e h7)
theorem zG9(l:List OpM): ∀s:WS,EInv 4611686018427387904 s.clock s.xs->EX s->EInv 4611686018427387904 (qH6 qBn s l).clock (qH6 qBn s l).xs/\EX (qH6 qBn s l):=by
 induction l with
 | nil=>intro s h hx;exact⟨h,hx⟩
 | cons o l ih=>intro s h hx;exact ih _ (zBc o h) (zE0 o h hx)
theorem zE9(l:List OpM): EInv 4611686018427387904 (qH6 qBn ws0 l).clock (qH6 qBn ws0 l).xs/\EX (qH6 qBn ws0 l) :=
 zG9 l ws0 (inv0.mono (by omega)) (λx hx=>by simp[ws0]at hx)
theorem qZ4(e:Nat)(v:Value)(clock:Int)(ps:List (SB×Ser))(o:OpM)(w:World)(h:ERep w e v clock ps)(hi:EInv 4611686018427387904 clock (ps.map (·.2)))(hx:EX ⟨clock,ps.map (·.2)⟩)(hT:Tab w)(hT0:¬EFoot e v ps 2)(hb:o.kind=7->o.bytes.size<=9223372036854775807):
  Calls Tryz.prog 23 #[.pointer (some ⟨e,0,none⟩),o.val] w λr w' =>
   qG9 w e v ps (stepG qBn ⟨clock,ps.map (·.2)⟩ o).1.clock (stepG qBn ⟨clock,ps.map (·.2)⟩ o).1.xs (stepG qBn ⟨clock,ps.map (·.2)⟩ o).2.1 (stepG qBn ⟨clock,ps.map (·.2)⟩ o).2.2 (qEo ⟨clock,ps.map (·.2)⟩ o) r w':=by
 by_cases h7':o.kind=7
 ·have hby:qEo ⟨clock,ps.map (·.2)⟩ o=qAa:=by unfold qEo;rw[if_neg (by omega)]
  rw[hby];have hl:=λw0=>qYf o.bytes w0 (hb h7')
  cases h8:qBn o.bytes with
  | none =>
   have hM:stepG qBn ⟨clock,ps.map (·.2)⟩ o=(⟨clock,ps.map (·.2)⟩,14,[]):=by unfold stepG;rw[if_pos h7',h8]
   rw[hM];rw[h8]at hl;exact(zFo e v clock ps o w h h7' _ _ _ _ (λw0 h0=>qW9 e v clock ps o w0 h0 o.bytes rfl hl)).mono (λ_ _ h=>h.b)
  | some s =>
   have hM:stepG qBn ⟨clock,ps.map (·.2)⟩ o=(s,0,[]):=by unfold stepG;rw[if_pos h7',h8]
   rw[hM];rw[h8]at hl;exact(zFo e v clock ps o w h h7' _ _ _ _ (λw0 h0=>zBh e v clock s.clock ps o s.xs w0 h0 o.bytes rfl hl)).mono (λ_ _ h=>h.b)
 ·have hM:stepG qBn ⟨clock,ps.map (·.2)⟩ o=qCk ⟨clock,ps.map (·.2)⟩ o:=by unfold stepG;rw[if_neg h7']
  rw[hM]
  exact zEu 4611686018427387904 e v clock ps o w h hi (Int.le_refl _) hT hT0 h7' (λ_ x hxm=>by
     have hsi:=hi.sers x hxm
     exact qPz (hx x hxm) hsi (by have h1:=hsi.rela;have h2:=hsi.accn;omega))
theorem zBj(sb so cap:Nat)(ops:List OpM)(w:World)(h3:ScriptAt w sb so ops)(h4:sb<w.heap.size)(hlen:ops.length<=651562446090)(hT:Tab w)(hb:∀o,o∈ops->o.kind=7->o.bytes.size<=9223372036854775807):
  Calls Tryz.prog 11 #[.slice (some ⟨sb,so,none⟩) ops.length cap] w λr w'=>∃v l,r=.returned v/\ARep w' w.heap.size v l/\l.map (λx=>(x.code,x.nums))=qLf qBn ws0 ops/\l.map (·.bs)=qE4 qBn ws0 ops/\Keeps (λ_=>False) w w' :=
 zCt qBn (λ_=>4611686018427387904) sb so cap ops w h3 h4 hlen hT (λi _=>(zE9 (ops.take i)).1) (λi e v clock ps o w0 ho hst hE hi hn hT0 hT1=>qZ4 e v clock ps o w0 hE hi (by rw[hst];exact(zE9 (ops.take i)).2) hT0 hT1 (hb o (List.mem_of_getElem? ho)))
theorem qVy(v:Value)(ops:List OpM)(w:World)(h:ScriptW w v ops)(hlen:ops.length<=651562446090)(hT:Tab w)(hb:∀o,o∈ops->o.kind=7->o.bytes.size<=9223372036854775807):
  Calls Tryz.prog 11 #[v] w λr w'=>∃v l,r=.returned v/\ARep w' w.heap.size v l/\l.map (λx=>(x.code,x.nums))=qLf qBn ws0 ops/\l.map (·.bs)=qE4 qBn ws0 ops/\Keeps (λ_=>False) w w':=by
 rcases h with ⟨⟨a,c,rfl⟩,rfl⟩ | ⟨sb,so,cap,rfl,h2,h3,h4⟩
 ·exact zB9 a c w
 ·exact zBj sb so cap ops w h3 h4 hlen hT hb
end
section
open Go.RowKit
def qHx(l:List Int): Int:=l.foldr (λa b=>a+b) 0
structure LdF (R W:Nat) (most s:Int) (cs:List Int):Prop where
 nn:∀i,0<=cs.getD i 0
 ze:∀i,(R<=i/16\/W<=i%16)->cs.getD i 0=0
 row:∀j,j<R->qHx (qJ4 W cs j)=s
 s0:0<s
 s1:s<=most
def sP(W:Nat)(p:Pa.Pn): Int:=qHx (qJ4 W p.cs 0)
structure LdO (c:Cfg) (R W:Nat) (m rel:Int) (ps:List Pa.Pn):Prop where
 len:(ps.length:Int)<=c.panes+1
 asc:ps.Pairwise (λa b=>a.no<b.no)
 rng:∀p,p∈ps->0<=p.no/\p.no<=m/qBd c
 pan:∀p,p∈ps->LdF R W (sP W p) (sP W p) p.cs
 sum:qHx (ps.map (sP W))<=rel
def zJo(s:Pa.Pn×List Pa.Pn)(p:Pa.Pn): Pa.Pn×List Pa.Pn:=(p,(qBp s.1 s.2 p.no).2)
def qUd(ps:List Pa.Pn): Pa.Pn×List Pa.Pn:=ps.foldl zJo (Pa.pn0,[])
theorem qDz(a:Int)(l:List Int): qHx (a::l)=a+qHx l:=rfl
end
section
theorem zCx(k:Nat): (1:Int)<=2 ^ k:=by
 induction k with
 | zero=>decide
 | succ k ih=>rw[Int.pow_succ];omega
end
end Go.Proofs.YtahnliehdjncdabGreatDoor
