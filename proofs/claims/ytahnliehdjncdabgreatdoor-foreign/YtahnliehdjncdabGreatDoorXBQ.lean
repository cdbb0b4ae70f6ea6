import Derived.Test.YtahnliehdjncdabGreatDoorXBN
import Derived.Test.YtahnliehdjncdabGreatDoorXBP
import Derived.Test.YtahnliehdjncdabGreatDoorXBD
import Derived.Test.YtahnliehdjncdabGreatDoorXAL
import Derived.Test.YtahnliehdjncdabGreatDoorXBE
import Derived.Test.YtahnliehdjncdabGreatDoorXBB
import Derived.Test.YtahnliehdjncdabGreatDoorXBO
import Derived.BigQuiet
import Derived.Deep.DeepCutAuto
set_option maxRecDepth 100000
set_option maxHeartbeats 16000000
namespace Go.Proofs.YtahnliehdjncdabGreatDoor
section
open Go.RowKit
theorem qZt: ∀(f g i a m:Nat) (tl:List Nat),m<128 ^ (f+1)->f<=g->qQc (f+1) i a (qOo g m++tl)=some (a+m*128 ^ i,tl):=by
 intro f
 induction f with
 | zero =>
  intro g i a m tl hm _;have hm':m<128:=by simpa using hm
  have e:qOo g m=[m]:=by
   cases g with
   | zero=>rfl
   | succ g=>unfold qOo;rw[if_pos (by omega)]
  rw[e];show(if m<128 then _ else _)=_;rw[if_pos hm'];rfl
 | succ f ih =>
  intro g i a m tl hm hg;cases g with
  | zero=>omega
  | succ g =>
   unfold qOo
   by_cases h:m<=127
   ·rw[if_pos h]
    show(if m<128 then _ else _)=_;rw[if_pos (by omega)];rfl
   ·rw[if_neg h]
    show(if m%128+128<128 then _ else qQc (f+1) (i+1) (a+(m%128+128)%128*128 ^ i) (qOo g (m/128)++tl))=_;rw[if_neg (by omega),ih g (i+1) _ (m/128) tl (by rw[Nat.pow_succ]at hm;omega) (by omega)]
    congr 2
    rw[Nat.pow_succ,show(m%128+128)%128=m%128 by omega,Nat.add_assoc,Nat.mul_comm (128 ^ i) 128,<-Nat.mul_assoc,<-Nat.add_mul,show m%128+m/128*128=m by omega]
theorem qB6{lo hi v:Int}(tl:List Nat)(h0:0<=v)(h9:v<=9223372036854775807)(hl:lo<=v)(hh:v<=hi): qAs lo hi (some (enc v++tl))=(v,some tl):=by
 have e:zCo (enc v++tl)=some (v.toNat,tl):=by
  unfold zCo enc
  rw[qZt 8 9 0 0 v.toNat tl (by have:(128:Nat) ^ 9=9223372036854775808:=by decide
                                omega) (by omega)]
  simp
 unfold qAs;simp only[e];rw[show((v.toNat:Nat):Int)=v by omega,if_pos (by simp[inB];omega)]
theorem qF8(tl:List Nat): ∀l:List Int,(∀n,n∈l->0<=n/\n<=9223372036854775807)->qAy l.length (some (qBv l++tl))=(l,some tl):=by
 intro l
 induction l with
 | nil=>intro _;rfl
 | cons n l ih =>
  intro h;have h1:=h n (by simp);rw[List.length_cons,qAz,List.append_assoc];unfold qAy;rw[qB6 _ h1.1 h1.2 h1.1 h1.2,ih (λm hm=>h m (by simp[hm]))]
theorem zDc{k:Nat}{c:Cfg}(tl:List Nat)(hn:∀n,n∈qBt k c->0<=n/\n<=9223372036854775807)(p0:0<=qA1 k c)(p3:qA1 k c<=3)(hk:c.kind=k)(k1:1<=k)(k5:k<=5)(hv:qA5 (qDd k c)=true):
  qMl (some (qBv (qBt k c)++tl))=⟨qDd k c,k,some tl,true⟩:=by
 unfold qBt at hn ⊢;have hq:=hn c.kind (by simp);rw[qAz,qAo,qAo,List.append_assoc,List.append_assoc,List.append_assoc];unfold qMl;rw[qB6 _ hq.1 hq.2 hq.1 hq.2];simp only;rw[if_pos (by simp[inB];omega),show c.kind.toNat=k by omega];unfold qUc;have e1:∀tl,qAy 3 (some (qBv ([1,2,3].map c.num)++tl))=([1,2,3].map c.num,some tl):=λtl=>qF8 tl ([1,2,3].map c.num) (λn h=>hn n (List.mem_cons_of_mem _ (List.mem_append_left _ h)))
 have e2:∀tl,qAy (qBz k).length (some (qBv ((qBz k).map c.num)++tl))=((qBz k).map c.num,some tl):=λtl=>by
  have:=qF8 tl ((qBz k).map c.num) (λn h=>hn n (List.mem_cons_of_mem _ (List.mem_append_right _ (List.mem_append_left _ h))))
  rwa [List.length_map]at this
 have e3:∀tl,qAy (2*(qA1 k c).toNat) (some (qBv ((qBq (qA1 k c).toNat).map c.num)++tl))=((qBq (qA1 k c).toNat).map c.num,some tl):=λtl=>by
  have:=qF8 tl ((qBq (qA1 k c).toNat).map c.num) (λn h=>hn n (List.mem_cons_of_mem _ (List.mem_append_right _ (List.mem_append_right _ h))))
  rwa [List.length_map,qE2]at this
 have e4:qO0 (qEd c.kind k ([1,2,3].map c.num) ((qBz k).map c.num) []) k=(qA1 k c).toNat:=by
  have:qA1 k (qEd c.kind k ([1,2,3].map c.num) ((qBz k).map c.num) [])=qA1 k c:=by
   rcases five k1 k5 with e | e | e | e | e <;> subst e <;> rfl
  unfold qO0;rw[this,if_neg (by omega)]
 have e5:qVj (qA1 k c).toNat (qL1 k (qEd c.kind k ([1,2,3].map c.num) ((qBz k).map c.num) ((qBq (qA1 k c).toNat).map c.num))) (qEd c.kind k ([1,2,3].map c.num) ((qBz k).map c.num) ((qBq (qA1 k c).toNat).map c.num))=qDd k c:=by
  unfold qDd;have hp:(qA1 k c).toNat=0\/(qA1 k c).toNat=1\/(qA1 k c).toNat=2\/(qA1 k c).toNat=3:=by omega
  generalize(qA1 k c).toNat=p at *;rcases five k1 k5 with e | e | e | e | e <;> subst e <;> rcases hp with e | e | e | e <;> subst e <;> rfl
 simp only[e1,e2,e4,e3,e5,hv]
theorem zB0(r:List Int)(tl:List Nat)(h:∀j,0<=qAx r j/\qAx r j<=4611686018427387904): qJ3 7 0 [0,0,0,0,0,0,0,0,0,0,0,0] (some (qBv (qCp.map (qAx r))++tl))=(qIe r 7,some tl):=by
 have h1:∀n k f v tl,0<=v/\v<=4611686018427387904->qJ3 (n+1) k f (some (enc v++tl))=qJ3 n (k+1) (f.set (qCp.getD k 0) v) (some tl):=λn k f v tl hv=>by
  show qJ3 n (k+1) (f.set (qCp.getD k 0) (qAs 0 4611686018427387904 (some (enc v++tl))).1) (qAs 0 4611686018427387904 (some (enc v++tl))).2=_;rw[qB6 tl hv.1 (by omega) hv.1 hv.2]
 simp only[qCp,List.map_cons,List.map_nil,qAz,qB7,List.append_assoc,List.nil_append];rw[h1 _ _ _ _ _ (h _),h1 _ _ _ _ _ (h _),h1 _ _ _ _ _ (h _),h1 _ _ _ _ _ (h _),h1 _ _ _ _ _ (h _),h1 _ _ _ _ _ (h _),h1 _ _ _ _ _ (h _)];rfl
theorem zGv(k:Nat)(y:It)(k1:1<=k)(k5:k<=5): itD y.n ((qB9 k).map (λj=>[y.t,y.k,y.d].getD j 0))=itK k y:=by
 rcases five k1 k5 with e | e | e | e | e <;> subst e <;> rfl
theorem zD1(x:Ser)(clock A:Int)(tl:List Nat)(k1:1<=x.k)(k5:x.k<=5)(hA:A<=4611686018427387904): ∀(its pre:List It),(∀n,n∈qG2 x.k its->0<=n/\n<=9223372036854775807)->(∀y,y∈its->1<=y.n/\y.n<=A)->((pre++its).map (·.n)).Nodup ->
  (∀(i:Nat) (y:It),its[i]?=some y->qIw { x with l:=qI5 x.k (pre++its.take i) } clock (itK x.k y)=0) ->
  qV7 x clock A its.length ⟨qI5 x.k pre,pre.map (·.n),some (qBv (qG2 x.k its)++tl)⟩=⟨qI5 x.k (pre++its),(pre++its).map (·.n),some tl⟩:=by
 intro its
 induction its with
 | nil=>intro pre _ _ _ _;rw[List.append_nil];rfl
 | cons y its ih =>
  intro pre hb hn hd hr;have hy:=hn y (by simp);have hbc:qG2 x.k (y::its)=qKe x.k y++qG2 x.k its:=rfl;have hit:qKe x.k y=y.n::(qB9 x.k).map (λj=>[y.t,y.k,y.d].getD j 0):=rfl;rw[hbc]at hb;rw[List.length_cons,hbc,qAo,hit,qAz,List.append_assoc,List.append_assoc];have hnot:¬y.n∈pre.map (·.n):=by
   rw[List.map_append,List.map_cons]at hd;intro hc;exact(List.nodup_append.1 hd).2.2 y.n hc y.n (by simp) rfl
  have hps:∀tl,qAy (qB9 x.k).length (some (qBv ((qB9 x.k).map (λj=>[y.t,y.k,y.d].getD j 0))++tl))=((qB9 x.k).map (λj=>[y.t,y.k,y.d].getD j 0),some tl):=λtl=>by
   have:=qF8 tl ((qB9 x.k).map (λj=>[y.t,y.k,y.d].getD j 0)) (λn h=>hb n (List.mem_append_left _ (by rw[hit];exact List.mem_cons_of_mem _ h)))
   rwa [List.length_map]at this
  have hr0:=hr 0 y rfl;rw[List.take_zero,List.append_nil]at hr0;have hstep:itR x clock A ⟨qI5 x.k pre,pre.map (·.n),some (enc y.n++(qBv ((qB9 x.k).map (λj=>[y.t,y.k,y.d].getD j 0))++(qBv (qG2 x.k its)++tl)))⟩=⟨qI5 x.k (pre++[y]),(pre++[y]).map (·.n),some (qBv (qG2 x.k its)++tl)⟩:=by
   unfold itR knR;simp only[qB6 _ (show 0<=y.n by omega) (show y.n<=9223372036854775807 by omega) hy.1 hy.2];have hc1:∀st,qEm (!decide (y.n∈pre.map (·.n))) st=st:=λst=>by unfold qEm;rw[if_pos (by simpa using hnot)]
   rw[hc1,hps];simp only[zGv x.k y k1 k5,hr0];rw[qZi,List.map_append];rfl
  show qV7 x clock A its.length (itR x clock A _)=_
  rw[hstep,ih (pre++[y]) (λn h=>hb n (List.mem_append_right _ h)) (λz hz=>hn z (by simp[hz])) (by rw[List.append_assoc];exact hd) (λi z hz=>by
       have:=hr (i+1) z (by simpa using hz);rw[List.take_succ_cons]at this;rw[List.append_assoc]
       exact this)]
  rw[List.append_assoc];rfl
theorem zDm{q r rel:Int}(tl:List Nat)(q0:0<=q)(q1:q<=rel)(hr:rel<=4611686018427387904)(r0:0<=r)(r1:r<=2305843009213693951)(h1:q<rel\/r=0)(h2:0<q\/rel<=r): qXc rel (some (qBv [q,r]++tl))=((q,r),some tl):=by
 rw[qAz,qC3,List.append_assoc];unfold qXc;simp only[qB6 _ q0 (show q<=9223372036854775807 by omega) q0 q1,qB6 _ r0 (show r<=9223372036854775807 by omega) r0 r1];unfold qEm;rw[if_pos (by simp;omega),if_pos (by simp;omega)]
theorem zF3(m rel P:Int)(tl:List Nat)(hm:m<=4611686018427387904)(hrel:rel<=4611686018427387904)(P1:1<=P): ∀(g:List Int) (tm it:Int) (l:List Bk),0<=tm->0<=it->(∀t,t∈g->tm<=t/\t<=m)->g.Pairwise (λa b=>a<=b)->it+P*(g.length:Int)<=rel ->
  bkR m rel P g.length ⟨tm,it,l,some (qBv g++tl)⟩=⟨g.getLastD tm,it+P*(g.length:Int),l++g.map (λt=>⟨P,t⟩),some tl⟩:=by
 intro g
 induction g with
 | nil=>intro tm it l _ _ _ _ _;simp[bkR,qB7]
 | cons t g ih =>
  intro tm it l t0 i0 ht hs hr;have h1:=ht t (by simp);rw[List.length_cons]at hr ⊢;have e1:P*((g.length+1:Nat):Int)=P+P*(g.length:Int):=by
   rw[Int.natCast_add,Int.mul_add];omega
  have e2:0<=P*(g.length:Int):=Int.mul_nonneg (by omega) (by omega);rw[e1]at hr ⊢;rw[qAz,List.append_assoc];unfold bkR;simp only[qB6 _ (show 0<=t by omega) (show t<=9223372036854775807 by omega) h1.1 h1.2];rw[qLz (by omega) (by omega)];have hc:∀st,qEm (decide (it+P<=rel)) st=st:=λst=>by unfold qEm;rw[if_pos (by simp;omega)]
  rw[hc,ih t (it+P) (l++[(⟨P,t⟩:Bk)]) (by omega) (by omega) (λu hu=>⟨(List.pairwise_cons.1 hs).1 u hu,(ht u (by simp[hu])).2⟩) (List.pairwise_cons.1 hs).2 (by omega)];rw[Int.add_assoc,List.append_assoc]
  congr 1
  cases g <;> rfl
theorem zAf: ∀(g:List Int) (tm:Int),g.getLastD tm=tm\/g.getLastD tm∈g:=by
 intro g
 induction g with
 | nil=>intro tm;exact .inl rfl
 | cons a g ih =>
  intro tm;rw[List.getLastD_cons];rcases ih a with h | h
  ·rw[h];simp
  ·exact .inr (List.mem_cons_of_mem _ h)
theorem zHr(K m rel:Int)(tl:List Nat)(hm:m<=4611686018427387904)(hrel:rel<=4611686018427387904)(K0:0<=K): ∀(gs:List (List Int)) (le tm it:Int) (l:List Bk),0<=le->0<=tm->0<=it->(∀g,gs.head?=some g->le<=(g.length:Int))->(∀g,g∈gs->(g.length:Int)<=K+1)->(∀g,g∈gs.tail->K<=(g.length:Int))->(∀b,b∈qFm gs->tm<=b.t/\b.t<=m)->(qFm gs).Pairwise (λa b=>a.t<=b.t)->it+qDn (qFm gs)<=rel->K<=4611686018427387904 ->
  (szR K m rel gs.length le ⟨tm,it,l,some (qBv (qIp gs)++tl)⟩).l=l++qFm gs/\(szR K m rel gs.length le ⟨tm,it,l,some (qBv (qIp gs)++tl)⟩).st=some tl:=by
 intro gs
 induction gs with
 | nil=>intro le tm it l _ _ _ _ _ _ _ _ _ _;exact⟨by simp[szR,qFm],by simp[szR,qIp,qB7]⟩
 | cons g gs ih =>
  intro le tm it l l0 t0 i0 hh hc ht hb hs hr hK;have e0:qFm (g::gs)=g.map (λt=>(⟨2 ^ gs.length,t⟩:Bk))++qFm gs:=rfl;have e1:qIp (g::gs)=(g.length:Int)::(g++qIp gs):=rfl;have hP:(1:Int)<=2 ^ gs.length:=by
   have:(0:Int)<2 ^ gs.length:=Int.pow_pos (by omega);omega
  have hsg:∀(P:Int) (g:List Int),qDn (g.map (λt=>(⟨P,t⟩:Bk)))=P*(g.length:Int):=λP g=>by
   induction g with
   | nil=>simp[qDn]
   | cons t g ihg =>
    rw[List.map_cons,List.length_cons];show P+qDn _=_;rw[ihg,Int.natCast_add,Int.mul_add];omega
  have hnn:0<=qDn (qFm gs):=by
   have:∀gs:List (List Int),0<=qDn (qFm gs):=λgs=>by
    induction gs with
    | nil=>exact Int.le_refl _
    | cons g gs ih2 =>
     show 0<=qDn (g.map (λt=>(⟨2 ^ gs.length,t⟩:Bk))++qFm gs);rw[qDg,hsg];have:(0:Int)<2 ^ gs.length:=Int.pow_pos (by omega);have:=Int.mul_nonneg (show(0:Int)<=2 ^ gs.length by omega) (show(0:Int)<=(g.length:Int) by omega);omega
   exact this gs
  rw[e0,qDg,hsg]at hr;rw[e0]at hb hs;have hln:=hc g (by simp);have hhd:=hh g rfl;rw[e0,e1,List.length_cons,qAz,qAo,List.append_assoc,List.append_assoc];unfold szR;simp only[qB6 _ (show 0<=(g.length:Int) by omega) (show(g.length:Int)<=9223372036854775807 by omega) hhd hln,Int.toNat_natCast];have hgt:∀t,t∈g->tm<=t/\t<=m:=λt h=>hb ⟨2 ^ gs.length,t⟩ (List.mem_append_left _ (List.mem_map_of_mem h))
  have hgs:g.Pairwise (λa b=>a<=b):=by
   have:=(List.pairwise_append.1 hs).1
   rwa [List.pairwise_map]at this
  rw[zF3 m rel (2 ^ gs.length) _ hm hrel hP g tm it l t0 i0 hgt hgs (by omega)];have hlast:=zAf g tm;have hge:tm<=g.getLastD tm:=by
   rcases hlast with h | h
   ·omega
   ·exact(hgt _ h).1
  have e2:=Int.mul_nonneg (show(0:Int)<=2 ^ gs.length by omega) (show(0:Int)<=(g.length:Int) by omega)
  obtain⟨j1,j2⟩:=ih K (g.getLastD tm) (it+2 ^ gs.length*(g.length:Int)) (l++g.map (λt=>⟨2 ^ gs.length,t⟩)) K0 (by omega) (by omega) (λg' h=>by
      cases gs with
      | nil=>cases h
      | cons a r=>
       have e:a=g':=by simpa using h
       rw[<-e];exact ht a (by simp)) (λg' h=>hc g' (by simp[h])) (λg' h=>ht g' (List.mem_of_mem_tail h)) (λb h=>⟨by
        rcases hlast with h9 | h9
        ·rw[h9];exact(hb b (List.mem_append_right _ h)).1
        ·exact(List.pairwise_append.1 hs).2.2 ⟨2 ^ gs.length,g.getLastD tm⟩ (List.mem_map_of_mem h9) b h,(hb b (List.mem_append_right _ h)).2⟩) (List.pairwise_append.1 hs).2.1 (by omega) hK
  rw[j1,j2,List.append_assoc];exact⟨rfl,rfl⟩
theorem zCy{K m rel:Int}{gs:List (List Int)}(tl:List Nat)(h:LdC K m rel gs)(hm:m<=4611686018427387904)(hrel:rel<=4611686018427387904)(K0:0<=K)(K1:K<=10): qUh K m rel (some (qBv ((gs.length:Int)::qIp gs)++tl))=(qFm gs,some tl):=by
 have hl:=h.len;rw[qAz,List.append_assoc];unfold qUh;simp only[qB6 _ (show 0<=(gs.length:Int) by omega) (show(gs.length:Int)<=9223372036854775807 by omega) (show 0<=(gs.length:Int) by omega) (show(gs.length:Int)<=62 by omega),Int.toNat_natCast];obtain⟨a,b⟩:=zHr K m rel tl hm hrel K0 gs 1 0 0 [] (by omega) (by omega) (by omega) (λg hg=>by have:=h.fst g hg;omega) h.cnt h.lst h.tm h.srt (by have:=h.sum;omega) (by omega);rw[a,b];rfl
theorem zG2(m:Int)(tl:List Nat)(hm:m<=4611686018427387904): ∀(lv l:List Bk) (lt lr:Int),(∀b,b∈lv->lt<b.sz/\0<=b.sz/\b.sz<=m/\1<=b.t/\b.t<=40/\b.t<lr)->lv.Pairwise (λa b=>a.sz<b.sz/\b.t<a.t) ->
  mkR m lv.length lt lr l (some (qBv (qDe lv)++tl))=(l++lv,some tl):=by
 intro lv
 induction lv with
 | nil=>intro l lt lr _ _;simp[mkR,qDe,qB7]
 | cons b lv ih =>
  intro l lt lr hb hs;have h1:=hb b (by simp);have e:qDe (b::lv)=b.sz::b.t::qDe lv:=rfl;rw[List.length_cons,e,qAz,qAz,List.append_assoc,List.append_assoc];unfold mkR;rw[qB6 _ h1.2.1 (by omega) (by omega) h1.2.2.1];simp only;rw[qB6 _ (by omega) (by omega) h1.2.2.2.1 (by omega)];simp only
  rw[ih (l++[(⟨b.sz,b.t⟩:Bk)]) b.sz b.t (λc hc=>by
       have h2:=hb c (by simp[hc]);have h3:=(List.pairwise_cons.1 hs).1 c hc
       exact⟨h3.1,h2.2.1,h2.2.2.1,h2.2.2.2.1,h2.2.2.2.2.1,h3.2⟩) (List.pairwise_cons.1 hs).2,List.append_assoc]
  rfl
theorem zE5(m:Int)(tl:List Nat)(hm:m<=4611686018427387904)(lv:Nat->List Bk)(hl:∀i,(lv i).length<=40)(ht:∀i b,b∈lv i->0<=b.sz/\b.sz<=m/\1<=b.t/\b.t<=40)(hs:∀i,(lv i).Pairwise (λa b=>a.sz<b.sz/\b.t<a.t)): ∀(k s it:Nat) (ls:Nat->List Bk),
  ∃ls',qTb m k s ⟨it,ls,some (qBv (qO9 lv k s)++tl)⟩=⟨it+qQ3 lv k s,ls',some tl⟩/\∀j,ls' j=if s<=j/\j<s+k then lv j else ls j:=by
 intro k
 induction k with
 | zero=>intro s it ls;exact⟨ls,rfl,λj=>by rw[if_neg (by omega)]⟩
 | succ k ih =>
  intro s it ls;have h1:=hl s;have e:qO9 lv (k+1) s=((lv s).length:Int)::(qDe (lv s)++qO9 lv k (s+1)):=rfl;rw[e,qAz,qAo,List.append_assoc,List.append_assoc];unfold qTb;simp only[qB6 _ (show 0<=((lv s).length:Int) by omega) (show((lv s).length:Int)<=9223372036854775807 by omega) (show 0<=((lv s).length:Int) by omega) (show((lv s).length:Int)<=40 by omega),Int.toNat_natCast];rw[zG2 m _ hm (lv s) [] (-1) 41 (λb hb=>by have:=ht s b hb;omega) (hs s)];obtain⟨ls',h2,h3⟩:=ih (s+1) (it+(lv s).length) (qQf ls s (lv s));refine⟨ls',?_,λj=>?_⟩
  ·rw[List.nil_append,h2]
   show RR.mk (it+(lv s).length+qQ3 lv k (s+1)) _ _=RR.mk (it+((lv s).length+qQ3 lv k (s+1))) _ _;rw[Nat.add_assoc]
  ·rw[h3]
   unfold qQf
   by_cases hj:j=s
   ·subst hj;rw[if_neg (by omega),if_pos rfl,if_pos (by omega)]
   ·rw[if_neg hj]
    by_cases hj2:s+1<=j/\j<s+1+k
    ·rw[if_pos hj2,if_pos (by omega)]
    ·rw[if_neg hj2,if_neg (by omega)]
theorem zEs{m rel:Int}{n:Nat}{lv:Nat->List Bk}(tl:List Nat)(h:LdD m rel n lv)(hm:m<=4611686018427387904): ∃ls',qYe m rel n (some (qBv (qO9 lv n 0)++tl))=(ls',some tl)/\∀j,j<n->ls' j=lv j:=by
 obtain⟨ls',h1,h2⟩:=zE5 m tl hm lv h.len h.tm h.srt n 0 0 (λ_=>[]);refine⟨ls',?_,λj hj=>by rw[h2,if_pos (by omega)]⟩;unfold qYe;rw[h1];have:=h.sum;simp only;unfold qEm;rw[if_pos (by simp;omega)]
theorem zAc(c:Cfg)(m acc:Int)(tl:List Nat)(hacc:acc<=4611686018427387904): ∀(ys:List It) (tk:List Dr.It) (ns:List Int),(∀y,y∈ys->1<=y.n/\y.n<=acc)->(ns++ys.map (·.n)).Nodup->(∀y,y∈ys->0<=y.t/\y.t<=m/\0<=y.k/\y.k<=9223372036854775807/\0<=y.d/\y.d<=9223372036854775807)->(∀y,y∈ys->qCy c 5 y=0)->m<=4611686018427387904 ->
  qId c m acc ys.length ⟨tk,ns,some (qBv (qPp ys)++tl)⟩=⟨ys.foldl (qG1 c) tk,ns++ys.map (·.n),some tl⟩:=by
 intro ys
 induction ys with
 | nil=>intro tk ns _ _ _ _ _;rw[List.map_nil,List.append_nil];rfl
 | cons y ys ih =>
  intro tk ns hn hd hr hk hm;have hy:=hn y (by simp);have hq:=hr y (by simp);have e:qPp (y::ys)=y.n::([y.t,y.k,y.d]++qPp ys):=rfl;rw[List.length_cons,e,qAz,qAo,List.append_assoc,List.append_assoc];have hnot:¬y.n∈ns:=by
   rw[List.map_cons]at hd;intro hc;exact(List.nodup_append.1 hd).2.2 y.n hc y.n (by simp) rfl
  have hstep:qGr c m acc ⟨tk,ns,some (enc y.n++(qBv [y.t,y.k,y.d]++(qBv (qPp ys)++tl)))⟩=⟨qG1 c tk y,ns++[y.n],some (qBv (qPp ys)++tl)⟩:=by
   unfold qGr knR;simp only[qB6 _ (show 0<=y.n by omega) (show y.n<=9223372036854775807 by omega) hy.1 hy.2];have hc1:∀st,qEm (!decide (y.n∈ns)) st=st:=λst=>by unfold qEm;rw[if_pos (by simpa using hnot)]
   have hp:∀tl,qAy 3 (some (qBv [y.t,y.k,y.d]++tl))=([y.t,y.k,y.d],some tl):=λtl=>qF8 tl [y.t,y.k,y.d] (λn h=>by
      have h9:n=y.t\/n=y.k\/n=y.d:=by simpa using h
      rcases h9 with e | e | e <;> subst e <;> omega)
   rw[hc1,hp];have hit:itD y.n [y.t,y.k,y.d]=y:=rfl;simp only[hit,hk y (by simp)];have hc2:∀st,qEm (inB y.t 0 m&&(0:Int)==0) st=st:=λst=>by unfold qEm;rw[if_pos (by simp[inB];omega)]
   rw[hc2];rfl
  unfold qId;rw[hstep];rw[if_neg (by simp),ih (qG1 c tk y) (ns++[y.n]) (λz hz=>hn z (by simp[hz])) (by rw[List.append_assoc];exact hd) (λz hz=>hr z (by simp[hz])) (λz hz=>hk z (by simp[hz])) hm,List.append_assoc];rfl
theorem zCw{c:Cfg}{m acc rel:Int}{ns:List Int}{ys:List It}(tl:List Nat)(h:LdT c m acc rel ns ys)(hm:m<=4611686018427387904)(hacc:acc<=4611686018427387904): qWr c m acc rel ns (some (qBv (qPp ys)++tl))=⟨ys.foldl (qG1 c) [],ns++ys.map (·.n),some tl⟩:=by
 have e:(qPh rel (c.size+1)).toNat=ys.length:=by
  have:=h.len;unfold qPh
  split <;> split at this <;> omega
 unfold qWr;rw[e];exact zAc c m acc tl hacc ys [] ns h.num h.nod h.rng h.ref hm
theorem zE3(most:Int)(k W:Nat)(cs:List Int)(tl:List Nat)(hW:W<=16)(hm:most<=4611686018427387904)(hnn:∀i,0<=cs.getD i 0): ∀(n j:Nat) (s:FR),j+n=W->0<=s.sm->s.sm+qHx ((List.range' j n).map (λi=>cs.getD (k*16+i) 0))<=most->s.st=some (qBv ((List.range' j n).map (λi=>cs.getD (k*16+i) 0))++tl)->k*16+16<=48 ->
  (qFy most k n j s).sm=s.sm+qHx ((List.range' j n).map (λi=>cs.getD (k*16+i) 0))/\(qFy most k n j s).st=some tl/\(qFy most k n j s).p.no=s.p.no/\∀i,(qFy most k n j s).p.cs.getD i 0=if k*16+j<=i/\i<k*16+j+n then cs.getD i 0 else s.p.cs.getD i 0:=by
 intro n
 induction n with
 | zero =>
  intro j s _ _ _ hst _;refine⟨by simp[qFy,qHx],by rw[show(qFy most k 0 j s).st=s.st from rfl,hst];simp[qB7],rfl,λi=>by rw[if_neg (by omega)];rfl⟩
 | succ n ih =>
  intro j s hj s0 hs hst hk;rw[List.range'_succ,List.map_cons,qDz]at hs;rw[List.range'_succ,List.map_cons,qAz,List.append_assoc]at hst;have hv:=hnn (k*16+j)
  have hrest:0<=qHx ((List.range' (j+1) n).map (λi=>cs.getD (k*16+i) 0)):=qIt _ (λx hx=>by
     obtain⟨i,_,rfl⟩:=List.mem_map.1 hx;exact hnn _)
  have hnum:qAs 0 (most-s.sm) s.st=(cs.getD (k*16+j) 0,some (qBv ((List.range' (j+1) n).map (λi=>cs.getD (k*16+i) 0))++tl)):=by
   rw[hst];exact qB6 _ hv (by omega) hv (by omega)
  have e:qFy most k (n+1) j s=qFy most k n (j+1) ⟨s.sm+cs.getD (k*16+j) 0,qV5 s.p (k*16+j) (cs.getD (k*16+j) 0),some (qBv ((List.range' (j+1) n).map (λi=>cs.getD (k*16+i) 0))++tl)⟩:=by
   show qFy most k n (j+1) ⟨s.sm+(qAs 0 (most-s.sm) s.st).1,qV5 s.p (k*16+j) (qAs 0 (most-s.sm) s.st).1,(qAs 0 (most-s.sm) s.st).2⟩=_;rw[hnum]
  obtain⟨i1,i2,i3,i4⟩:=ih (j+1) ⟨s.sm+cs.getD (k*16+j) 0,qV5 s.p (k*16+j) (cs.getD (k*16+j) 0),some (qBv ((List.range' (j+1) n).map (λi=>cs.getD (k*16+i) 0))++tl)⟩ (by omega) (by simp only;omega) (by simp only;omega) rfl hk;rw[e];refine⟨?_,i2,i3,λi=>?_⟩
  ·rw[i1,List.range'_succ,List.map_cons,qDz];simp only;omega
  ·rw[i4]
   simp only
   by_cases hi:i=k*16+j
   ·subst hi
    rw[if_neg (by omega),if_pos (by omega)];show(s.p.cs.set (k*16+j) _).getD (k*16+j) 0=_;rw[List.getD_eq_getElem?_getD,List.getElem?_set,if_pos rfl,if_pos (by rw[s.p.len];omega)];rfl
   ·have e2:(qV5 s.p (k*16+j) (cs.getD (k*16+j) 0)).cs.getD i 0=s.p.cs.getD i 0:=by
     show(s.p.cs.set (k*16+j) _).getD i 0=_;rw[List.getD_eq_getElem?_getD,List.getElem?_set,if_neg (by omega),<-List.getD_eq_getElem?_getD]
    rw[e2]
    by_cases h2:k*16+(j+1)<=i/\i<k*16+(j+1)+n
    ·rw[if_pos h2,if_pos (by omega)]
    ·rw[if_neg h2,if_neg (by omega)]
theorem zFh(W:Nat)(cs:List Int)(k:Nat): qJ4 W cs k=(List.range' 0 W).map (λi=>cs.getD (k*16+i) 0):=by
 unfold qJ4;rw[List.range_eq_range']
theorem qWh(R W:Nat)(cs:List Int): qEi R W cs=(List.range' 0 R).flatMap (qJ4 W cs):=by
 unfold qEi;rw[List.range_eq_range']
theorem qXs(most sm:Int)(R W:Nat)(cs:List Int)(tl:List Nat)(hR:R<=3)(hW:W<=16)(hm:most<=4611686018427387904)(hF:LdF R W most sm cs): ∀(n k:Nat) (s:FR),k+n=R->0<=s.sm->(k=0\/s.sm=sm)->s.st=some (qBv ((List.range' k n).flatMap (qJ4 W cs))++tl) ->
  ((qCn most W n k s).sm=if n=0 then s.sm else sm)/\(qCn most W n k s).st=some tl/\(qCn most W n k s).p.no=s.p.no/\∀i,(qCn most W n k s).p.cs.getD i 0=if k<=i/16/\i/16<k+n/\i%16<W then cs.getD i 0 else s.p.cs.getD i 0:=by
 intro n
 induction n with
 | zero=>intro k s _ _ _ hst;exact⟨by rw[if_pos rfl];rfl,by rw[show(qCn most W 0 k s).st=s.st from rfl,hst];simp[qB7],rfl,λi=>by rw[if_neg (by omega)];rfl⟩
 | succ n ih =>
  intro k s hk s0 hs hst;rw[List.range'_succ,List.flatMap_cons,qAo,List.append_assoc,zFh]at hst;have hrow:=hF.row k (by omega);rw[zFh]at hrow;have h1:=hF.s1;have h0:=hF.s0;obtain⟨r1,r2,r3,r4⟩:=zE3 most k W cs (qBv ((List.range' (k+1) n).flatMap (qJ4 W cs))++tl) hW hm hF.nn W 0 ⟨0,s.p,s.st⟩ (by omega) (Int.le_refl _) (by simp only;omega) hst (by omega);rw[hrow]at r1;simp only at r1 r3 r4;have e:qCn most W (n+1) k s=qCn most W n (k+1) ⟨(qFy most k W 0 ⟨0,s.p,s.st⟩).sm,(qFy most k W 0 ⟨0,s.p,s.st⟩).p,qEm (decide (0<(qFy most k W 0 ⟨0,s.p,s.st⟩).sm)&&((k:Int)==0||(qFy most k W 0 ⟨0,s.p,s.st⟩).sm==s.sm)) (qFy most k W 0 ⟨0,s.p,s.st⟩).st⟩:=rfl;rw[e];have hc:∀st,qEm (decide (0<(qFy most k W 0 ⟨0,s.p,s.st⟩).sm)&&((k:Int)==0||(qFy most k W 0 ⟨0,s.p,s.st⟩).sm==s.sm)) st=st:=λst=>by
   unfold qEm;rw[if_pos];rw[r1];simp;omega
  rw[hc,r1,r2];obtain⟨i1,i2,i3,i4⟩:=ih (k+1) ⟨0+sm,(qFy most k W 0 ⟨0,s.p,s.st⟩).p,some (qBv ((List.range' (k+1) n).flatMap (qJ4 W cs))++tl)⟩ (by omega) (by simp only;omega) (.inr (by simp only;omega)) rfl;refine⟨?_,i2,by rw[i3];exact r3,λi=>?_⟩
  ·rw[i1,if_neg (show ¬n+1=0 by omega)]
   simp only
   split <;> omega
  ·rw[i4]
   simp only;rw[r4]
   by_cases h2:k+1<=i/16/\i/16<k+1+n/\i%16<W
   ·rw[if_pos h2,if_pos (by omega)]
   ·rw[if_neg h2]
    by_cases h3:k*16+0<=i/\i<k*16+0+W
    ·rw[if_pos h3,if_pos (by omega)]
    ·rw[if_neg h3,if_neg (by omega)]
theorem ext48{a b:List Int}(ha:a.length=48)(hb:b.length=48)(h:∀i,a.getD i 0=b.getD i 0): a=b:=by
 refine List.ext_getElem (by omega) (λi h1 h2=>?_);have:=h i
 rwa [List.getD_eq_getElem?_getD,List.getD_eq_getElem?_getD,List.getElem?_eq_getElem h1,List.getElem?_eq_getElem h2]at this
theorem qZk{most sm:Int}{R W:Nat}{cs:List Int}(tl:List Nat)(n:Int)(hl:cs.length=48)(hR1:1<=R)(hR:R<=3)(hW:W<=16)(hm:most<=4611686018427387904)(hF:LdF R W most sm cs):
  (qI3 most R W (qNg n) (some (qBv (qEi R W cs)++tl))).sm=sm/\(qI3 most R W (qNg n) (some (qBv (qEi R W cs)++tl))).st=some tl/\(qI3 most R W (qNg n) (some (qBv (qEi R W cs)++tl))).p=⟨n,cs,hl⟩:=by
 rw[qWh];obtain⟨i1,i2,i3,i4⟩:=qXs most sm R W cs tl hR hW hm hF R 0 ⟨0,qNg n,some (qBv ((List.range' 0 R).flatMap (qJ4 W cs))++tl)⟩ (by omega) (Int.le_refl _) (.inl rfl) rfl;rw[if_neg (by omega)]at i1;refine⟨i1,i2,zFr i3 (ext48 (qCn most W R 0 _).p.len hl (λi=>?_))⟩;have h:=i4 i;have hz:¬(0<=i/16/\i/16<0+R/\i%16<W)->cs.getD i 0=0:=λhn=>hF.ze i (by omega)
 refine h.trans ?_
 by_cases h2:0<=i/16/\i/16<0+R/\i%16<W
 ·rw[if_pos h2]
 ·rw[if_neg h2,hz h2]
  exact qH3 i
theorem zAe(R W:Nat)(M:Int)(tl:List Nat)(hR1:1<=R)(hR:R<=3)(hW:W<=16)(hM:M<=4611686018427387904): ∀(ps:List Pa.Pn) (lf le:Int) (s:Pa.Pn×List Pa.Pn),0<=le->lf<=4611686018427387904->(∀p,p∈ps->le<=p.no/\p.no<=M)->ps.Pairwise (λa b=>a.no<b.no)->(∀p,p∈ps->LdF R W (sP W p) (sP W p) p.cs)->qHx (ps.map (sP W))<=lf->(∀p,p∈ps->s.1.no≠p.no\/s.1.cs=qAw) ->
  (qIc R W M ps.length ⟨lf,le,s,some (qBv (ps.flatMap (λp=>p.no::qEi R W p.cs))++tl)⟩).s=ps.foldl zJo s/\(qIc R W M ps.length ⟨lf,le,s,some (qBv (ps.flatMap (λp=>p.no::qEi R W p.cs))++tl)⟩).st=some tl:=by
 intro ps
 induction ps with
 | nil=>intro lf le s _ _ _ _ _ _ _;exact⟨rfl,by simp[qIc,qB7]⟩
 | cons p ps ih =>
  intro lf le s l0 l1 hr ha hp hs hne;have h1:=hr p (by simp);have hF:=hp p (by simp);rw[List.map_cons,qDz]at hs
  have hrest:0<=qHx (ps.map (sP W)):=qIt _ (λx hx=>by
     obtain⟨q,hq,rfl⟩:=List.mem_map.1 hx
     have:=(hp q (by simp[hq])).s0;omega)
  have hF2:LdF R W lf (sP W p) p.cs:=⟨hF.nn,hF.ze,hF.row,hF.s0,by omega⟩;rw[List.length_cons,List.flatMap_cons,qAo,qAz,List.append_assoc,List.append_assoc];unfold qIc;simp only[qB6 _ (show 0<=p.no by omega) (show p.no<=9223372036854775807 by omega) h1.1 h1.2];have ht:(qBp s.1 s.2 p.no).1=qNg p.no:=by
   unfold qBp
   split
   ·rename_i he
    rcases hne p (by simp) with h | h
    ·exact absurd he h
    ·exact zFr he h
   ·rfl
  rw[ht];obtain⟨f1,f2,f3⟩:=qZk (qBv (ps.flatMap (λp=>p.no::qEi R W p.cs))++tl) p.no p.len hR1 hR hW l1 hF2;rw[f1,f2,f3];have:=hF.s0
  exact ih (lf-sP W p) (p.no+1) (p,(qBp s.1 s.2 p.no).2) (by omega) (by omega) (λq hq=>by
     have h2:=(List.pairwise_cons.1 ha).1 q hq;exact⟨by omega,(hr q (by simp[hq])).2⟩) (List.pairwise_cons.1 ha).2 (λq hq=>hp q (by simp[hq])) (by omega) (λq hq=>by
     have h2:=(List.pairwise_cons.1 ha).1 q hq;left;show p.no≠q.no
     omega)
theorem zEq{c:Cfg}{m rel:Int}{ps:List Pa.Pn}(tl:List Nat)(h:LdO c c.rows.toNat c.width.toNat m rel ps)(hm0:0<=m\/ps=[])(hm:m<=4611686018427387904)(hml:-4611686018427387904<=m)(hrel:rel<=4611686018427387904)(hr1:1<=c.rows.toNat)(hr3:c.rows.toNat<=3)(hw:c.width.toNat<=16)(hp8:c.panes<=8)(hL:1<=qBd c):
  (qPi c m rel (some (qBv ((ps.length:Int)::qDu c ps)++tl))).s=qUd ps/\(qPi c m rel (some (qBv ((ps.length:Int)::qDu c ps)++tl))).st=some tl:=by
 have hl:=h.len;rw[qAz,List.append_assoc];unfold qPi;simp only[qB6 _ (show 0<=(ps.length:Int) by omega) (show(ps.length:Int)<=9223372036854775807 by omega) (show 0<=(ps.length:Int) by omega) hl,Int.toNat_natCast];have hM:=zCh m (qBd c) hL hml hm;have hMe:∀p,p∈ps->p.no<=m.tdiv (qBd c):=λp hpm=>by
  rcases hm0 with h0 | h0
  ·rw[Int.tdiv_eq_ediv_of_nonneg h0];exact(h.rng p hpm).2
  ·rw[h0]at hpm;cases hpm
 exact zAe c.rows.toNat c.width.toNat _ tl hr1 hr3 hw hM.2 ps rel 0 (Pa.pn0,[]) (by omega) hrel (λp hp=>⟨(h.rng p hp).1,hMe p hp⟩) h.asc h.pan h.sum (λp hp=>.inr rfl)
def ser7: Ser:=qCe 7 c0 4
def B7: ByteArray:=qFp 0 [ser7]
theorem B7_ne: (B7.toList==qAa.toList)=false:=by
 have h:B7.size≠0:=by
  unfold B7 qFp;rw[qLu];unfold qOc qKc;simp[qFi]
 cases hb:(B7.toList==qAa.toList) with
 | false=>rfl
 | true =>
  have h2:B7.toList=qAa.toList:=by simpa using hb
  rw[ByteArray.toList_eq,ByteArray.toList_eq]at h2;exfalso;apply h;have h3:=congrArg List.length h2;exact h3
def l7(b:ByteArray): OpM:=⟨7,0,0,0,0,cz,b⟩
def o6: OpM:=⟨6,0,0,0,0,cz,qAa⟩
def qW0: List OpM:=[l7 B7,o5,l7 qAa]
theorem zGm: qM7 ws0 [o1,o6]=[(0,[]),(0,[])]:=by kernel_rfl
theorem two_bytes: qQ4 ws0 [o1,o6]=[qAa,B7]:=rfl
theorem qQj(ld:ByteArray->Option WS)(l:List OpM): ∀s:WS,qL3 l->qLf ld s l=qM7 s l/\qE4 ld s l=qQ4 s l/\qH6 ld s l=zCv s l:=by
 induction l with
 | nil=>intro s _;exact⟨rfl,rfl,rfl⟩
 | cons o l ih =>
  intro s hok;have hs:stepG ld s o=qCk s o:=by unfold stepG;rw[if_neg (hok o (by simp))]
  obtain⟨i1,i2,i3⟩:=ih (qCk s o).1 (λo ho=>hok o (by simp[ho]));refine⟨?_,?_,?_⟩
  ·unfold qLf qM7;rw[hs,i1]
  ·unfold qE4 qQ4;rw[hs,i2]
  ·unfold qH6 zCv;rw[hs,i3]
end
section
theorem zEl(s:WS)(o:OpM)(h:o.kind=2\/o.kind=3): (qCk s o).1.xs.map (·.id)=s.xs.map (·.id):=by
 rcases h with h2 | h3
 ·have hs:qCk s o=qTg s o:=by unfold qCk;rw[if_neg (by omega),if_pos h2]
  rw[hs];cases hf:qPr s.xs o.id with
  | none=>unfold qTg;rw[hf]
  | some x =>
   obtain⟨l1,l2,he,hx,hu⟩:=qX3 hf;unfold qTg;rw[hf];simp only
   split
   ·show(qNf s.xs o.id (qTc x o.item)).map (·.id)=_
    rw[hu,he];simp[qTc]
   ·show(qNf s.xs o.id (qVe x _)).map (·.id)=_
    rw[hu,he];simp[qVe]
 ·have hs:qCk s o=qJn s o:=by unfold qCk;rw[if_neg (by omega),if_neg (by omega),if_pos h3]
  rw[hs];unfold qJn
  split
  ·split
   ·show(qC8 _ _ _).1.map (·.id)=_
    rw[qYq,List.map_map];refine List.map_congr_left λx _=>?_
    exact(qW4 _ _ _).2.2
   ·rfl
  ·rfl
end
section
open Go.RowKit
structure Fit (n:Int) (s:WS):Prop where
 i:EInv n s.clock s.xs
 x:EX s
 z:EZ s
 d:(s.xs.map (·.id)).Nodup
theorem Fit.zero: Fit 0 ws0:=⟨inv0,λx hx=>(by cases hx),λx hx=>(by cases hx),List.Pairwise.nil⟩
theorem zDl{s:WS}(o:OpM)(h:(s.xs.map (·.id)).Nodup)(h7:o.kind≠7): ((qCk s o).1.xs.map (·.id)).Nodup:=by
 by_cases h23:o.kind=2\/o.kind=3
 ·rw[zEl s o h23];exact h
 ·have h2:o.kind≠2:=λe=>h23 (.inl e)
  have h3:o.kind≠3:=λe=>h23 (.inr e)
  unfold qCk
  split
  ·unfold qDj
   split
   ·rename_i hf
    split
    ·split
     ·show((s.xs++[qCe o.id o.cfg o.cfg.kind.toNat]).map (·.id)).Nodup
      rw[List.map_append];refine List.nodup_append.2 ⟨h,by simp,λa ha b hb=>?_⟩;obtain⟨x,hx,rfl⟩:=List.mem_map.1 ha;have hb':b=o.id:=by simpa[qCe] using hb
      have h9:=List.find?_eq_none.1 (Option.isNone_iff_eq_none.1 hf.2) x hx;rw[hb'];simpa using h9
     ·exact h
    ·exact h
   ·exact h
  ·split
   ·unfold qHh
    split <;> exact h
   ·split
    ·unfold qHk
     split <;> exact h
    ·split <;> exact h
theorem Fit.step{n:Int}{s:WS}(h:Fit n s)(hn0:0<=n)(hn:n<=1000000000000)(o:OpM)(h7:o.kind≠7): Fit (n+1) (qCk s o).1 :=
 ⟨qSi o h.i hn0 (qMm h7),qWs o h.x h.i (λe=>absurd e h7),zC5 o h.z h.i (by omega) h7,zDl o h.d h7⟩
theorem Fit.mono{n m:Int}{s:WS}(h:Fit n s)(hm:n<=m): Fit m s:=⟨h.i.mono hm,h.x,h.z,h.d⟩
theorem Fit.end'(l:List OpM): ∀ {n:Int} {s:WS},Fit n s->0<=n->n+l.length<=1000000000000->qL3 l->Fit (n+l.length) (zCv s l):=by
 induction l with
 | nil=>intro n s h _ _ _;exact h.mono (by simp)
 | cons o l ih =>
  intro n s h hn0 hn hok;rw[List.length_cons]at hn;have:=ih (h.step hn0 (by omega) o (hok o (by simp))) (by omega) (by omega) (λo ho=>hok o (by simp[ho]));rw[List.length_cons];exact this.mono (by omega)
theorem ldN_1(c:Cfg)(m acc rel:Int)(ns:List Int)(st:Option (List Nat)): ldN 1 c m acc rel ns st=({ qC9 with bs:=(qUh c.k m rel st).1 },(qUh c.k m rel st).2):=rfl
theorem ldN_2(c:Cfg)(m acc rel:Int)(ns:List Int)(st:Option (List Nat)): ldN 2 c m acc rel ns st=({ qC9 with rg:=(qYe m rel (qFx c) st).1 },(qYe m rel (qFx c) st).2):=rfl
theorem ldN_3(c:Cfg)(m acc rel:Int)(ns:List Int)(st:Option (List Nat)): ldN 3 c m acc rel ns st=({ qC9 with op:=(qPi c m rel st).s.1,cl:=(qPi c m rel st).s.2 },(qPi c m rel st).st):=rfl
theorem ldN_4(c:Cfg)(m acc rel:Int)(ns:List Int)(st:Option (List Nat)): ldN 4 c m acc rel ns st=({ qC9 with q:=(qXc rel st).1.1,r:=(qXc rel st).1.2 },(qXc rel st).2):=rfl
theorem ldN_5(c:Cfg)(m acc rel:Int)(ns:List Int)(st:Option (List Nat)): ldN 5 c m acc rel ns st=({ qC9 with tk:=(qWr c m acc rel ns st).tk },(qWr c m acc rel ns st).st):=rfl
theorem zGg{n clock:Int}{x:Ser}(tl:List Nat)(h:Good n clock x): ∃nt,ldN x.k (qDd x.k x.c) (clock-(qDd x.k x.c).lag) x.acc x.rel ((Qi.allL (x.l.length+1) x.l).map (·.n)) (some (qBv (qG4 x.k x.c x.nt (clock-x.c.lag))++tl))=(nt,some tl)/\qG4 x.k (qDd x.k x.c) nt (clock-x.c.lag)=qG4 x.k (qDd x.k x.c) (zFt x.k (qDd x.k x.c) (clock-x.c.lag) x.nt) (clock-x.c.lag):=by
 have hh:=qJl x.k x.c h.i.k1 h.i.k5;have hcm:=h.i.common;have hc0:=h.c0;have hc1:=h.c1;have hr:=h.rel;have hacc:x.acc<=4611686018427387904:=h.sx.accm;rw[hh.2.1];obtain⟨k,ek⟩:∃k,x.k=k:=⟨_,rfl⟩;have h1:=h.i.k1;have h5:=h.i.k5;rcases five h1 h5 with e | e | e | e | e
 ·have hv:=qBy h.i.valid h.i.kind e
  obtain⟨gs,g1,g2,g3⟩:=h.cnt e;have hk:(qDd 1 x.c).k=x.c.k:=rfl;have hsv:qG4 1 x.c x.nt (clock-x.c.lag)=(gs.length:Int)::qIp gs:=by
   unfold qG4;rw[if_neg (by omega),if_pos rfl,g2]
  rw[e,hsv];refine⟨{ qC9 with bs:=qFm gs },?_,?_⟩
  ·rw[ldN_1,hk,zCy tl g3 (by omega) (by omega) (by omega) (by omega)]
  ·rw[<-g1];rfl
 ·have hsv:qG4 2 x.c x.nt (clock-x.c.lag)=qO9 (λj=>qD3 x.c (clock-x.c.lag) (x.nt.rg j)) (qFx x.c) 0:=by
   unfold qG4;rw[if_neg (by omega),if_neg (by omega),if_pos rfl,zA1]
  have hreg:qFx (qDd 2 x.c)=qFx x.c:=rfl;obtain⟨ls,l1,l2⟩:=zEs tl (h.dis e) (by omega);rw[e,hsv];refine⟨{ qC9 with rg:=ls },?_,?_⟩
  ·rw[ldN_2,hreg,l1]
  ·show qOr ls (qFx (qDd 2 x.c)) _=qOr (λj=>qD3 (qDd 2 x.c) (clock-x.c.lag) (x.nt.rg j)) (qFx (qDd 2 x.c)) _
   have hfm:∀(f g:Nat->List Int) (l:List Nat),(∀i,i∈l->f i=g i)->l.flatMap f=l.flatMap g:=λf g l=>by
    induction l with
    | nil=>intro _;rfl
    | cons a l ih=>intro hh;rw[List.flatMap_cons,List.flatMap_cons,hh a (by simp),ih (λi hi=>hh i (by simp[hi]))]
   exact hfm _ _ _ (λi hi=>by
      rw[l2 i (by rw[<-hreg];exact List.mem_range.1 hi)]
      rfl)
 ·obtain⟨o1,o2⟩:=h.oft e
  have hv:=qHy h.i.valid h.i.kind e;have hL:=(qBr h.i.valid h.i.kind e).2.2.1;have hsv:qG4 3 x.c x.nt (clock-x.c.lag)=((qBb x.c x.nt.op x.nt.cl (clock-x.c.lag-x.c.window)).length:Int)::qDu x.c (qBb x.c x.nt.op x.nt.cl (clock-x.c.lag-x.c.window)):=by
   unfold qG4;rw[if_neg (by omega),if_neg (by omega),if_neg (by omega),if_pos rfl];rfl
  have ho:∀st,qPi (qDd 3 x.c) (clock-x.c.lag) x.rel st=qPi x.c (clock-x.c.lag) x.rel st:=λst=>rfl
  obtain⟨f1,f2⟩:=zEq tl o1 o2 (by omega) (by omega) (by omega) (by omega) (by omega) (by omega) (by omega) (by omega);rw[e,hsv];refine⟨{ qC9 with op:=(qUd (qBb x.c x.nt.op x.nt.cl (clock-x.c.lag-x.c.window))).1,cl:=(qUd (qBb x.c x.nt.op x.nt.cl (clock-x.c.lag-x.c.window))).2 },?_,rfl⟩;rw[ldN_3,ho,f1,f2]
 ·have hd:=h.dec e
  have hsv:qG4 4 x.c x.nt (clock-x.c.lag)=[x.nt.q,x.nt.r]:=by unfold qG4;rw[if_pos rfl]
  rw[e,hsv];have n0:=h.i.note.q0;have n1:=h.i.note.qn;have n2:=h.i.note.r0;have n3:=h.i.note.r1;refine⟨{ qC9 with q:=x.nt.q,r:=x.nt.r },?_,rfl⟩;rw[ldN_4,zDm tl n0 n1 (by omega) n2 (by omega) hd.1 hd.2]
 ·have hT:=h.drw e
  have hsv:qG4 5 x.c x.nt (clock-x.c.lag)=qPp ((Dr.allL (x.nt.tk.length+1) x.nt.tk).map unT):=by
   unfold qG4;rw[if_neg (by omega),if_neg (by omega),if_neg (by omega),if_neg (by omega),if_pos rfl,qV4]
  have hT2:LdT (qDd 5 x.c) (clock-x.c.lag) x.acc x.rel ((Qi.allL (x.l.length+1) x.l).map (·.n)) ((Dr.allL (x.nt.tk.length+1) x.nt.tk).map unT) :=
   ⟨hT.len,hT.num,hT.nod,hT.rng,λy hy=>by rw[zDr 5 x.c y (by omega) (by omega)];exact hT.ref y hy⟩
  rw[e,hsv];refine⟨{ qC9 with tk:=((Dr.allL (x.nt.tk.length+1) x.nt.tk).map unT).foldl (qG1 (qDd 5 x.c)) [] },?_,rfl⟩;rw[ldN_5,zCw tl hT2 (by omega) hacc]
theorem zEv{n clock:Int}{x:Ser}(tl:List Nat)(h:Good n clock x): ∃y,qO2 clock (some (qBv (qC2 clock x)++tl))=(some y,some tl)/\y.id=x.id/\qC2 clock (qSk clock y)=qC2 clock x:=by
 have hl:=h.ld;have hit:=h.its;have hr:=h.rel;have hcm:=h.i.common;have hlen:=(qG6 (x.l.length+1) x.l (by omega) h.i.heap).length_eq;have hacc:x.rel+(x.l.length:Int)=x.acc:=h.i.rela;have haccm:x.acc<=4611686018427387904:=h.sx.accm;have hcap:=hl.cap;obtain⟨nt,n1,n2⟩:=zGg tl h;have hn:qC2 clock x=qIv x++(qG2 x.k (Qi.allL (x.l.length+1) x.l)++qG4 x.k x.c x.nt (clock-x.c.lag)):=rfl;have hh:qIv x=x.id::(qBt x.k x.c++(qCp.map (qAx x.ref)++[x.rel,(x.l.length:Int)])):=rfl;obtain⟨c1,c2,c3,c4⟩:=zDw h.i h.sx h.z;refine⟨⟨x.id,qDd x.k x.c,x.k,x.acc,x.rel,qIe x.ref 7,qI5 x.k (Qi.allL (x.l.length+1) x.l),nt,0⟩,?_,rfl,?_⟩
 ·rw[hn,hh]
  simp only[qAo,qAz,List.append_assoc,List.cons_append,List.nil_append];unfold qO2;simp only[qB6 _ hl.id0.1 (show x.id<=9223372036854775807 by have:=hl.id0;omega) hl.id0.1 hl.id0.2,zDc _ hl.cfg hl.p0 hl.p3 hl.kind hl.k1 hl.k5 hl.valid,if_true];unfold qVu;have hw:qAs 0 (qPh (qDd x.k x.c).cap (4611686018427387904-x.rel)) (some (enc (x.l.length:Int)++(qBv (qG2 x.k (Qi.allL (x.l.length+1) x.l))++(qBv (qG4 x.k x.c x.nt (clock-x.c.lag))++tl))))=((x.l.length:Int),some (qBv (qG2 x.k (Qi.allL (x.l.length+1) x.l))++(qBv (qG4 x.k x.c x.nt (clock-x.c.lag))++tl))):=by
   have h9:=hit.cap;refine qB6 _ (by omega) (by omega) (by omega) ?_;unfold qPh
   split <;> omega
  simp only[zB0 x.ref _ hl.ref,qB6 _ hl.rel0 (show x.rel<=9223372036854775807 by omega) hl.rel0 hl.rel1,hw,Int.toNat_natCast,hacc];have hi:=zD1 ⟨x.id,qDd x.k x.c,x.k,0,x.rel,qIe x.ref 7,[],qC9,0⟩ clock x.acc (qBv (qG4 x.k x.c x.nt (clock-x.c.lag))++tl) hl.k1 hl.k5 haccm (Qi.allL (x.l.length+1) x.l) [] hit.bd (λy hy=>by have:=hit.num y hy;rw[hlen,hacc]at this;exact this) hit.nod (λi y hy=>hit.ref i y hy);rw[hlen]at hi;have hb0:qI5 x.k []=[]:=rfl;rw[List.nil_append,List.map_nil]at hi;rw[show qI5 (Ser.k ⟨x.id,qDd x.k x.c,x.k,0,x.rel,qIe x.ref 7,[],qC9,0⟩) []=[] from rfl]at hi;simp only at hi;rw[hi];simp only[n1];rfl
 ·rw[<-c4.nums h.i c1 h.z c3]
  unfold qC2 qIv;show x.id::(qBt x.k (qDd x.k x.c)++(qCp.map (qAx (qIe x.ref 7))++[x.rel,((qI5 x.k (Qi.allL (x.l.length+1) x.l)).length:Int)]))++(qG2 x.k _++qG4 x.k (qDd x.k x.c) nt (clock-(qDd x.k x.c).lag))=x.id::(qBt x.k (qDd x.k x.c)++(qCp.map (qAx (qIe x.ref 7))++[x.rel,((qI5 x.k (Qi.allL (x.l.length+1) x.l)).length:Int)]))++(qG2 x.k _++qG4 x.k (qDd x.k x.c) (zFt x.k (qDd x.k x.c) (clock-x.c.lag) x.nt) (clock-(qDd x.k x.c).lag));have hlg:=(qJl x.k x.c h.i.k1 h.i.k5).2.1;rw[hlg,n2];rfl
theorem zBn{n clock:Int}(tl:List Nat): ∀(xs ys:List Ser),(∀x,x∈xs->Good n clock x)->((ys++xs).map (·.id)).Nodup->∃zs,qLh clock xs.length ys (some (qBv (qD5 clock xs)++tl))=(some (ys++zs),some tl)/\qD5 clock zs=qD5 clock xs/\zs.length=xs.length:=by
 intro xs
 induction xs with
 | nil=>intro ys _ _;exact⟨[],by rw[List.append_nil];simp[qLh,qD5,qB7],rfl,rfl⟩
 | cons x xs ih =>
  intro ys hg hd;have e:qD5 clock (x::xs)=qC2 clock x++qD5 clock xs:=rfl;obtain⟨y,y1,y2,y3⟩:=zEv (qBv (qD5 clock xs)++tl) (hg x (by simp));rw[e,qAo,List.append_assoc,List.length_cons];unfold qLh;simp only[y1];have hid:(qSk clock y).id=x.id:=y2;have hf:(ys.find? (λz=>z.id==y.id)).isSome=false:=by
   rw[Option.isSome_eq_false_iff,Option.isNone_iff_eq_none,List.find?_eq_none];intro z hz hc;rw[List.map_append,List.map_cons]at hd;exact(List.nodup_append.1 hd).2.2 z.id (List.mem_map_of_mem hz) x.id (by simp) (by rw[<-y2];simpa using hc)
  rw[if_neg (by rw[hf];simp)]
  obtain⟨zs,z1,z2,z3⟩:=ih (ys++[qSk clock y]) (λz hz=>hg z (by simp[hz])) (by
     rw[List.append_assoc,List.map_append,List.singleton_append,List.map_cons,hid];rw[List.map_append,List.map_cons]at hd
     exact hd)
  refine⟨qSk clock y::zs,?_,?_,by rw[List.length_cons,z3]⟩
  ·rw[z1,List.append_assoc];rfl
  ·show qC2 clock (qSk clock y)++qD5 clock zs=_
   rw[y3,z2]
theorem qY0(l:List Nat)(h:∀b,b∈l->b<256): qLm (qE3 (qFi++l))=some l:=by
 have hb:bytesOf (qE3 (qFi++l))=qFi++l:=qRa _ (λb hb=>by
    rcases List.mem_append.1 hb with h1 | h1
    ·exact qM6 b h1
    ·exact h b h1)
 have hd:(qE3 (qFi++l)).data.toList.map UInt8.toNat=qFi++l:=hb;have hu:qGj (qE3 (qFi++l))=qKr:=by
  have h1:(qE3 (qFi++l)).data.toList.take 8=qKr:=by
   have h2:((qE3 (qFi++l)).data.toList.take 8).map UInt8.toNat=qKr.map UInt8.toNat:=by
    rw[List.map_take,hd,List.take_left' (by rfl)];rfl
   exact List.map_inj_right (λa b hab=>UInt8.toNat_inj.1 hab) |>.1 h2
  unfold qGj;rw[h1];rfl
 unfold qLm;rw[if_pos hu,hb,List.drop_left' (by rfl)]
theorem qY8(v:Int): ∀gs:List (List Int),v∈qIp gs->(∃g,g∈gs/\v=(g.length:Int))\/∃b,b∈qFm gs/\v=b.t:=by
 intro gs
 induction gs with
 | nil=>intro h;cases h
 | cons g gs ih =>
  intro h;rcases List.mem_cons.1 h with e | h
  ·exact .inl ⟨g,by simp,e⟩
  ·rcases List.mem_append.1 h with h | h
   ·exact .inr ⟨⟨2 ^ gs.length,v⟩,List.mem_append_left _ (List.mem_map_of_mem h),rfl⟩
   ·rcases ih h with ⟨g',h1,h2⟩ | ⟨b,h1,h2⟩
    ·exact .inl ⟨g',by simp[h1],h2⟩
    ·exact .inr ⟨b,List.mem_append_right _ h1,h2⟩
theorem qZc(lv:Nat->List Bk)(v:Int): ∀n s,v∈qO9 lv n s->(∃i,v=((lv i).length:Int))\/∃i b,b∈lv i/\(v=b.sz\/v=b.t):=by
 intro n
 induction n with
 | zero=>intro s h;cases h
 | succ n ih =>
  intro s h;rcases List.mem_cons.1 h with e | h
  ·exact .inl ⟨s,e⟩
  ·rcases List.mem_append.1 h with h | h
   ·obtain⟨b,hb,h2⟩:=List.mem_flatMap.1 h
    exact .inr ⟨s,b,hb,by simpa using h2⟩
   ·exact ih (s+1) h
theorem qV6: ∀(l:List Int) (v:Int),(∀x,x∈l->0<=x)->v∈l->v<=qHx l:=by
 intro l
 induction l with
 | nil=>intro v _ h;cases h
 | cons a l ih =>
  intro v hn h;have h1:=qIt l (λx hx=>hn x (by simp[hx]));rw[qDz];rcases List.mem_cons.1 h with e | h
  ·omega
  ·have:=ih v (λx hx=>hn x (by simp[hx])) h
   have:=hn a (by simp);omega
theorem zH6{n clock:Int}{x:Ser}(h:Good n clock x)(v:Int)(hv:v∈qG4 x.k x.c x.nt (clock-x.c.lag)): v<=9223372036854775807:=by
 have hcm:=h.i.common;have hc0:=h.c0;have hc1:=h.c1;have hr:=h.rel;have hacc:x.acc<=4611686018427387904:=h.sx.accm;rcases five h.i.k1 h.i.k5 with e | e | e | e | e
 ·obtain⟨gs,g1,g2,g3⟩:=h.cnt e
  have hk:=qBy h.i.valid h.i.kind e;unfold qG4 at hv;rw[e,if_neg (by omega),if_pos rfl,g2]at hv;rcases List.mem_cons.1 hv with e | hv
  ·have:=g3.len;omega
  ·rcases qY8 v gs hv with ⟨g,h1,h2⟩ | ⟨b,h1,h2⟩
   ·have:=g3.cnt g h1;omega
   ·have:=g3.tm b h1;omega
 ·unfold qG4 at hv
  rw[e,if_neg (by omega),if_neg (by omega),if_pos rfl,zA1]at hv;have hd:=h.dis e;rcases qZc _ v _ _ hv with ⟨i,h2⟩ | ⟨i,b,h1,h2⟩
  ·have:=hd.len i;omega
  ·have:=hd.tm i b h1;omega
 ·obtain⟨o1,_⟩:=h.oft e
  have hq:=qHy h.i.valid h.i.kind e;have hL:=(qBr h.i.valid h.i.kind e).2.2.1;unfold qG4 at hv;rw[e,if_neg (by omega),if_neg (by omega),if_neg (by omega),if_pos rfl]at hv;unfold zFu at hv;rcases List.mem_cons.1 hv with e | hv
  ·have:=o1.len;omega
  ·obtain⟨p,hp,hv⟩:=List.mem_flatMap.1 hv
   rcases List.mem_cons.1 hv with e | hv
   ·have h1:=(o1.rng p hp).2
    have h2:(clock-x.c.lag)/qBd x.c<=4611686018427387904:=Int.ediv_le_of_le_mul (by omega) (by
       have:=Int.mul_le_mul_of_nonneg_left (show(1:Int)<=qBd x.c by omega) (show(0:Int)<=4611686018427387904 by omega)
       omega)
    omega
   ·have hF:=o1.pan p hp
    rw[qWh]at hv;obtain⟨j,hj,hv⟩:=List.mem_flatMap.1 hv;have hjr:j<x.c.rows.toNat:=by simpa using hj
    have h1:=qV6 (qJ4 x.c.width.toNat p.cs j) v (λy hy=>by
       obtain⟨i,_,rfl⟩:=List.mem_map.1 hy;exact hF.nn _) hv
    rw[hF.row j hjr]at h1
    have h2:=qV6 ((qBb x.c x.nt.op x.nt.cl (clock-x.c.lag-x.c.window)).map (sP x.c.width.toNat)) (sP x.c.width.toNat p) (λy hy=>by
       obtain⟨q,hq,rfl⟩:=List.mem_map.1 hy
       have:=(o1.pan q hq).s0;omega) (List.mem_map_of_mem hp)
    have h3:=o1.sum;omega
 ·unfold qG4 at hv
  rw[e,if_pos rfl]at hv;have n1:=h.i.note.qn;have n3:=h.i.note.r1;have h9:v=x.nt.q\/v=x.nt.r:=by simpa using hv
  rcases h9 with e | e <;> omega
 ·unfold qG4 at hv
  rw[e,if_neg (by omega),if_neg (by omega),if_neg (by omega),if_neg (by omega),if_pos rfl,<-qV4]at hv;obtain⟨y,hy,hv⟩:=List.mem_flatMap.1 hv;have hT:=h.drw e;have h1:=hT.num y hy;have h2:=hT.rng y hy;have h9:v=y.n\/v=y.t\/v=y.k\/v=y.d:=by simpa using hv
  rcases h9 with e | e | e | e <;> omega
theorem qYt{n clock:Int}{x:Ser}(h:Good n clock x)(v:Int)(hv:v∈qC2 clock x): v<=9223372036854775807:=by
 have hl:=h.ld;have hr:=h.rel;unfold qC2 qIv at hv;rcases List.mem_append.1 hv with hv | hv
 ·rcases List.mem_cons.1 hv with e | hv
  ·have:=hl.id0;omega
  ·rcases List.mem_append.1 hv with hv | hv
   ·exact(hl.cfg v hv).2
   ·rcases List.mem_append.1 hv with hv | hv
    ·obtain⟨j,_,rfl⟩:=List.mem_map.1 hv
     have:=hl.ref j;omega
    ·have h9:v=x.rel\/v=(x.l.length:Int):=by simpa using hv
     have:=h.ok.len;omega
 ·rcases List.mem_append.1 hv with hv | hv
  ·exact(h.its.bd v hv).2
  ·exact zH6 h v hv
theorem qUw{n:Int}{s:WS}(h:Fit n s)(hn:n<=1000000000000): qBn (qNs s)≠none:=by
 have hg:∀x,x∈s.xs->Good n s.clock x:=λx hx=>⟨h.i.sers x hx,h.x x hx,h.z x hx,h.i.c0,h.i.c1,hn⟩
 have hsh:=qTh (qKc s.clock s.xs);have hall:∀v,v∈qD5 s.clock s.xs->v<=9223372036854775807:=λv hv=>by
  obtain⟨x,hx,hv⟩:=List.mem_flatMap.1 hv;exact qYt (hg x hx) v hv
 have h6:=h.i.six;have hb:∀b,b∈qBv (qEj s.clock s.xs)++enc (qNc (qKc s.clock s.xs))->b<256:=λb hb=>by
  rcases List.mem_append.1 hb with h1 | h1
  ·obtain⟨v,hv,hb⟩:=List.mem_flatMap.1 h1
   refine qLw v ?_ b hb;have hv2:v=s.clock\/v=(s.xs.length:Int)\/v∈qD5 s.clock s.xs:=by simpa[qEj] using hv
   rcases hv2 with e | e | e
   ·have:=h.i.c1;omega
   ·omega
   ·exact hall v e
  ·exact qLw _ (by omega) b h1
 have hnew:qLm (qNs s)=some (enc s.clock++(enc (s.xs.length:Int)++(qBv (qD5 s.clock s.xs)++enc (qNc (qKc s.clock s.xs))))):=by
  have e1:qNs s=qE3 (qFi++(qBv (qEj s.clock s.xs)++enc (qNc (qKc s.clock s.xs)))):=by
   show qE3 (qKc s.clock s.xs++_)=_;unfold qKc;rw[List.append_assoc]
  rw[e1,qY0 _ hb];unfold qEj;rw[qAz,qAz,List.append_assoc,List.append_assoc]
 obtain⟨zs,z1,z2,z3⟩:=zBn (enc (qNc (qKc s.clock s.xs))) s.xs [] hg (by rw[List.nil_append];exact h.d);have h0:=h.i.c0;have h1:=h.i.c1;unfold qBn;simp only[hnew,qB6 _ h0 (show s.clock<=9223372036854775807 by omega) h0 h1,qB6 _ (show 0<=(s.xs.length:Int) by omega) (show(s.xs.length:Int)<=9223372036854775807 by omega) (show 0<=(s.xs.length:Int) by omega) (show(s.xs.length:Int)<=6 by omega),Int.toNat_natCast,z1,List.nil_append];have hs:qFp s.clock zs=qNs s:=by
  show qE3 (qOc s.clock zs)=qE3 (qOc s.clock s.xs);have hw:qEj s.clock zs=qEj s.clock s.xs:=by unfold qEj;rw[z2,z3]
  unfold qOc qKc;rw[hw]
 rw[if_neg (by simp),if_pos hs];simp
end
section
open Go.RowKit
attribute [local go_sem ↓] qAd qAe qDy
attribute [local go_sem] qAf qAl qAc qAb qAm qAn qAi qAj
theorem zGe(B:ByteArray)(w:World): (qCv 34 #[(0,.int .i64 7),(6,.string B)]).run Tryz.prog w=.ok (.value (.agg (l7 B).cells.toArray)) w:=by kernel_rfl
theorem zGz(w:World): (qCv 34 #[(0,.int .i64 6)]).run Tryz.prog w=.ok (.value (.agg o6.cells.toArray)) w:=by kernel_rfl
theorem zHt(w:World)(a b:OpM): (qYl 22 2 #[(0,.agg a.cells.toArray),(1,.agg b.cells.toArray)]).run Tryz.prog w=.ok (.value (.slice (some ⟨w.heap.size,0,none⟩) 2 2)) (w.alloc (.cells (a.cells++b.cells).toArray 34)):=by kernel_rfl
theorem qUx{w:World}{g:Nat}{a b:OpM}(h:Blk w g (a.cells++b.cells) 34): ScriptW w (.slice (some ⟨g,0,none⟩) 2 2) [a,b]:=by
 refine .inr ⟨g,0,2,rfl,by simp,?_,h.lt⟩;intro i x hx j u hu;have hi:=(List.getElem?_eq_some_iff.1 hx).1;have hj:j<26:=by have:=(List.getElem?_eq_some_iff.1 hu).1;exact this
 have hi':i=0\/i=1:=by simp at hi;omega
 rcases hi' with e | e
 ·subst e
  have:a=x:=by simpa using hx
  subst this;have h1:(a.cells++b.cells)[j]?=some u:=by rw[List.getElem?_append_left (by exact hj)];exact hu
  have:=h.cell h1;simpa using this
 ·subst e
  have:b=x:=by simpa using hx
  subst this;have h1:(a.cells++b.cells)[26+j]?=some u:=by
   rw[List.getElem?_append_right (by show 26<=26+j;omega)];show b.cells[26+j-26]?=_;rw[Nat.add_sub_cancel_left];exact hu
  have:=h.cell h1;simpa using this
theorem zHa(W:World): (Instr.sliceAt 22 (.slice none 0 0) none (some (.int .i64 0)) none).run Tryz.prog W=.ok (.slice none 0 0) W:=by kernel_rfl
theorem zG7(W:World): (Instr.sliceAt 22 (.slice none 0 0) (some (.int .i64 0)) none none).run Tryz.prog W=.ok (.slice none 0 0) W:=by kernel_rfl
theorem zA0(g L cap k:Nat)(W:World)(h:k<=cap): (Instr.sliceAt 22 (.slice (some ⟨g,0,none⟩) L cap) none (some (.int .i64 k)) none).run Tryz.prog W=.ok (.slice (some ⟨g,0,none⟩) k cap) W:=by
 have h2:(k:Int)<=(cap:Int):=by omega
 simp[go_sem,h2]
theorem zGt(g L cap k:Nat)(W:World)(h:k<=L)(hc:k<cap): (Instr.sliceAt 22 (.slice (some ⟨g,0,none⟩) L cap) (some (.int .i64 k)) none none).run Tryz.prog W=.ok (.slice (some ⟨g,k*26,none⟩) (L-k) (cap-k)) W:=by
 have h2:(k:Int)<=(L:Int):=by omega
 have h3:cap≠k:=by omega
 simp[go_sem,h2,h3]
theorem zJ3(g L:Nat)(W:World): (Instr.sliceAt 22 (.slice (some ⟨g,0,none⟩) L L) (some (.int .i64 L)) none none).run Tryz.prog W=.ok (.slice (some ⟨g,0,none⟩) 0 0) W:=by
 simp[go_sem]
theorem qTw{w:World}{sb so:Nat}{ops:List OpM}(h:ScriptAt w sb so ops)(k:Nat): ScriptAt w sb (so+k*26) (ops.drop k):=by
 intro i o ho;rw[List.getElem?_drop]at ho;have:=h (k+i) o ho
 rwa [show so+(k+i)*26=so+k*26+i*26 by omega]at this
theorem qU2{w:World}{sb so:Nat}{ops:List OpM}(h:ScriptAt w sb so ops)(k:Nat): ScriptAt w sb so (ops.take k):=by
 intro i o ho;rw[List.getElem?_take]at ho
 split at ho
 ·exact h i o ho
 ·cases ho
theorem qYo{w:World}{base:Nat}{sv:Value}{s:List OpM}(h:zBi w base sv s)(k:Nat)(hk:k<=s.length):
  ∃sa sc ta tc da dc,sv=.slice sa s.length sc/\(∀W,(Instr.sliceAt 22 (.slice sa s.length sc) none (some (.int .i64 k)) none).run Tryz.prog W=.ok (.slice ta k tc) W)/\(∀W,(Instr.sliceAt 22 (.slice sa s.length sc) (some (.int .i64 k)) none none).run Tryz.prog W=.ok (.slice da (s.length-k) dc) W)/\ScriptW w (.slice ta k tc) (s.take k)/\ScriptW w (.slice da (s.length-k) dc) (s.drop k):=by
 rcases qOd h with ⟨e1,e2⟩ | ⟨g,cap,e1,hcap,hsc,hlt,_,_⟩
 ·subst e2
  have hk0:k=0:=by simpa using hk
  subst hk0;exact⟨none,0,none,0,none,0,e1,zHa,zG7,.inl ⟨⟨_,_,rfl⟩,rfl⟩,.inl ⟨⟨_,_,rfl⟩,rfl⟩⟩
 ·have hkl:(s.take k).length=k:=by rw[List.length_take];omega
  have hT:ScriptW w (.slice (some ⟨g,0,none⟩) k cap) (s.take k):=.inr ⟨g,0,cap,by rw[hkl],by omega,qU2 hsc k,hlt⟩
  by_cases hck:k<cap
  ·refine⟨some ⟨g,0,none⟩,cap,some ⟨g,0,none⟩,cap,some ⟨g,k*26,none⟩,cap-k,e1,λW=>zA0 g _ cap k W (by omega),λW=>zGt g _ cap k W hk hck,hT,?_⟩
   have:=qTw hsc k;rw[Nat.zero_add]at this;exact .inr ⟨g,k*26,cap-k,by rw[List.length_drop],by rw[List.length_drop];omega,this,hlt⟩
  ·have e:s.length=k:=by omega
   have e2:cap=k:=by omega
   subst e2;refine⟨some ⟨g,0,none⟩,cap,some ⟨g,0,none⟩,cap,some ⟨g,0,none⟩,0,e1,λW=>zA0 g _ cap cap W (by omega),λW=>?_,hT,.inl ⟨⟨_,_,by rw[e,Nat.sub_self]⟩,List.drop_eq_nil_of_le (by omega)⟩⟩;rw[e,Nat.sub_self];exact zJ3 g cap W
theorem zGb(b1 b2:Nat)(code:Int)(bs:ByteArray)(v1 v2:Value)(l:List Int)(w:World)(h1:w.ownsRow b1 3 1 v1 l.length (ints l))(h2:w.ownsRow b2 3 1 v2 l.length (ints l))(hl:l.length<=1000):
  Calls Tryz.prog 13 #[.agg #[.int .i64 code,v1,.string bs],.agg #[.int .i64 code,v2,.string bs]] w λe w'=>e=.returned (.bool true)/\Keeps (λ_=>False) w w':=by
 have HK:=hide (((Keeps.refl (λ_=>False) w).alloc (.cells #[.int .i64 code,v1,.string bs] 38)).alloc (.cells #[.int .i64 code,v2,.string bs] 38));have HA:=hide (show Blk ((w.alloc (.cells #[.int .i64 code,v1,.string bs] 38)).alloc (.cells #[.int .i64 code,v2,.string bs] 38)) w.heap.size [.int .i64 code,v1,.string bs] 38 from(Blk.new w [_,_,_] 38).alloc _);have HB:=hide (show Blk ((w.alloc (.cells #[.int .i64 code,v1,.string bs] 38)).alloc (.cells #[.int .i64 code,v2,.string bs] 38)) (w.heap.size+1) [.int .i64 code,v2,.string bs] 38 from Blk.newAt (by simp) [_,_,_] 38);have hcc:(code==code)=true:=by simp
 have hbb:(bs.toList==bs.toList)=true:=by simp
 obtain⟨a1,c1,e1⟩:=qGt h1;obtain⟨a2,c2,e2⟩:=qGt h2;subst e1 e2;have H1:=hide h1;have H2:=hide h2;clear h1 h2;go_enter Tryz.func13,Tryz.ntmps13
 go_wp2_with fail
 refine(zCd b1 b2 _ _ l _ (qBk (uh H1) (uh HK) (λ_ _ h=>h)) (qBk (uh H2) (uh HK) (λ_ _ h=>h)) hl).mono ?_;rintro e w1 ⟨rfl,hk1⟩;have hA:=(uh HA).keeps hk1 (λh=>h);have hB:=(uh HB).keeps hk1 (λh=>h);have a0:w1.cell? ⟨w.heap.size,0,none⟩=some (.int .i64 code):=hA.cell rfl;have a2:w1.cell? ⟨w.heap.size,2,none⟩=some (.string bs):=hA.cell rfl;have b0:w1.cell? ⟨w.heap.size+1,0,none⟩=some (.int .i64 code):=hB.cell rfl;have b2':w1.cell? ⟨w.heap.size+1,2,none⟩=some (.string bs):=hB.cell rfl;have HK1:=hide ((uh HK).then hk1);clear hk1 hA hB;go_wp2
 go_ret
 exact⟨by simp,uh HK1⟩
end
section
open Go.RowKit
attribute [local go_sem ↓] qAd qAe qIj qFw qGw qCs
attribute [local go_sem] qAf qAl qAc qAb qAm qAn qAi qAj
def zJf: List Value:=o1.cells++o6.cells
def qMp(b:ByteArray): List Value:=(l7 b).cells++(o5.cells++(l7 qAa).cells)
theorem zJp(w:World): (qCv 34 #[(0,.int .i64 6)]).run Tryz.prog w=.ok (.value (.agg o6.cells.toArray)) w:=by kernel_rfl
theorem zI4(b:ByteArray)(w:World): (qCv 34 #[(0,.int .i64 7),(6,.string b)]).run Tryz.prog w=.ok (.value (.agg (l7 b).cells.toArray)) w:=by kernel_rfl
theorem zH0(w:World): (qCv 34 #[(0,.int .i64 7)]).run Tryz.prog w=.ok (.value (.agg (l7 qAa).cells.toArray)) w:=by kernel_rfl
theorem zGr(w:World): (qYl 22 2 #[(0,.agg o1.cells.toArray),(1,.agg o6.cells.toArray)]).run Tryz.prog w =
  .ok (.value (.slice (some ⟨w.heap.size,0,none⟩) 2 2)) (w.alloc (.cells zJf.toArray 34)):=by kernel_rfl
theorem zG3(b:ByteArray)(w:World): (qYl 22 3 #[(0,.agg (l7 b).cells.toArray),(1,.agg o5.cells.toArray),(2,.agg (l7 qAa).cells.toArray)]).run Tryz.prog w =
  .ok (.value (.slice (some ⟨w.heap.size,0,none⟩) 3 3)) (w.alloc (.cells (qMp b).toArray 34)):=by kernel_rfl
theorem qJm{w:World}{b:Nat}{L:List Value}{T:TypeId}(h:Blk w b L T)(off n:Nat)(cs:List Value)(hcs:(L.drop off).take n=cs): w.rangeAt b off cs:=by
 intro j v hv;rw[<-hcs,List.getElem?_take]at hv
 split at hv
 ·exact h.cell (by simpa using hv)
 ·cases hv
theorem zJa(w:World)(b:Nat)(h:Blk w b zJf 34): ScriptAt w b 0 [o1,o6]:=by
 intro i o ho;have hi:i<2:=(List.getElem?_eq_some_iff.1 ho).1;have hi':i=0\/i=1:=by omega
 rcases hi' with h' | h'
 all_goals
  subst h';injection ho with ho;subst ho
 ·exact qJm h 0 26 _ rfl
 ·exact qJm h 26 26 _ rfl
theorem qZx(w:World)(b:Nat)(h:Blk w b (qMp B7) 34): ScriptAt w b 0 qW0:=by
 intro i o ho;have hi:i<3:=(List.getElem?_eq_some_iff.1 ho).1;have hi':i=0\/i=1\/i=2:=by omega
 rcases hi' with h' | h' | h'
 all_goals
  subst h';injection ho with ho;subst ho
 ·exact qJm h 0 26 _ rfl
 ·exact qJm h 26 26 _ rfl
 ·exact qJm h 52 26 _ rfl
theorem zJl: qL3 [o1,o6]:=by
 intro o ho;simp at ho;rcases ho with h | h <;> subst h <;> decide
theorem zE1{α:Type _}(l:List α)(h:l.length=2): ∃a b,l=[a,b]:=by
 match l,h with
 | [a,b],_=>exact⟨a,b,rfl⟩
theorem qYz{α:Type _}(l:List α)(h:l.length=3): ∃a b c,l=[a,b,c]:=by
 match l,h with
 | [a,b,c],_=>exact⟨a,b,c,rfl⟩
attribute [local go_sem] qZ3 zFe zFi zJp zI4 zH0 zGr zG3
theorem zAp(HR:zAn)(HB:∀(b:Nat) (w0:World),Blk w0 b (qMp B7) 34->Tab w0->Calls Tryz.prog 11 #[.slice (some ⟨b,0,none⟩) 3 3] w0 λr w'=>∃v l,r=.returned v/\ARep w' w0.heap.size v l/\l.map (λx=>(x.code,x.nums))=[(0,[]),(0,[0,0,1]),(14,[])]/\Keeps (λ_=>False) w0 w')(w:World)(hT:Tab w): Calls Tryz.prog 8 #[] w λe w'=>e=.returned (.bool true)/\Keeps (λ_=>False) w w':=by
 have hst:∀zs:List Value,zs.length=20->(qDr 32 (.pointer (some ⟨w.heap.size,0,none⟩)) (.agg c0.cells.toArray)).run Tryz.prog (w.alloc (.cells zs.toArray 32))=.ok .skip (w.alloc (.cells c0.cells.toArray 32)):=λzs hz=>qM3 w zs c0.cells hz rfl (by simp[Cfg.cells,Value.oneCell'])
 have hv1:qAu (w.alloc (.cells c0.cells.toArray 32)) w.heap.size 0 20=.agg c0.cells.toArray:=qAh w c0.cells 32 20 rfl;have hh1:qA2 (w.alloc (.cells c0.cells.toArray 32)) w.heap.size 0 20=true:=qDq w c0.cells 32 20 rfl;have HK0:=hide (((Keeps.refl (λ_=>False) w).alloc (.cells c0.cells.toArray 32)).alloc (.cells zJf.toArray 34));have HB0:=hide (show Blk ((w.alloc (.cells c0.cells.toArray 32)).alloc (.cells zJf.toArray 34)) (w.heap.size+1) zJf 34 from Blk.newAt (by simp) _ _);have HTT:=hide hT;have HB7:=hide HB;have HRA:=hide HR;clear hT HB HR;go_enter Tryz.func8,Tryz.ntmps8
 go_wp2_with fail
 refine(uh HRA (w.heap.size+1) 0 2 [o1,o6] _ (zJa _ _ (uh HB0)) (uh HB0).lt (by decide) ((uh HTT).keeps (uh HK0) (λh=>h)) zJl).mono ?_;rintro r w1 ⟨v,l,rfl,hA,hM,hBs,hk1⟩;rw[zGm]at hM;rw[two_bytes]at hBs;obtain⟨x0,x1,hl2⟩:=zE1 l (by have:=congrArg List.length hM;simpa using this);subst hl2;simp only[List.map_cons,List.map_nil,List.cons.injEq,Prod.mk.injEq,and_true]at hM hBs;obtain⟨⟨k0,m0⟩,k1,m1⟩:=hM;obtain⟨_,hb1⟩:=hBs;obtain⟨g,cap,hv,hc⟩:=qPg hA (by simp);have hne:B7.toList.isEmpty=false:=by
  cases hb:B7.toList.isEmpty with
  | false=>rfl
  | true =>
   have h1:=List.isEmpty_iff.1 hb;have h2:=B7_ne;have h3:qAa.toList=[]:=by rw[ByteArray.toList_eq];rfl
   rw[h1,h3]at h2;cases h2
 obtain⟨bb,hbb⟩:∃bb,B7=bb:=⟨_,rfl⟩;rw[hbb]at hb1 hne HB7;clear hbb;have y1:w1.cell? ⟨g,3,none⟩=some (.int .i64 0):=(hc 3 _ rfl).trans (by rw[k1]);have y2:w1.cell? ⟨g,5,none⟩=some (.string bb):=(hc 5 _ rfl).trans (by rw[hb1]);have HK1:=hide ((uh HK0).then hk1);rw[hv];clear hA hk1 hc hv k0 k1 m0 m1 hst hv1 hh1 HK0 HB0 hb1;have HB2:=hide (Blk.new w1 (qMp bb) 34);have HK2:=hide ((uh HK1).alloc (.cells (qMp bb).toArray 34));show _;go_wp2_with fail
 refine(uh HB7 _ _ (uh HB2) ((uh HTT).keeps (uh HK2) (λh=>h))).mono ?_;rintro r w3 ⟨v3,l3,rfl,hA3,hM3,hk3⟩;obtain⟨z0,z1,z2,hl3⟩:=qYz l3 (by have:=congrArg List.length hM3;simpa using this);subst hl3;simp only[List.map_cons,List.map_nil,List.cons.injEq,Prod.mk.injEq,and_true]at hM3;obtain⟨⟨j0,_⟩,⟨j1,_⟩,j2,_⟩:=hM3;obtain⟨g3,cap3,hv3,hc3⟩:=qPg hA3 (by simp);have u0:w3.cell? ⟨g3,0,none⟩=some (.int .i64 0):=(hc3 0 _ rfl).trans (by rw[j0]);have u1:w3.cell? ⟨g3,3,none⟩=some (.int .i64 0):=(hc3 3 _ rfl).trans (by rw[j1]);have u2:w3.cell? ⟨g3,6,none⟩=some (.int .i64 14):=(hc3 6 _ rfl).trans (by rw[j2]);have HK3:=hide ((uh HK2).then hk3);rw[hv3];clear hA3 hk3 hc3 hv3 j0 j1 j2 y1 y2;show _;go_wp2
 go_ret
 exact⟨rfl,uh HK3⟩
end
section
open Go.RowKit
theorem qU1: qLf qBn ws0 qW0=[(0,[]),(0,[0,0,1]),(14,[])]:=by kernel_rfl
theorem qXk(l:List OpM): qL3 (l.filter OpM.noLoad):=λo ho=>by
 have:=(List.mem_filter.1 ho).2;simpa[OpM.noLoad] using this
theorem zEn{s:List OpM}{k:Nat}(t:ByteArray)(hk:k<=s.length)(hs:qL3 s)(hl:s.length<=651562446080):
  ∃(c:Int) (bb:ByteArray) (R:List (Int×List Int)) (RB:List ByteArray),
   qLf qBn ws0 (s.take k++[l7 t,o6]++s.drop k)=qM7 ws0 (s.take k)++((c,[])::(0,[])::R) /\
   qE4 qBn ws0 (s.take k++[l7 t,o6]++s.drop k)=qQ4 ws0 (s.take k)++(qAa::bb::RB)/\R.length=s.length-k/\RB.length=s.length-k /\
   ((c=0/\bb=t)\/(c=14/\bb≠t/\R=(qM7 ws0 s).drop k/\RB=(qQ4 ws0 s).drop k)):=by
 have ht:qL3 (s.take k):=λo ho=>hs o (List.mem_of_mem_take ho)
 have hd:qL3 (s.drop k):=λo ho=>hs o (List.mem_of_mem_drop ho)
 have hkl:(s.take k).length=k:=by rw[List.length_take];omega
 obtain⟨S,hS⟩:∃S,zCv ws0 (s.take k)=S:=⟨_,rfl⟩;have hfit:Fit (k:Int) S:=by
  have:=Fit.end' (s.take k) Fit.zero (by omega) (by rw[hkl];omega) ht;rw[hkl,Int.zero_add,hS]at this;exact this
 obtain⟨t1,t2,t3⟩:=qQj qBn (s.take k) ws0 ht;rw[hS]at t3;have e6:∀W,stepG qBn W o6=(W,0,[]):=λW=>by unfold stepG;rw[if_neg (by decide)];rfl
 have b7:∀W,qEo W (l7 t)=qAa:=λW=>by unfold qEo;rw[if_neg (by show ¬((7:Int)=6);decide)]
 have b6:∀W,qEo W o6=qNs W:=λW=>by unfold qEo;rw[if_pos (show o6.kind=6 from rfl)]
 have hA:(qM7 ws0 s).drop k=qM7 S (s.drop k):=by
  have h:=qTi ws0 (s.take k) (s.drop k);rw[List.take_append_drop,hS]at h;rw[h,List.drop_left' (by rw[qC5,hkl])]
 have hB:(qQ4 ws0 s).drop k=qQ4 S (s.drop k):=by
  have h:=qU3 ws0 (s.take k) (s.drop k);rw[List.take_append_drop,hS]at h;rw[h,List.drop_left' (by rw[qE9,hkl])]
 rw[List.append_assoc,qTf,qS0,t1,t2,t3];cases hw:qBn t with
 | none =>
  have e7:stepG qBn S (l7 t)=(S,14,[]):=by
   unfold stepG;rw[if_pos (show(l7 t).kind=7 from rfl),show qBn (l7 t).bytes=none from hw]
  obtain⟨r1,r2,_⟩:=qQj qBn (s.drop k) S hd;refine⟨14,qNs S,qM7 S (s.drop k),qQ4 S (s.drop k),?_,?_,by rw[qC5,List.length_drop],by rw[qE9,List.length_drop],.inr ⟨rfl,λe=>?_,hA.symm,hB.symm⟩⟩
  ·congr 1
   show qLf qBn S (l7 t::o6::s.drop k)=_;simp only[qLf,e7,e6,r1]
  ·congr 1
   show qE4 qBn S (l7 t::o6::s.drop k)=_;simp only[qE4,e7,e6,b7,b6,r2]
  ·exact qUw hfit (by omega) (by rw[e];exact hw)
 | some s' =>
  have e7:stepG qBn S (l7 t)=(s',0,[]):=by
   unfold stepG;rw[if_pos (show(l7 t).kind=7 from rfl),show qBn (l7 t).bytes=some s' from hw]
  refine⟨0,qNs s',qLf qBn s' (s.drop k),qE4 qBn s' (s.drop k),?_,?_,by rw[qL6,List.length_drop],by rw[qQ9,List.length_drop],.inl ⟨rfl,(qLs hw).2.2⟩⟩
  ·congr 1
   show qLf qBn S (l7 t::o6::s.drop k)=_;simp only[qLf,e7,e6]
  ·congr 1
   show qE4 qBn S (l7 t::o6::s.drop k)=_;simp only[qE4,e7,e6,b7,b6]
end
section
open Go.RowKit
attribute [local go_sem ↓] qAd qAe qDy qGw qFw
attribute [local go_sem] qAf qAl qAc qAb qAm qAn qAi qAj zAl zHt zGe zGz
theorem zF0: B7.size<=9223372036854775807:=of_decide_eq_true (by kernel_rfl)
theorem qP5: zAn:=λsb so cap ops w h3 h4 hlen hT hok=>by
 refine(zBj sb so cap ops w h3 h4 hlen hT (λo ho h7=>absurd h7 (hok o ho))).mono ?_;rintro r w' ⟨v,l,h1,h2,h3,h4,h5⟩;rw[(qQj qBn ops ws0 hok).1]at h3;rw[(qQj qBn ops ws0 hok).2.1]at h4;exact⟨v,l,h1,h2,h3,h4,h5⟩
theorem qU5(v:Value)(ops:List OpM)(w:World)(h:ScriptW w v ops)(hlen:ops.length<=651562446090)(hT:Tab w)(hok:qL3 ops):
  Calls Tryz.prog 11 #[v] w λr w'=>∃v l,r=.returned v/\ARep w' w.heap.size v l/\l.map (λx=>(x.code,x.nums))=qM7 ws0 ops/\l.map (·.bs)=qQ4 ws0 ops/\Keeps (λ_=>False) w w':=by
 rcases h with ⟨⟨a,c,rfl⟩,rfl⟩ | ⟨sb,so,cap,rfl,h2,h3,h4⟩
 ·exact zB9 a c w
 ·exact qP5 sb so cap ops w h3 h4 hlen hT hok
theorem qTu(w:World)(hT:Tab w): Calls Tryz.prog 8 #[] w λe w'=>e=.returned (.bool true)/\Keeps (λ_=>False) w w' :=
 zAp qP5 (λb w0 hb hT=>by
    refine(qVy _ qW0 w0 (.inr ⟨b,0,3,rfl,by decide,qZx w0 b hb,hb.lt⟩) (by decide) hT (λo ho _=>?_)).mono ?_
    ·simp only[qW0,List.mem_cons,List.not_mem_nil,or_false]at ho
     rcases ho with e | e | e
     ·subst e;exact zF0
     ·subst e;decide
     ·subst e;decide
    ·rintro r w' ⟨v,l,rfl,hA,hl,_,hk⟩
     rw[qU1]at hl
     exact⟨v,l,rfl,hA,hl,hk⟩) w hT
theorem zF2(v1:Value)(ops:List OpM)(n:Int)(t:ByteArray)(w:World)(h1:ScriptW w v1 ops)(l1:ops.length<=651562446080)(hbz:t.size<=9223372036854775807)(hT:Tab w)(n0:-9223372036854775808<=n)(n1:n<=9223372036854775807):
  Calls Tryz.prog 4 #[v1,.int .i64 n,.string t] w λr w'=>r=.returned (.bool true)/\Keeps (λ_=>False) w w':=by
 have HV1:=hide h1;have HTT:=hide hT;have HBZ:=hide hbz;clear h1 hT hbz;go_enter Tryz.func4,Tryz.ntmps4
 go_wp2_with fail
 refine(awake_of qP5 w (uh HTT)).mono ?_;rintro r W1 ⟨rfl,hk1⟩;have HK1:=hide hk1;clear hk1;go_wp2_with fail
 refine(qTu W1 ((uh HTT).keeps (uh HK1) (λh=>h))).mono ?_;rintro r W2 ⟨rfl,hk2⟩;have HK2:=hide ((uh HK1).then hk2);clear hk2 HK1;go_wp2_with fail
 refine(qUi v1 ops W2 ((uh HV1).keeps (uh HK2)) (by omega)).mono ?_;rintro r W4 ⟨sv,rfl,hO3,hk3,_⟩;have HO4:=hide hO3;have HK4:=hide ((uh HK2).then hk3);clear hk3 hO3 HK2 HV1;have HOS:=hide (qXk ops);have hls:(ops.filter OpM.noLoad).length<=651562446080:=by have:=List.length_filter_le OpM.noLoad ops;omega
 generalize ops.filter OpM.noLoad=s at *;have HCUT:=hide (λk (hk:k<=s.length)=>qYo (uh HO4) k hk);obtain⟨sa,sc,esv⟩:=qFj (uh HO4);have HSW:=hide (qIu (uh HO4));rw[esv]at HCUT HSW;clear HO4;subst esv;generalize hL:s.length=L at *;have HL:=hide hL;clear hL;go_wp2_with fail
 refine(zDx n ((L:Int)+1) W4 (by omega) (by omega) n0 n1).mono ?_;rintro r W4' ⟨k,hk,rfl,hw⟩;rw[hw];clear hw W4';have hkL:k<=L:=by omega
 obtain⟨sa2,sc2,ta,tc,da,dc,esv,hs1,hs2,hT1,hD1⟩:=uh HCUT k hkL;injection esv with e1 _ e2;subst e1 e2;have HT1:=hide hT1;have HD1:=hide hD1;clear hT1 hD1 HCUT;obtain⟨c,bb,R,RB,d1,d2,d3,d4,d5⟩:=zEn (s:=s) (k:=k) t (by rw[uh HL];exact hkL) (uh HOS) (by rw[uh HL];exact hls);have HD2:=hide d1;have HD3:=hide d2;rw[uh HL]at d3 d4;have HLR:=hide d3;have HLRB:=hide d4;have HCASE:=hide d5;clear d1 d2 d3 d4 d5;have hkl:(s.take k).length=k:=by rw[List.length_take,uh HL];omega
 have HKL:=hide hkl;clear hkl;go_wp2_with fail
 refine(qU5 _ s W4 (uh HSW) (by rw[uh HL];omega) ((uh HTT).keeps (uh HK4) (λh=>h)) (uh HOS)).mono ?_;rintro r W7 ⟨lv,ll,rfl,hL7,hML,hBL,hk7⟩;have HL7:=hide hL7;have HK47:=hide hk7;have HML:=hide hML;have HBL:=hide hBL;clear hL7 hk7 hML hBL
 have HLL:=hide (show ll.length=L by
    have:=congrArg List.length (uh HML);rw[List.length_map,qC5,uh HL]at this
    exact this)
 obtain⟨ab,cb,eb⟩:=qFj (uh HL7).row;rw[uh HLL]at eb;subst eb;have hkLen:(s.take k++[l7 t,o6]).length=k+2:=by rw[List.length_append,uh HKL];rfl
 have HKL2:=hide hkLen;clear hkLen
 have HSZ:=hide (show ∀o,o∈s.take k++[l7 t,o6]++s.drop k->o.kind=7->o.bytes.size<=9223372036854775807 from λo ho h7=>by
    rcases List.mem_append.1 ho with h | h
    ·rcases List.mem_append.1 h with h | h
     ·exact absurd h7 (uh HOS o (List.mem_of_mem_take h))
     ·rcases List.mem_cons.1 h with e | h
      ·subst e;exact uh HBZ
      ·rw[List.mem_singleton]at h;subst h;cases h7
    ·exact absurd h7 (uh HOS o (List.mem_of_mem_drop h)))
 go_wp2_with fail
 go_region_held3 (λ_=>True)
  (exact trivial)
  (first
     | (go_at_call 11;refine(qVy _ (s.take k++[l7 t,o6]++s.drop k) _ (by exact qIu hO9) (by rw[List.length_append,uh HKL2,List.length_drop,uh HL];omega) ((uh HTT).keeps ((((uh HK4).then (uh HK47)).then (((Keeps.refl (λ_=>False) W7).drew).alloc _)).then (hk8.then hk9)) (λh=>h)) (uh HSZ)).mono ?_;rintro r W10 ⟨bv,lb,rfl,hB10,hMB,hBB,hk10⟩)
     | (go_at_call 12;refine(qWm _ _ (s.take k++[l7 t,o6]) (s.drop k) _ (by exact qIu hO8) (by exact((uh HD1).keeps (uh HK47)).keeps (((((Keeps.refl (λ_=>False) W7).drew).alloc _).then hk8))) (by rw[uh HKL2,List.length_drop,uh HL];omega)).mono ?_;rintro r W9 ⟨v9,rfl,hO9,hk9⟩)
     | (go_at_call 12;refine(qWm _ _ (s.take k) [l7 t,o6] _ (by exact((uh HT1).keeps (uh HK47)).keeps (((Keeps.refl (λ_=>False) W7).drew).alloc _)) (by exact qUx (Blk.new _ ((l7 t).cells++o6.cells) 34)) (by rw[uh HKL];simp;omega)).mono ?_;rintro r W8 ⟨v8,rfl,hO8,hk8⟩))
 obtain⟨N,hN⟩:∃N,N=L+2:=⟨_,rfl⟩;have HK710:=hide (show Keeps (λ_=>False) W7 W10 from(((((Keeps.refl (λ_=>False) W7).drew).alloc _).then hk8).then hk9).then hk10);rw[uh HD2]at hMB;rw[uh HD3]at hBB
 have HLB:=hide (show lb.length=N by
    have h9:=congrArg List.length hMB;rw[List.length_map,List.length_append,qC5,List.length_cons,List.length_cons,uh HLR,uh HKL]at h9
    omega)
 obtain⟨xm,hxm⟩:∃x,lb[k]?=some x:=⟨lb[k]'(by rw[uh HLB];omega),List.getElem?_eq_getElem _⟩;obtain⟨xn,hxn⟩:∃x,lb[k+1]?=some x:=⟨lb[k+1]'(by rw[uh HLB];omega),List.getElem?_eq_getElem _⟩;have hm0:xm.code=c:=by
  have e1:=congrArg (λl=>l[k]?) hMB;simp only[List.getElem?_map,hxm]at e1;rw[List.getElem?_append_right (by rw[qC5,uh HKL];omega),qC5,uh HKL,Nat.sub_self]at e1;have e3:(xm.code,xm.nums)=(c,[]):=by simpa using e1
  exact(Prod.mk.inj e3).1
 have hn0':xn.code=0:=by
  have e1:=congrArg (λl=>l[k+1]?) hMB;simp only[List.getElem?_map,hxn]at e1;rw[List.getElem?_append_right (by rw[qC5,uh HKL];omega),qC5,uh HKL,Nat.add_sub_cancel_left]at e1;have e3:(xn.code,xn.nums)=(0,[]):=by simpa using e1
  exact(Prod.mk.inj e3).1
 have hn2:xn.bs=bb:=by
  have e2:=congrArg (λl=>l[k+1]?) hBB;simp only[List.getElem?_map,hxn]at e2;rw[List.getElem?_append_right (by rw[qE9,uh HKL];omega),qE9,uh HKL,Nat.add_sub_cancel_left]at e2;simpa using e2
 have HDR:=hide (show(lb.drop (k+2)).map (λx=>(x.code,x.nums))=R/\(lb.drop (k+2)).map (·.bs)=RB by
    rw[List.map_drop,List.map_drop,hMB,hBB]
    constructor
    ·rw[<-List.drop_drop,List.drop_left' (by rw[qC5,uh HKL])];rfl
    ·rw[<-List.drop_drop,List.drop_left' (by rw[qE9,uh HKL])];rfl)
 have HNUM:=hide (show ∀x,x∈ll->x.nums.length<=1000 from λx hx=>by
    have h1:(x.code,x.nums)∈qM7 ws0 s:=by rw[<-uh HML];exact List.mem_map_of_mem (f:=λx:Ans=>(x.code,x.nums)) hx
    have:=qYm s (uh HOS) _ h1
    simp only at this;omega)
 have HL10:=hide ((uh HL7).keeps (uh HK710) (λ_ _ h=>h));have HB10:=hide hB10;have HKW:=hide (((uh HK4).then (uh HK47)).then (uh HK710));obtain⟨ba,bc,ebv⟩:=qFj hB10.row;rw[uh HLB]at ebv;subst ebv;obtain⟨gb,eba,m0,_,_⟩:=qJf (uh HB10) k xm hxm;obtain⟨gb2,eba2,m1,_,m2⟩:=qJf (uh HB10) (k+1) xn hxn;subst eba;have egb:gb2=gb:=by injection eba2 with e;injection e with e1;exact e1.symm
 rw[egb]at m1 m2;rw[hm0]at m0;rw[hn0']at m1;rw[hn2]at m2;clear hB10 hMB hBB hk8 hk9 hk10 hO8 hO9 egb eba2 hxm hxn hm0 hn0' hn2 HD1 HT1 HKL2 HSW HK47 HK4 HL7 HSZ hs1 hs2;have hi0:(0:Int)<=(k:Int):=by omega
 have hi1:(k:Int)<(N:Int):=by omega
 have hi2:(0:Int)<=(k:Int)+1:=by omega
 have hi3:(k:Int)+1<(N:Int):=by omega
 have hnn:((N:Int) !=(L:Int)+2)=false:=by simp;omega
 have hNB:N<=651562446090:=by omega
 have HNN:=hide hN;clear hN;rcases uh HCASE with ⟨ec,eb⟩ | ⟨ec,hne,eR,eRB⟩
 ·rw[ec]at m0
  rw[eb]at m2;clear ec eb HCASE;have hbb:(t.toList==t.toList)=true:=by simp
  go_wp2
  go_ret
  exact⟨by simp,uh HKW⟩
 ·rw[ec]at m0
  have hbb:(bb.toList==t.toList)=false:=by
   cases hq:(bb.toList==t.toList) with
   | false=>rfl
   | true =>
    exfalso;apply hne;have h2:bb.toList=t.toList:=by simpa using hq
    rw[ByteArray.toList_eq,ByteArray.toList_eq]at h2;exact ByteArray.ext (Array.ext' h2)
  have HREST:=hide (show(lb.drop (k+2)).map (λx=>(x.code,x.nums))=(ll.drop k).map (λx=>(x.code,x.nums))/\(lb.drop (k+2)).map (·.bs)=(ll.drop k).map (·.bs) by
     rw[(uh HDR).1,(uh HDR).2,eR,eRB,List.map_drop,List.map_drop,uh HML,uh HBL]
     exact⟨rfl,rfl⟩)
  clear ec hne eR eRB HCASE HML HBL HDR;go_wp2
  clear m0 m1 m2 hi0 hi1 hi2 hi3 hnn hbb;go_loopw [13,14] (λiv _ wr=>∃j:Nat,k<=j/\j<=L/\iv=.int .i64 j/\Hid (Keeps (λ_=>False) W10 wr)) (λiv _ _=>L-(intOf iv).toNat)
  case atStart=>exact⟨k,Nat.le_refl _,hkL,rfl,Keeps.refl _ _⟩
  case round =>
   obtain⟨j,hj0,hjL,rfl,HK⟩:=hrel
   by_cases hjk:j<L
   ·obtain⟨xa,hxa⟩:∃x,ll[j]?=some x:=⟨ll[j]'(by rw[uh HLL];exact hjk),List.getElem?_eq_getElem _⟩
    obtain⟨q,hq⟩:∃q,q=j+2:=⟨_,rfl⟩;obtain⟨xb,hxb⟩:∃x,lb[q]?=some x:=⟨lb[q]'(by have:=uh HNN;rw[uh HLB];omega),List.getElem?_eq_getElem _⟩;have hsame:xb.code=xa.code/\xb.nums=xa.nums/\xb.bs=xa.bs:=by
     have e1:=congrArg (λl=>l[j-k]?) (uh HREST).1;have e2:=congrArg (λl=>l[j-k]?) (uh HREST).2;simp only[List.getElem?_map,List.getElem?_drop]at e1 e2;rw[show k+2+(j-k)=q by omega,hxb,show k+(j-k)=j by omega,hxa]at e1 e2;have e3:(xb.code,xb.nums)=(xa.code,xa.nums):=by simpa using e1
     exact⟨(Prod.mk.inj e3).1,(Prod.mk.inj e3).2,by simpa using e2⟩
    have hAr:=(uh HL10).keeps (uh HK) (λ_ _ h=>h);have hBr:=(uh HB10).keeps (uh HK) (λ_ _ h=>h);obtain⟨gl,egl,a0,a1,a2⟩:=qJf hAr j xa hxa;obtain⟨gb',egb,b0,b1,b2⟩:=qJf hBr q xb hxb;subst egl;have e9:gb'=gb:=by injection egb with e;injection e with e1;exact e1.symm
    rw[e9]at b0 b1 b2;have HNA:=hide (hAr.nums xa (List.mem_of_getElem? hxa));have hnb:=hBr.nums xb (List.mem_of_getElem? hxb);rw[hsame.2.1]at hnb;rw[hsame.1]at b0;rw[hsame.2.2]at b2;have HNB:=hide hnb;have HN9:=hide (uh HNUM xa (List.mem_of_getElem? hxa));clear hAr hBr hnb hxa hxb hsame egb e9;generalize xa.code=code at *;generalize xa.bs=bs at *;obtain⟨na,nca,ena⟩:=qFj (uh HNA);obtain⟨nb,ncb,enb⟩:=qFj (uh HNB);rw[ena]at HNA a1;rw[enb]at HNB b1;clear ena enb;generalize xa.nums=nums at *;have hj0':(0:Int)<=(j:Int):=by omega
    have hjL':(j:Int)<(L:Int):=by omega
    have hw1:IntKind.i64.wrap ((j:Int)+2)=(q:Int):=by rw[IntKind.wrap_i64];omega
    have hq0:(0:Int)<=(q:Int):=by omega
    have hqN:(q:Int)<(N:Int):=by have:=uh HNN;omega
    have HQ:=hide hq;clear hq;go_wp2_with fail
    go_region_held3 (λw'=>w'.cell? ⟨gl,j*3,none⟩=some (.int .i64 code)/\w'.cell? ⟨gl,j*3+1,none⟩=some (.slice na nums.length nca)/\w'.cell? ⟨gl,j*3+2,none⟩=some (.string bs) /\
        w'.cell? ⟨gb,q*3,none⟩=some (.int .i64 code)/\w'.cell? ⟨gb,q*3+1,none⟩=some (.slice nb nums.length ncb)/\w'.cell? ⟨gb,q*3+2,none⟩=some (.string bs))
     (first | (simp[*];done) | (go_split_ands;exact⟨hk12.cell (by assumption) (λh=>h),hk12.cell (by assumption) (λh=>h),hk12.cell (by assumption) (λh=>h),hk12.cell (by assumption) (λh=>h),hk12.cell (by assumption) (λh=>h),hk12.cell (by assumption) (λh=>h)⟩))
     (first | (go_at_call 13;refine(zGb _ _ code bs _ _ nums _ (by exact qBk (uh HNA) ((Keeps.refl (λ_=>False) wr).drew) (λ_ _ h=>h)) (by exact qBk (uh HNB) ((Keeps.refl (λ_=>False) wr).drew) (λ_ _ h=>h)) (uh HN9)).mono ?_;rintro r W12 ⟨rfl,hk12⟩))
    have HK12:=hide ((uh HK).then (((Keeps.refl (λ_=>False) wr).drew).then hk12));clear hk12;go_wp2
    go_roundw
    case rel=>exact⟨j+1,by omega,by omega,by go_num,HK12⟩
    case measure=>simp[intOf];omega
   ·have hje:j=L:=by omega
    subst hje;go_wp2
    go_ret
    exact⟨rfl,(uh HKW).then (uh HK)⟩
end
end Go.Proofs.YtahnliehdjncdabGreatDoor
