import Derived.Test.YtahnliehdjncdabGreatDoorXBL
import Derived.Test.YtahnliehdjncdabGreatDoorXAQ
import Derived.Test.YtahnliehdjncdabGreatDoorXBJ
import Derived.Test.YtahnliehdjncdabGreatDoorXAY
import Derived.Test.YtahnliehdjncdabGreatDoorXBP
import Derived.Test.YtahnliehdjncdabGreatDoorXBN
set_option maxRecDepth 100000
set_option maxHeartbeats 16000000
namespace Go.Proofs.YtahnliehdjncdabGreatDoor
section
open Go.RowKit
structure LdIt (x:Ser) (its:List It) (clock:Int):Prop where
 len:its.length=x.l.length
 cap:(its.length:Int)<=(qDg x.k x.c).cap
 num:∀y,y∈its->1<=y.n/\y.n<=x.rel+(its.length:Int)
 nod:(its.map (·.n)).Nodup
 bd:∀n,n∈qG2 x.k its->0<=n/\n<=9223372036854775807
 ref:∀(i:Nat) (y:It),its[i]?=some y->qI2 (serB x (qDg x.k x.c) (its.take i)) clock (itK x.k y)=0
def qP1(ys:List It): List Int:=ys.flatMap λy=>[y.n,y.t,y.k,y.d]
structure LdT (c:Cfg) (m acc rel:Int) (ns:List Int) (ys:List It):Prop where
 len:(ys.length:Int)=if c.size+1<rel then c.size+1 else rel
 num:∀y,y∈ys->1<=y.n/\y.n<=acc
 nod:(ns++ys.map (·.n)).Nodup
 rng:∀y,y∈ys->0<=y.t/\y.t<=m/\0<=y.k/\y.k<=9223372036854775807/\0<=y.d/\y.d<=9223372036854775807
 ref:∀y,y∈ys->qC0 c 5 y=0
structure Good (n clock:Int) (x:Ser):Prop where
 i:SInv n x
 sx:SX x
 z:SZ clock x
 c0:0<=clock
 c1:clock<=4611686018427387904
 n1:n<=1000000000000
theorem Good.rel{n clock:Int}{x:Ser}(h:Good n clock x): 0<=x.rel/\x.rel<=1000000000000:=by
 have h1:=h.i.rel0;have h2:=h.i.rela;have h3:=h.i.accn;have h4:=h.n1
 omega
theorem Good.ok{n clock:Int}{x:Ser}(h:Good n clock x): SerOk x:=qLx h.sx h.i (by have:=h.rel;omega)
theorem Good.ld{n clock:Int}{x:Ser}(h:Good n clock x): LdOk x clock:=by
 have hh:=qJb x.k x.c h.i.k1 h.i.k5;have hc:=h.i.common;have hr:=h.rel;have hok:=h.ok;refine⟨h.sx.id0,hok.cfg,hok.p0,hok.p3,h.i.kind,h.i.k1,h.i.k5,qT8 x.k x.c h.i.k1 h.i.k5 h.i.valid h.i.kind,λj=>?_,hr.1,?_,by omega,h.c0,h.c1,by rw[hh.2.1];omega,by rw[hh.2.2.2];omega⟩
 ·unfold qAx
  rw[List.getD_eq_getElem?_getD];cases hj:x.ref[j]? with
  | none=>simp
  | some v=>exact⟨(h.i.refn v (List.mem_of_getElem? hj)).1,h.sx.refm v (List.mem_of_getElem? hj)⟩
 ·have:qEn (qDg x.k x.c) clock=qEn x.c clock:=by unfold qEn;rw[hh.2.1,hh.2.2.2]
  rw[this];exact h.z.most
theorem Good.its{n clock:Int}{x:Ser}(h:Good n clock x): LdIt x (Qi.allL (x.l.length+1) x.l) clock:=by
 have hh:=qJb x.k x.c h.i.k1 h.i.k5;have hp:=qHc (x.l.length+1) x.l (by omega) h.i.heap;have hlen:=hp.length_eq;refine⟨hlen,by rw[hlen,hh.2.2.2];exact h.i.cap,λy hy=>?_,(hp.map (·.n)).nodup_iff.2 (List.nodup_append.1 h.z.nod).1,h.ok.buf,λi y hy=>?_⟩
 ·have:=h.z.num y (hp.subset hy)
  rw[hlen,h.i.rela];exact this
 ·have hm:y∈x.l:=hp.subset (List.mem_of_getElem? hy)
  have hi:i<(Qi.allL (x.l.length+1) x.l).length:=(List.getElem?_eq_some_iff.1 hy).1;have hd:=h.z.due y hm;have ht:=h.i.times y hm;have hcap:=h.i.cap;have hbl:(qI6 x.k ((Qi.allL (x.l.length+1) x.l).take i)).length=i:=by rw[qVj,List.length_take];omega
  unfold qI2;show(if inB (itK x.k y).t 0 4611686018427387904=true then if (itK x.k y).t<=clock-(qDg x.k x.c).lag then 6 else if clock+(qDg x.k x.c).skew<(itK x.k y).t then 7 else if qC0 (qDg x.k x.c) x.k (itK x.k y)≠0 then qC0 (qDg x.k x.c) x.k (itK x.k y) else if (qDg x.k x.c).cap<=((qI6 x.k ((Qi.allL (x.l.length+1) x.l).take i)).length:Int) then 11 else if (4611686018427387904:Int)<=0 then 11 else 0 else 5)=0;rw[qRn,hh.2.1,hh.2.2.1,hh.2.2.2,hbl,zAc x.k x.c y h.i.k1 h.i.k5,h.i.fits y hm];rw[if_pos (by simp only[inB,Bool.and_eq_true,decide_eq_true_eq];exact ht),if_neg (by omega),if_neg (by omega),if_neg (by simp),if_neg (by omega),if_neg (by omega)]
theorem Good.dec{n clock:Int}{x:Ser}(h:Good n clock x)(e:x.k=4): (x.nt.q<x.rel\/x.nt.r=0)/\(0<x.nt.q\/x.rel<=x.nt.r):=by
 have h1:=h.z.note.dec e;have h2:=h.i.note.r0;have h3:=h.i.note.q0;have h4:=h.i.note.qn;omega
theorem Good.cnt{n clock:Int}{x:Ser}(h:Good n clock x)(e:x.k=1): ∃gs,x.nt.bs=qFm gs/\zDx x.nt.bs=(gs.length:Int)::qI3 gs/\LdC x.c.k (clock-x.c.lag) x.rel gs:=by
 obtain⟨⟨gs,hb,hg⟩,h2,h3⟩:=h.z.note.cnt e;rw[qSk]at hb;have hv:=qBx h.i.valid h.i.kind e;have hsum:=h.i.note.sum;have hone:=h.i.note.one;have hr:=h.rel;rw[hb]at hsum hone;have hlen:gs.length<=62:=by
  cases gs with
  | nil=>simp
  | cons g gs =>
   cases g with
   | nil=>exact absurd hg.1 (by simp)
   | cons t g =>
    have h4:qDh (qFm ((t::g)::gs))=2 ^ gs.length+qDh (g.map (λt=>(⟨2 ^ gs.length,t⟩:Bk))++qFm gs):=rfl;have h5:=qCq (l:=g.map (λt=>(⟨2 ^ gs.length,t⟩:Bk))++qFm gs) (λb hb=>hone b (List.mem_cons_of_mem _ hb));have h6:(2:Int) ^ gs.length<=1000000000000:=by omega
    rw[List.length_cons];refine Nat.le_of_not_lt (λhn=>?_);have h7:(2:Nat) ^ 62<=2 ^ gs.length:=Nat.pow_le_pow_right (by omega) (by omega);have h8:(2:Int) ^ gs.length=((2 ^ gs.length:Nat):Int):=by simp
    rw[h8]at h6;have h9:(2:Nat) ^ 62=4611686018427387904:=by decide
    omega
 refine⟨gs,hb,by rw[hb];exact zG5 hg,hlen,λg hgm=>?_,λg hgm=>?_,λg hgm=>?_,λb hbm=>?_,?_,hsum,?_⟩
 ·cases gs with
  | nil=>cases hgm
  | cons g0 gs =>
   rcases List.mem_cons.1 hgm with e | e
   ·subst e;have:=hg.2.1;omega
   ·have:=(hg.2.2 g e).2;omega
 ·cases gs with
  | nil=>cases hgm
  | cons g0 gs =>
   have:g0=g:=by simpa using hgm
   subst this;exact hg.1
 ·cases gs with
  | nil=>cases hgm
  | cons g0 gs=>have:=(hg.2.2 g hgm).1;omega
 ·have h4:=h3 b.t (by rw[hb];exact List.mem_map_of_mem hbm)
  have h5:0<x.rel:=by
   obtain⟨a,c,hac⟩:=List.append_of_mem hbm;have h6:=qCq (l:=qFm gs) hone;have h7:1<=qDh (qFm gs):=by
    cases hbk:qFm gs with
    | nil=>rw[hbk]at hbm;cases hbm
    | cons u us =>
     have h8:=qCq (l:=us) (λb hb=>hone b (by rw[hbk];exact List.mem_cons_of_mem _ hb));have h9:=hone u (by rw[hbk];simp);show 1<=u.sz+qDh us;omega
   omega
  have h6:=h.z.mark h5;omega
 ·rw[hb,List.pairwise_map]at h2
  exact h2
 ·have:=zC0 gs hg
  have h5:gs.length*(x.c.k.toNat+1)<=62*11:=Nat.mul_le_mul hlen (by omega);omega
theorem zCl(c:Cfg)(m:Int)(ls:Nat->List Bk)(n:Nat): qOt ls n (m-c.window)=qPd (λj=>qD6 c m (ls j)) n 0:=by
 have h:∀l:List Bk,qXu l (m-c.window)=((qD6 c m l).length:Int)::qDl (qD6 c m l):=λl=>by
  unfold qXu qD6;rw[List.length_drop]
 have:∀n s,(List.range' s n).flatMap (λi=>qXu (ls i) (m-c.window))=qPd (λj=>qD6 c m (ls j)) n s:=by
  intro n
  induction n with
  | zero=>intro s;rfl
  | succ n ih =>
   intro s;rw[List.range'_succ,List.flatMap_cons,ih (s+1),h];rfl
 unfold qOt;rw[List.range_eq_range'];exact this n 0
theorem Good.dis{n clock:Int}{x:Ser}(h:Good n clock x)(e:x.k=2): LdD (clock-x.c.lag) x.rel (qFz x.c) (λj=>qD6 x.c (clock-x.c.lag) (x.nt.rg j)):=by
 obtain⟨z1,z2,z3⟩:=h.z.note.dis e;have hmem:∀i b,b∈qD6 x.c (clock-x.c.lag) (x.nt.rg i)->b∈x.nt.rg i:=λi b hb=>List.mem_of_mem_drop hb
 have hlen:∀i,(qD6 x.c (clock-x.c.lag) (x.nt.rg i)).length<=(x.nt.rg i).length:=λi=>by unfold qD6;rw[List.length_drop];omega
 refine⟨λi=>?_,λi b hb=>?_,λi=>(z1 i).drop _,?_⟩
 ·have h1:=qGs (x.nt.rg i) 40 (h.sx.note.rf i) (h.i.note.rk i)
  have h2:=hlen i;omega
 ·have h1:=z2 i b (hmem i b hb)
  have h2:=h.i.note.rk i b (hmem i b hb);have h3:0<x.rel:=by
   have h4:=h.i.note.rl i;have h5:=List.length_pos_of_mem (hmem i b hb);omega
  have h4:=h.z.mark h3;omega
 ·have:=qSb (a:=λj=>qD6 x.c (clock-x.c.lag) (x.nt.rg j)) (b:=x.nt.rg) hlen (qFz x.c) 0
  omega
theorem Good.oft{n clock:Int}{x:Ser}(h:Good n clock x)(e:x.k=3): LdO x.c x.c.rows.toNat x.c.width.toNat (clock-x.c.lag) x.rel (qBb x.c x.nt.op x.nt.cl (clock-x.c.lag-x.c.window))/\(0<=clock-x.c.lag\/qBb x.c x.nt.op x.nt.cl (clock-x.c.lag-x.c.window)=[]):=by
 have hL:=(qBq h.i.valid h.i.kind e).2.2.1;have hi:=h.i.note.oi e;obtain⟨f1,f2,f3⟩:=qIs (t:=clock-x.c.lag-x.c.window) (h.z.note.oft e) hi (by omega);have hpos:∀p,p∈qBb x.c x.nt.op x.nt.cl (clock-x.c.lag-x.c.window)->x.last<=clock-x.c.lag:=λp hp=>by
  refine h.z.mark ?_;have h1:=(f2 p hp).2.2.1.s0;have h2:sP x.c.width.toNat p<=qHb ((qBb x.c x.nt.op x.nt.cl (clock-x.c.lag-x.c.window)).map (sP x.c.width.toNat)):=by
   obtain⟨a,b,hab⟩:=List.append_of_mem hp;have hnn:∀q,q∈a++p::b->0<=sP x.c.width.toNat q:=λq hq=>by have:=(f2 q (by rw[hab];exact hq)).2.2.1.s0;omega
   rw[hab,List.map_append,qFq,List.map_cons,qD2];have g1:=qI4 (a.map (sP x.c.width.toNat)) (λv hv=>by obtain⟨q,hq,rfl⟩:=List.mem_map.1 hv;exact hnn q (by simp[hq]));have g2:=qI4 (b.map (sP x.c.width.toNat)) (λv hv=>by obtain⟨q,hq,rfl⟩:=List.mem_map.1 hv;exact hnn q (by simp[hq]));omega
  omega
 refine⟨⟨?_,f1,λp hp=>?_,λp hp=>(f2 p hp).2.2.1,f3⟩,?_⟩
 ·have:=hi.len
  unfold qBb;rw[List.length_append,List.length_drop]
  split
  ·simp;omega
  ·simp;omega
 ·have h1:=hpos p hp
  have h2:0<=p.no/\p.no*qBd x.c<=x.last:=by
   rcases(f2 p hp).2.2.2 with e | e
   ·have h3:=hi.lt p e
    have h4:=Int.mul_le_mul_of_nonneg_right (show p.no<=x.nt.op.no by omega) (show 0<=qBd x.c by omega);have h5:=hi.onT;exact⟨h3.1,by omega⟩
   ·rw[e];exact⟨hi.on0,hi.onT⟩
  exact⟨h2.1,Int.le_ediv_of_mul_le (by omega) (by omega)⟩
 ·cases hP:qBb x.c x.nt.op x.nt.cl (clock-x.c.lag-x.c.window) with
  | nil=>exact .inr rfl
  | cons p ps =>
   have h1:=hpos p (by rw[hP];simp);have h2:=h.i.last0;exact .inl (by omega)
theorem qW0(l:List Dr.It): qP1 (l.map unT)=qLj l:=by
 unfold qP1 qLj;rw[List.flatMap_map];rfl
theorem Good.drw{n clock:Int}{x:Ser}(h:Good n clock x)(e:x.k=5): LdT x.c (clock-x.c.lag) x.acc x.rel ((Qi.allL (x.l.length+1) x.l).map (·.n)) ((Dr.allL (x.nt.tk.length+1) x.nt.tk).map unT):=by
 obtain⟨z1,z2,z3⟩:=h.z.note.drw e;have hp:=(Dr.allL_spec (x.nt.tk.length+1) x.nt.tk (by omega) z1).1;have hq:=qHc (x.l.length+1) x.l (by omega) h.i.heap;have hn:((Dr.allL (x.nt.tk.length+1) x.nt.tk).map unT).map (·.n)=(Dr.allL (x.nt.tk.length+1) x.nt.tk).map (·.n):=by rw[List.map_map];rfl
 refine⟨by rw[List.length_map,hp.length_eq];exact z2,λy hy=>?_,?_,λy hy=>?_,λy hy=>?_⟩
 ·obtain⟨z,hz,rfl⟩:=List.mem_map.1 hy
  exact h.z.tkn z (hp.subset hz)
 ·rw[hn]
  exact((hq.map _).append (hp.map _)).nodup_iff.2 h.z.nod
 ·obtain⟨z,hz,rfl⟩:=List.mem_map.1 hy
  have h1:=z3 z (hp.subset hz);have h2:=qO0 h1.2.1;have h3:0<x.rel:=by
   have h4:=List.length_pos_of_mem (hp.subset hz);have h5:=h.rel
   split at z2 <;> omega
  have h4:=h.z.mark h3;have h5:(unT z).t=z.t:=rfl;refine⟨h1.2.2.1,by rw[h5];omega,h2.1.1,by omega,by omega,by omega⟩
 ·obtain⟨z,hz,rfl⟩:=List.mem_map.1 hy
  exact(z3 z (hp.subset hz)).2.1
theorem zAe: ∀(f g i a m:Nat) (tl:List Nat),m<128 ^ (f+1)->f<=g->qQl (f+1) i a (qOw g m++tl)=some (a+m*128 ^ i,tl):=by
 intro f
 induction f with
 | zero =>
  intro g i a m tl hm _;have hm':m<128:=by simpa using hm
  have e:qOw g m=[m]:=by
   cases g with
   | zero=>rfl
   | succ g=>unfold qOw;rw[if_pos (by omega)]
  rw[e];show(if m<128 then _ else _)=_;rw[if_pos hm'];rfl
 | succ f ih =>
  intro g i a m tl hm hg;cases g with
  | zero=>omega
  | succ g =>
   unfold qOw
   by_cases h:m<=127
   ·rw[if_pos h]
    show(if m<128 then _ else _)=_;rw[if_pos (by omega)];rfl
   ·rw[if_neg h]
    show(if m%128+128<128 then _ else qQl (f+1) (i+1) (a+(m%128+128)%128*128 ^ i) (qOw g (m/128)++tl))=_;rw[if_neg (by omega),ih g (i+1) _ (m/128) tl (by rw[Nat.pow_succ]at hm;omega) (by omega)]
    congr 2
    rw[Nat.pow_succ,show(m%128+128)%128=m%128 by omega,Nat.add_assoc,Nat.mul_comm (128 ^ i) 128,<-Nat.mul_assoc,<-Nat.add_mul,show m%128+m/128*128=m by omega]
theorem qB6{lo hi v:Int}(tl:List Nat)(h0:0<=v)(h9:v<=9223372036854775807)(hl:lo<=v)(hh:v<=hi): qAu lo hi (some (enc v++tl))=(v,some tl):=by
 have e:zCu (enc v++tl)=some (v.toNat,tl):=by
  unfold zCu enc
  rw[zAe 8 9 0 0 v.toNat tl (by have:(128:Nat) ^ 9=9223372036854775808:=by decide
                         omega) (by omega)]
  simp
 unfold qAu;simp only[e];rw[show((v.toNat:Nat):Int)=v by omega,if_pos (by simp[inB];omega)]
theorem qGa(tl:List Nat): ∀l:List Int,(∀n,n∈l->0<=n/\n<=9223372036854775807)->qAy l.length (some (qBv l++tl))=(l,some tl):=by
 intro l
 induction l with
 | nil=>intro _;rfl
 | cons n l ih =>
  intro h;have h1:=h n (by simp);rw[List.length_cons,qAz,List.append_assoc];unfold qAy;rw[qB6 _ h1.1 h1.2 h1.1 h1.2,ih (λm hm=>h m (by simp[hm]))]
theorem zFa{k:Nat}{c:Cfg}(tl:List Nat)(hn:∀n,n∈qBt k c->0<=n/\n<=9223372036854775807)(p0:0<=qA2 k c)(p3:qA2 k c<=3)(hk:c.kind=k)(k1:1<=k)(k5:k<=5)(hv:qA6 (qDg k c)=true):
  qMu (some (qBv (qBt k c)++tl))=⟨qDg k c,k,some tl,true⟩:=by
 unfold qBt at hn ⊢;have hq:=hn c.kind (by simp);rw[qAz,qAp,qAp,List.append_assoc,List.append_assoc,List.append_assoc];unfold qMu;rw[qB6 _ hq.1 hq.2 hq.1 hq.2];simp only;rw[if_pos (by simp[inB];omega),show c.kind.toNat=k by omega];unfold qUe;have e1:∀tl,qAy 3 (some (qBv ([1,2,3].map c.num)++tl))=([1,2,3].map c.num,some tl):=λtl=>qGa tl ([1,2,3].map c.num) (λn h=>hn n (List.mem_cons_of_mem _ (List.mem_append_left _ h)))
 have e2:∀tl,qAy (qB0 k).length (some (qBv ((qB0 k).map c.num)++tl))=((qB0 k).map c.num,some tl):=λtl=>by
  have:=qGa tl ((qB0 k).map c.num) (λn h=>hn n (List.mem_cons_of_mem _ (List.mem_append_right _ (List.mem_append_left _ h))))
  rwa [List.length_map]at this
 have e3:∀tl,qAy (2*(qA2 k c).toNat) (some (qBv ((qBo (qA2 k c).toNat).map c.num)++tl))=((qBo (qA2 k c).toNat).map c.num,some tl):=λtl=>by
  have:=qGa tl ((qBo (qA2 k c).toNat).map c.num) (λn h=>hn n (List.mem_cons_of_mem _ (List.mem_append_right _ (List.mem_append_right _ h))))
  rwa [List.length_map,qE3]at this
 have e4:qO7 (qEf c.kind k ([1,2,3].map c.num) ((qB0 k).map c.num) []) k=(qA2 k c).toNat:=by
  have:qA2 k (qEf c.kind k ([1,2,3].map c.num) ((qB0 k).map c.num) [])=qA2 k c:=by
   rcases five k1 k5 with e | e | e | e | e <;> subst e <;> rfl
  unfold qO7;rw[this,if_neg (by omega)]
 have e5:qVc (qA2 k c).toNat (qM6 k (qEf c.kind k ([1,2,3].map c.num) ((qB0 k).map c.num) ((qBo (qA2 k c).toNat).map c.num))) (qEf c.kind k ([1,2,3].map c.num) ((qB0 k).map c.num) ((qBo (qA2 k c).toNat).map c.num))=qDg k c:=by
  unfold qDg;have hp:(qA2 k c).toNat=0\/(qA2 k c).toNat=1\/(qA2 k c).toNat=2\/(qA2 k c).toNat=3:=by omega
  generalize(qA2 k c).toNat=p at *;rcases five k1 k5 with e | e | e | e | e <;> subst e <;> rcases hp with e | e | e | e <;> subst e <;> rfl
 simp only[e1,e2,e4,e3,e5,hv]
theorem zBt(r:List Int)(tl:List Nat)(h:∀j,0<=qAx r j/\qAx r j<=4611686018427387904): qJ6 7 0 [0,0,0,0,0,0,0,0,0,0,0,0] (some (qBv (qCm.map (qAx r))++tl))=(qIg r 7,some tl):=by
 have h1:∀n k f v tl,0<=v/\v<=4611686018427387904->qJ6 (n+1) k f (some (enc v++tl))=qJ6 n (k+1) (f.set (qCm.getD k 0) v) (some tl):=λn k f v tl hv=>by
  show qJ6 n (k+1) (f.set (qCm.getD k 0) (qAu 0 4611686018427387904 (some (enc v++tl))).1) (qAu 0 4611686018427387904 (some (enc v++tl))).2=_;rw[qB6 tl hv.1 (by omega) hv.1 hv.2]
 simp only[qCm,List.map_cons,List.map_nil,qAz,qB8,List.append_assoc,List.nil_append];rw[h1 _ _ _ _ _ (h _),h1 _ _ _ _ _ (h _),h1 _ _ _ _ _ (h _),h1 _ _ _ _ _ (h _),h1 _ _ _ _ _ (h _),h1 _ _ _ _ _ (h _),h1 _ _ _ _ _ (h _)];rfl
theorem zH9(k:Nat)(y:It)(k1:1<=k)(k5:k<=5): itD y.n ((qCa k).map (λj=>[y.t,y.k,y.d].getD j 0))=itK k y:=by
 rcases five k1 k5 with e | e | e | e | e <;> subst e <;> rfl
theorem zDq(x:Ser)(clock A:Int)(tl:List Nat)(k1:1<=x.k)(k5:x.k<=5)(hA:A<=4611686018427387904): ∀(its pre:List It),(∀n,n∈qG2 x.k its->0<=n/\n<=9223372036854775807)->(∀y,y∈its->1<=y.n/\y.n<=A)->((pre++its).map (·.n)).Nodup ->
  (∀(i:Nat) (y:It),its[i]?=some y->qI2 { x with l:=qI6 x.k (pre++its.take i) } clock (itK x.k y)=0) ->
  qW4 x clock A its.length ⟨qI6 x.k pre,pre.map (·.n),some (qBv (qG2 x.k its)++tl)⟩=⟨qI6 x.k (pre++its),(pre++its).map (·.n),some tl⟩:=by
 intro its
 induction its with
 | nil=>intro pre _ _ _ _;rw[List.append_nil];rfl
 | cons y its ih =>
  intro pre hb hn hd hr;have hy:=hn y (by simp);have hbc:qG2 x.k (y::its)=qKh x.k y++qG2 x.k its:=rfl;have hit:qKh x.k y=y.n::(qCa x.k).map (λj=>[y.t,y.k,y.d].getD j 0):=rfl;rw[hbc]at hb;rw[List.length_cons,hbc,qAp,hit,qAz,List.append_assoc,List.append_assoc];have hnot:¬y.n∈pre.map (·.n):=by
   rw[List.map_append,List.map_cons]at hd;intro hc;exact(List.nodup_append.1 hd).2.2 y.n hc y.n (by simp) rfl
  have hps:∀tl,qAy (qCa x.k).length (some (qBv ((qCa x.k).map (λj=>[y.t,y.k,y.d].getD j 0))++tl))=((qCa x.k).map (λj=>[y.t,y.k,y.d].getD j 0),some tl):=λtl=>by
   have:=qGa tl ((qCa x.k).map (λj=>[y.t,y.k,y.d].getD j 0)) (λn h=>hb n (List.mem_append_left _ (by rw[hit];exact List.mem_cons_of_mem _ h)))
   rwa [List.length_map]at this
  have hr0:=hr 0 y rfl;rw[List.take_zero,List.append_nil]at hr0;have hstep:itR x clock A ⟨qI6 x.k pre,pre.map (·.n),some (enc y.n++(qBv ((qCa x.k).map (λj=>[y.t,y.k,y.d].getD j 0))++(qBv (qG2 x.k its)++tl)))⟩=⟨qI6 x.k (pre++[y]),(pre++[y]).map (·.n),some (qBv (qG2 x.k its)++tl)⟩:=by
   unfold itR knR;simp only[qB6 _ (show 0<=y.n by omega) (show y.n<=9223372036854775807 by omega) hy.1 hy.2];have hc1:∀st,qEo (!decide (y.n∈pre.map (·.n))) st=st:=λst=>by unfold qEo;rw[if_pos (by simpa using hnot)]
   rw[hc1,hps];simp only[zH9 x.k y k1 k5,hr0];rw[qZ8,List.map_append];rfl
  show qW4 x clock A its.length (itR x clock A _)=_
  rw[hstep,ih (pre++[y]) (λn h=>hb n (List.mem_append_right _ h)) (λz hz=>hn z (by simp[hz])) (by rw[List.append_assoc];exact hd) (λi z hz=>by
       have:=hr (i+1) z (by simpa using hz);rw[List.take_succ_cons]at this;rw[List.append_assoc]
       exact this)]
  rw[List.append_assoc];rfl
theorem zDt{q r rel:Int}(tl:List Nat)(q0:0<=q)(q1:q<=rel)(hr:rel<=4611686018427387904)(r0:0<=r)(r1:r<=2305843009213693951)(h1:q<rel\/r=0)(h2:0<q\/rel<=r): qYl rel (some (qBv [q,r]++tl))=((q,r),some tl):=by
 rw[qAz,qC4,List.append_assoc];unfold qYl;simp only[qB6 _ q0 (show q<=9223372036854775807 by omega) q0 q1,qB6 _ r0 (show r<=9223372036854775807 by omega) r0 r1];unfold qEo;rw[if_pos (by simp;omega),if_pos (by simp;omega)]
theorem zHr(m rel P:Int)(tl:List Nat)(hm:m<=4611686018427387904)(hrel:rel<=4611686018427387904)(P1:1<=P): ∀(g:List Int) (tm it:Int) (l:List Bk),0<=tm->0<=it->(∀t,t∈g->tm<=t/\t<=m)->g.Pairwise (λa b=>a<=b)->it+P*(g.length:Int)<=rel ->
  bkR m rel P g.length ⟨tm,it,l,some (qBv g++tl)⟩=⟨g.getLastD tm,it+P*(g.length:Int),l++g.map (λt=>⟨P,t⟩),some tl⟩:=by
 intro g
 induction g with
 | nil=>intro tm it l _ _ _ _ _;simp[bkR,qB8]
 | cons t g ih =>
  intro tm it l t0 i0 ht hs hr;have h1:=ht t (by simp);rw[List.length_cons]at hr ⊢;have e1:P*((g.length+1:Nat):Int)=P+P*(g.length:Int):=by
   rw[Int.natCast_add,Int.mul_add];omega
  have e2:0<=P*(g.length:Int):=Int.mul_nonneg (by omega) (by omega);rw[e1]at hr ⊢;rw[qAz,List.append_assoc];unfold bkR;simp only[qB6 _ (show 0<=t by omega) (show t<=9223372036854775807 by omega) h1.1 h1.2];rw[qL9 (by omega) (by omega)];have hc:∀st,qEo (decide (it+P<=rel)) st=st:=λst=>by unfold qEo;rw[if_pos (by simp;omega)]
  rw[hc,ih t (it+P) (l++[(⟨P,t⟩:Bk)]) (by omega) (by omega) (λu hu=>⟨(List.pairwise_cons.1 hs).1 u hu,(ht u (by simp[hu])).2⟩) (List.pairwise_cons.1 hs).2 (by omega)];rw[Int.add_assoc,List.append_assoc]
  congr 1
  cases g <;> rfl
theorem qZf: ∀(g:List Int) (tm:Int),g.getLastD tm=tm\/g.getLastD tm∈g:=by
 intro g
 induction g with
 | nil=>intro tm;exact .inl rfl
 | cons a g ih =>
  intro tm;rw[List.getLastD_cons];rcases ih a with h | h
  ·rw[h];simp
  ·exact .inr (List.mem_cons_of_mem _ h)
theorem zGd(K m rel:Int)(tl:List Nat)(hm:m<=4611686018427387904)(hrel:rel<=4611686018427387904)(K0:0<=K): ∀(gs:List (List Int)) (le tm it:Int) (l:List Bk),0<=le->0<=tm->0<=it->(∀g,gs.head?=some g->le<=(g.length:Int))->(∀g,g∈gs->(g.length:Int)<=K+1)->(∀g,g∈gs.tail->K<=(g.length:Int))->(∀b,b∈qFm gs->tm<=b.t/\b.t<=m)->(qFm gs).Pairwise (λa b=>a.t<=b.t)->it+qDh (qFm gs)<=rel->K<=4611686018427387904 ->
  (szR K m rel gs.length le ⟨tm,it,l,some (qBv (qI3 gs)++tl)⟩).l=l++qFm gs/\(szR K m rel gs.length le ⟨tm,it,l,some (qBv (qI3 gs)++tl)⟩).st=some tl:=by
 intro gs
 induction gs with
 | nil=>intro le tm it l _ _ _ _ _ _ _ _ _ _;exact⟨by simp[szR,qFm],by simp[szR,qI3,qB8]⟩
 | cons g gs ih =>
  intro le tm it l l0 t0 i0 hh hc ht hb hs hr hK;have e0:qFm (g::gs)=g.map (λt=>(⟨2 ^ gs.length,t⟩:Bk))++qFm gs:=rfl;have e1:qI3 (g::gs)=(g.length:Int)::(g++qI3 gs):=rfl;have hP:(1:Int)<=2 ^ gs.length:=by
   have:(0:Int)<2 ^ gs.length:=Int.pow_pos (by omega);omega
  have hsg:∀(P:Int) (g:List Int),qDh (g.map (λt=>(⟨P,t⟩:Bk)))=P*(g.length:Int):=λP g=>by
   induction g with
   | nil=>simp[qDh]
   | cons t g ihg =>
    rw[List.map_cons,List.length_cons];show P+qDh _=_;rw[ihg,Int.natCast_add,Int.mul_add];omega
  have hnn:0<=qDh (qFm gs):=by
   have:∀gs:List (List Int),0<=qDh (qFm gs):=λgs=>by
    induction gs with
    | nil=>exact Int.le_refl _
    | cons g gs ih2 =>
     show 0<=qDh (g.map (λt=>(⟨2 ^ gs.length,t⟩:Bk))++qFm gs);rw[qDm,hsg];have:(0:Int)<2 ^ gs.length:=Int.pow_pos (by omega);have:=Int.mul_nonneg (show(0:Int)<=2 ^ gs.length by omega) (show(0:Int)<=(g.length:Int) by omega);omega
   exact this gs
  rw[e0,qDm,hsg]at hr;rw[e0]at hb hs;have hln:=hc g (by simp);have hhd:=hh g rfl;rw[e0,e1,List.length_cons,qAz,qAp,List.append_assoc,List.append_assoc];unfold szR;simp only[qB6 _ (show 0<=(g.length:Int) by omega) (show(g.length:Int)<=9223372036854775807 by omega) hhd hln,Int.toNat_natCast];have hgt:∀t,t∈g->tm<=t/\t<=m:=λt h=>hb ⟨2 ^ gs.length,t⟩ (List.mem_append_left _ (List.mem_map_of_mem h))
  have hgs:g.Pairwise (λa b=>a<=b):=by
   have:=(List.pairwise_append.1 hs).1
   rwa [List.pairwise_map]at this
  rw[zHr m rel (2 ^ gs.length) _ hm hrel hP g tm it l t0 i0 hgt hgs (by omega)];have hlast:=qZf g tm;have hge:tm<=g.getLastD tm:=by
   rcases hlast with h | h
   ·omega
   ·exact(hgt _ h).1
  have e2:=Int.mul_nonneg (show(0:Int)<=2 ^ gs.length by omega) (show(0:Int)<=(g.length:Int) by omega)
  obtain⟨j1,j2⟩:=ih K (g.getLastD tm) (it+2 ^ gs.length*(g.length:Int)) (l++g.map (λt=>⟨2 ^ gs.length,t⟩)) K0 (by omega) (by omega) (λg' h=>by
      cases gs with
      | nil=>cases h
      | cons a r=>have e:a=g':=by simpa using h
             rw[<-e];exact ht a (by simp)) (λg' h=>hc g' (by simp[h])) (λg' h=>ht g' (List.mem_of_mem_tail h)) (λb h=>⟨by
        rcases hlast with h9 | h9
        ·rw[h9];exact(hb b (List.mem_append_right _ h)).1
        ·exact(List.pairwise_append.1 hs).2.2 ⟨2 ^ gs.length,g.getLastD tm⟩ (List.mem_map_of_mem h9) b h,(hb b (List.mem_append_right _ h)).2⟩) (List.pairwise_append.1 hs).2.1 (by omega) hK
  rw[j1,j2,List.append_assoc];exact⟨rfl,rfl⟩
theorem zDy{K m rel:Int}{gs:List (List Int)}(tl:List Nat)(h:LdC K m rel gs)(hm:m<=4611686018427387904)(hrel:rel<=4611686018427387904)(K0:0<=K)(K1:K<=10): qUw K m rel (some (qBv ((gs.length:Int)::qI3 gs)++tl))=(qFm gs,some tl):=by
 have hl:=h.len;rw[qAz,List.append_assoc];unfold qUw;simp only[qB6 _ (show 0<=(gs.length:Int) by omega) (show(gs.length:Int)<=9223372036854775807 by omega) (show 0<=(gs.length:Int) by omega) (show(gs.length:Int)<=62 by omega),Int.toNat_natCast];obtain⟨a,b⟩:=zGd K m rel tl hm hrel K0 gs 1 0 0 [] (by omega) (by omega) (by omega) (λg hg=>by have:=h.fst g hg;omega) h.cnt h.lst h.tm h.srt (by have:=h.sum;omega) (by omega);rw[a,b];rfl
theorem zG7(m:Int)(tl:List Nat)(hm:m<=4611686018427387904): ∀(lv l:List Bk) (lt lr:Int),(∀b,b∈lv->lt<b.sz/\0<=b.sz/\b.sz<=m/\1<=b.t/\b.t<=40/\b.t<lr)->lv.Pairwise (λa b=>a.sz<b.sz/\b.t<a.t) ->
  mkR m lv.length lt lr l (some (qBv (qDl lv)++tl))=(l++lv,some tl):=by
 intro lv
 induction lv with
 | nil=>intro l lt lr _ _;simp[mkR,qDl,qB8]
 | cons b lv ih =>
  intro l lt lr hb hs;have h1:=hb b (by simp);have e:qDl (b::lv)=b.sz::b.t::qDl lv:=rfl;rw[List.length_cons,e,qAz,qAz,List.append_assoc,List.append_assoc];unfold mkR;rw[qB6 _ h1.2.1 (by omega) (by omega) h1.2.2.1];simp only;rw[qB6 _ (by omega) (by omega) h1.2.2.2.1 (by omega)];simp only
  rw[ih (l++[(⟨b.sz,b.t⟩:Bk)]) b.sz b.t (λc hc=>by
       have h2:=hb c (by simp[hc]);have h3:=(List.pairwise_cons.1 hs).1 c hc
       exact⟨h3.1,h2.2.1,h2.2.2.1,h2.2.2.2.1,h2.2.2.2.2.1,h3.2⟩) (List.pairwise_cons.1 hs).2,List.append_assoc]
  rfl
theorem zEy(m:Int)(tl:List Nat)(hm:m<=4611686018427387904)(lv:Nat->List Bk)(hl:∀i,(lv i).length<=40)(ht:∀i b,b∈lv i->0<=b.sz/\b.sz<=m/\1<=b.t/\b.t<=40)(hs:∀i,(lv i).Pairwise (λa b=>a.sz<b.sz/\b.t<a.t)): ∀(k s it:Nat) (ls:Nat->List Bk),
  ∃ls',qTg m k s ⟨it,ls,some (qBv (qPd lv k s)++tl)⟩=⟨it+qQ8 lv k s,ls',some tl⟩/\∀j,ls' j=if s<=j/\j<s+k then lv j else ls j:=by
 intro k
 induction k with
 | zero=>intro s it ls;exact⟨ls,rfl,λj=>by rw[if_neg (by omega)]⟩
 | succ k ih =>
  intro s it ls;have h1:=hl s;have e:qPd lv (k+1) s=((lv s).length:Int)::(qDl (lv s)++qPd lv k (s+1)):=rfl;rw[e,qAz,qAp,List.append_assoc,List.append_assoc];unfold qTg;simp only[qB6 _ (show 0<=((lv s).length:Int) by omega) (show((lv s).length:Int)<=9223372036854775807 by omega) (show 0<=((lv s).length:Int) by omega) (show((lv s).length:Int)<=40 by omega),Int.toNat_natCast];rw[zG7 m _ hm (lv s) [] (-1) 41 (λb hb=>by have:=ht s b hb;omega) (hs s)];obtain⟨ls',h2,h3⟩:=ih (s+1) (it+(lv s).length) (qQ2 ls s (lv s));refine⟨ls',?_,λj=>?_⟩
  ·rw[List.nil_append,h2]
   show RR.mk (it+(lv s).length+qQ8 lv k (s+1)) _ _=RR.mk (it+((lv s).length+qQ8 lv k (s+1))) _ _;rw[Nat.add_assoc]
  ·rw[h3]
   unfold qQ2
   by_cases hj:j=s
   ·subst hj;rw[if_neg (by omega),if_pos rfl,if_pos (by omega)]
   ·rw[if_neg hj]
    by_cases hj2:s+1<=j/\j<s+1+k
    ·rw[if_pos hj2,if_pos (by omega)]
    ·rw[if_neg hj2,if_neg (by omega)]
theorem zDi{m rel:Int}{n:Nat}{lv:Nat->List Bk}(tl:List Nat)(h:LdD m rel n lv)(hm:m<=4611686018427387904): ∃ls',qXb m rel n (some (qBv (qPd lv n 0)++tl))=(ls',some tl)/\∀j,j<n->ls' j=lv j:=by
 obtain⟨ls',h1,h2⟩:=zEy m tl hm lv h.len h.tm h.srt n 0 0 (λ_=>[]);refine⟨ls',?_,λj hj=>by rw[h2,if_pos (by omega)]⟩;unfold qXb;rw[h1];have:=h.sum;simp only;unfold qEo;rw[if_pos (by simp;omega)]
theorem zBm(c:Cfg)(m acc:Int)(tl:List Nat)(hacc:acc<=4611686018427387904): ∀(ys:List It) (tk:List Dr.It) (ns:List Int),(∀y,y∈ys->1<=y.n/\y.n<=acc)->(ns++ys.map (·.n)).Nodup->(∀y,y∈ys->0<=y.t/\y.t<=m/\0<=y.k/\y.k<=9223372036854775807/\0<=y.d/\y.d<=9223372036854775807)->(∀y,y∈ys->qC0 c 5 y=0)->m<=4611686018427387904 ->
  qId c m acc ys.length ⟨tk,ns,some (qBv (qP1 ys)++tl)⟩=⟨ys.foldl (qG4 c) tk,ns++ys.map (·.n),some tl⟩:=by
 intro ys
 induction ys with
 | nil=>intro tk ns _ _ _ _ _;rw[List.map_nil,List.append_nil];rfl
 | cons y ys ih =>
  intro tk ns hn hd hr hk hm;have hy:=hn y (by simp);have hq:=hr y (by simp);have e:qP1 (y::ys)=y.n::([y.t,y.k,y.d]++qP1 ys):=rfl;rw[List.length_cons,e,qAz,qAp,List.append_assoc,List.append_assoc];have hnot:¬y.n∈ns:=by
   rw[List.map_cons]at hd;intro hc;exact(List.nodup_append.1 hd).2.2 y.n hc y.n (by simp) rfl
  have hstep:qGw c m acc ⟨tk,ns,some (enc y.n++(qBv [y.t,y.k,y.d]++(qBv (qP1 ys)++tl)))⟩=⟨qG4 c tk y,ns++[y.n],some (qBv (qP1 ys)++tl)⟩:=by
   unfold qGw knR;simp only[qB6 _ (show 0<=y.n by omega) (show y.n<=9223372036854775807 by omega) hy.1 hy.2];have hc1:∀st,qEo (!decide (y.n∈ns)) st=st:=λst=>by unfold qEo;rw[if_pos (by simpa using hnot)]
   have hp:∀tl,qAy 3 (some (qBv [y.t,y.k,y.d]++tl))=([y.t,y.k,y.d],some tl):=λtl=>qGa tl [y.t,y.k,y.d] (λn h=>by
      have h9:n=y.t\/n=y.k\/n=y.d:=by simpa using h
      rcases h9 with e | e | e <;> subst e <;> omega)
   rw[hc1,hp];have hit:itD y.n [y.t,y.k,y.d]=y:=rfl;simp only[hit,hk y (by simp)];have hc2:∀st,qEo (inB y.t 0 m&&(0:Int)==0) st=st:=λst=>by unfold qEo;rw[if_pos (by simp[inB];omega)]
   rw[hc2];rfl
  unfold qId;rw[hstep];rw[if_neg (by simp),ih (qG4 c tk y) (ns++[y.n]) (λz hz=>hn z (by simp[hz])) (by rw[List.append_assoc];exact hd) (λz hz=>hr z (by simp[hz])) (λz hz=>hk z (by simp[hz])) hm,List.append_assoc];rfl
theorem zEs{c:Cfg}{m acc rel:Int}{ns:List Int}{ys:List It}(tl:List Nat)(h:LdT c m acc rel ns ys)(hm:m<=4611686018427387904)(hacc:acc<=4611686018427387904): qV1 c m acc rel ns (some (qBv (qP1 ys)++tl))=⟨ys.foldl (qG4 c) [],ns++ys.map (·.n),some tl⟩:=by
 have e:(qQ1 rel (c.size+1)).toNat=ys.length:=by
  have:=h.len;unfold qQ1
  split <;> split at this <;> omega
 unfold qV1;rw[e];exact zBm c m acc tl hacc ys [] ns h.num h.nod h.rng h.ref hm
end
end Go.Proofs.YtahnliehdjncdabGreatDoor
