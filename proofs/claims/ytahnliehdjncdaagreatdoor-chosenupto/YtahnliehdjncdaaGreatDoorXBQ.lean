import Derived.Deep.AppendLies
import Derived.Deep.DeepCutAuto
import Derived.Test.YtahnliehdjncdaaGreatDoorXBC
import Derived.Test.YtahnliehdjncdaaGreatDoorXBD
import Derived.Test.YtahnliehdjncdaaGreatDoorXBM
import Derived.Test.YtahnliehdjncdaaGreatDoorXAZ
import Derived.Test.YtahnliehdjncdaaGreatDoorXAR
import Derived.Test.YtahnliehdjncdaaGreatDoorXBN
import Derived.Test.YtahnliehdjncdaaGreatDoorXBO
import Derived.Laws.OwnMore
set_option maxRecDepth 100000
set_option maxHeartbeats 16000000
namespace Go.Proofs.YtahnliehdjncdaaGreatDoor
section
open Go.RowKit
theorem qW5(a d:Int): a/2147483648*d+a%2147483648*d/2147483648=a*d/2147483648:=by
 have h:=Int.emod_add_mul_ediv a 2147483648
 have e:a*d=a%2147483648*d+2147483648*(a/2147483648*d):=by
  conv=>lhs;rw[<-h]
  rw[Int.add_mul,Int.mul_assoc]
 rw[e,Int.add_mul_ediv_left _ _ (by omega)]
 omega
theorem qX5(a d:Int): a%2147483648*d%2147483648=a*d%2147483648:=by
 have h:=Int.emod_add_mul_ediv a 2147483648
 have e:a*d=a%2147483648*d+2147483648*(a/2147483648*d):=by
  conv=>lhs;rw[<-h]
  rw[Int.add_mul,Int.mul_assoc]
 rw[e,Int.add_mul_emod_self_left]
theorem qL2(a d:Int)(w:World)(a0:0<=a)(a1:a<=2305843009213693952)(d0:0<=d)(d1:d<=2147483648):
  Calls Tryz.prog 50 #[.int .i64 a,.int .i64 d] w λe w'=>e=.returned (.tuple #[.int .i64 (a*d/2147483648),.int .i64 (a*d%2147483648)])/\w'=w:=by
 have hlo0:0<=a%2147483648*d:=Int.mul_nonneg (by omega) d0
 have hlo1:a%2147483648*d<=2147483648*2147483648:=Int.mul_le_mul (by omega) d1 d0 (by omega)
 have hhi0:0<=a/2147483648*d:=Int.mul_nonneg (by omega) d0
 have hhi1:a/2147483648*d<=1073741824*2147483648:=Int.mul_le_mul (by omega) d1 d0 (by omega)
 have t1:=qW5 a d
 have t2:=qX5 a d
 have HT1:=hide t1
 have HT2:=hide t2
 clear t1 t2
 obtain⟨lo,hlo⟩:∃lo,a%2147483648*d=lo:=⟨_,rfl⟩
 obtain⟨hi,hhi⟩:∃hi,a/2147483648*d=hi:=⟨_,rfl⟩
 rw[hlo]at hlo0 hlo1 HT1 HT2
 rw[hhi]at hhi0 hhi1 HT1
 have hw1:IntKind.i64.wrap (a%2147483648*d)=lo:=by rw[hlo,IntKind.wrap_i64];omega
 have hw2:IntKind.i64.wrap (a/2147483648*d)=hi:=by rw[hhi,IntKind.wrap_i64];omega
 have hw3:IntKind.i64.wrap (hi+lo/2147483648)=hi+lo/2147483648:=by rw[IntKind.wrap_i64];omega
 go_enter Tryz.func50,Tryz.ntmps50
 go_wp2
 refine bodyPost_ret (v:=.tuple #[.int .i64 (hi+lo/2147483648),.int .i64 (lo%2147483648)]) (by simp[results,Tryz.results50,go_sem]) rfl ?_
 exact⟨by rw[<-uh HT1,<-uh HT2],rfl⟩
theorem qHg(a x b y:Int)(w:World)(a0:0<=a)(a1:a<=2305843009213693952)(b0:0<=b)(b1:b<=2305843009213693952)(x0:0<=x)(x1:x<=2147483648)(y0:0<=y)(y1:y<=2147483648):
  Calls Tryz.prog 36 #[.int .i64 a,.int .i64 x,.int .i64 b,.int .i64 y] w λe w'=>e=.returned (.bool (decide (b*x<=a*y)))/\w'=w:=by
 have HA:=hide (qL2 a y w a0 a1 y0 y1)
 have HB:=hide (qL2 b x w b0 b1 x0 x1)
 have HX:=hide (show decide (b*x<=a*y)=(decide (b*x/2147483648<a*y/2147483648)||((a*y/2147483648==b*x/2147483648)&&decide (b*x%2147483648<=a*y%2147483648))) by
    rw[Bool.eq_iff_iff]
    simp only[Bool.or_eq_true,Bool.and_eq_true,decide_eq_true_eq,beq_iff_eq]
    omega)
 generalize a*y/2147483648=p at *
 generalize a*y%2147483648=q at *
 generalize b*x/2147483648=r at *
 generalize b*x%2147483648=s at *
 go_enter Tryz.func36,Tryz.ntmps36
 go_wp2_with fail
 refine(uh HA).mono ?_
 rintro e w1 ⟨rfl,hw1⟩
 rw[hw1]
 clear hw1 w1
 go_wp2_with fail
 refine(uh HB).mono ?_
 rintro e w1 ⟨rfl,hw1⟩
 rw[hw1]
 clear hw1 w1
 cases h1:decide (r<p)
 ·cases h2:(p==r)
  ·go_wp2
   go_ret
   exact⟨by rw[uh HX,h1,h2];rfl,rfl⟩
  ·cases h3:decide (s<=q)
   all_goals
    go_wp2
    go_ret
    exact⟨by rw[uh HX,h1,h2,h3];rfl,rfl⟩
 ·go_wp2
  go_ret
  exact⟨by rw[uh HX,h1];rfl,rfl⟩
def wtK(c:Cfg)(t:Int): Int:=if t<c.mark then 0 else if 2305843009213693952<t-c.mark+1 then 0 else t-c.mark+1
theorem qFf(c:Cfg)(t:Int): 0<=wtK c t/\wtK c t<=2305843009213693952:=by
 unfold wtK
 repeat' split
 all_goals omega
theorem zBu(c:Cfg)(t:Int)(hd:c.degree=1)(hh:c.half=0): qCa (qBa c t)=wtK c t:=by
 unfold qBa wtK
 rw[hh,hd]
 by_cases h1:t<c.mark
 ·rw[if_pos h1,if_pos h1];rfl
 ·rw[if_neg h1,if_neg h1,if_pos rfl]
  show qCa (qFo (t-c.mark+1) 1 1)=_
  unfold qFo
  unfold qFo
  simp only[Int.one_mul]
  by_cases h2:2305843009213693952<t-c.mark+1
  ·have h3:(2305843009213693952:Int)/(t-c.mark+1)=0:=Int.ediv_eq_zero_of_lt (by omega) h2
   rw[if_pos h2,h3,if_pos (by omega)];rfl
  ·have h3:1<=(2305843009213693952:Int)/(t-c.mark+1):=Int.le_ediv_of_mul_le (by omega) (by omega)
   rw[if_neg h2,if_neg (by omega)];rfl
theorem qHc(c:Cfg)(t:Int)(w:World)(t0:0<=t)(t1:t<=4611686018427387904)(m0:0<=c.mark)(m1:c.mark<=4611686018427387904):
  Calls Tryz.prog 37 #[.agg c.cells.toArray,.int .i64 t] w λe w'=>e=.returned (.int .i64 (wtK c t))/\Keeps (λ_=>False) w w':=by
 have HK:=hide (show Keeps (λ_=>False) w (w.alloc (.cells c.cells.toArray 38)) from(Keeps.refl _ _).alloc _)
 have f0:(w.alloc (.cells c.cells.toArray 38)).cell? ⟨w.heap.size,13,none⟩=some (.int .i64 c.mark):=(Blk.new w c.cells 38).cell rfl
 have hw1:IntKind.i64.wrap (t-c.mark)=t-c.mark:=by rw[IntKind.wrap_i64];omega
 have hw2:IntKind.i64.wrap (t-c.mark+1)=t-c.mark+1:=by rw[IntKind.wrap_i64];omega
 have HW:=hide (show wtK c t=if decide (t<c.mark)=true then 0 else if decide (2305843009213693952<t-c.mark+1)=true then 0 else t-c.mark+1 by unfold wtK;simp)
 cases h1:decide (t<c.mark)
 ·cases h2:decide (2305843009213693952<t-c.mark+1)
  all_goals
   go_enter Tryz.func37,Tryz.ntmps37
   go_wp2
   go_ret
   exact⟨by rw[uh HW,h1,h2];rfl,uh HK⟩
 ·go_enter Tryz.func37,Tryz.ntmps37
  go_wp2
  go_ret
  exact⟨by rw[uh HW,h1];rfl,uh HK⟩
end
section
structure OkI (c:Cfg) (k:Nat) (y:It):Prop where
 t0:0<=y.t
 t1:y.t<=4611686018427387904
 fit:qFn c k ⟨y.t,y.k,y.d,0⟩=0
structure NLaw (k:Nat) (P:Cfg->Int->Note->List It->Prop):Prop where
 zero:∀c m,qA4 c=true->c.kind=k->P c m qTo []
 later:∀c m m' nt R,qA4 c=true->c.kind=k->m<=m'->P c m nt R->P c m' nt R
 rel:∀c m nt R y,qA4 c=true->c.kind=k->P c m nt R->(∀r∈R,OkI c k r/\leP r y/\r.n≠y.n)->OkI c k y->y.t<=m->P c m (qXo k c nt y m) (R++[y])
 swp:∀c m nt R b,qA4 c=true->c.kind=k->P c m nt R->P c m (qPn k c nt m b).1 R
structure GS (P:Cfg->Int->Note->List It->Prop) (clock:Int) (x:Ser) (A:List It):Prop where
 heap:HeapL x.l
 wait:∀y∈x.l,clock-x.c.lag<y.t
 okA:∀y∈A,OkI x.c x.k y
 num:∀(i:Nat) (y:It),A[i]?=some y->y.n=(i:Int)+1
 acc:x.acc=(A.length:Int)
 whole:∃R,P x.c (clock-x.c.lag) x.nt R/\R.Pairwise leP/\(∀r∈R,r.t<=clock-x.c.lag)/\(R++x.l).Perm A
theorem qSm{A:List It}(h:∀(i:Nat) (y:It),A[i]?=some y->y.n=(i:Int)+1): (A.map (·.n)).Nodup:=by
 refine List.pairwise_iff_getElem.2 (λi j hi hj hij=>?_)
 rw[List.length_map]at hi hj
 rw[List.getElem_map,List.getElem_map]
 have h1:=h i _ (List.getElem?_eq_getElem hi)
 have h2:=h j _ (List.getElem?_eq_getElem hj)
 omega
theorem HeapL.first_leP{l:List It}(h:HeapL l){y:It}(hy:y∈l): leP (itAt l 0) y:=by
 obtain⟨j,hj,rfl⟩:=List.mem_iff_getElem.1 hy
 have:=h.first j hj
 rw[show itAt l j=l[j] by simp[itAt,List.getD_eq_getElem?_getD,List.getElem?_eq_getElem hj]]at this
 exact this
theorem qXh(f:Nat): ∀(x:Ser) (m:Int),(qGt f x m).acc=x.acc:=by
 induction f with
 | zero=>intro x m;rfl
 | succ f ih =>
  intro x m
  unfold qGt
  split
  ·rfl
  ·split
   ·rfl
   ·exact ih _ _
theorem qZu{k:Nat}{P:Cfg->Int->Note->List It->Prop}(hP:NLaw k P)(m:Int)(f:Nat): ∀(x:Ser) (R:List It),x.l.length<f->HeapL x.l->qA4 x.c=true->x.c.kind=k->x.k=k ->
  (∀y∈R++x.l,OkI x.c k y)->((R++x.l).map (·.n)).Nodup->P x.c m x.nt R->R.Pairwise leP->(∀r∈R,r.t<=m)->(∀r∈R,∀y∈x.l,leP r y) ->
  ∃R',P x.c m (qGt f x m).nt R'/\R'.Pairwise leP/\(∀r∈R',r.t<=m)/\(R'++(qGt f x m).l).Perm (R++x.l)/\(∀y∈(qGt f x m).l,m<y.t):=by
 induction f with
 | zero=>intro x R h;omega
 | succ f ih =>
  intro x R hf hh hv hck hk hok hnd hp hs hr hx
  unfold qGt
  split
  ·rename_i he
   have hnil:x.l=[]:=List.isEmpty_iff.1 he
   exact⟨R,hp,hs,hr,List.Perm.refl _,by rw[hnil];simp⟩
  ·rename_i he
   have hne:x.l≠[]:=λh=>he (by rw[h];rfl)
   split
   ·rename_i hm
    refine⟨R,hp,hs,hr,List.Perm.refl _,λy hy=>?_⟩
    have:=hh.first_mem hy
    omega
   ·rename_i hm
    obtain⟨th,tp⟩:=take_heap x.l hh hne
    have hlen:(qEh x m).l.length=x.l.length-1:=takeL_length _
    have hpos:0<x.l.length:=List.length_pos_iff.2 hne
    have hperm:((R++[itAt x.l 0])++takeL x.l).Perm (R++x.l):=by
     rw[List.append_assoc];exact List.Perm.append_left R tp
    have hy0:itAt x.l 0∈x.l:=tp.mem_iff.1 (by simp)
    have hnd2:(((R++[itAt x.l 0])++takeL x.l).map (·.n)).Nodup:=(hperm.map (·.n)).nodup_iff.2 hnd
    have hfirst:∀y∈takeL x.l,leP (itAt x.l 0) y:=λy hy=>hh.first_leP (tp.mem_iff.1 (by simp[hy]))
    have hnew:=hP.rel x.c m x.nt R (itAt x.l 0) hv hck hp (λr hrm=>⟨hok r (by simp[hrm]),hx r hrm _ hy0,λe=>by
         have h1:(((R++[itAt x.l 0])).map (·.n)).Nodup:=by
          rw[List.map_append]at hnd2
          exact(List.nodup_append.1 hnd2).1
         rw[List.map_append]at h1
         exact(List.nodup_append.1 h1).2.2 r.n (List.mem_map_of_mem hrm) (itAt x.l 0).n (by simp) e⟩) (hok _ (by simp[hy0])) (by omega)
    obtain⟨R',p1,p2,p3,p4,p5⟩:=ih (qEh x m) (R++[itAt x.l 0]) (by omega) th hv hck hk
     (λy hy=>hok y (hperm.mem_iff.1 hy)) hnd2 (by
        show P x.c m (qXo x.k x.c x.nt (itAt x.l 0) m) _
        rw[hk];exact hnew)
     (List.pairwise_append.2 ⟨hs,by simp,λa ha b hb=>by rw[List.mem_singleton]at hb;rw[hb];exact hx a ha _ hy0⟩)
     (λr hrm=>by
        rcases List.mem_append.1 hrm with h | h
        ·exact hr r h
        ·rw[List.mem_singleton]at h;rw[h];omega)
     (λr hrm y hy=>by
        rcases List.mem_append.1 hrm with h | h
        ·exact hx r h y (tp.mem_iff.1 (by simp[show y∈takeL x.l from hy]))
        ·rw[List.mem_singleton]at h;rw[h];exact hfirst y hy)
    exact⟨R',p1,p2,p3,p4.trans hperm,p5⟩
theorem qY7{k:Nat}{P:Cfg->Int->Note->List It->Prop}(hP:NLaw k P){clock nc:Int}{x:Ser}{A:List It}(h:GS P clock x A)(hk:x.k=k)(hck:x.c.kind=k)(hv:qA4 x.c=true)(hcn:clock<=nc): GS P nc (qBr nc x) A:=by
 obtain⟨R,hw,hs,hr,hp⟩:=h.whole
 have hkk:=qU4 (nc-x.c.lag) (x.l.length+1) x (by omega) h.heap
 have hacc:(qGt (x.l.length+1) x (nc-x.c.lag)).acc=x.acc:=qXh _ _ _
 obtain⟨R',p1,p2,p3,p4,p5⟩:=qZu hP (nc-x.c.lag) (x.l.length+1) x R (by omega) h.heap hv hck hk
  (λy hy=>by rw[<-hk];exact h.okA y (hp.mem_iff.1 hy)) ((hp.map (·.n)).nodup_iff.2 (qSm h.num)) (hP.later _ _ _ _ _ hv hck (by omega) hw) hs (λr hrm=>by have:=hr r hrm;omega)
  (λr hrm y hy=>.inl (by have h1:=hr r hrm;have h2:=h.wait y hy;omega))
 unfold qBr
 refine⟨hkk.1,λy hy=>?_,λy hy=>?_,h.num,?_,R',?_,p2,λr hrm=>?_,p4.trans hp⟩
 ·rw[hkk.2.1];exact p5 y hy
 ·rw[hkk.2.1,hkk.2.2.1];exact h.okA y hy
 ·rw[hacc];exact h.acc
 ·rw[hkk.2.1];exact p1
 ·rw[hkk.2.1];exact p3 r hrm
theorem qW9{k:Nat}{P:Cfg->Int->Note->List It->Prop}(hP:NLaw k P){nc b:Int}{x:Ser}{A:List It}(h:GS P nc x A)(hk:x.k=k)(hck:x.c.kind=k)(hv:qA4 x.c=true): GS P nc (qTw nc b x) A:=by
 obtain⟨R,hw,hs,hr,hp⟩:=h.whole
 refine⟨h.heap,h.wait,h.okA,h.num,h.acc,R,?_,hs,hr,hp⟩
 show P x.c (nc-x.c.lag) (qPn x.k x.c x.nt (nc-x.c.lag) b).1 R
 rw[hk];exact hP.swp _ _ _ _ _ hv hck hw
theorem zCd{P:Cfg->Int->Note->List It->Prop}{clock:Int}{x:Ser}{A:List It}(h:GS P clock x A)(y:It)(hy:clock-x.c.lag<y.t)(hok:OkI x.c x.k (numbered y (x.acc+1))): GS P clock (qR1 x y) (A++[numbered y (x.acc+1)]):=by
 obtain⟨R,hw,hs,hr,hp⟩:=h.whole
 obtain⟨h1,h2⟩:=put_heap x.l (numbered y (x.acc+1)) h.heap
 refine⟨h1,λz hz=>?_,λz hz=>?_,λi z hz=>?_,?_,R,hw,hs,hr,?_⟩
 ·rcases List.mem_cons.1 (h2.mem_iff.1 hz) with e | e
  ·rw[e];exact hy
  ·exact h.wait z e
 ·rcases List.mem_append.1 hz with e | e
  ·exact h.okA z e
  ·rw[List.mem_singleton]at e;rw[e];exact hok
 ·by_cases hi:i<A.length
  ·rw[List.getElem?_append_left hi]at hz;exact h.num i z hz
  ·rw[List.getElem?_append_right (by omega)]at hz
   have hi2:i-A.length=0:=by
    have:=(List.getElem?_eq_some_iff.1 hz).1
    simp at this;omega
   rw[hi2]at hz
   simp at hz
   rw[<-hz]
   show x.acc+1=_
   rw[h.acc];omega
 ·show x.acc+1=_
  rw[h.acc,List.length_append];simp
 ·refine(List.Perm.append_left R h2).trans (List.perm_middle.trans ?_)
  exact(List.Perm.cons _ hp).trans (List.perm_append_singleton _ _).symm
theorem zCb{k:Nat}{P:Cfg->Int->Note->List It->Prop}(hP:NLaw k P)(clock id:Int)(c:Cfg)(hv:qA4 c=true)(hck:c.kind=k)(j:Nat): GS P clock (qBt id c j) [] :=
 ⟨λi _ hi=>by simp[qBt]at hi,λt ht=>by simp[qBt]at ht,λy hy=>by simp at hy,λi y hy=>by simp at hy,rfl,[],hP.zero _ _ hv hck,List.Pairwise.nil,λr hr=>by simp at hr,List.Perm.refl _⟩
def qTv(s:WS)(o:OpM)(id:Int): List It:=if o.kind=2/\o.id=id/\(qBg s o).2.1=0 then[numbered o.item ((qBg s o).2.2.headD 0)] else[]
structure GW (k:Nat) (P:Cfg->Int->Note->List It->Prop) (s:WS) (A:Int->List It):Prop where
 ids:(s.xs.map (·.id)).Nodup
 none:∀id,id ∉ s.xs.map (·.id)->A id=[]
 cnt:∀x,x∈s.xs->x.k=k->GS P s.clock x (A x.id)
theorem GW.same{k:Nat}{P:Cfg->Int->Note->List It->Prop}{s:WS}{A B:Int->List It}(h:GW k P s A)(he:∀id,B id=A id): GW k P s B :=
 ⟨h.ids,λid hid=>(he id).trans (h.none id hid),λx hx hk=>by rw[he];exact h.cnt x hx hk⟩
theorem qHm{s:WS}{o:OpM}(h:o.kind≠2\/(qBg s o).2.1≠0)(id:Int): qTv s o id=[]:=by
 unfold qTv
 rw[if_neg]
 rintro ⟨h1,_,h3⟩
 rcases h with h | h
 ·exact h h1
 ·exact h h3
theorem qYk{k:Nat}{P:Cfg->Int->Note->List It->Prop}{s:WS}{A B:Int->List It}(h:GW k P s A){id:Int}{x y:Ser}(hf:qDk s.xs id=some x)(hid:y.id=x.id)(hb:∀i,i≠id->B i=A i)(hk:y.k=x.k)(hy:x.k=k->GS P s.clock x (A x.id)->GS P s.clock y (B id)): GW k P ⟨s.clock,qIx s.xs id y⟩ B:=by
 obtain⟨l1,l2,he,hx,hu⟩:=qGv hf
 have hm:(qIx s.xs id y).map (·.id)=s.xs.map (·.id):=by
  rw[hu,he];simp[hid]
 have hxm:x∈s.xs:=by rw[he];simp
 refine⟨by show((qIx s.xs id y).map _).Nodup;rw[hm];exact h.ids,λi hi=>?_,λz hz hzk=>?_⟩
 ·have hi':i ∉ s.xs.map (·.id):=by rw[<-hm];exact hi
  have hne:i≠id:=λh0=>hi' (by rw[h0,<-hx];exact List.mem_map_of_mem hxm)
  rw[hb i hne];exact h.none i hi'
 ·have hz':z∈l1++y::l2:=by rw[<-hu];exact hz
  have hnd:=h.ids
  rw[he,List.map_append,List.map_cons]at hnd
  obtain⟨_,n2,n3⟩:=List.nodup_append.1 hnd
  have n4:=(List.nodup_cons.1 n2).1
  rcases List.mem_append.1 hz' with hz1 | hz1
  ·have hne:z.id≠id:=λh0=>n3 z.id (List.mem_map_of_mem hz1) x.id (by simp) (by rw[h0,hx])
   show GS P s.clock z (B z.id)
   rw[hb _ hne];exact h.cnt z (by rw[he];simp[hz1]) hzk
  ·rcases List.mem_cons.1 hz1 with hz1 | hz1
   ·subst hz1
    show GS P s.clock z (B z.id)
    rw[hid,hx]
    exact hy (by rw[<-hk];exact hzk) (h.cnt x hxm (by rw[<-hk];exact hzk))
   ·have hne:z.id≠id:=λh0=>n4 (by rw[hx,<-h0];exact List.mem_map_of_mem hz1)
    show GS P s.clock z (B z.id)
    rw[hb _ hne];exact h.cnt z (by rw[he];simp[hz1]) hzk
theorem qZ7{k:Nat}{P:Cfg->Int->Note->List It->Prop}(hP:NLaw k P){n:Int}{s:WS}{A:Int->List It}(hi:EInv n s.clock s.xs)(h:GW k P s A)(o:OpM)(h7:o.kind≠7): GW k P (qBg s o).1 (λid=>A id++qTv s o id):=by
 by_cases h1:o.kind=1
 ·have ha:=qHm (s:=s) (o:=o) (.inl (by omega))
  simp only[ha,List.append_nil]
  unfold qBg
  rw[if_pos h1]
  unfold qCo
  split
  ·rename_i hc
   split
   ·rename_i hv
    split
    ·have hnew:o.id ∉ s.xs.map (·.id):=λhm=>by
      obtain⟨x,hx,hxi⟩:=List.mem_map.1 hm
      have:=hc.2
      unfold qDk at this
      rw[Option.isNone_iff_eq_none,List.find?_eq_none]at this
      exact this x hx (by simpa using hxi)
     refine⟨?_,λid hid=>?_,λx hx hk=>?_⟩
     ·show((s.xs++[qBt o.id o.cfg o.cfg.kind.toNat]).map (·.id)).Nodup
      rw[List.map_append]
      refine List.nodup_append.2 ⟨h.ids,by simp,λa ha b hb=>?_⟩
      simp[qBt]at hb
      subst hb
      exact λh0=>hnew (by rw[<-h0];exact ha)
     ·exact h.none id (λh0=>hid (by show id∈(s.xs++[qBt o.id o.cfg o.cfg.kind.toNat]).map (·.id);rw[List.map_append];exact List.mem_append.2 (.inl h0)))
     ·rcases List.mem_append.1 hx with hx | hx
      ·exact h.cnt x hx hk
      ·rw[List.mem_singleton]at hx;subst hx
       show GS P s.clock _ (A o.id)
       have hkd:=(qLw (n:=0) o.id o.cfg hv (by omega)).kind
       have hkk:(qBt o.id o.cfg o.cfg.kind.toNat).k=k:=hk
       rw[hkk]at hkd
       rw[h.none o.id hnew];exact zCb hP _ _ _ hv hkd _
    ·exact h
   ·exact h
  ·exact h
 by_cases h2:o.kind=2
 ·have hs:qBg s o=qMt s o:=by unfold qBg;rw[if_neg h1,if_pos h2]
  cases hf:qDk s.xs o.id with
  | none =>
   have e:qMt s o=(s,2,[]):=by unfold qMt;rw[hf]
   have ha:=qHm (s:=s) (o:=o) (.inr (by rw[hs,e];simp))
   simp only[ha,List.append_nil]
   rw[hs,e];exact h
  | some x =>
   by_cases hr:qKv x s.clock o.item=0
   ·have e:qMt s o=(⟨s.clock,qIx s.xs o.id (qR1 x o.item)⟩,0,[x.acc+1]):=by unfold qMt;rw[hf];simp only;rw[if_pos hr]
    have he2:=e
    rw[hs,e]
    refine qYk h hf rfl (λi hne=>?_) rfl (λ_ hb=>?_)
    ·show A i++qTv s o i=A i
     have:qTv s o i=[]:=by unfold qTv;rw[if_neg (λhh=>hne hh.2.1.symm)]
     rw[this,List.append_nil]
    ·show GS P s.clock (qR1 x o.item) (A o.id++qTv s o o.id)
     have:qTv s o o.id=[numbered o.item (x.acc+1)]:=by unfold qTv;rw[if_pos ⟨h2,rfl,by rw[hs,e]⟩,hs,e];rfl
     rw[this]
     obtain⟨_,_,_,hx,_⟩:=qGv hf
     rw[hx]at hb
     obtain⟨z1,z2,_,_,_,z6,_⟩:=qJj hr
     exact zCd hb o.item (qWg hr) ⟨z1,z2,z6⟩
   ·have e:qMt s o=(⟨s.clock,qIx s.xs o.id (qS1 x (qKv x s.clock o.item).toNat)⟩,qKv x s.clock o.item,[]):=by unfold qMt;rw[hf];simp only;rw[if_neg hr]
    have ha:=qHm (s:=s) (o:=o) (.inr (by rw[hs,e];exact hr))
    simp only[ha,List.append_nil]
    rw[hs,e]
    refine qYk h hf rfl (λi _=>rfl) rfl (λ_ hb=>?_)
    obtain⟨_,_,_,hx,_⟩:=qGv hf
    rw[hx]at hb
    exact⟨hb.heap,hb.wait,hb.okA,hb.num,hb.acc,hb.whole⟩
 have ha:=qHm (s:=s) (o:=o) (.inl h2)
 simp only[ha,List.append_nil]
 unfold qBg
 rw[if_neg h1,if_neg h2]
 split
 ·unfold qH7
  split
  ·split
   ·have hcn:s.clock<=qF0 s.clock o.a:=by unfold qF0;split <;> omega
    have hids:((qBy (qF0 s.clock o.a) o.b (s.xs.map (qBr (qF0 s.clock o.a)))).1.map (·.id))=s.xs.map (·.id):=by
     rw[qTd,List.map_map]
     refine List.map_congr_left λx _=>?_
     exact(qKo _ _ _).2.2
    refine⟨by show List.Nodup _;rw[hids];exact h.ids,λid hid=>h.none id (by rw[<-hids];exact hid),λz hz hk=>?_⟩
    obtain⟨y,hy,b',rfl⟩:=qP7 _ _ _ hz
    obtain⟨x,hx,rfl⟩:=List.mem_map.1 hy
    have htk:(qBr (qF0 s.clock o.a) x).k=x.k:=(qKo _ _ _).1
    have htc:(qBr (qF0 s.clock o.a) x).c=x.c:=(qKo _ _ _).2.1
    have hkx:x.k=k:=by rw[<-htk];exact hk
    have hv:=hi.sers x hx
    have hck:x.c.kind=k:=by rw[hv.kind,hkx]
    have hid:(qTw (qF0 s.clock o.a) b' (qBr (qF0 s.clock o.a) x)).id=x.id:=(qKo _ _ _).2.2
    rw[hid]
    exact qW9 hP (qY7 hP (h.cnt x hx hkx) hkx hck hv.valid hcn) (htk.trans hkx) (by rw[htc];exact hck) (by rw[htc];exact hv.valid)
   ·exact h
  ·exact h
 ·split
  ·unfold qFz;split <;> exact h
  ·split
   ·unfold qGg;split <;> exact h
   ·split <;> exact h
def qU2: WS->List OpM->Int->List It
 | _,[],_=>[]
 | s,o::r,id=>qTv s o id++qU2 (qBg s o).1 r id
theorem zB6{k:Nat}{P:Cfg->Int->Note->List It->Prop}(hP:NLaw k P)(l:List OpM): ∀ {n:Int} {s:WS} {A:Int->List It},0<=n->EInv n s.clock s.xs->qJa l->GW k P s A->GW k P (qE1 s l) (λid=>A id++qU2 s l id):=by
 induction l with
 | nil=>intro n s A _ _ _ h;exact h.same (λid=>by simp[qU2])
 | cons o l ih =>
  intro n s A hn hi hok h
  have ho:=hok o (by simp)
  have:=ih (n:=n+1) (by omega) (qJ9 o hi hn (qFl ho)) (λp hp=>hok p (by simp[hp])) (qZ7 hP hi h o ho)
  exact this.same (λid=>by simp[qU2,List.append_assoc])
theorem qV4(l:List OpM)(o:OpM)(id:Int): ∀s,qU2 s (l++[o]) id=qU2 s l id++qTv (qE1 s l) o id:=by
 induction l with
 | nil=>intro s;simp[qU2,qE1]
 | cons a l ih=>intro s;simp only[List.cons_append,qU2,ih,List.append_assoc];rfl
def tri(y:It): Int×Int×Int:=(y.t,y.k,y.d)
def qM9(o:OpM): Int×Int×Int:=(o.a,o.b,o.c)
theorem qVv(ops:List OpM)(id fr tz:Int)(n:Nat)(hn:n<=ops.length): (qB7 ops (qBo ops) id fr tz n).map qM9=((qU2 ws0 (ops.take n) id).filter (λy=>decide (fr<y.t/\y.t<=tz))).map tri:=by
 induction n with
 | zero=>rfl
 | succ n ih =>
  have hi:n<ops.length:=by omega
  rw[qHi,qHy hi,qV4,List.filter_append,List.map_append,List.map_append,ih (by omega),qJx ops n hi]
  congr 1
  unfold qTv
  by_cases h1:(opAt ops n).kind=2/\(opAt ops n).id=id/\(qBg (qE1 ws0 (ops.take n)) (opAt ops n)).2.1=0
  ·rw[if_pos h1]
   by_cases h2:fr<(opAt ops n).a/\(opAt ops n).a<=tz
   ·rw[if_pos ⟨h1.1,h1.2.1,h1.2.2,h2⟩]
    rw[List.filter_cons_of_pos (by simpa[numbered,OpM.item] using h2)]
    rfl
   ·rw[if_neg (λh=>h2 h.2.2.2)]
    rw[List.filter_cons_of_neg (by simpa[numbered,OpM.item] using h2)]
    rfl
  ·rw[if_neg h1,if_neg (λh=>h1 ⟨h.1,h.2.1,h.2.2.1⟩)]
   rfl
theorem qYb{k:Nat}{P:Cfg->Int->Note->List It->Prop}(hP:NLaw k P)(t:List OpM)(hok:qJa t)(j:Nat)(hj:j<t.length)(h4:(opAt t j).kind=4)(c:Cfg)(hc:qCn t (qBo t) (opAt t j).id j=some c)(hk:c.kind=k):
  (0<=qCg t (qBo t) j/\qCg t (qBo t) j<=4611686018427387904)/\(0<=c.lag/\c.lag<=100)/\qA4 c=true /\
  ∃(x:Ser) (R L A:List It),qDk (qE1 ws0 (t.take j)).xs (opAt t j).id=some x/\x.c=c/\x.k=k/\(qJb ws0 t)[j]?=some (qH9 k c x.nt (opAt t j).a (qCg t (qBo t) j-c.lag))/\P c (qCg t (qBo t) j-c.lag) x.nt R/\R.Pairwise leP/\(∀r∈R,r.t<=qCg t (qBo t) j-c.lag/\OkI c k r)/\(∀y∈L,qCg t (qBo t) j-c.lag<y.t)/\(R++L).Perm A /\
   (A.length:Int)<=j/\(∃n last,n<=(j:Int)/\NInv k c n last x.nt)/\A=qU2 ws0 (t.take j) (opAt t j).id:=by
 have hjl:j<=t.length:=by omega
 have hokj:qJa (t.take j):=λo ho=>hok o (List.mem_of_mem_take ho)
 have hinv:EInv j (qE1 ws0 (t.take j)).clock (qE1 ws0 (t.take j)).xs:=by
  have:=qRg (t.take j) inv0 (by omega) (λi o ho=>qFl (hokj o (List.mem_of_getElem? ho)))
  rw[List.length_take,Nat.min_eq_left hjl]at this
  simpa using this
 have hwb:GW k P (qE1 ws0 (t.take j)) (qU2 ws0 (t.take j)):=by
  have:=zB6 hP (t.take j) (n:=0) (s:=ws0) (A:=λ_=>[]) (by omega) inv0 hokj ⟨by simp[ws0],λ_ _=>rfl,λx hx=>by simp[ws0]at hx⟩
  exact this.same (λid=>by simp)
 rw[qS8 t hok _ j hjl]at hc
 cases hf:qDk (qE1 ws0 (t.take j)).xs (opAt t j).id with
 | none=>rw[hf]at hc;cases hc
 | some x =>
  rw[hf]at hc
  have hxc:x.c=c:=by simpa using hc
  have hx:x∈(qE1 ws0 (t.take j)).xs:=List.mem_of_find?_eq_some hf
  have hsi:=hinv.sers x hx
  have hid:x.id=(opAt t j).id:=by have:=List.find?_some hf;simpa using this
  have hk1:x.k=k:=by have:=hsi.kind;rw[hxc,hk]at this;omega
  obtain⟨l0,l1,_⟩:=hsi.common
  have hclk:=qWt t hok j hjl
  have hans:=qWp ws0 t j _ (qJe hj)
  have hstep:qBg (qE1 ws0 (t.take j)) (opAt t j)=(qE1 ws0 (t.take j),qH9 x.k x.c x.nt (opAt t j).a ((qE1 ws0 (t.take j)).clock-x.c.lag)):=by
   unfold qBg
   rw[if_neg (by omega),if_neg (by omega),if_neg (by omega),if_pos h4]
   unfold qFz
   rw[hf]
  rw[hstep,hk1]at hans
  have hg:=hwb.cnt x hx hk1
  obtain⟨R,r1,r2,r3,r4⟩:=hg.whole
  rw[hclk,<-hxc]
  refine⟨⟨hinv.c0,hinv.c1⟩,⟨l0,l1⟩,hsi.valid,x,R,x.l,_,rfl,rfl,hk1,hans,r1,r2,λr hr=>⟨r3 r hr,?_⟩,hg.wait,r4,?_,⟨x.rel,x.last,?_,?_⟩,by rw[hid]⟩
  ·rw[<-hk1];exact hg.okA r (r4.mem_iff.1 (by simp[hr]))
  ·rw[<-hg.acc];exact hsi.accn
  ·have h1:=hsi.rela;have h2:=hsi.accn;omega
  ·rw[<-hk1];exact hsi.note
abbrev Tri: Type:=Int×Int×Int
def unt(l:List OpM)(tb:List Bool): List Tri:=((l.zip tb).filter (λp=>!p.2)).map (λp=>qM9 p.1)
theorem qGw(o:OpM)(l:List OpM)(b:Bool)(tb:List Bool): unt (o::l) (b::tb)=if b=true then unt l tb else qM9 o::unt l tb:=by
 unfold unt
 cases b <;> simp
theorem qYx(l:List OpM): unt l (List.replicate l.length false)=l.map qM9:=by
 induction l with
 | nil=>rfl
 | cons o l ih=>rw[List.length_cons,List.replicate_succ,qGw,if_neg (by simp),ih];rfl
theorem qOw(o:OpM)(l:List OpM): opAt (o::l) 0=o:=by simp[opAt]
theorem qO9(o:OpM)(l:List OpM)(j:Nat): opAt (o::l) (j+1)=opAt l j:=by simp[opAt]
theorem qVo{l:List OpM}: ∀ {tb:List Bool} {x:Tri},x∈unt l tb->∃j,j<l.length/\tb.getD j true=false/\qM9 (opAt l j)=x:=by
 induction l with
 | nil=>intro tb x h;simp[unt]at h
 | cons o l ih =>
  intro tb x h
  cases tb with
  | nil=>simp[unt]at h
  | cons b tb =>
   rw[qGw]at h
   have hrec:x∈unt l tb->∃j,j<(o::l).length/\(b::tb).getD j true=false/\qM9 (opAt (o::l) j)=x:=λh=>by
    obtain⟨j,h1,h2,h3⟩:=ih h
    exact⟨j+1,by simp;omega,by simpa using h2,by rw[qO9];exact h3⟩
   cases b with
   | true=>rw[if_pos rfl]at h;exact hrec h
   | false =>
    rw[if_neg (by simp)]at h
    rcases List.mem_cons.1 h with h | h
    ·exact⟨0,by simp,by simp,by rw[qOw];exact h.symm⟩
    ·exact hrec h
theorem qT4{l:List OpM}: ∀ {tb:List Bool} {j:Nat},j<l.length->tb.length=l.length->tb.getD j true=false->(qM9 (opAt l j)::unt l (tb.set j true)).Perm (unt l tb):=by
 induction l with
 | nil=>intro tb j h;simp at h
 | cons o l ih =>
  intro tb j hj hl hb
  cases tb with
  | nil=>simp at hl
  | cons b tb =>
   cases j with
   | zero =>
    have:b=false:=by simpa using hb
    subst this
    rw[qOw,List.set_cons_zero,qGw,qGw,if_pos rfl,if_neg (by simp)]
   | succ j =>
    rw[qO9,List.set_cons_succ,qGw,qGw]
    have h:=ih (tb:=tb) (j:=j) (by simpa using hj) (by simpa using hl) (by simpa using hb)
    cases b with
    | true=>rw[if_pos rfl,if_pos rfl];exact h
    | false=>rw[if_neg (by simp),if_neg (by simp)];exact(List.Perm.swap _ _ _).trans (h.cons _)
theorem zA5{l:List OpM}{tb:List Bool}{j:Nat}(hj:j<l.length)(hl:tb.length=l.length)(hb:tb.getD j true=false): qM9 (opAt l j)∈unt l tb :=
 (qT4 hj hl hb).mem_iff.1 (by simp)
def tAt(l:List Tri)(i:Nat): Tri:=l.getD i (0,0,0)
theorem qRz{l:List Tri}{i:Nat}(h:i<l.length): l.drop i=tAt l i::l.drop (i+1):=by
 rw[List.drop_eq_getElem_cons h]
 simp[tAt,List.getD_eq_getElem?_getD,List.getElem?_eq_getElem h]
theorem qQd{l:List Tri}{i:Nat}(h:i<l.length): tAt l i∈l:=by
 have:tAt l i=l[i]:=by simp[tAt,List.getD_eq_getElem?_getD,List.getElem?_eq_getElem h]
 rw[this];exact List.getElem_mem h
theorem qXl{l:List OpM}{tb:List Bool}{told rest:List Tri}{i j:Nat}(hi:i<told.length)(hp:(unt l tb).Perm (told.drop i++rest))(hj:j<l.length)(hl:tb.length=l.length)(hb:tb.getD j true=false)(he:qM9 (opAt l j)=tAt told i): (unt l (tb.set j true)).Perm (told.drop (i+1)++rest):=by
 have h1:=qT4 hj hl hb
 rw[he]at h1
 have h2:=h1.trans hp
 rw[qRz hi,List.cons_append]at h2
 exact(List.perm_cons _).1 h2
theorem qXw{l:List OpM}{tb:List Bool}{told rest:List Tri}{i:Nat}(hi:i<told.length)(hp:(unt l tb).Perm (told.drop i++rest)): ∃j,j<l.length/\tb.getD j true=false/\qM9 (opAt l j)=tAt told i :=
 qVo (hp.mem_iff.2 (by rw[qRz hi];simp))
theorem qTb(n:Nat): madeCells #[.bool false] n=((List.replicate n false).map Value.bool).toArray:=by
 apply Array.ext
 ·simp[madeCells]
 ·intro i h1 h2
  simp[madeCells]
  rw[Nat.mod_one]
  rfl
theorem qLz{tb:List Bool}{j:Nat}(h:j<tb.length): (tb.map Value.bool)[j]?=some (.bool (tb.getD j true)):=by
 rw[List.getElem?_map,List.getElem?_eq_getElem h,List.getD_eq_getElem?_getD,List.getElem?_eq_getElem h];rfl
theorem qWr(tb:List Bool)(j:Nat)(b:Bool): (tb.map Value.bool).set j (.bool b)=(tb.set j b).map Value.bool:=by
 rw[List.map_set]
end
section
open Go.RowKit
attribute [local go_sem ↓] qAd qAe qB6 qD1 qD3 qC7
attribute [local go_sem] qAh qAi qAb qAc qAp qAo qAk qAj qKk qZq qZg
def qPc(s:List OpM)(n:Int): List OpM:=(s.filter (λo=>o.kind==1)).map (λo=>qOp o.id n)
def qKq(ops:List OpM)(n:Int): List OpM:=ops.filter OpM.noLoad++qPc (ops.filter OpM.noLoad) n
theorem qWo(s:List OpM)(o:OpM)(n:Int): qPc (s++[o]) n=qPc s n++if (o.kind==1)=true then[qOp o.id n] else[]:=by
 unfold qPc
 rw[List.filter_append,List.map_append,List.filter_cons]
 congr 1
 by_cases h:(o.kind==1)=true
 ·rw[if_pos h,if_pos h];rfl
 ·rw[if_neg h,if_neg h];rfl
theorem qKe(s:List OpM)(n:Int): (qPc s n).length<=s.length:=by
 unfold qPc;rw[List.length_map];exact List.length_filter_le _ _
theorem qMb(ops:List OpM)(n:Int): (qKq ops n).length<=2*ops.length:=by
 unfold qKq
 rw[List.length_append]
 have h1:=qKe (ops.filter OpM.noLoad) n
 have h2:=List.length_filter_le OpM.noLoad ops
 omega
theorem qUn(s:List OpM)(n:Int): ∀o,o∈qPc s n->o.kind=4:=by
 intro o ho
 obtain⟨p,_,rfl⟩:=List.mem_map.1 ho
 rfl
theorem qU5(ops:List OpM)(n:Int): qJa (qKq ops n):=by
 intro o ho
 rcases List.mem_append.1 ho with h | h
 ·have:=(List.mem_filter.1 h).2
  simpa[OpM.noLoad] using this
 ·have:=qUn _ _ o h;omega
theorem qTn(v:Value)(ops:List OpM)(q:Int)(w:World)(hv:ScriptW w v ops)(hlen:ops.length<=325781223000):
  Calls Tryz.prog 30 #[v,.int .i64 q] w λr w'=>∃v' base,r=.returned v'/\qIt w' base v' (qKq ops q)/\w.heap.size<=base/\Keeps (λ_=>False) w w':=by
 have HV:=hide hv
 clear hv
 go_enter Tryz.func30,Tryz.ntmps30
 go_wp2_with fail
 refine(qPq v ops w (uh HV) (by omega)).mono ?_
 rintro r w3 ⟨sv,rfl,hO,hk3,-⟩
 have HO3:=hide hO
 have HK3:=hide hk3
 have hle:(ops.filter OpM.noLoad).length<=325781223000:=by have:=List.length_filter_le OpM.noLoad ops;omega
 have HAD:=hide (show qKq ops q=ops.filter OpM.noLoad++qPc (ops.filter OpM.noLoad) q from rfl)
 clear hk3 hO
 generalize hs:ops.filter OpM.noLoad=s at *
 clear hs
 obtain⟨sa,sc,es⟩:=qC9 (uh HO3)
 generalize hn:s.length=n at *
 have HN:=hide hn
 clear hn
 subst es
 go_wp2_with fail
 refine(qRy _ _ s [] w3 (by have h:=qFr (uh HO3);exact h) (.inl ⟨⟨none,0,rfl⟩,rfl⟩) (by rw[uh HN];simp;omega)).mono ?_
 rintro r w4 ⟨tv,rfl,hT4,hk4⟩
 rw[List.append_nil]at hT4
 have HT4:=hide hT4
 have HK4:=hide ((uh HK3).then hk4)
 have HS4:=hide (show ∃base,w.heap.size<=base/\qIt w4 base tv (s++qPc (s.take 0) q) from⟨_,(uh HK3).size,by rw[show qPc (s.take 0) q=[] from rfl,List.append_nil];exact hT4⟩)
 have HO4:=hide (qAu (uh HO3) hk4 (λ_ _ h=>h))
 obtain⟨ta,tc,et⟩:=qC9 (uh HT4)
 subst et
 clear hT4 hk4 HT4 HK3 HO3
 go_wp2_with fail
 go_loopw [6,7] (λl i wr=>∃(k m c:Nat) (ad:Option Addr),k<=n/\i=.int .i64 k/\l=.slice ad m c/\Hid (∃base,w.heap.size<=base/\qIt wr base l (s++qPc (s.take k) q))/\Hid (Keeps (λ_=>False) w4 wr)) (λ_ i _=>n-(intOf i).toNat)
 case atStart=>exact⟨0,_,_,_,by omega,rfl,rfl,HS4,Keeps.refl _ _⟩
 case round =>
  obtain⟨k,m,c,ad,hk,rfl,rfl,HB,HK⟩:=hrel
  by_cases hkn:k<n
  ·have hO4r:qIt wr w.heap.size (.slice sa s.length sc) s:=by rw[uh HN];exact qAu (uh HO4) (uh HK) (λ_ _ h=>h)
   rcases qG0 hO4r with ⟨_,h2⟩ | ⟨g,cap,e1,hcap,hsc,hltg,hbg,hmax⟩
   ·have:=uh HN;rw[h2]at this;simp at this;omega
   rw[uh HN]at e1 hcap
   injection e1 with e2 _ e3
   subst e2 e3
   have hi:k<s.length:=by rw[uh HN];exact hkn
   obtain⟨c0,c1,_⟩:=qEe hsc hi
   rw[Nat.zero_add]at c0 c1
   have HTK:=hide (show qPc (s.take (k+1)) q=qPc (s.take k) q++if ((opAt s k).kind==1)=true then[qOp (opAt s k).id q] else[] by rw[qHy hi,qWo])
   generalize opAt s k=o at *
   have hk0:(0:Int)<=(k:Int):=by omega
   have hkn':(k:Int)<(n:Int):=by omega
   have hal:(s++qPc (s.take k) q).length<=n+k:=by
    rw[List.length_append]
    have h1:=qKe (s.take k) q
    rw[List.length_take]at h1
    have:=uh HN
    omega
   clear hsc hbg hmax hcap hi hltg hO4r
   cases h1:(o.kind==1)
   ·rw[h1]at HTK
    go_wp2_with fail
    go_roundw
    case rel=>exact⟨k+1,m,c,ad,by omega,by go_num,rfl,hide (by obtain⟨base,b1,b2⟩:=uh HB;exact⟨base,b1,by rw[uh HTK];simpa using b2⟩),HK⟩
    case measure=>simp[intOf];omega
   ·rw[h1,if_pos rfl]at HTK
    go_wp2_with fail
    have HW:=hide (show ScriptW (wr.alloc (.cells (qOp o.id q).cells.toArray 40)) (.slice ad m c) (s++qPc (s.take k) q) by
       obtain⟨base,b1,b2⟩:=uh HB
       exact qFr (qAu b2 ((Keeps.refl (λ_=>False) wr).alloc _) (λ_ _ h=>h)))
    refine(qRy (.slice ad m c) (.slice (some ⟨wr.heap.size,0,none⟩) 1 1) (s++qPc (s.take k) q) [qOp o.id q] _ (uh HW) (qGq (Blk.new wr (qOp o.id q).cells 40)) (by simp only[List.length_singleton];omega)).mono ?_
    rintro r w9 ⟨uv,rfl,hU,hk9⟩
    have HU:=hide hU
    have HK9:=hide (((uh HK).alloc (.cells (qOp o.id q).cells.toArray 40)).then hk9)
    obtain⟨ua,uc,eu⟩:=qC9 hU
    obtain⟨ul,hul⟩:∃ul,(s++qPc (s.take k) q++[qOp o.id q]).length=ul:=⟨_,rfl⟩
    rw[hul]at eu
    subst eu
    clear hU hk9 hul
    go_wp2_with fail
    go_roundw
    case rel=>exact⟨k+1,_,_,_,by omega,by go_num,rfl,hide ⟨(wr.alloc (.cells (qOp o.id q).cells.toArray 40)).heap.size,(by have h1:=(uh HK4).size;have h2:=(uh HK).size;simp;omega),(by rw[uh HTK,<-List.append_assoc];exact uh HU)⟩,HK9⟩
    case measure=>simp[intOf];omega
  ·go_wp2_with fail
   go_ret
   obtain⟨base,b1,b2⟩:=uh HB
   rw[List.take_of_length_le (by rw[uh HN];omega),<-uh HAD]at b2
   exact⟨_,base,rfl,b2,b1,(uh HK4).then (uh HK)⟩
end
section
open Go.RowKit
attribute [local go_sem ↓] qAd qAe qE0 qD3 qD1 qC7
def nd: Cfg:=⟨2,0,9,8,0,5,1,0,0,0,0,0,0,0,1,0,0,0,0,0⟩
def no: Cfg:=⟨3,0,9,8,0,5,0,1,4,1,0,0,0,0,1,0,0,0,0,0⟩
def nw: Cfg:=⟨5,0,9,8,0,0,0,0,0,0,1,0,0,0,0,0,0,0,0,0⟩
def n1: OpM:=⟨1,1,0,0,0,nd,qAa⟩
def n2: OpM:=⟨1,2,0,0,0,no,qAa⟩
def n3: OpM:=⟨1,3,0,0,0,nw,qAa⟩
def nA(i:Int): OpM:=⟨2,i,3,1,1,cz,qAa⟩
def nT: OpM:=⟨3,0,5,0,0,cz,qAa⟩
def nQ1: OpM:=⟨4,1,5,0,0,cz,qAa⟩
def nQ2: OpM:=⟨4,2,1,0,0,cz,qAa⟩
def nQ3: OpM:=⟨4,3,0,0,0,cz,qAa⟩
def nAs(k:Nat): List OpM:=(List.range k).map (λi:Nat=>nA ((i:Int)+1))
theorem qXn(k:Nat): nAs (k+1)=nAs k++[nA ((k:Int)+1)]:=by simp[nAs,List.range_succ]
def qVs: List Value:=n1.cells++(n2.cells++n3.cells)
def qWs: List Value:=nT.cells++(nQ1.cells++(nQ2.cells++nQ3.cells))
def zAp: List OpM:=([n1,n2,n3]++nAs 3)++[nT,nQ1,nQ2,nQ3]
theorem zAl: qJb ws0 zAp=[(0,[]),(0,[]),(0,[]),(0,[1]),(0,[1]),(0,[1]),(0,[0]),(0,[0,40,2]),(0,[1]),(0,[3,1,1,0,0])]:=by kernel_rfl
theorem zAw: qJa zAp:=by
 intro o ho
 have:o.kind=1\/o.kind=2\/o.kind=3\/o.kind=4:=by
  simp[zAp,nAs,List.range_succ]at ho
  rcases ho with h | h | h | h | h | h | h | h | h | h <;> subst h <;> simp[n1,n2,n3,nA,nT,nQ1,nQ2,nQ3]
 omega
theorem qLd(ρ:Operand->Value)(dst:Option Tmp)(x:Array (Nat×Operand))(ty:TypeId)(pos:String)(after:Array Edge)(guard:Option (Nat×Bool)):
  execOp ρ { dst,op:=.build 35 x,type:=ty,pos,after,guard }=qA5 35 (x.map λ(i,y)=>(i,ρ y)):=rfl
theorem qK7(ρ:Operand->Value)(dst:Option Tmp)(x:Array (Nat×Operand))(ty:TypeId)(pos:String)(after:Array Edge)(guard:Option (Nat×Bool)):
  execOp ρ { dst,op:=.build 36 x,type:=ty,pos,after,guard }=qA5 36 (x.map λ(i,y)=>(i,ρ y)):=rfl
def zA8: Value:=.agg #[.int .i64 1,.int .i64 0]
def qWn: Value:=.agg #[.int .i64 1,.int .i64 0,.int .i64 0,.int .i64 0,.int .i64 0,.int .i64 0]
theorem qYw(w:World): (qA5 35 #[(0,.int .i64 1),(1,.int .i64 0)]).run Tryz.prog w=.ok (.value zA8) w:=by kernel_rfl
theorem qZ6(w:World): (qA5 36 #[(0,zA8)]).run Tryz.prog w=.ok (.value qWn) w:=by kernel_rfl
theorem zB1(w:World): (qA5 38 #[(0,.int .i64 2),(2,.int .i64 9),(3,.int .i64 8),(6,.int .i64 1),(5,.int .i64 5),(14,qWn)]).run Tryz.prog w=.ok (.value (.agg nd.cells.toArray)) w:=by kernel_rfl
theorem zA7(w:World): (qA5 38 #[(0,.int .i64 3),(2,.int .i64 9),(3,.int .i64 8),(7,.int .i64 1),(8,.int .i64 4),(9,.int .i64 1),(5,.int .i64 5),(14,qWn)]).run Tryz.prog w=.ok (.value (.agg no.cells.toArray)) w:=by kernel_rfl
theorem zAz(w:World): (qA5 38 #[(0,.int .i64 5),(2,.int .i64 9),(3,.int .i64 8),(10,.int .i64 1)]).run Tryz.prog w=.ok (.value (.agg nw.cells.toArray)) w:=by kernel_rfl
theorem zA3(w:World): (qA5 40 #[(0,.int .i64 1),(1,.int .i64 1),(5,.agg nd.cells.toArray)]).run Tryz.prog w=.ok (.value (.agg n1.cells.toArray)) w:=by kernel_rfl
theorem zB4(w:World): (qA5 40 #[(0,.int .i64 1),(1,.int .i64 2),(5,.agg no.cells.toArray)]).run Tryz.prog w=.ok (.value (.agg n2.cells.toArray)) w:=by kernel_rfl
theorem zBb(w:World): (qA5 40 #[(0,.int .i64 1),(1,.int .i64 3),(5,.agg nw.cells.toArray)]).run Tryz.prog w=.ok (.value (.agg n3.cells.toArray)) w:=by kernel_rfl
theorem zBd(i:Int)(w:World): (qA5 40 #[(0,.int .i64 2),(1,.int .i64 i),(2,.int .i64 3),(3,.int .i64 1),(4,.int .i64 1)]).run Tryz.prog w=.ok (.value (.agg (nA i).cells.toArray)) w:=by kernel_rfl
theorem zBc(w:World): (qA5 40 #[(0,.int .i64 3),(2,.int .i64 5)]).run Tryz.prog w=.ok (.value (.agg nT.cells.toArray)) w:=by kernel_rfl
theorem qY0(w:World): (qA5 40 #[(0,.int .i64 4),(1,.int .i64 1),(2,.int .i64 5)]).run Tryz.prog w=.ok (.value (.agg nQ1.cells.toArray)) w:=by kernel_rfl
theorem qZz(w:World): (qA5 40 #[(0,.int .i64 4),(1,.int .i64 2),(2,.int .i64 1)]).run Tryz.prog w=.ok (.value (.agg nQ2.cells.toArray)) w:=by kernel_rfl
theorem zAd(w:World): (qA5 40 #[(0,.int .i64 4),(1,.int .i64 3)]).run Tryz.prog w=.ok (.value (.agg nQ3.cells.toArray)) w:=by kernel_rfl
theorem qY6(w:World): (qS7 22 3 #[(0,.agg n1.cells.toArray),(1,.agg n2.cells.toArray),(2,.agg n3.cells.toArray)]).run Tryz.prog w =
  .ok (.value (.slice (some ⟨w.heap.size,0,none⟩) 3 3)) (w.alloc (.cells qVs.toArray 40)):=by kernel_rfl
theorem qYt(w:World): (qS7 22 4 #[(0,.agg nT.cells.toArray),(1,.agg nQ1.cells.toArray),(2,.agg nQ2.cells.toArray),(3,.agg nQ3.cells.toArray)]).run Tryz.prog w =
  .ok (.value (.slice (some ⟨w.heap.size,0,none⟩) 4 4)) (w.alloc (.cells qWs.toArray 40)):=by kernel_rfl
theorem last_at(w:World)(b:Nat)(h:Blk w b qWs 40): ScriptW w (.slice (some ⟨b,0,none⟩) 4 4) [nT,nQ1,nQ2,nQ3]:=by
 refine .inr ⟨b,0,4,rfl,by simp,?_,h.lt⟩
 intro i o ho
 have hi:i<4:=(List.getElem?_eq_some_iff.1 ho).1
 have hi':i=0\/i=1\/i=2\/i=3:=by omega
 have hr:∀(off:Nat) (cs:List Value),(qWs.drop off).take 26=cs->w.rangeAt b off cs:=by
  intro off cs hcs j v hv
  rw[<-hcs,List.getElem?_take]at hv
  split at hv
  ·exact h.cell (by simpa using hv)
  ·cases hv
 rcases hi' with h' | h' | h' | h'
 all_goals
  subst h'
  injection ho with ho
  subst ho
 ·exact hr 0 _ rfl
 ·exact hr 26 _ rfl
 ·exact hr 52 _ rfl
 ·exact hr 78 _ rfl
theorem qT9(w:World)(base:Nat)(hb:base<=w.heap.size): qIt (w.alloc (.cells qVs.toArray 40)) base (.slice (some ⟨w.heap.size,0,none⟩) 3 3) [n1,n2,n3] :=
 World.ownsRow_lit w qVs.toArray 3 hb (by unfold maxLen;omega) rfl
theorem qXt{α:Type _}(l:List α)(h:l.length=10): ∃a b c d e f g i j k,l=[a,b,c,d,e,f,g,i,j,k]:=by
 match l,h with
 | [a,b,c,d,e,f,g,i,j,k],_=>exact⟨a,b,c,d,e,f,g,i,j,k,rfl⟩
attribute [local go_sem ↓] qLd qK7
attribute [local go_sem] qAh qAi qAb qAc qAp qAo qAk qAj qYw qZ6 zB1 zA7 zAz zA3 zB4 zBb zBd zBc qY0 qZz zAd qY6 qYt qKk
theorem qR7{w w':World}{b n:Nat}{v:Value}(hk:Keeps (λ_=>False) w w')(hlt:b<w.heap.size)(h1:qAn w b 0 n=v)(h2:qAr w b 0 n=true): qAn w' b 0 n=v/\qAr w' b 0 n=true:=by
 obtain⟨a,b⟩:=qFk (o:=0) (n:=n) hk hlt (λh=>h)
 exact⟨a.trans h1,b.trans h2⟩
theorem qTj(w:World)(hT:Tab w): Calls Tryz.prog 29 #[] w λe w'=>e=.returned (.bool true)/\Keeps (λ_=>False) w w':=by
 have one:∀c:Cfg,(c.cells.toArray.all λx=>x.oneCell')=true:=λc=>by simp[Cfg.cells,Value.oneCell']
 obtain⟨A1,hA1⟩:∃A1,A1=Obj.cells nd.cells.toArray 38:=⟨_,rfl⟩
 obtain⟨A2,hA2⟩:∃A2,A2=Obj.cells no.cells.toArray 38:=⟨_,rfl⟩
 obtain⟨A3,hA3⟩:∃A3,A3=Obj.cells nw.cells.toArray 38:=⟨_,rfl⟩
 have z1:(w.alloc A1).heap.size=w.heap.size+1:=by simp
 have z2:((w.alloc A1).alloc A2).heap.size=w.heap.size+2:=by simp
 have hst1:∀zs:List Value,zs.length=20->(qCq 38 (.pointer (some ⟨w.heap.size,0,none⟩)) (.agg nd.cells.toArray)).run Tryz.prog (w.alloc (.cells zs.toArray 38))=.ok .skip (w.alloc A1):=λzs hz=>by rw[hA1];exact qD2 w zs nd.cells hz rfl (one nd)
 have hst2:∀zs:List Value,zs.length=20->(qCq 38 (.pointer (some ⟨w.heap.size+1,0,none⟩)) (.agg no.cells.toArray)).run Tryz.prog ((w.alloc A1).alloc (.cells zs.toArray 38))=.ok .skip ((w.alloc A1).alloc A2):=λzs hz=>by
  have:=qD2 (w.alloc A1) zs no.cells hz rfl (one no)
  rw[z1]at this
  rw[hA2];exact this
 have hst3:∀zs:List Value,zs.length=20->(qCq 38 (.pointer (some ⟨w.heap.size+2,0,none⟩)) (.agg nw.cells.toArray)).run Tryz.prog (((w.alloc A1).alloc A2).alloc (.cells zs.toArray 38))=.ok .skip (((w.alloc A1).alloc A2).alloc A3):=λzs hz=>by
  have:=qD2 ((w.alloc A1).alloc A2) zs nw.cells hz rfl (one nw)
  rw[z2]at this
  rw[hA3];exact this
 have hb1:qAn (((w.alloc A1).alloc A2).alloc A3) w.heap.size 0 20=.agg nd.cells.toArray/\qAr (((w.alloc A1).alloc A2).alloc A3) w.heap.size 0 20=true :=
  qR7 (((Keeps.refl _ (w.alloc A1)).alloc A2).alloc A3) (by simp) (by rw[hA1];exact qAf w nd.cells _ 20 rfl) (by rw[hA1];exact qB2 w nd.cells _ 20 rfl)
 have hb2:qAn (((w.alloc A1).alloc A2).alloc A3) (w.heap.size+1) 0 20=.agg no.cells.toArray/\qAr (((w.alloc A1).alloc A2).alloc A3) (w.heap.size+1) 0 20=true :=
  qR7 ((Keeps.refl _ ((w.alloc A1).alloc A2)).alloc A3) (by simp) (by rw[<-z1,hA2];exact qAf (w.alloc A1) no.cells _ 20 rfl) (by rw[<-z1,hA2];exact qB2 (w.alloc A1) no.cells _ 20 rfl)
 have hb3:qAn (((w.alloc A1).alloc A2).alloc A3) (w.heap.size+2) 0 20=.agg nw.cells.toArray/\qAr (((w.alloc A1).alloc A2).alloc A3) (w.heap.size+2) 0 20=true :=
  ⟨by rw[<-z2,hA3];exact qAf ((w.alloc A1).alloc A2) nw.cells _ 20 rfl,by rw[<-z2,hA3];exact qB2 ((w.alloc A1).alloc A2) nw.cells _ 20 rfl⟩
 obtain⟨v1,h1⟩:=hb1
 obtain⟨v2,h2⟩:=hb2
 obtain⟨v3,h3⟩:=hb3
 have HTT:=hide hT
 clear hT hA1 hA2 hA3
 go_enter Tryz.func29,Tryz.ntmps29
 go_wp2_with fail
 go_loopw [4,5] (λl i wr=>∃(k m c:Nat) (ad:Option Addr),k<=3/\i=.int .i64 ((k:Int)+1)/\l=.slice ad m c/\Hid (qIt wr w.heap.size l ([n1,n2,n3]++nAs k))/\Hid (Keeps (λ_=>False) w wr)) (λ_ i _=>4-(intOf i).toNat)
 case atStart=>exact⟨0,3,3,_,by omega,rfl,rfl,(by have:=qT9 (((w.alloc A1).alloc A2).alloc A3) w.heap.size (by simp;omega);rw[show(((w.alloc A1).alloc A2).alloc A3).heap.size=w.heap.size+2+1 by simp]at this;exact this),((((Keeps.refl _ w).alloc _).alloc _).alloc _).alloc _⟩
 case round =>
  obtain⟨k,m,c,ad,hk,rfl,rfl,HO,HK⟩:=hrel
  have hm:m=([n1,n2,n3]++nAs k).length:=by
   obtain⟨_,_,e⟩:=qC9 (uh HO)
   injection e
  have hml:([n1,n2,n3]++nAs k).length=3+k:=by simp[nAs];omega
  have HNX:=hide (qXn k)
  by_cases hkn:k<3
  ·have hlt:((k:Int)+1<4):=by omega
   generalize hAA:[n1,n2,n3]++nAs k=AA at *
   go_wp2_with (at_builtin;refine qBw rfl _ _ rfl w.heap.size (.slice ad m c) AA rfl (by exact qAu (uh HO) ((Keeps.refl (λ_=>False) wr).alloc _) (λ_ _ h=>h)) _ [nA ((k:Int)+1)] rfl (by exact qGq (Blk.new wr (nA ((k:Int)+1)).cells 40)) (by simp;omega) (by have:=(uh HK).size;simp;omega) ?_;intro ad2 c2 w2 hown2 hk2 hat2)
   go_roundw
   case rel =>
    rw[hml]at hown2
    refine⟨k+1,_,c2,ad2,by omega,by go_num,rfl,?_,?_⟩
    ·show qIt _ _ _ _;rw[uh HNX,<-List.append_assoc,hAA];exact hown2
    ·refine(((uh HK).alloc _).trans hk2 (λi hi hlt=>?_))
     have:=((uh HO).lt i hi).1
     omega
   case measure=>simp[intOf];omega
  ·have hk3:k=3:=by omega
   subst hk3
   generalize hAA:[n1,n2,n3]++nAs 3=AA at *
   have HTEN:=hide (show AA++[nT,nQ1,nQ2,nQ3]=zAp by rw[<-hAA];rfl)
   clear hAA HNX
   go_wp2_with (at_builtin;refine qBw rfl _ _ rfl w.heap.size (.slice ad m c) AA rfl (by exact qAu (uh HO) ((Keeps.refl (λ_=>False) wr).alloc _) (λ_ _ h=>h)) _ [nT,nQ1,nQ2,nQ3] rfl (by exact last_at _ _ (Blk.new wr qWs 40)) (by simp;omega) (by have:=(uh HK).size;simp;omega) ?_;intro ad2 c2 w2 hown2 hk2 hat2;rw[uh HTEN,hml]at hown2)
   have HK2:=hide (((uh HK).alloc (.cells qWs.toArray 40)).trans hk2 (λi hi hlt=>by
        have:=((uh HO).lt i hi).1
        omega))
   refine(qKj _ zAp w2 (by have h:=qFr hown2;exact h) (by rw[show zAp.length=10 from rfl];omega) ((uh HTT).keeps (uh HK2) (λh=>h)) zAw).mono ?_
   rintro r w1 ⟨v,l,rfl,hA,hM,_,hk1⟩
   rw[zAl]at hM
   obtain⟨x0,x1,x2,x3,x4,x5,x6,x7,x8,x9,hl5⟩:=qXt l (by have:=congrArg List.length hM;simpa using this)
   subst hl5
   simp only[List.map_cons,List.map_nil,List.cons.injEq,Prod.mk.injEq,and_true]at hM
   obtain⟨_,_,_,_,_,_,_,⟨_,m7⟩,⟨_,m8⟩,_,m9⟩:=hM
   obtain⟨g,cap,hv,hc⟩:=qQn hA (by simp)
   have n7:=hA.nums x7 (by simp)
   have n8:=hA.nums x8 (by simp)
   have n9:=hA.nums x9 (by simp)
   rw[m7]at n7
   rw[m8]at n8
   rw[m9]at n9
   rcases qFb n7 with ⟨h,_⟩ | ⟨g7,cp7,hv7,hn7⟩
   ·cases h
   rcases qFb n8 with ⟨h,_⟩ | ⟨g8,cp8,hv8,hn8⟩
   ·cases h
   rcases qFb n9 with ⟨h,_⟩ | ⟨g9,cp9,hv9,hn9⟩
   ·cases h
   have e7:w1.cell? ⟨g,22,none⟩=some (.slice (some ⟨g7,0,none⟩) 3 cp7):=(hc 22 _ rfl).trans (by rw[hv7];rfl)
   have e8:w1.cell? ⟨g,25,none⟩=some (.slice (some ⟨g8,0,none⟩) 1 cp8):=(hc 25 _ rfl).trans (by rw[hv8];rfl)
   have e9:w1.cell? ⟨g,28,none⟩=some (.slice (some ⟨g9,0,none⟩) 5 cp9):=(hc 28 _ rfl).trans (by rw[hv9];rfl)
   have q7:w1.cell? ⟨g7,1,none⟩=some (.int .i64 40):=hn7 1 (by simp)
   have q8:w1.cell? ⟨g8,0,none⟩=some (.int .i64 1):=hn8 0 (by simp)
   have q9:w1.cell? ⟨g9,0,none⟩=some (.int .i64 3):=hn9 0 (by simp)
   have r9:w1.cell? ⟨g9,1,none⟩=some (.int .i64 1):=hn9 1 (by simp)
   have HK1:=hide ((uh HK2).then hk1)
   rw[hv]
   clear hA hk1 hc n7 n8 n9 hn7 hn8 hn9 hv hv7 hv8 hv9 m7 m8 m9 hst1 hst2 hst3 v1 v2 v3 h1 h2 h3 HK HO HK2
   show _
   go_wp2
   go_ret
   exact⟨rfl,uh HK1⟩
end
section
theorem qT5{R L A:List It}{fr mk:Int}(hp:(R++L).Perm A)(hR:∀r∈R,r.t<=mk)(hL:∀y∈L,mk<y.t): (A.filter (λy=>decide (fr<y.t/\y.t<=mk))).Perm (R.filter (λy=>decide (fr<y.t))):=by
 refine(hp.filter _).symm.trans ?_
 rw[List.filter_append]
 have h1:L.filter (λy=>decide (fr<y.t/\y.t<=mk))=[]:=List.filter_eq_nil_iff.2 (λy hy=>by have:=hL y hy;simp;omega)
 have h2:R.filter (λy=>decide (fr<y.t/\y.t<=mk))=R.filter (λy=>decide (fr<y.t)):=List.filter_congr (λy hy=>by have:=hR y hy;simp;omega)
 rw[h1,h2,List.append_nil]
end
end Go.Proofs.YtahnliehdjncdaaGreatDoor
