import Derived.Test.YtahnliehdjncdabGreatDoorXBQ
import Derived.Test.YtahnliehdjncdabGreatDoorXBD
import Derived.Test.YtahnliehdjncdabGreatDoorXBN
import Derived.Test.YtahnliehdjncdabGreatDoorXAL
import Derived.Test.YtahnliehdjncdabGreatDoorXBE
import Derived.Test.YtahnliehdjncdabGreatDoorXBB
import Derived.Test.YtahnliehdjncdabGreatDoorXBO
import Derived.BigQuiet
import Derived.Deep.DeepCutAuto
set_option maxRecDepth 100000
set_option maxHeartbeats 16000000
namespace Go.Proofs.YtahnliehdjncdabGreatDoor
section
open Go.RowKit
theorem zCz(most:Int)(k W:Nat)(cs:List Int)(tl:List Nat)(hW:W<=16)(hm:most<=4611686018427387904)(hnn:∀i,0<=cs.getD i 0): ∀(n j:Nat) (s:FR),j+n=W->0<=s.sm->s.sm+qHb ((List.range' j n).map (λi=>cs.getD (k*16+i) 0))<=most->s.st=some (qBv ((List.range' j n).map (λi=>cs.getD (k*16+i) 0))++tl)->k*16+16<=48 ->
  (qFy most k n j s).sm=s.sm+qHb ((List.range' j n).map (λi=>cs.getD (k*16+i) 0))/\(qFy most k n j s).st=some tl/\(qFy most k n j s).p.no=s.p.no/\∀i,(qFy most k n j s).p.cs.getD i 0=if k*16+j<=i/\i<k*16+j+n then cs.getD i 0 else s.p.cs.getD i 0:=by
 intro n
 induction n with
 | zero =>
  intro j s _ _ _ hst _;refine⟨by simp[qFy,qHb],by rw[show(qFy most k 0 j s).st=s.st from rfl,hst];simp[qB8],rfl,λi=>by rw[if_neg (by omega)];rfl⟩
 | succ n ih =>
  intro j s hj s0 hs hst hk;rw[List.range'_succ,List.map_cons,qD2]at hs;rw[List.range'_succ,List.map_cons,qAz,List.append_assoc]at hst;have hv:=hnn (k*16+j)
  have hrest:0<=qHb ((List.range' (j+1) n).map (λi=>cs.getD (k*16+i) 0)):=qI4 _ (λx hx=>by
     obtain⟨i,_,rfl⟩:=List.mem_map.1 hx;exact hnn _)
  have hnum:qAu 0 (most-s.sm) s.st=(cs.getD (k*16+j) 0,some (qBv ((List.range' (j+1) n).map (λi=>cs.getD (k*16+i) 0))++tl)):=by
   rw[hst];exact qB6 _ hv (by omega) hv (by omega)
  have e:qFy most k (n+1) j s=qFy most k n (j+1) ⟨s.sm+cs.getD (k*16+j) 0,qV4 s.p (k*16+j) (cs.getD (k*16+j) 0),some (qBv ((List.range' (j+1) n).map (λi=>cs.getD (k*16+i) 0))++tl)⟩:=by
   show qFy most k n (j+1) ⟨s.sm+(qAu 0 (most-s.sm) s.st).1,qV4 s.p (k*16+j) (qAu 0 (most-s.sm) s.st).1,(qAu 0 (most-s.sm) s.st).2⟩=_;rw[hnum]
  obtain⟨i1,i2,i3,i4⟩:=ih (j+1) ⟨s.sm+cs.getD (k*16+j) 0,qV4 s.p (k*16+j) (cs.getD (k*16+j) 0),some (qBv ((List.range' (j+1) n).map (λi=>cs.getD (k*16+i) 0))++tl)⟩ (by omega) (by simp only;omega) (by simp only;omega) rfl hk;rw[e];refine⟨?_,i2,i3,λi=>?_⟩
  ·rw[i1,List.range'_succ,List.map_cons,qD2];simp only;omega
  ·rw[i4]
   simp only
   by_cases hi:i=k*16+j
   ·subst hi
    rw[if_neg (by omega),if_pos (by omega)];show(s.p.cs.set (k*16+j) _).getD (k*16+j) 0=_;rw[List.getD_eq_getElem?_getD,List.getElem?_set,if_pos rfl,if_pos (by rw[s.p.len];omega)];rfl
   ·have e2:(qV4 s.p (k*16+j) (cs.getD (k*16+j) 0)).cs.getD i 0=s.p.cs.getD i 0:=by
     show(s.p.cs.set (k*16+j) _).getD i 0=_;rw[List.getD_eq_getElem?_getD,List.getElem?_set,if_neg (by omega),<-List.getD_eq_getElem?_getD]
    rw[e2]
    by_cases h2:k*16+(j+1)<=i/\i<k*16+(j+1)+n
    ·rw[if_pos h2,if_pos (by omega)]
    ·rw[if_neg h2,if_neg (by omega)]
theorem zF2(W:Nat)(cs:List Int)(k:Nat): qJ9 W cs k=(List.range' 0 W).map (λi=>cs.getD (k*16+i) 0):=by
 unfold qJ9;rw[List.range_eq_range']
theorem qWk(R W:Nat)(cs:List Int): qEj R W cs=(List.range' 0 R).flatMap (qJ9 W cs):=by
 unfold qEj;rw[List.range_eq_range']
theorem qXy(most sm:Int)(R W:Nat)(cs:List Int)(tl:List Nat)(hR:R<=3)(hW:W<=16)(hm:most<=4611686018427387904)(hF:LdF R W most sm cs): ∀(n k:Nat) (s:FR),k+n=R->0<=s.sm->(k=0\/s.sm=sm)->s.st=some (qBv ((List.range' k n).flatMap (qJ9 W cs))++tl) ->
  ((qCn most W n k s).sm=if n=0 then s.sm else sm)/\(qCn most W n k s).st=some tl/\(qCn most W n k s).p.no=s.p.no/\∀i,(qCn most W n k s).p.cs.getD i 0=if k<=i/16/\i/16<k+n/\i%16<W then cs.getD i 0 else s.p.cs.getD i 0:=by
 intro n
 induction n with
 | zero=>intro k s _ _ _ hst;exact⟨by rw[if_pos rfl];rfl,by rw[show(qCn most W 0 k s).st=s.st from rfl,hst];simp[qB8],rfl,λi=>by rw[if_neg (by omega)];rfl⟩
 | succ n ih =>
  intro k s hk s0 hs hst;rw[List.range'_succ,List.flatMap_cons,qAp,List.append_assoc,zF2]at hst;have hrow:=hF.row k (by omega);rw[zF2]at hrow;have h1:=hF.s1;have h0:=hF.s0;obtain⟨r1,r2,r3,r4⟩:=zCz most k W cs (qBv ((List.range' (k+1) n).flatMap (qJ9 W cs))++tl) hW hm hF.nn W 0 ⟨0,s.p,s.st⟩ (by omega) (Int.le_refl _) (by simp only;omega) hst (by omega);rw[hrow]at r1;simp only at r1 r3 r4;have e:qCn most W (n+1) k s=qCn most W n (k+1) ⟨(qFy most k W 0 ⟨0,s.p,s.st⟩).sm,(qFy most k W 0 ⟨0,s.p,s.st⟩).p,qEo (decide (0<(qFy most k W 0 ⟨0,s.p,s.st⟩).sm)&&((k:Int)==0||(qFy most k W 0 ⟨0,s.p,s.st⟩).sm==s.sm)) (qFy most k W 0 ⟨0,s.p,s.st⟩).st⟩:=rfl;rw[e];have hc:∀st,qEo (decide (0<(qFy most k W 0 ⟨0,s.p,s.st⟩).sm)&&((k:Int)==0||(qFy most k W 0 ⟨0,s.p,s.st⟩).sm==s.sm)) st=st:=λst=>by
   unfold qEo;rw[if_pos];rw[r1];simp;omega
  rw[hc,r1,r2];obtain⟨i1,i2,i3,i4⟩:=ih (k+1) ⟨0+sm,(qFy most k W 0 ⟨0,s.p,s.st⟩).p,some (qBv ((List.range' (k+1) n).flatMap (qJ9 W cs))++tl)⟩ (by omega) (by simp only;omega) (.inr (by simp only;omega)) rfl;refine⟨?_,i2,by rw[i3];exact r3,λi=>?_⟩
  ·rw[i1,if_neg (show ¬n+1=0 by omega)]
   simp only
   split <;> omega
  ·rw[i4]
   simp only;rw[r4]
   by_cases h2:k+1<=i/16/\i/16<k+1+n/\i%16<W
   ·rw[if_pos h2,if_pos (by omega)]
   ·rw[if_neg h2]
    by_cases h3:k*16+0<=i/\i<k*16+0+W
    ·rw[if_pos h3,if_pos (by omega)]
    ·rw[if_neg h3,if_neg (by omega)]
theorem ext48{a b:List Int}(ha:a.length=48)(hb:b.length=48)(h:∀i,a.getD i 0=b.getD i 0): a=b:=by
 refine List.ext_getElem (by omega) (λi h1 h2=>?_);have:=h i
 rwa [List.getD_eq_getElem?_getD,List.getD_eq_getElem?_getD,List.getElem?_eq_getElem h1,List.getElem?_eq_getElem h2]at this
theorem zBg{most sm:Int}{R W:Nat}{cs:List Int}(tl:List Nat)(n:Int)(hl:cs.length=48)(hR1:1<=R)(hR:R<=3)(hW:W<=16)(hm:most<=4611686018427387904)(hF:LdF R W most sm cs):
  (qIu most R W (qNl n) (some (qBv (qEj R W cs)++tl))).sm=sm/\(qIu most R W (qNl n) (some (qBv (qEj R W cs)++tl))).st=some tl/\(qIu most R W (qNl n) (some (qBv (qEj R W cs)++tl))).p=⟨n,cs,hl⟩:=by
 rw[qWk];obtain⟨i1,i2,i3,i4⟩:=qXy most sm R W cs tl hR hW hm hF R 0 ⟨0,qNl n,some (qBv ((List.range' 0 R).flatMap (qJ9 W cs))++tl)⟩ (by omega) (Int.le_refl _) (.inl rfl) rfl;rw[if_neg (by omega)]at i1;refine⟨i1,i2,zFs i3 (ext48 (qCn most W R 0 _).p.len hl (λi=>?_))⟩;have h:=i4 i;have hz:¬(0<=i/16/\i/16<0+R/\i%16<W)->cs.getD i 0=0:=λhn=>hF.ze i (by omega)
 refine h.trans ?_
 by_cases h2:0<=i/16/\i/16<0+R/\i%16<W
 ·rw[if_pos h2]
 ·rw[if_neg h2,hz h2]
  exact qIa i
theorem zCe(R W:Nat)(M:Int)(tl:List Nat)(hR1:1<=R)(hR:R<=3)(hW:W<=16)(hM:M<=4611686018427387904): ∀(ps:List Pa.Pn) (lf le:Int) (s:Pa.Pn×List Pa.Pn),0<=le->lf<=4611686018427387904->(∀p,p∈ps->le<=p.no/\p.no<=M)->ps.Pairwise (λa b=>a.no<b.no)->(∀p,p∈ps->LdF R W (sP W p) (sP W p) p.cs)->qHb (ps.map (sP W))<=lf->(∀p,p∈ps->s.1.no≠p.no\/s.1.cs=qAw) ->
  (qIe R W M ps.length ⟨lf,le,s,some (qBv (ps.flatMap (λp=>p.no::qEj R W p.cs))++tl)⟩).s=ps.foldl zKa s/\(qIe R W M ps.length ⟨lf,le,s,some (qBv (ps.flatMap (λp=>p.no::qEj R W p.cs))++tl)⟩).st=some tl:=by
 intro ps
 induction ps with
 | nil=>intro lf le s _ _ _ _ _ _ _;exact⟨rfl,by simp[qIe,qB8]⟩
 | cons p ps ih =>
  intro lf le s l0 l1 hr ha hp hs hne;have h1:=hr p (by simp);have hF:=hp p (by simp);rw[List.map_cons,qD2]at hs
  have hrest:0<=qHb (ps.map (sP W)):=qI4 _ (λx hx=>by
     obtain⟨q,hq,rfl⟩:=List.mem_map.1 hx
     have:=(hp q (by simp[hq])).s0;omega)
  have hF2:LdF R W lf (sP W p) p.cs:=⟨hF.nn,hF.ze,hF.row,hF.s0,by omega⟩;rw[List.length_cons,List.flatMap_cons,qAp,qAz,List.append_assoc,List.append_assoc];unfold qIe;simp only[qB6 _ (show 0<=p.no by omega) (show p.no<=9223372036854775807 by omega) h1.1 h1.2];have ht:(qBp s.1 s.2 p.no).1=qNl p.no:=by
   unfold qBp
   split
   ·rename_i he
    rcases hne p (by simp) with h | h
    ·exact absurd he h
    ·exact zFs he h
   ·rfl
  rw[ht];obtain⟨f1,f2,f3⟩:=zBg (qBv (ps.flatMap (λp=>p.no::qEj R W p.cs))++tl) p.no p.len hR1 hR hW l1 hF2;rw[f1,f2,f3];have:=hF.s0
  exact ih (lf-sP W p) (p.no+1) (p,(qBp s.1 s.2 p.no).2) (by omega) (by omega) (λq hq=>by
     have h2:=(List.pairwise_cons.1 ha).1 q hq;exact⟨by omega,(hr q (by simp[hq])).2⟩) (List.pairwise_cons.1 ha).2 (λq hq=>hp q (by simp[hq])) (by omega) (λq hq=>by
     have h2:=(List.pairwise_cons.1 ha).1 q hq;left;show p.no≠q.no
     omega)
theorem zC6{c:Cfg}{m rel:Int}{ps:List Pa.Pn}(tl:List Nat)(h:LdO c c.rows.toNat c.width.toNat m rel ps)(hm0:0<=m\/ps=[])(hm:m<=4611686018427387904)(hml:-4611686018427387904<=m)(hrel:rel<=4611686018427387904)(hr1:1<=c.rows.toNat)(hr3:c.rows.toNat<=3)(hw:c.width.toNat<=16)(hp8:c.panes<=8)(hL:1<=qBd c):
  (qPv c m rel (some (qBv ((ps.length:Int)::qDw c ps)++tl))).s=qT5 ps/\(qPv c m rel (some (qBv ((ps.length:Int)::qDw c ps)++tl))).st=some tl:=by
 have hl:=h.len;rw[qAz,List.append_assoc];unfold qPv;simp only[qB6 _ (show 0<=(ps.length:Int) by omega) (show(ps.length:Int)<=9223372036854775807 by omega) (show 0<=(ps.length:Int) by omega) hl,Int.toNat_natCast];have hM:=zBs m (qBd c) hL hml hm;have hMe:∀p,p∈ps->p.no<=m.tdiv (qBd c):=λp hpm=>by
  rcases hm0 with h0 | h0
  ·rw[Int.tdiv_eq_ediv_of_nonneg h0];exact(h.rng p hpm).2
  ·rw[h0]at hpm;cases hpm
 exact zCe c.rows.toNat c.width.toNat _ tl hr1 hr3 hw hM.2 ps rel 0 (Pa.pn0,[]) (by omega) hrel (λp hp=>⟨(h.rng p hp).1,hMe p hp⟩) h.asc h.pan h.sum (λp hp=>.inr rfl)
def ser7: Ser:=qCh 7 c0 4
def B7: ByteArray:=qFr 0 [ser7]
theorem B7_ne: (B7.toList==qAa.toList)=false:=by
 have h:B7.size≠0:=by
  unfold B7 qFr;rw[qNc];unfold qOy qKd;simp[qFa]
 cases hb:(B7.toList==qAa.toList) with
 | false=>rfl
 | true =>
  have h2:B7.toList=qAa.toList:=by simpa using hb
  rw[ByteArray.toList_eq,ByteArray.toList_eq]at h2;exfalso;apply h;have h3:=congrArg List.length h2;exact h3
def l7(b:ByteArray): OpM:=⟨7,0,0,0,0,cz,b⟩
def o6: OpM:=⟨6,0,0,0,0,cz,qAa⟩
def qW6: List OpM:=[l7 B7,o5,l7 qAa]
theorem zGu: qI8 ws0 [o1,o6]=[(0,[]),(0,[])]:=by kernel_rfl
theorem two_bytes: qLo ws0 [o1,o6]=[qAa,B7]:=rfl
theorem zBj(ld:ByteArray->Option WS)(l:List OpM): ∀s:WS,qLi l->qLv ld s l=qI8 s l/\qE9 ld s l=qLo s l/\qH9 ld s l=qIf s l:=by
 induction l with
 | nil=>intro s _;exact⟨rfl,rfl,rfl⟩
 | cons o l ih =>
  intro s hok;have hs:stepG ld s o=qB7 s o:=by unfold stepG;rw[if_neg (hok o (by simp))]
  obtain⟨i1,i2,i3⟩:=ih (qB7 s o).1 (λo ho=>hok o (by simp[ho]));refine⟨?_,?_,?_⟩
  ·unfold qLv qI8;rw[hs,i1]
  ·unfold qE9 qLo;rw[hs,i2]
  ·unfold qH9 qIf;rw[hs,i3]
end
section
theorem zEu(s:WS)(o:OpM)(h:o.kind=2\/o.kind=3): (qB7 s o).1.xs.map (·.id)=s.xs.map (·.id):=by
 rcases h with h2 | h3
 ·have hs:qB7 s o=qUj s o:=by unfold qB7;rw[if_neg (by omega),if_pos h2]
  rw[hs];cases hf:qPr s.xs o.id with
  | none=>unfold qUj;rw[hf]
  | some x =>
   obtain⟨l1,l2,he,hx,hu⟩:=qXp hf;unfold qUj;rw[hf];simp only
   split
   ·show(qNm s.xs o.id (qTf x o.item)).map (·.id)=_
    rw[hu,he];simp[qTf]
   ·show(qNm s.xs o.id (qTy x _)).map (·.id)=_
    rw[hu,he];simp[qTy]
 ·have hs:qB7 s o=qJn s o:=by unfold qB7;rw[if_neg (by omega),if_neg (by omega),if_pos h3]
  rw[hs];unfold qJn
  split
  ·split
   ·show(qC6 _ _ _).1.map (·.id)=_
    rw[qXq,List.map_map];refine List.map_congr_left λx _=>?_
    exact(qWt _ _ _).2.2
   ·rfl
  ·rfl
end
section
open Go.RowKit
structure Fit (n:Int) (s:WS):Prop where
 i:EInv n s.clock s.xs
 x:EX s
 z:EZ s
 d:(s.xs.map (·.id)).Nodup
theorem Fit.zero: Fit 0 ws0:=⟨inv0,λx hx=>(by cases hx),λx hx=>(by cases hx),List.Pairwise.nil⟩
theorem zC2{s:WS}(o:OpM)(h:(s.xs.map (·.id)).Nodup)(h7:o.kind≠7): ((qB7 s o).1.xs.map (·.id)).Nodup:=by
 by_cases h23:o.kind=2\/o.kind=3
 ·rw[zEu s o h23];exact h
 ·have h2:o.kind≠2:=λe=>h23 (.inl e)
  have h3:o.kind≠3:=λe=>h23 (.inr e)
  unfold qB7
  split
  ·unfold qDq
   split
   ·rename_i hf
    split
    ·split
     ·show((s.xs++[qCh o.id o.cfg o.cfg.kind.toNat]).map (·.id)).Nodup
      rw[List.map_append];refine List.nodup_append.2 ⟨h,by simp,λa ha b hb=>?_⟩;obtain⟨x,hx,rfl⟩:=List.mem_map.1 ha;have hb':b=o.id:=by simpa[qCh] using hb
      have h9:=List.find?_eq_none.1 (Option.isNone_iff_eq_none.1 hf.2) x hx;rw[hb'];simpa using h9
     ·exact h
    ·exact h
   ·exact h
  ·split
   ·unfold qHl
    split <;> exact h
   ·split
    ·unfold qHj
     split <;> exact h
    ·split <;> exact h
theorem Fit.step{n:Int}{s:WS}(h:Fit n s)(hn0:0<=n)(hn:n<=1000000000000)(o:OpM)(h7:o.kind≠7): Fit (n+1) (qB7 s o).1 :=
 ⟨qJk o h.i hn0 (qGx h7),qPf o h.x h.i (λe=>absurd e h7),zC1 o h.z h.i (by omega) h7,zC2 o h.d h7⟩
theorem Fit.mono{n m:Int}{s:WS}(h:Fit n s)(hm:n<=m): Fit m s:=⟨h.i.mono hm,h.x,h.z,h.d⟩
theorem Fit.end'(l:List OpM): ∀ {n:Int} {s:WS},Fit n s->0<=n->n+l.length<=1000000000000->qLi l->Fit (n+l.length) (qIf s l):=by
 induction l with
 | nil=>intro n s h _ _ _;exact h.mono (by simp)
 | cons o l ih =>
  intro n s h hn0 hn hok;rw[List.length_cons]at hn;have:=ih (h.step hn0 (by omega) o (hok o (by simp))) (by omega) (by omega) (λo ho=>hok o (by simp[ho]));rw[List.length_cons];exact this.mono (by omega)
theorem ldN_1(c:Cfg)(m acc rel:Int)(ns:List Int)(st:Option (List Nat)): ldN 1 c m acc rel ns st=({ qC8 with bs:=(qUw c.k m rel st).1 },(qUw c.k m rel st).2):=rfl
theorem ldN_2(c:Cfg)(m acc rel:Int)(ns:List Int)(st:Option (List Nat)): ldN 2 c m acc rel ns st=({ qC8 with rg:=(qXb m rel (qFz c) st).1 },(qXb m rel (qFz c) st).2):=rfl
theorem ldN_3(c:Cfg)(m acc rel:Int)(ns:List Int)(st:Option (List Nat)): ldN 3 c m acc rel ns st=({ qC8 with op:=(qPv c m rel st).s.1,cl:=(qPv c m rel st).s.2 },(qPv c m rel st).st):=rfl
theorem ldN_4(c:Cfg)(m acc rel:Int)(ns:List Int)(st:Option (List Nat)): ldN 4 c m acc rel ns st=({ qC8 with q:=(qYl rel st).1.1,r:=(qYl rel st).1.2 },(qYl rel st).2):=rfl
theorem ldN_5(c:Cfg)(m acc rel:Int)(ns:List Int)(st:Option (List Nat)): ldN 5 c m acc rel ns st=({ qC8 with tk:=(qV1 c m acc rel ns st).tk },(qV1 c m acc rel ns st).st):=rfl
theorem zGw{n clock:Int}{x:Ser}(tl:List Nat)(h:Good n clock x): ∃nt,ldN x.k (qDg x.k x.c) (clock-(qDg x.k x.c).lag) x.acc x.rel ((Qi.allL (x.l.length+1) x.l).map (·.n)) (some (qBv (qG6 x.k x.c x.nt (clock-x.c.lag))++tl))=(nt,some tl)/\qG6 x.k (qDg x.k x.c) nt (clock-x.c.lag)=qG6 x.k (qDg x.k x.c) (zFp x.k (qDg x.k x.c) (clock-x.c.lag) x.nt) (clock-x.c.lag):=by
 have hh:=qJb x.k x.c h.i.k1 h.i.k5;have hcm:=h.i.common;have hc0:=h.c0;have hc1:=h.c1;have hr:=h.rel;have hacc:x.acc<=4611686018427387904:=h.sx.accm;rw[hh.2.1];obtain⟨k,ek⟩:∃k,x.k=k:=⟨_,rfl⟩;have h1:=h.i.k1;have h5:=h.i.k5;rcases five h1 h5 with e | e | e | e | e
 ·have hv:=qBx h.i.valid h.i.kind e
  obtain⟨gs,g1,g2,g3⟩:=h.cnt e;have hk:(qDg 1 x.c).k=x.c.k:=rfl;have hsv:qG6 1 x.c x.nt (clock-x.c.lag)=(gs.length:Int)::qI3 gs:=by
   unfold qG6;rw[if_neg (by omega),if_pos rfl,g2]
  rw[e,hsv];refine⟨{ qC8 with bs:=qFm gs },?_,?_⟩
  ·rw[ldN_1,hk,zDy tl g3 (by omega) (by omega) (by omega) (by omega)]
  ·rw[<-g1];rfl
 ·have hsv:qG6 2 x.c x.nt (clock-x.c.lag)=qPd (λj=>qD6 x.c (clock-x.c.lag) (x.nt.rg j)) (qFz x.c) 0:=by
   unfold qG6;rw[if_neg (by omega),if_neg (by omega),if_pos rfl,zCl]
  have hreg:qFz (qDg 2 x.c)=qFz x.c:=rfl;obtain⟨ls,l1,l2⟩:=zDi tl (h.dis e) (by omega);rw[e,hsv];refine⟨{ qC8 with rg:=ls },?_,?_⟩
  ·rw[ldN_2,hreg,l1]
  ·show qOt ls (qFz (qDg 2 x.c)) _=qOt (λj=>qD6 (qDg 2 x.c) (clock-x.c.lag) (x.nt.rg j)) (qFz (qDg 2 x.c)) _
   have hfm:∀(f g:Nat->List Int) (l:List Nat),(∀i,i∈l->f i=g i)->l.flatMap f=l.flatMap g:=λf g l=>by
    induction l with
    | nil=>intro _;rfl
    | cons a l ih=>intro hh;rw[List.flatMap_cons,List.flatMap_cons,hh a (by simp),ih (λi hi=>hh i (by simp[hi]))]
   exact hfm _ _ _ (λi hi=>by
      rw[l2 i (by rw[<-hreg];exact List.mem_range.1 hi)]
      rfl)
 ·obtain⟨o1,o2⟩:=h.oft e
  have hv:=qH1 h.i.valid h.i.kind e;have hL:=(qBq h.i.valid h.i.kind e).2.2.1;have hsv:qG6 3 x.c x.nt (clock-x.c.lag)=((qBb x.c x.nt.op x.nt.cl (clock-x.c.lag-x.c.window)).length:Int)::qDw x.c (qBb x.c x.nt.op x.nt.cl (clock-x.c.lag-x.c.window)):=by
   unfold qG6;rw[if_neg (by omega),if_neg (by omega),if_neg (by omega),if_pos rfl];rfl
  have ho:∀st,qPv (qDg 3 x.c) (clock-x.c.lag) x.rel st=qPv x.c (clock-x.c.lag) x.rel st:=λst=>rfl
  obtain⟨f1,f2⟩:=zC6 tl o1 o2 (by omega) (by omega) (by omega) (by omega) (by omega) (by omega) (by omega) (by omega);rw[e,hsv];refine⟨{ qC8 with op:=(qT5 (qBb x.c x.nt.op x.nt.cl (clock-x.c.lag-x.c.window))).1,cl:=(qT5 (qBb x.c x.nt.op x.nt.cl (clock-x.c.lag-x.c.window))).2 },?_,rfl⟩;rw[ldN_3,ho,f1,f2]
 ·have hd:=h.dec e
  have hsv:qG6 4 x.c x.nt (clock-x.c.lag)=[x.nt.q,x.nt.r]:=by unfold qG6;rw[if_pos rfl]
  rw[e,hsv];have n0:=h.i.note.q0;have n1:=h.i.note.qn;have n2:=h.i.note.r0;have n3:=h.i.note.r1;refine⟨{ qC8 with q:=x.nt.q,r:=x.nt.r },?_,rfl⟩;rw[ldN_4,zDt tl n0 n1 (by omega) n2 (by omega) hd.1 hd.2]
 ·have hT:=h.drw e
  have hsv:qG6 5 x.c x.nt (clock-x.c.lag)=qP1 ((Dr.allL (x.nt.tk.length+1) x.nt.tk).map unT):=by
   unfold qG6;rw[if_neg (by omega),if_neg (by omega),if_neg (by omega),if_neg (by omega),if_pos rfl,qW0]
  have hT2:LdT (qDg 5 x.c) (clock-x.c.lag) x.acc x.rel ((Qi.allL (x.l.length+1) x.l).map (·.n)) ((Dr.allL (x.nt.tk.length+1) x.nt.tk).map unT) :=
   ⟨hT.len,hT.num,hT.nod,hT.rng,λy hy=>by rw[zE3 5 x.c y (by omega) (by omega)];exact hT.ref y hy⟩
  rw[e,hsv];refine⟨{ qC8 with tk:=((Dr.allL (x.nt.tk.length+1) x.nt.tk).map unT).foldl (qG4 (qDg 5 x.c)) [] },?_,rfl⟩;rw[ldN_5,zEs tl hT2 (by omega) hacc]
theorem zC5{n clock:Int}{x:Ser}(tl:List Nat)(h:Good n clock x): ∃y,qQr clock (some (qBv (qC5 clock x)++tl))=(some y,some tl)/\y.id=x.id/\qC5 clock (qSz clock y)=qC5 clock x:=by
 have hl:=h.ld;have hit:=h.its;have hr:=h.rel;have hcm:=h.i.common;have hlen:=(qHc (x.l.length+1) x.l (by omega) h.i.heap).length_eq;have hacc:x.rel+(x.l.length:Int)=x.acc:=h.i.rela;have haccm:x.acc<=4611686018427387904:=h.sx.accm;have hcap:=hl.cap;obtain⟨nt,n1,n2⟩:=zGw tl h;have hn:qC5 clock x=qI5 x++(qG2 x.k (Qi.allL (x.l.length+1) x.l)++qG6 x.k x.c x.nt (clock-x.c.lag)):=rfl;have hh:qI5 x=x.id::(qBt x.k x.c++(qCm.map (qAx x.ref)++[x.rel,(x.l.length:Int)])):=rfl;obtain⟨c1,c2,c3,c4⟩:=zDc h.i h.sx h.z;refine⟨⟨x.id,qDg x.k x.c,x.k,x.acc,x.rel,qIg x.ref 7,qI6 x.k (Qi.allL (x.l.length+1) x.l),nt,0⟩,?_,rfl,?_⟩
 ·rw[hn,hh]
  simp only[qAp,qAz,List.append_assoc,List.cons_append,List.nil_append];unfold qQr;simp only[qB6 _ hl.id0.1 (show x.id<=9223372036854775807 by have:=hl.id0;omega) hl.id0.1 hl.id0.2,zFa _ hl.cfg hl.p0 hl.p3 hl.kind hl.k1 hl.k5 hl.valid,if_true];unfold qUy;have hw:qAu 0 (qQ1 (qDg x.k x.c).cap (4611686018427387904-x.rel)) (some (enc (x.l.length:Int)++(qBv (qG2 x.k (Qi.allL (x.l.length+1) x.l))++(qBv (qG6 x.k x.c x.nt (clock-x.c.lag))++tl))))=((x.l.length:Int),some (qBv (qG2 x.k (Qi.allL (x.l.length+1) x.l))++(qBv (qG6 x.k x.c x.nt (clock-x.c.lag))++tl))):=by
   have h9:=hit.cap;refine qB6 _ (by omega) (by omega) (by omega) ?_;unfold qQ1
   split <;> omega
  simp only[zBt x.ref _ hl.ref,qB6 _ hl.rel0 (show x.rel<=9223372036854775807 by omega) hl.rel0 hl.rel1,hw,Int.toNat_natCast,hacc];have hi:=zDq ⟨x.id,qDg x.k x.c,x.k,0,x.rel,qIg x.ref 7,[],qC8,0⟩ clock x.acc (qBv (qG6 x.k x.c x.nt (clock-x.c.lag))++tl) hl.k1 hl.k5 haccm (Qi.allL (x.l.length+1) x.l) [] hit.bd (λy hy=>by have:=hit.num y hy;rw[hlen,hacc]at this;exact this) hit.nod (λi y hy=>hit.ref i y hy);rw[hlen]at hi;have hb0:qI6 x.k []=[]:=rfl;rw[List.nil_append,List.map_nil]at hi;rw[show qI6 (Ser.k ⟨x.id,qDg x.k x.c,x.k,0,x.rel,qIg x.ref 7,[],qC8,0⟩) []=[] from rfl]at hi;simp only at hi;rw[hi];simp only[n1];rfl
 ·rw[<-c4.nums h.i c1 h.z c3]
  unfold qC5 qI5;show x.id::(qBt x.k (qDg x.k x.c)++(qCm.map (qAx (qIg x.ref 7))++[x.rel,((qI6 x.k (Qi.allL (x.l.length+1) x.l)).length:Int)]))++(qG2 x.k _++qG6 x.k (qDg x.k x.c) nt (clock-(qDg x.k x.c).lag))=x.id::(qBt x.k (qDg x.k x.c)++(qCm.map (qAx (qIg x.ref 7))++[x.rel,((qI6 x.k (Qi.allL (x.l.length+1) x.l)).length:Int)]))++(qG2 x.k _++qG6 x.k (qDg x.k x.c) (zFp x.k (qDg x.k x.c) (clock-x.c.lag) x.nt) (clock-(qDg x.k x.c).lag));have hlg:=(qJb x.k x.c h.i.k1 h.i.k5).2.1;rw[hlg,n2];rfl
theorem zAy{n clock:Int}(tl:List Nat): ∀(xs ys:List Ser),(∀x,x∈xs->Good n clock x)->((ys++xs).map (·.id)).Nodup->∃zs,qLk clock xs.length ys (some (qBv (qD4 clock xs)++tl))=(some (ys++zs),some tl)/\qD4 clock zs=qD4 clock xs/\zs.length=xs.length:=by
 intro xs
 induction xs with
 | nil=>intro ys _ _;exact⟨[],by rw[List.append_nil];simp[qLk,qD4,qB8],rfl,rfl⟩
 | cons x xs ih =>
  intro ys hg hd;have e:qD4 clock (x::xs)=qC5 clock x++qD4 clock xs:=rfl;obtain⟨y,y1,y2,y3⟩:=zC5 (qBv (qD4 clock xs)++tl) (hg x (by simp));rw[e,qAp,List.append_assoc,List.length_cons];unfold qLk;simp only[y1];have hid:(qSz clock y).id=x.id:=y2;have hf:(ys.find? (λz=>z.id==y.id)).isSome=false:=by
   rw[Option.isSome_eq_false_iff,Option.isNone_iff_eq_none,List.find?_eq_none];intro z hz hc;rw[List.map_append,List.map_cons]at hd;exact(List.nodup_append.1 hd).2.2 z.id (List.mem_map_of_mem hz) x.id (by simp) (by rw[<-y2];simpa using hc)
  rw[if_neg (by rw[hf];simp)]
  obtain⟨zs,z1,z2,z3⟩:=ih (ys++[qSz clock y]) (λz hz=>hg z (by simp[hz])) (by
     rw[List.append_assoc,List.map_append,List.singleton_append,List.map_cons,hid];rw[List.map_append,List.map_cons]at hd
     exact hd)
  refine⟨qSz clock y::zs,?_,?_,by rw[List.length_cons,z3]⟩
  ·rw[z1,List.append_assoc];rfl
  ·show qC5 clock (qSz clock y)++qD4 clock zs=_
   rw[y3,z2]
theorem qYq(l:List Nat)(h:∀b,b∈l->b<256): qLn (qE4 (qFa++l))=some l:=by
 have hb:bytesOf (qE4 (qFa++l))=qFa++l:=qRa _ (λb hb=>by
    rcases List.mem_append.1 hb with h1 | h1
    ·exact qL0 b h1
    ·exact h b h1)
 have hd:(qE4 (qFa++l)).data.toList.map UInt8.toNat=qFa++l:=hb;have hu:qGr (qE4 (qFa++l))=qKe:=by
  have h1:(qE4 (qFa++l)).data.toList.take 8=qKe:=by
   have h2:((qE4 (qFa++l)).data.toList.take 8).map UInt8.toNat=qKe.map UInt8.toNat:=by
    rw[List.map_take,hd,List.take_left' (by rfl)];rfl
   exact List.map_inj_right (λa b hab=>UInt8.toNat_inj.1 hab) |>.1 h2
  unfold qGr;rw[h1];rfl
 unfold qLn;rw[if_pos hu,hb,List.drop_left' (by rfl)]
theorem zA5(v:Int): ∀gs:List (List Int),v∈qI3 gs->(∃g,g∈gs/\v=(g.length:Int))\/∃b,b∈qFm gs/\v=b.t:=by
 intro gs
 induction gs with
 | nil=>intro h;cases h
 | cons g gs ih =>
  intro h;rcases List.mem_cons.1 h with e | h
  ·exact .inl ⟨g,by simp,e⟩
  ·rcases List.mem_append.1 h with h | h
   ·exact .inr ⟨⟨2 ^ gs.length,v⟩,List.mem_append_left _ (List.mem_map_of_mem h),rfl⟩
   ·rcases ih h with ⟨g',h1,h2⟩ | ⟨b,h1,h2⟩
    ·exact .inl ⟨g',by simp[h1],h2⟩
    ·exact .inr ⟨b,List.mem_append_right _ h1,h2⟩
theorem zB3(lv:Nat->List Bk)(v:Int): ∀n s,v∈qPd lv n s->(∃i,v=((lv i).length:Int))\/∃i b,b∈lv i/\(v=b.sz\/v=b.t):=by
 intro n
 induction n with
 | zero=>intro s h;cases h
 | succ n ih =>
  intro s h;rcases List.mem_cons.1 h with e | h
  ·exact .inl ⟨s,e⟩
  ·rcases List.mem_append.1 h with h | h
   ·obtain⟨b,hb,h2⟩:=List.mem_flatMap.1 h
    exact .inr ⟨s,b,hb,by simpa using h2⟩
   ·exact ih (s+1) h
theorem qWz: ∀(l:List Int) (v:Int),(∀x,x∈l->0<=x)->v∈l->v<=qHb l:=by
 intro l
 induction l with
 | nil=>intro v _ h;cases h
 | cons a l ih =>
  intro v hn h;have h1:=qI4 l (λx hx=>hn x (by simp[hx]));rw[qD2];rcases List.mem_cons.1 h with e | h
  ·omega
  ·have:=ih v (λx hx=>hn x (by simp[hx])) h
   have:=hn a (by simp);omega
theorem zGp{n clock:Int}{x:Ser}(h:Good n clock x)(v:Int)(hv:v∈qG6 x.k x.c x.nt (clock-x.c.lag)): v<=9223372036854775807:=by
 have hcm:=h.i.common;have hc0:=h.c0;have hc1:=h.c1;have hr:=h.rel;have hacc:x.acc<=4611686018427387904:=h.sx.accm;rcases five h.i.k1 h.i.k5 with e | e | e | e | e
 ·obtain⟨gs,g1,g2,g3⟩:=h.cnt e
  have hk:=qBx h.i.valid h.i.kind e;unfold qG6 at hv;rw[e,if_neg (by omega),if_pos rfl,g2]at hv;rcases List.mem_cons.1 hv with e | hv
  ·have:=g3.len;omega
  ·rcases zA5 v gs hv with ⟨g,h1,h2⟩ | ⟨b,h1,h2⟩
   ·have:=g3.cnt g h1;omega
   ·have:=g3.tm b h1;omega
 ·unfold qG6 at hv
  rw[e,if_neg (by omega),if_neg (by omega),if_pos rfl,zCl]at hv;have hd:=h.dis e;rcases zB3 _ v _ _ hv with ⟨i,h2⟩ | ⟨i,b,h1,h2⟩
  ·have:=hd.len i;omega
  ·have:=hd.tm i b h1;omega
 ·obtain⟨o1,_⟩:=h.oft e
  have hq:=qH1 h.i.valid h.i.kind e;have hL:=(qBq h.i.valid h.i.kind e).2.2.1;unfold qG6 at hv;rw[e,if_neg (by omega),if_neg (by omega),if_neg (by omega),if_pos rfl]at hv;unfold zFf at hv;rcases List.mem_cons.1 hv with e | hv
  ·have:=o1.len;omega
  ·obtain⟨p,hp,hv⟩:=List.mem_flatMap.1 hv
   rcases List.mem_cons.1 hv with e | hv
   ·have h1:=(o1.rng p hp).2
    have h2:(clock-x.c.lag)/qBd x.c<=4611686018427387904:=Int.ediv_le_of_le_mul (by omega) (by
       have:=Int.mul_le_mul_of_nonneg_left (show(1:Int)<=qBd x.c by omega) (show(0:Int)<=4611686018427387904 by omega)
       omega)
    omega
   ·have hF:=o1.pan p hp
    rw[qWk]at hv;obtain⟨j,hj,hv⟩:=List.mem_flatMap.1 hv;have hjr:j<x.c.rows.toNat:=by simpa using hj
    have h1:=qWz (qJ9 x.c.width.toNat p.cs j) v (λy hy=>by
       obtain⟨i,_,rfl⟩:=List.mem_map.1 hy;exact hF.nn _) hv
    rw[hF.row j hjr]at h1
    have h2:=qWz ((qBb x.c x.nt.op x.nt.cl (clock-x.c.lag-x.c.window)).map (sP x.c.width.toNat)) (sP x.c.width.toNat p) (λy hy=>by
       obtain⟨q,hq,rfl⟩:=List.mem_map.1 hy
       have:=(o1.pan q hq).s0;omega) (List.mem_map_of_mem hp)
    have h3:=o1.sum;omega
 ·unfold qG6 at hv
  rw[e,if_pos rfl]at hv;have n1:=h.i.note.qn;have n3:=h.i.note.r1;have h9:v=x.nt.q\/v=x.nt.r:=by simpa using hv
  rcases h9 with e | e <;> omega
 ·unfold qG6 at hv
  rw[e,if_neg (by omega),if_neg (by omega),if_neg (by omega),if_neg (by omega),if_pos rfl,<-qW0]at hv;obtain⟨y,hy,hv⟩:=List.mem_flatMap.1 hv;have hT:=h.drw e;have h1:=hT.num y hy;have h2:=hT.rng y hy;have h9:v=y.n\/v=y.t\/v=y.k\/v=y.d:=by simpa using hv
  rcases h9 with e | e | e | e <;> omega
theorem qYv{n clock:Int}{x:Ser}(h:Good n clock x)(v:Int)(hv:v∈qC5 clock x): v<=9223372036854775807:=by
 have hl:=h.ld;have hr:=h.rel;unfold qC5 qI5 at hv;rcases List.mem_append.1 hv with hv | hv
 ·rcases List.mem_cons.1 hv with e | hv
  ·have:=hl.id0;omega
  ·rcases List.mem_append.1 hv with hv | hv
   ·exact(hl.cfg v hv).2
   ·rcases List.mem_append.1 hv with hv | hv
    ·obtain⟨j,_,rfl⟩:=List.mem_map.1 hv
     have:=hl.ref j;omega
    ·have h9:v=x.rel\/v=(x.l.length:Int):=by simpa using hv
     have:=h.ok.len;omega
 ·rcases List.mem_append.1 hv with hv | hv
  ·exact(h.its.bd v hv).2
  ·exact zGp h v hv
theorem qT6{n:Int}{s:WS}(h:Fit n s)(hn:n<=1000000000000): qBs (qN7 s)≠none:=by
 have hg:∀x,x∈s.xs->Good n s.clock x:=λx hx=>⟨h.i.sers x hx,h.x x hx,h.z x hx,h.i.c0,h.i.c1,hn⟩
 have hsh:=qU4 (qKd s.clock s.xs);have hall:∀v,v∈qD4 s.clock s.xs->v<=9223372036854775807:=λv hv=>by
  obtain⟨x,hx,hv⟩:=List.mem_flatMap.1 hv;exact qYv (hg x hx) v hv
 have h6:=h.i.six;have hb:∀b,b∈qBv (qEl s.clock s.xs)++enc (qNk (qKd s.clock s.xs))->b<256:=λb hb=>by
  rcases List.mem_append.1 hb with h1 | h1
  ·obtain⟨v,hv,hb⟩:=List.mem_flatMap.1 h1
   refine qM5 v ?_ b hb;have hv2:v=s.clock\/v=(s.xs.length:Int)\/v∈qD4 s.clock s.xs:=by simpa[qEl] using hv
   rcases hv2 with e | e | e
   ·have:=h.i.c1;omega
   ·omega
   ·exact hall v e
  ·exact qM5 _ (by omega) b h1
 have hnew:qLn (qN7 s)=some (enc s.clock++(enc (s.xs.length:Int)++(qBv (qD4 s.clock s.xs)++enc (qNk (qKd s.clock s.xs))))):=by
  have e1:qN7 s=qE4 (qFa++(qBv (qEl s.clock s.xs)++enc (qNk (qKd s.clock s.xs)))):=by
   show qE4 (qKd s.clock s.xs++_)=_;unfold qKd;rw[List.append_assoc]
  rw[e1,qYq _ hb];unfold qEl;rw[qAz,qAz,List.append_assoc,List.append_assoc]
 obtain⟨zs,z1,z2,z3⟩:=zAy (enc (qNk (qKd s.clock s.xs))) s.xs [] hg (by rw[List.nil_append];exact h.d);have h0:=h.i.c0;have h1:=h.i.c1;unfold qBs;simp only[hnew,qB6 _ h0 (show s.clock<=9223372036854775807 by omega) h0 h1,qB6 _ (show 0<=(s.xs.length:Int) by omega) (show(s.xs.length:Int)<=9223372036854775807 by omega) (show 0<=(s.xs.length:Int) by omega) (show(s.xs.length:Int)<=6 by omega),Int.toNat_natCast,z1,List.nil_append];have hs:qFr s.clock zs=qN7 s:=by
  show qE4 (qOy s.clock zs)=qE4 (qOy s.clock s.xs);have hw:qEl s.clock zs=qEl s.clock s.xs:=by unfold qEl;rw[z2,z3]
  unfold qOy qKd;rw[hw]
 rw[if_neg (by simp),if_pos hs];simp
end
section
open Go.RowKit
attribute [local go_sem ↓] qAd qAe qDb
attribute [local go_sem] qAf qAl qAb qAc qAn qAm qAi qAj
theorem zGg(B:ByteArray)(w:World): (qCw 34 #[(0,.int .i64 7),(6,.string B)]).run Tryz.prog w=.ok (.value (.agg (l7 B).cells.toArray)) w:=by kernel_rfl
theorem zG1(w:World): (qCw 34 #[(0,.int .i64 6)]).run Tryz.prog w=.ok (.value (.agg o6.cells.toArray)) w:=by kernel_rfl
theorem zG0(w:World)(a b:OpM): (qY5 22 2 #[(0,.agg a.cells.toArray),(1,.agg b.cells.toArray)]).run Tryz.prog w=.ok (.value (.slice (some ⟨w.heap.size,0,none⟩) 2 2)) (w.alloc (.cells (a.cells++b.cells).toArray 34)):=by kernel_rfl
theorem qUh{w:World}{g:Nat}{a b:OpM}(h:Blk w g (a.cells++b.cells) 34): ScriptW w (.slice (some ⟨g,0,none⟩) 2 2) [a,b]:=by
 refine .inr ⟨g,0,2,rfl,by simp,?_,h.lt⟩;intro i x hx j u hu;have hi:=(List.getElem?_eq_some_iff.1 hx).1;have hj:j<26:=by have:=(List.getElem?_eq_some_iff.1 hu).1;exact this
 have hi':i=0\/i=1:=by simp at hi;omega
 rcases hi' with e | e
 ·subst e
  have:a=x:=by simpa using hx
  subst this;have h1:(a.cells++b.cells)[j]?=some u:=by rw[List.getElem?_append_left (by exact hj)];exact hu
  have:=h.cell h1;simpa using this
 ·subst e
  have:b=x:=by simpa using hx
  subst this;have h1:(a.cells++b.cells)[26+j]?=some u:=by
   rw[List.getElem?_append_right (by show 26<=26+j;omega)];show b.cells[26+j-26]?=_;rw[Nat.add_sub_cancel_left];exact hu
  have:=h.cell h1;simpa using this
theorem zGy(W:World): (Instr.sliceAt 22 (.slice none 0 0) none (some (.int .i64 0)) none).run Tryz.prog W=.ok (.slice none 0 0) W:=by kernel_rfl
theorem zHs(W:World): (Instr.sliceAt 22 (.slice none 0 0) (some (.int .i64 0)) none none).run Tryz.prog W=.ok (.slice none 0 0) W:=by kernel_rfl
theorem zAd(g L cap k:Nat)(W:World)(h:k<=cap): (Instr.sliceAt 22 (.slice (some ⟨g,0,none⟩) L cap) none (some (.int .i64 k)) none).run Tryz.prog W=.ok (.slice (some ⟨g,0,none⟩) k cap) W:=by
 have h2:(k:Int)<=(cap:Int):=by omega
 simp[go_sem,h2]
theorem zIa(g L cap k:Nat)(W:World)(h:k<=L)(hc:k<cap): (Instr.sliceAt 22 (.slice (some ⟨g,0,none⟩) L cap) (some (.int .i64 k)) none none).run Tryz.prog W=.ok (.slice (some ⟨g,k*26,none⟩) (L-k) (cap-k)) W:=by
 have h2:(k:Int)<=(L:Int):=by omega
 have h3:cap≠k:=by omega
 simp[go_sem,h2,h3]
theorem zJ2(g L:Nat)(W:World): (Instr.sliceAt 22 (.slice (some ⟨g,0,none⟩) L L) (some (.int .i64 L)) none none).run Tryz.prog W=.ok (.slice (some ⟨g,0,none⟩) 0 0) W:=by
 simp[go_sem]
theorem qT2{w:World}{sb so:Nat}{ops:List OpM}(h:ScriptAt w sb so ops)(k:Nat): ScriptAt w sb (so+k*26) (ops.drop k):=by
 intro i o ho;rw[List.getElem?_drop]at ho;have:=h (k+i) o ho
 rwa [show so+(k+i)*26=so+k*26+i*26 by omega]at this
theorem qUt{w:World}{sb so:Nat}{ops:List OpM}(h:ScriptAt w sb so ops)(k:Nat): ScriptAt w sb so (ops.take k):=by
 intro i o ho;rw[List.getElem?_take]at ho
 split at ho
 ·exact h i o ho
 ·cases ho
theorem qX4{w:World}{base:Nat}{sv:Value}{s:List OpM}(h:zA8 w base sv s)(k:Nat)(hk:k<=s.length):
  ∃sa sc ta tc da dc,sv=.slice sa s.length sc/\(∀W,(Instr.sliceAt 22 (.slice sa s.length sc) none (some (.int .i64 k)) none).run Tryz.prog W=.ok (.slice ta k tc) W)/\(∀W,(Instr.sliceAt 22 (.slice sa s.length sc) (some (.int .i64 k)) none none).run Tryz.prog W=.ok (.slice da (s.length-k) dc) W)/\ScriptW w (.slice ta k tc) (s.take k)/\ScriptW w (.slice da (s.length-k) dc) (s.drop k):=by
 rcases qOh h with ⟨e1,e2⟩ | ⟨g,cap,e1,hcap,hsc,hlt,_,_⟩
 ·subst e2
  have hk0:k=0:=by simpa using hk
  subst hk0;exact⟨none,0,none,0,none,0,e1,zGy,zHs,.inl ⟨⟨_,_,rfl⟩,rfl⟩,.inl ⟨⟨_,_,rfl⟩,rfl⟩⟩
 ·have hkl:(s.take k).length=k:=by rw[List.length_take];omega
  have hT:ScriptW w (.slice (some ⟨g,0,none⟩) k cap) (s.take k):=.inr ⟨g,0,cap,by rw[hkl],by omega,qUt hsc k,hlt⟩
  by_cases hck:k<cap
  ·refine⟨some ⟨g,0,none⟩,cap,some ⟨g,0,none⟩,cap,some ⟨g,k*26,none⟩,cap-k,e1,λW=>zAd g _ cap k W (by omega),λW=>zIa g _ cap k W hk hck,hT,?_⟩
   have:=qT2 hsc k;rw[Nat.zero_add]at this;exact .inr ⟨g,k*26,cap-k,by rw[List.length_drop],by rw[List.length_drop];omega,this,hlt⟩
  ·have e:s.length=k:=by omega
   have e2:cap=k:=by omega
   subst e2;refine⟨some ⟨g,0,none⟩,cap,some ⟨g,0,none⟩,cap,some ⟨g,0,none⟩,0,e1,λW=>zAd g _ cap cap W (by omega),λW=>?_,hT,.inl ⟨⟨_,_,by rw[e,Nat.sub_self]⟩,List.drop_eq_nil_of_le (by omega)⟩⟩;rw[e,Nat.sub_self];exact zJ2 g cap W
theorem zGh(b1 b2:Nat)(code:Int)(bs:ByteArray)(v1 v2:Value)(l:List Int)(w:World)(h1:w.ownsRow b1 3 1 v1 l.length (ints l))(h2:w.ownsRow b2 3 1 v2 l.length (ints l))(hl:l.length<=1000):
  Calls Tryz.prog 13 #[.agg #[.int .i64 code,v1,.string bs],.agg #[.int .i64 code,v2,.string bs]] w λe w'=>e=.returned (.bool true)/\Keeps (λ_=>False) w w':=by
 have HK:=hide (((Keeps.refl (λ_=>False) w).alloc (.cells #[.int .i64 code,v1,.string bs] 38)).alloc (.cells #[.int .i64 code,v2,.string bs] 38));have HA:=hide (show Blk ((w.alloc (.cells #[.int .i64 code,v1,.string bs] 38)).alloc (.cells #[.int .i64 code,v2,.string bs] 38)) w.heap.size [.int .i64 code,v1,.string bs] 38 from(Blk.new w [_,_,_] 38).alloc _);have HB:=hide (show Blk ((w.alloc (.cells #[.int .i64 code,v1,.string bs] 38)).alloc (.cells #[.int .i64 code,v2,.string bs] 38)) (w.heap.size+1) [.int .i64 code,v2,.string bs] 38 from Blk.newAt (by simp) [_,_,_] 38);have hcc:(code==code)=true:=by simp
 have hbb:(bs.toList==bs.toList)=true:=by simp
 obtain⟨a1,c1,e1⟩:=qFx h1;obtain⟨a2,c2,e2⟩:=qFx h2;subst e1 e2;have H1:=hide h1;have H2:=hide h2;clear h1 h2;go_enter Tryz.func13,Tryz.ntmps13
 go_wp2_with fail
 refine(qZn b1 b2 _ _ l _ (qBi (uh H1) (uh HK) (λ_ _ h=>h)) (qBi (uh H2) (uh HK) (λ_ _ h=>h)) hl).mono ?_;rintro e w1 ⟨rfl,hk1⟩;have hA:=(uh HA).keeps hk1 (λh=>h);have hB:=(uh HB).keeps hk1 (λh=>h);have a0:w1.cell? ⟨w.heap.size,0,none⟩=some (.int .i64 code):=hA.cell rfl;have a2:w1.cell? ⟨w.heap.size,2,none⟩=some (.string bs):=hA.cell rfl;have b0:w1.cell? ⟨w.heap.size+1,0,none⟩=some (.int .i64 code):=hB.cell rfl;have b2':w1.cell? ⟨w.heap.size+1,2,none⟩=some (.string bs):=hB.cell rfl;have HK1:=hide ((uh HK).then hk1);clear hk1 hA hB;go_wp2
 go_ret
 exact⟨by simp,uh HK1⟩
end
section
open Go.RowKit
attribute [local go_sem ↓] qAd qAe qIm qFv qGo qCu
attribute [local go_sem] qAf qAl qAb qAc qAn qAm qAi qAj
def zJf: List Value:=o1.cells++o6.cells
def qL7(b:ByteArray): List Value:=(l7 b).cells++(o5.cells++(l7 qAa).cells)
theorem zJh(w:World): (qCw 34 #[(0,.int .i64 6)]).run Tryz.prog w=.ok (.value (.agg o6.cells.toArray)) w:=by kernel_rfl
theorem zJ1(b:ByteArray)(w:World): (qCw 34 #[(0,.int .i64 7),(6,.string b)]).run Tryz.prog w=.ok (.value (.agg (l7 b).cells.toArray)) w:=by kernel_rfl
theorem zGk(w:World): (qCw 34 #[(0,.int .i64 7)]).run Tryz.prog w=.ok (.value (.agg (l7 qAa).cells.toArray)) w:=by kernel_rfl
theorem zHb(w:World): (qY5 22 2 #[(0,.agg o1.cells.toArray),(1,.agg o6.cells.toArray)]).run Tryz.prog w =
  .ok (.value (.slice (some ⟨w.heap.size,0,none⟩) 2 2)) (w.alloc (.cells zJf.toArray 34)):=by kernel_rfl
theorem zH8(b:ByteArray)(w:World): (qY5 22 3 #[(0,.agg (l7 b).cells.toArray),(1,.agg o5.cells.toArray),(2,.agg (l7 qAa).cells.toArray)]).run Tryz.prog w =
  .ok (.value (.slice (some ⟨w.heap.size,0,none⟩) 3 3)) (w.alloc (.cells (qL7 b).toArray 34)):=by kernel_rfl
theorem qJx{w:World}{b:Nat}{L:List Value}{T:TypeId}(h:Blk w b L T)(off n:Nat)(cs:List Value)(hcs:(L.drop off).take n=cs): w.rangeAt b off cs:=by
 intro j v hv;rw[<-hcs,List.getElem?_take]at hv
 split at hv
 ·exact h.cell (by simpa using hv)
 ·cases hv
theorem zI8(w:World)(b:Nat)(h:Blk w b zJf 34): ScriptAt w b 0 [o1,o6]:=by
 intro i o ho;have hi:i<2:=(List.getElem?_eq_some_iff.1 ho).1;have hi':i=0\/i=1:=by omega
 rcases hi' with h' | h'
 all_goals
  subst h';injection ho with ho;subst ho
 ·exact qJx h 0 26 _ rfl
 ·exact qJx h 26 26 _ rfl
theorem qZ0(w:World)(b:Nat)(h:Blk w b (qL7 B7) 34): ScriptAt w b 0 qW6:=by
 intro i o ho;have hi:i<3:=(List.getElem?_eq_some_iff.1 ho).1;have hi':i=0\/i=1\/i=2:=by omega
 rcases hi' with h' | h' | h'
 all_goals
  subst h';injection ho with ho;subst ho
 ·exact qJx h 0 26 _ rfl
 ·exact qJx h 26 26 _ rfl
 ·exact qJx h 52 26 _ rfl
theorem zI0: qLi [o1,o6]:=by
 intro o ho;simp at ho;rcases ho with h | h <;> subst h <;> decide
theorem zE4{α:Type _}(l:List α)(h:l.length=2): ∃a b,l=[a,b]:=by
 match l,h with
 | [a,b],_=>exact⟨a,b,rfl⟩
theorem qXd{α:Type _}(l:List α)(h:l.length=3): ∃a b c,l=[a,b,c]:=by
 match l,h with
 | [a,b,c],_=>exact⟨a,b,c,rfl⟩
attribute [local go_sem] zCq zFx zFg zJh zJ1 zGk zHb zH8
theorem zBc(HB:∀(b:Nat) (w0:World),Blk w0 b (qL7 B7) 34->Tab w0->Calls Tryz.prog 11 #[.slice (some ⟨b,0,none⟩) 3 3] w0 λr w'=>∃v l,r=.returned v/\ARep w' w0.heap.size v l/\l.map (λx=>(x.code,x.nums))=[(0,[]),(0,[0,0,1]),(14,[])]/\Keeps (λ_=>False) w0 w')(w:World)(hT:Tab w): Calls Tryz.prog 8 #[] w λe w'=>e=.returned (.bool true)/\Keeps (λ_=>False) w w':=by
 have hst:∀zs:List Value,zs.length=20->(qDe 32 (.pointer (some ⟨w.heap.size,0,none⟩)) (.agg c0.cells.toArray)).run Tryz.prog (w.alloc (.cells zs.toArray 32))=.ok .skip (w.alloc (.cells c0.cells.toArray 32)):=λzs hz=>qMi w zs c0.cells hz rfl (by simp[Cfg.cells,Value.oneCell'])
 have hv1:qAs (w.alloc (.cells c0.cells.toArray 32)) w.heap.size 0 20=.agg c0.cells.toArray:=qAg w c0.cells 32 20 rfl;have hh1:qA0 (w.alloc (.cells c0.cells.toArray 32)) w.heap.size 0 20=true:=qDc w c0.cells 32 20 rfl;have HK0:=hide (((Keeps.refl (λ_=>False) w).alloc (.cells c0.cells.toArray 32)).alloc (.cells zJf.toArray 34));have HB0:=hide (show Blk ((w.alloc (.cells c0.cells.toArray 32)).alloc (.cells zJf.toArray 34)) (w.heap.size+1) zJf 34 from Blk.newAt (by simp) _ _);have HTT:=hide hT;have HB7:=hide HB;clear hT HB;go_enter Tryz.func8,Tryz.ntmps8
 go_wp2_with fail
 refine(qT7 (w.heap.size+1) 0 2 [o1,o6] _ (zI8 _ _ (uh HB0)) (uh HB0).lt (by decide) ((uh HTT).keeps (uh HK0) (λh=>h)) zI0).mono ?_;rintro r w1 ⟨v,l,rfl,hA,hM,hBs,hk1⟩;rw[zGu]at hM;rw[two_bytes]at hBs;obtain⟨x0,x1,hl2⟩:=zE4 l (by have:=congrArg List.length hM;simpa using this);subst hl2;simp only[List.map_cons,List.map_nil,List.cons.injEq,Prod.mk.injEq,and_true]at hM hBs;obtain⟨⟨k0,m0⟩,k1,m1⟩:=hM;obtain⟨_,hb1⟩:=hBs;obtain⟨g,cap,hv,hc⟩:=qPq hA (by simp);have hne:B7.toList.isEmpty=false:=by
  cases hb:B7.toList.isEmpty with
  | false=>rfl
  | true =>
   have h1:=List.isEmpty_iff.1 hb;have h2:=B7_ne;have h3:qAa.toList=[]:=by rw[ByteArray.toList_eq];rfl
   rw[h1,h3]at h2;cases h2
 obtain⟨bb,hbb⟩:∃bb,B7=bb:=⟨_,rfl⟩;rw[hbb]at hb1 hne HB7;clear hbb;have y1:w1.cell? ⟨g,3,none⟩=some (.int .i64 0):=(hc 3 _ rfl).trans (by rw[k1]);have y2:w1.cell? ⟨g,5,none⟩=some (.string bb):=(hc 5 _ rfl).trans (by rw[hb1]);have HK1:=hide ((uh HK0).then hk1);rw[hv];clear hA hk1 hc hv k0 k1 m0 m1 hst hv1 hh1 HK0 HB0 hb1;have HB2:=hide (Blk.new w1 (qL7 bb) 34);have HK2:=hide ((uh HK1).alloc (.cells (qL7 bb).toArray 34));show _;go_wp2_with fail
 refine(uh HB7 _ _ (uh HB2) ((uh HTT).keeps (uh HK2) (λh=>h))).mono ?_;rintro r w3 ⟨v3,l3,rfl,hA3,hM3,hk3⟩;obtain⟨z0,z1,z2,hl3⟩:=qXd l3 (by have:=congrArg List.length hM3;simpa using this);subst hl3;simp only[List.map_cons,List.map_nil,List.cons.injEq,Prod.mk.injEq,and_true]at hM3;obtain⟨⟨j0,_⟩,⟨j1,_⟩,j2,_⟩:=hM3;obtain⟨g3,cap3,hv3,hc3⟩:=qPq hA3 (by simp);have u0:w3.cell? ⟨g3,0,none⟩=some (.int .i64 0):=(hc3 0 _ rfl).trans (by rw[j0]);have u1:w3.cell? ⟨g3,3,none⟩=some (.int .i64 0):=(hc3 3 _ rfl).trans (by rw[j1]);have u2:w3.cell? ⟨g3,6,none⟩=some (.int .i64 14):=(hc3 6 _ rfl).trans (by rw[j2]);have HK3:=hide ((uh HK2).then hk3);rw[hv3];clear hA3 hk3 hc3 hv3 j0 j1 j2 y1 y2;show _;go_wp2
 go_ret
 exact⟨rfl,uh HK3⟩
end
section
open Go.RowKit
theorem qVi: qLv qBs ws0 qW6=[(0,[]),(0,[0,0,1]),(14,[])]:=by kernel_rfl
theorem qX6(l:List OpM): qLi (l.filter OpM.noLoad):=λo ho=>by
 have:=(List.mem_filter.1 ho).2;simpa[OpM.noLoad] using this
theorem zD4{s:List OpM}{k:Nat}(t:ByteArray)(hk:k<=s.length)(hs:qLi s)(hl:s.length<=651562446080):
  ∃(c:Int) (bb:ByteArray) (R:List (Int×List Int)) (RB:List ByteArray),
   qLv qBs ws0 (s.take k++[l7 t,o6]++s.drop k)=qI8 ws0 (s.take k)++((c,[])::(0,[])::R) /\
   qE9 qBs ws0 (s.take k++[l7 t,o6]++s.drop k)=qLo ws0 (s.take k)++(qAa::bb::RB)/\R.length=s.length-k/\RB.length=s.length-k /\
   ((c=0/\bb=t)\/(c=14/\bb≠t/\R=(qI8 ws0 s).drop k/\RB=(qLo ws0 s).drop k)):=by
 have ht:qLi (s.take k):=λo ho=>hs o (List.mem_of_mem_take ho)
 have hd:qLi (s.drop k):=λo ho=>hs o (List.mem_of_mem_drop ho)
 have hkl:(s.take k).length=k:=by rw[List.length_take];omega
 obtain⟨S,hS⟩:∃S,qIf ws0 (s.take k)=S:=⟨_,rfl⟩;have hfit:Fit (k:Int) S:=by
  have:=Fit.end' (s.take k) Fit.zero (by omega) (by rw[hkl];omega) ht;rw[hkl,Int.zero_add,hS]at this;exact this
 obtain⟨t1,t2,t3⟩:=zBj qBs (s.take k) ws0 ht;rw[hS]at t3;have e6:∀W,stepG qBs W o6=(W,0,[]):=λW=>by unfold stepG;rw[if_neg (by decide)];rfl
 have b7:∀W,qDv W (l7 t)=qAa:=λW=>by unfold qDv;rw[if_neg (by show ¬((7:Int)=6);decide)]
 have b6:∀W,qDv W o6=qN7 W:=λW=>by unfold qDv;rw[if_pos (show o6.kind=6 from rfl)]
 have hA:(qI8 ws0 s).drop k=qI8 S (s.drop k):=by
  have h:=qT1 ws0 (s.take k) (s.drop k);rw[List.take_append_drop,hS]at h;rw[h,List.drop_left' (by rw[qCt,hkl])]
 have hB:(qLo ws0 s).drop k=qLo S (s.drop k):=by
  have h:=qTi ws0 (s.take k) (s.drop k);rw[List.take_append_drop,hS]at h;rw[h,List.drop_left' (by rw[qFc,hkl])]
 rw[List.append_assoc,qVe,qS3,t1,t2,t3];cases hw:qBs t with
 | none =>
  have e7:stepG qBs S (l7 t)=(S,14,[]):=by
   unfold stepG;rw[if_pos (show(l7 t).kind=7 from rfl),show qBs (l7 t).bytes=none from hw]
  obtain⟨r1,r2,_⟩:=zBj qBs (s.drop k) S hd;refine⟨14,qN7 S,qI8 S (s.drop k),qLo S (s.drop k),?_,?_,by rw[qCt,List.length_drop],by rw[qFc,List.length_drop],.inr ⟨rfl,λe=>?_,hA.symm,hB.symm⟩⟩
  ·congr 1
   show qLv qBs S (l7 t::o6::s.drop k)=_;simp only[qLv,e7,e6,r1]
  ·congr 1
   show qE9 qBs S (l7 t::o6::s.drop k)=_;simp only[qE9,e7,e6,b7,b6,r2]
  ·exact qT6 hfit (by omega) (by rw[e];exact hw)
 | some s' =>
  have e7:stepG qBs S (l7 t)=(s',0,[]):=by
   unfold stepG;rw[if_pos (show(l7 t).kind=7 from rfl),show qBs (l7 t).bytes=some s' from hw]
  refine⟨0,qN7 s',qLv qBs s' (s.drop k),qE9 qBs s' (s.drop k),?_,?_,by rw[qNi,List.length_drop],by rw[qRh,List.length_drop],.inl ⟨rfl,(qM0 hw).2.2⟩⟩
  ·congr 1
   show qLv qBs S (l7 t::o6::s.drop k)=_;simp only[qLv,e7,e6]
  ·congr 1
   show qE9 qBs S (l7 t::o6::s.drop k)=_;simp only[qE9,e7,e6,b7,b6]
end
section
open Go.RowKit
attribute [local go_sem ↓] qAd qAe qDb qGo qFv
attribute [local go_sem] qAf qAl qAb qAc qAn qAm qAi qAj zBz zG0 zGg zG1
theorem zHd: B7.size<=9223372036854775807:=of_decide_eq_true (by kernel_rfl)
theorem qU2(w:World)(hT:Tab w): Calls Tryz.prog 8 #[] w λe w'=>e=.returned (.bool true)/\Keeps (λ_=>False) w w' :=
 zBc (λb w0 hb hT=>by
    refine(qWe _ qW6 w0 (.inr ⟨b,0,3,rfl,by decide,qZ0 w0 b hb,hb.lt⟩) (by decide) hT (λo ho _=>?_)).mono ?_
    ·simp only[qW6,List.mem_cons,List.not_mem_nil,or_false]at ho
     rcases ho with e | e | e
     ·subst e;exact zHd
     ·subst e;decide
     ·subst e;decide
    ·rintro r w' ⟨v,l,rfl,hA,hl,_,hk⟩
     rw[qVi]at hl
     exact⟨v,l,rfl,hA,hl,hk⟩) w hT
theorem zIe(v1:Value)(ops:List OpM)(n:Int)(t:ByteArray)(w:World)(h1:ScriptW w v1 ops)(l1:ops.length<=651562446080)(hbz:t.size<=9223372036854775807)(hT:Tab w)(n0:-9223372036854775808<=n)(n1:n<=9223372036854775807):
  Calls Tryz.prog 4 #[v1,.int .i64 n,.string t] w λr w'=>r=.returned (.bool true)/\Keeps (λ_=>False) w w':=by
 have HV1:=hide h1;have HTT:=hide hT;have HBZ:=hide hbz;clear h1 hT hbz;go_enter Tryz.func4,Tryz.ntmps4
 go_wp2_with fail
 refine(zAz w (uh HTT)).mono ?_;rintro r W1 ⟨rfl,hk1⟩;have HK1:=hide hk1;clear hk1;go_wp2_with fail
 refine(qU2 W1 ((uh HTT).keeps (uh HK1) (λh=>h))).mono ?_;rintro r W2 ⟨rfl,hk2⟩;have HK2:=hide ((uh HK1).then hk2);clear hk2 HK1;go_wp2_with fail
 refine(qVp v1 ops W2 ((uh HV1).keeps (uh HK2)) (by omega)).mono ?_;rintro r W4 ⟨sv,rfl,hO3,hk3,_⟩;have HO4:=hide hO3;have HK4:=hide ((uh HK2).then hk3);clear hk3 hO3 HK2 HV1;have HOS:=hide (qX6 ops);have hls:(ops.filter OpM.noLoad).length<=651562446080:=by have:=List.length_filter_le OpM.noLoad ops;omega
 generalize ops.filter OpM.noLoad=s at *;have HCUT:=hide (λk (hk:k<=s.length)=>qX4 (uh HO4) k hk);obtain⟨sa,sc,esv⟩:=qE7 (uh HO4);have HSW:=hide (qIz (uh HO4));rw[esv]at HCUT HSW;clear HO4;subst esv;generalize hL:s.length=L at *;have HL:=hide hL;clear hL;go_wp2_with fail
 refine(zDf n ((L:Int)+1) W4 (by omega) (by omega) n0 n1).mono ?_;rintro r W4' ⟨k,hk,rfl,hw⟩;rw[hw];clear hw W4';have hkL:k<=L:=by omega
 obtain⟨sa2,sc2,ta,tc,da,dc,esv,hs1,hs2,hT1,hD1⟩:=uh HCUT k hkL;injection esv with e1 _ e2;subst e1 e2;have HT1:=hide hT1;have HD1:=hide hD1;clear hT1 hD1 HCUT;obtain⟨c,bb,R,RB,d1,d2,d3,d4,d5⟩:=zD4 (s:=s) (k:=k) t (by rw[uh HL];exact hkL) (uh HOS) (by rw[uh HL];exact hls);have HD2:=hide d1;have HD3:=hide d2;rw[uh HL]at d3 d4;have HLR:=hide d3;have HLRB:=hide d4;have HCASE:=hide d5;clear d1 d2 d3 d4 d5;have hkl:(s.take k).length=k:=by rw[List.length_take,uh HL];omega
 have HKL:=hide hkl;clear hkl;go_wp2_with fail
 refine(qVf _ s W4 (uh HSW) (by rw[uh HL];omega) ((uh HTT).keeps (uh HK4) (λh=>h)) (uh HOS)).mono ?_;rintro r W7 ⟨lv,ll,rfl,hL7,hML,hBL,hk7⟩;have HL7:=hide hL7;have HK47:=hide hk7;have HML:=hide hML;have HBL:=hide hBL;clear hL7 hk7 hML hBL
 have HLL:=hide (show ll.length=L by
    have:=congrArg List.length (uh HML);rw[List.length_map,qCt,uh HL]at this
    exact this)
 obtain⟨ab,cb,eb⟩:=qE7 (uh HL7).row;rw[uh HLL]at eb;subst eb;have hkLen:(s.take k++[l7 t,o6]).length=k+2:=by rw[List.length_append,uh HKL];rfl
 have HKL2:=hide hkLen;clear hkLen
 have HSZ:=hide (show ∀o,o∈s.take k++[l7 t,o6]++s.drop k->o.kind=7->o.bytes.size<=9223372036854775807 from λo ho h7=>by
    rcases List.mem_append.1 ho with h | h
    ·rcases List.mem_append.1 h with h | h
     ·exact absurd h7 (uh HOS o (List.mem_of_mem_take h))
     ·rcases List.mem_cons.1 h with e | h
      ·subst e;exact uh HBZ
      ·rw[List.mem_singleton]at h;subst h;cases h7
    ·exact absurd h7 (uh HOS o (List.mem_of_mem_drop h)))
 go_wp2_with fail
 go_region_held3 (λ_=>True)
  (exact trivial)
  (first
     | (go_at_call 11;refine(qWe _ (s.take k++[l7 t,o6]++s.drop k) _ (by exact qIz hO9) (by rw[List.length_append,uh HKL2,List.length_drop,uh HL];omega) ((uh HTT).keeps ((((uh HK4).then (uh HK47)).then (((Keeps.refl (λ_=>False) W7).drew).alloc _)).then (hk8.then hk9)) (λh=>h)) (uh HSZ)).mono ?_;rintro r W10 ⟨bv,lb,rfl,hB10,hMB,hBB,hk10⟩)
     | (go_at_call 12;refine(qWv _ _ (s.take k++[l7 t,o6]) (s.drop k) _ (by exact qIz hO8) (by exact((uh HD1).keeps (uh HK47)).keeps (((((Keeps.refl (λ_=>False) W7).drew).alloc _).then hk8))) (by rw[uh HKL2,List.length_drop,uh HL];omega)).mono ?_;rintro r W9 ⟨v9,rfl,hO9,hk9⟩)
     | (go_at_call 12;refine(qWv _ _ (s.take k) [l7 t,o6] _ (by exact((uh HT1).keeps (uh HK47)).keeps (((Keeps.refl (λ_=>False) W7).drew).alloc _)) (by exact qUh (Blk.new _ ((l7 t).cells++o6.cells) 34)) (by rw[uh HKL];simp;omega)).mono ?_;rintro r W8 ⟨v8,rfl,hO8,hk8⟩))
 obtain⟨N,hN⟩:∃N,N=L+2:=⟨_,rfl⟩;have HK710:=hide (show Keeps (λ_=>False) W7 W10 from(((((Keeps.refl (λ_=>False) W7).drew).alloc _).then hk8).then hk9).then hk10);rw[uh HD2]at hMB;rw[uh HD3]at hBB
 have HLB:=hide (show lb.length=N by
    have h9:=congrArg List.length hMB;rw[List.length_map,List.length_append,qCt,List.length_cons,List.length_cons,uh HLR,uh HKL]at h9
    omega)
 obtain⟨xm,hxm⟩:∃x,lb[k]?=some x:=⟨lb[k]'(by rw[uh HLB];omega),List.getElem?_eq_getElem _⟩;obtain⟨xn,hxn⟩:∃x,lb[k+1]?=some x:=⟨lb[k+1]'(by rw[uh HLB];omega),List.getElem?_eq_getElem _⟩;have hm0:xm.code=c:=by
  have e1:=congrArg (λl=>l[k]?) hMB;simp only[List.getElem?_map,hxm]at e1;rw[List.getElem?_append_right (by rw[qCt,uh HKL];omega),qCt,uh HKL,Nat.sub_self]at e1;have e3:(xm.code,xm.nums)=(c,[]):=by simpa using e1
  exact(Prod.mk.inj e3).1
 have hn0':xn.code=0:=by
  have e1:=congrArg (λl=>l[k+1]?) hMB;simp only[List.getElem?_map,hxn]at e1;rw[List.getElem?_append_right (by rw[qCt,uh HKL];omega),qCt,uh HKL,Nat.add_sub_cancel_left]at e1;have e3:(xn.code,xn.nums)=(0,[]):=by simpa using e1
  exact(Prod.mk.inj e3).1
 have hn2:xn.bs=bb:=by
  have e2:=congrArg (λl=>l[k+1]?) hBB;simp only[List.getElem?_map,hxn]at e2;rw[List.getElem?_append_right (by rw[qFc,uh HKL];omega),qFc,uh HKL,Nat.add_sub_cancel_left]at e2;simpa using e2
 have HDR:=hide (show(lb.drop (k+2)).map (λx=>(x.code,x.nums))=R/\(lb.drop (k+2)).map (·.bs)=RB by
    rw[List.map_drop,List.map_drop,hMB,hBB]
    constructor
    ·rw[<-List.drop_drop,List.drop_left' (by rw[qCt,uh HKL])];rfl
    ·rw[<-List.drop_drop,List.drop_left' (by rw[qFc,uh HKL])];rfl)
 have HNUM:=hide (show ∀x,x∈ll->x.nums.length<=1000 from λx hx=>by
    have h1:(x.code,x.nums)∈qI8 ws0 s:=by rw[<-uh HML];exact List.mem_map_of_mem (f:=λx:Ans=>(x.code,x.nums)) hx
    have:=qY0 s (uh HOS) _ h1
    simp only at this;omega)
 have HL10:=hide ((uh HL7).keeps (uh HK710) (λ_ _ h=>h));have HB10:=hide hB10;have HKW:=hide (((uh HK4).then (uh HK47)).then (uh HK710));obtain⟨ba,bc,ebv⟩:=qE7 hB10.row;rw[uh HLB]at ebv;subst ebv;obtain⟨gb,eba,m0,_,_⟩:=qJt (uh HB10) k xm hxm;obtain⟨gb2,eba2,m1,_,m2⟩:=qJt (uh HB10) (k+1) xn hxn;subst eba;have egb:gb2=gb:=by injection eba2 with e;injection e with e1;exact e1.symm
 rw[egb]at m1 m2;rw[hm0]at m0;rw[hn0']at m1;rw[hn2]at m2;clear hB10 hMB hBB hk8 hk9 hk10 hO8 hO9 egb eba2 hxm hxn hm0 hn0' hn2 HD1 HT1 HKL2 HSW HK47 HK4 HL7 HSZ hs1 hs2;have hi0:(0:Int)<=(k:Int):=by omega
 have hi1:(k:Int)<(N:Int):=by omega
 have hi2:(0:Int)<=(k:Int)+1:=by omega
 have hi3:(k:Int)+1<(N:Int):=by omega
 have hnn:((N:Int) !=(L:Int)+2)=false:=by simp;omega
 have hNB:N<=651562446090:=by omega
 have HNN:=hide hN;clear hN;rcases uh HCASE with ⟨ec,eb⟩ | ⟨ec,hne,eR,eRB⟩
 ·rw[ec]at m0
  rw[eb]at m2;clear ec eb HCASE;have hbb:(t.toList==t.toList)=true:=by simp
  go_wp2
  go_ret
  exact⟨by simp,uh HKW⟩
 ·rw[ec]at m0
  have hbb:(bb.toList==t.toList)=false:=by
   cases hq:(bb.toList==t.toList) with
   | false=>rfl
   | true =>
    exfalso;apply hne;have h2:bb.toList=t.toList:=by simpa using hq
    rw[ByteArray.toList_eq,ByteArray.toList_eq]at h2;exact ByteArray.ext (Array.ext' h2)
  have HREST:=hide (show(lb.drop (k+2)).map (λx=>(x.code,x.nums))=(ll.drop k).map (λx=>(x.code,x.nums))/\(lb.drop (k+2)).map (·.bs)=(ll.drop k).map (·.bs) by
     rw[(uh HDR).1,(uh HDR).2,eR,eRB,List.map_drop,List.map_drop,uh HML,uh HBL]
     exact⟨rfl,rfl⟩)
  clear ec hne eR eRB HCASE HML HBL HDR;go_wp2
  clear m0 m1 m2 hi0 hi1 hi2 hi3 hnn hbb;go_loopw [13,14] (λiv _ wr=>∃j:Nat,k<=j/\j<=L/\iv=.int .i64 j/\Hid (Keeps (λ_=>False) W10 wr)) (λiv _ _=>L-(intOf iv).toNat)
  case atStart=>exact⟨k,Nat.le_refl _,hkL,rfl,Keeps.refl _ _⟩
  case round =>
   obtain⟨j,hj0,hjL,rfl,HK⟩:=hrel
   by_cases hjk:j<L
   ·obtain⟨xa,hxa⟩:∃x,ll[j]?=some x:=⟨ll[j]'(by rw[uh HLL];exact hjk),List.getElem?_eq_getElem _⟩
    obtain⟨q,hq⟩:∃q,q=j+2:=⟨_,rfl⟩;obtain⟨xb,hxb⟩:∃x,lb[q]?=some x:=⟨lb[q]'(by have:=uh HNN;rw[uh HLB];omega),List.getElem?_eq_getElem _⟩;have hsame:xb.code=xa.code/\xb.nums=xa.nums/\xb.bs=xa.bs:=by
     have e1:=congrArg (λl=>l[j-k]?) (uh HREST).1;have e2:=congrArg (λl=>l[j-k]?) (uh HREST).2;simp only[List.getElem?_map,List.getElem?_drop]at e1 e2;rw[show k+2+(j-k)=q by omega,hxb,show k+(j-k)=j by omega,hxa]at e1 e2;have e3:(xb.code,xb.nums)=(xa.code,xa.nums):=by simpa using e1
     exact⟨(Prod.mk.inj e3).1,(Prod.mk.inj e3).2,by simpa using e2⟩
    have hAr:=(uh HL10).keeps (uh HK) (λ_ _ h=>h);have hBr:=(uh HB10).keeps (uh HK) (λ_ _ h=>h);obtain⟨gl,egl,a0,a1,a2⟩:=qJt hAr j xa hxa;obtain⟨gb',egb,b0,b1,b2⟩:=qJt hBr q xb hxb;subst egl;have e9:gb'=gb:=by injection egb with e;injection e with e1;exact e1.symm
    rw[e9]at b0 b1 b2;have HNA:=hide (hAr.nums xa (List.mem_of_getElem? hxa));have hnb:=hBr.nums xb (List.mem_of_getElem? hxb);rw[hsame.2.1]at hnb;rw[hsame.1]at b0;rw[hsame.2.2]at b2;have HNB:=hide hnb;have HN9:=hide (uh HNUM xa (List.mem_of_getElem? hxa));clear hAr hBr hnb hxa hxb hsame egb e9;generalize xa.code=code at *;generalize xa.bs=bs at *;obtain⟨na,nca,ena⟩:=qE7 (uh HNA);obtain⟨nb,ncb,enb⟩:=qE7 (uh HNB);rw[ena]at HNA a1;rw[enb]at HNB b1;clear ena enb;generalize xa.nums=nums at *;have hj0':(0:Int)<=(j:Int):=by omega
    have hjL':(j:Int)<(L:Int):=by omega
    have hw1:IntKind.i64.wrap ((j:Int)+2)=(q:Int):=by rw[IntKind.wrap_i64];omega
    have hq0:(0:Int)<=(q:Int):=by omega
    have hqN:(q:Int)<(N:Int):=by have:=uh HNN;omega
    have HQ:=hide hq;clear hq;go_wp2_with fail
    go_region_held3 (λw'=>w'.cell? ⟨gl,j*3,none⟩=some (.int .i64 code)/\w'.cell? ⟨gl,j*3+1,none⟩=some (.slice na nums.length nca)/\w'.cell? ⟨gl,j*3+2,none⟩=some (.string bs) /\
        w'.cell? ⟨gb,q*3,none⟩=some (.int .i64 code)/\w'.cell? ⟨gb,q*3+1,none⟩=some (.slice nb nums.length ncb)/\w'.cell? ⟨gb,q*3+2,none⟩=some (.string bs))
     (first | (simp[*];done) | (go_split_ands;exact⟨hk12.cell (by assumption) (λh=>h),hk12.cell (by assumption) (λh=>h),hk12.cell (by assumption) (λh=>h),hk12.cell (by assumption) (λh=>h),hk12.cell (by assumption) (λh=>h),hk12.cell (by assumption) (λh=>h)⟩))
     (first | (go_at_call 13;refine(zGh _ _ code bs _ _ nums _ (by exact qBi (uh HNA) ((Keeps.refl (λ_=>False) wr).drew) (λ_ _ h=>h)) (by exact qBi (uh HNB) ((Keeps.refl (λ_=>False) wr).drew) (λ_ _ h=>h)) (uh HN9)).mono ?_;rintro r W12 ⟨rfl,hk12⟩))
    have HK12:=hide ((uh HK).then (((Keeps.refl (λ_=>False) wr).drew).then hk12));clear hk12;go_wp2
    go_roundw
    case rel=>exact⟨j+1,by omega,by omega,by go_num,HK12⟩
    case measure=>simp[intOf];omega
   ·have hje:j=L:=by omega
    subst hje;go_wp2
    go_ret
    exact⟨rfl,(uh HKW).then (uh HK)⟩
end
end Go.Proofs.YtahnliehdjncdabGreatDoor
