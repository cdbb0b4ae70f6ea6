import Derived.Test.YtahnliehdjncdabGreatDoorXBN
import Derived.Test.YtahnliehdjncdabGreatDoorXBK
import Derived.Test.YtahnliehdjncdabGreatDoorXBI
import Derived.Test.YtahnliehdjncdabGreatDoorXBM
set_option maxRecDepth 100000
set_option maxHeartbeats 16000000
namespace Go.Proofs.YtahnliehdjncdabGreatDoor
section
open Go.RowKit
attribute [local go_sem ↓] qAb qAe qDj qFz
attribute [local go_sem] qAg qAl qAd qAc qAo qAn qAj qAk qAf qAi qWz
def qCw(ops:List OpM)(cs:List Int)(id fr to:Int): Nat->List OpM
 | 0=>[]
 | n+1=>qCw ops cs id fr to n++(if (opAt ops n).kind=2/\(opAt ops n).id=id/\qGx cs n=0/\fr<(opAt ops n).a/\(opAt ops n).a<=to then[opAt ops n] else[])
theorem qHu(ops:List OpM)(cs:List Int)(id fr to:Int)(n:Nat): qCw ops cs id fr to (n+1)=qCw ops cs id fr to n++(if (opAt ops n).kind=2/\(opAt ops n).id=id/\qGx cs n=0/\fr<(opAt ops n).a/\(opAt ops n).a<=to then[opAt ops n] else[]):=rfl
theorem qH6(ops:List OpM)(cs:List Int)(id fr to:Int)(n:Nat): (qCw ops cs id fr to n).length<=n:=by
 induction n with
 | zero=>simp[qCw]
 | succ n ih=>rw[qHu,List.length_append];split <;> simp <;> omega
theorem qYw{w:World}{sb so:Nat}{ops:List OpM}(h:ScriptAt w sb so ops){i:Nat}(hi:i<ops.length): qAp w sb (so+i*26) 26=.agg (opAt ops i).cells.toArray/\qAw w sb (so+i*26) 26=true:=by
 have e:opAt ops i=ops[i]:=by simp[opAt,List.getD_eq_getElem?_getD,List.getElem?_eq_getElem hi]
 have h3:=qAm (h i ops[i] (List.getElem?_eq_getElem hi))
 have e3:ops[i].cells.length=26:=rfl
 rw[e3]at h3
 rw[e]
 exact⟨by unfold qAp;rw[h3.1],h3.2⟩
theorem ScriptAt.keepsM{M:Nat->Prop}{w w':World}{sb so:Nat}{ops:List OpM}(h:ScriptAt w sb so ops)(hk:Keeps M w w')(hn:¬M sb): ScriptAt w' sb so ops:=λi o ho j v hv=>hk.cell (h i o ho j v hv) hn
theorem qX0(sb so cap g acap:Nat)(ops:List OpM)(cs:List Int)(n:Nat)(id fr to:Int)(w:World)(hs:ScriptAt w sb so ops)(hgl:g<w.heap.size)(ha:qWi w g cs)(hn:n<=ops.length)(hc:cs.length=ops.length)(hl:ops.length<=651562446088):
  Calls Tryz.prog 15 #[.slice (some ⟨sb,so,none⟩) ops.length cap,.slice (some ⟨g,0,none⟩) ops.length acap,.int .i64 n,.int .i64 id,.int .i64 fr,.int .i64 to] w λr w'=>∃v,r=.returned v/\qMb w' w.heap.size v (qCw ops cs id fr to n)/\Keeps (λ_=>False) w w':=by
 have HS:=hide hs
 have HA:=hide ha
 have HC:=hide hc
 clear hs ha hc
 generalize hm:ops.length=m at *
 have HM:=hide hm
 clear hm
 go_enter Tryz.func15,Tryz.ntmps15
 go_wp2_with fail
 go_loopw [13,14] (λl i wr=>∃(k mm cp:Nat) (ad:Option Addr),k<=n/\i=.int .i64 k/\l=.slice ad mm cp/\Hid (qMb wr w.heap.size l (qCw ops cs id fr to k))/\Hid (Keeps (λ_=>False) w wr)) (λ_ i _=>n-(intOf i).toNat)
 case atStart=>exact⟨0,0,0,none,by omega,rfl,rfl,World.ownsRow_nil _ _ _ _,Keeps.refl _ _⟩
 case round =>
  obtain⟨k,mm,cp,ad,hk,rfl,rfl,HO,HK⟩:=hrel
  by_cases hlk:k<n
  ·have HSr:=hide ((uh HS).keepsM (uh HK) (λh=>h))
   obtain⟨hv0,hh0⟩:=qYw (uh HSr) (i:=k) (by rw[uh HM];omega)
   have ca:wr.cell? ⟨g,k*3,none⟩=some (.int .i64 (qGx cs k)):=(uh HK).cell (uh HA k (by rw[uh HC];omega)) (λh=>h)
   have HN:=hide (qHu ops cs id fr to k)
   have hAl:=qH6 ops cs id fr to k
   have hm':mm=(qCw ops cs id fr to k).length:=by
    obtain⟨_,_,e⟩:=qH0 (uh HO)
    injection e
   generalize opAt ops k=o at *
   generalize qGx cs k=c at *
   have hst:∀zs:List Value,zs.length=26->(qCp 34 (.pointer (some ⟨wr.heap.size,0,none⟩)) (.agg o.cells.toArray)).run Tryz.prog (wr.alloc (.cells zs.toArray 34))=.ok .skip (wr.alloc (.cells o.cells.toArray 34)):=λzs hz=>qHt wr zs o.cells hz rfl (qG5 o)
   have hv1:qAp (wr.alloc (.cells o.cells.toArray 34)) wr.heap.size 0 26=.agg o.cells.toArray:=qAf wr o.cells 34 26 rfl
   have hh1:qAw (wr.alloc (.cells o.cells.toArray 34)) wr.heap.size 0 26=true:=qB7 wr o.cells 34 26 rfl
   have o0:o.cells[0]?=some (.int .i64 o.kind):=rfl
   have o1:o.cells[1]?=some (.int .i64 o.id):=rfl
   have o2:o.cells[2]?=some (.int .i64 o.a):=rfl
   have hgne:g<wr.heap.size:=by have:=(uh HK).size;omega
   have ca2:(wr.alloc (.cells o.cells.toArray 34)).cell? ⟨g,k*3,none⟩=some (.int .i64 c):=((Keeps.refl (λ_=>False) wr).alloc _).cell ca (λh=>h)
   have hk0:(0:Int)<=(k:Int):=by omega
   have hkn:(k:Int)<(n:Int):=by omega
   have hkm:(k:Int)<(m:Int):=by omega
   cases h0:(o.kind==2)
   ·have hx:¬o.kind=2:=by simpa using h0
    have HH:=hide (show qCw ops cs id fr to (k+1)=qCw ops cs id fr to k by rw[uh HN,if_neg (λh=>hx h.1),List.append_nil])
    clear hx
    have HK2:=hide ((uh HK).alloc (.cells o.cells.toArray 34))
    have HO2:=hide (qAz (uh HO) ((Keeps.refl (λ_=>False) wr).alloc (.cells o.cells.toArray 34)) (λ_ _ h=>h))
    go_wp2_with fail
    go_roundw
    case rel=>exact⟨k+1,_,_,_,by omega,by go_num,rfl,by show qMb _ _ _ _;rw[uh HH];exact uh HO2,HK2⟩
    case measure=>simp[intOf];omega
   ·skip
    cases h1:(o.id==id)
    ·have hx:¬o.id=id:=by simpa using h1
     have HH:=hide (show qCw ops cs id fr to (k+1)=qCw ops cs id fr to k by rw[uh HN,if_neg (λh=>hx h.2.1),List.append_nil])
     clear hx
     have HK2:=hide ((uh HK).alloc (.cells o.cells.toArray 34))
     have HO2:=hide (qAz (uh HO) ((Keeps.refl (λ_=>False) wr).alloc (.cells o.cells.toArray 34)) (λ_ _ h=>h))
     go_wp2_with fail
     go_roundw
     case rel=>exact⟨k+1,_,_,_,by omega,by go_num,rfl,by show qMb _ _ _ _;rw[uh HH];exact uh HO2,HK2⟩
     case measure=>simp[intOf];omega
    ·skip
     cases h2:(c==0)
     ·have hx:¬c=0:=by simpa using h2
      have HH:=hide (show qCw ops cs id fr to (k+1)=qCw ops cs id fr to k by rw[uh HN,if_neg (λh=>hx h.2.2.1),List.append_nil])
      clear hx
      have HK2:=hide ((uh HK).alloc (.cells o.cells.toArray 34))
      have HO2:=hide (qAz (uh HO) ((Keeps.refl (λ_=>False) wr).alloc (.cells o.cells.toArray 34)) (λ_ _ h=>h))
      go_wp2_with fail
      go_roundw
      case rel=>exact⟨k+1,_,_,_,by omega,by go_num,rfl,by show qMb _ _ _ _;rw[uh HH];exact uh HO2,HK2⟩
      case measure=>simp[intOf];omega
     ·skip
      cases h3:decide (fr<o.a)
      ·have hx:¬fr<o.a:=by simpa using h3
       have HH:=hide (show qCw ops cs id fr to (k+1)=qCw ops cs id fr to k by rw[uh HN,if_neg (λh=>hx h.2.2.2.1),List.append_nil])
       clear hx
       have HK2:=hide ((uh HK).alloc (.cells o.cells.toArray 34))
       have HO2:=hide (qAz (uh HO) ((Keeps.refl (λ_=>False) wr).alloc (.cells o.cells.toArray 34)) (λ_ _ h=>h))
       go_wp2_with fail
       go_roundw
       case rel=>exact⟨k+1,_,_,_,by omega,by go_num,rfl,by show qMb _ _ _ _;rw[uh HH];exact uh HO2,HK2⟩
       case measure=>simp[intOf];omega
      ·skip
       cases h4:decide (o.a<=to)
       ·have hx:¬o.a<=to:=by simpa using h4
        have HH:=hide (show qCw ops cs id fr to (k+1)=qCw ops cs id fr to k by rw[uh HN,if_neg (λh=>hx h.2.2.2.2),List.append_nil])
        clear hx
        have HK2:=hide ((uh HK).alloc (.cells o.cells.toArray 34))
        have HO2:=hide (qAz (uh HO) ((Keeps.refl (λ_=>False) wr).alloc (.cells o.cells.toArray 34)) (λ_ _ h=>h))
        go_wp2_with fail
        go_roundw
        case rel=>exact⟨k+1,_,_,_,by omega,by go_num,rfl,by show qMb _ _ _ _;rw[uh HH];exact uh HO2,HK2⟩
        case measure=>simp[intOf];omega
       ·skip
        have HH:=hide (show qCw ops cs id fr to (k+1)=qCw ops cs id fr to k++[o] by rw[uh HN,if_pos ⟨by simpa using h0,by simpa using h1,by simpa using h2,by simpa using h3,by simpa using h4⟩])
        generalize qCw ops cs id fr to k=A at *
        go_wp2_with (at_builtin;refine qC7 rfl _ _ rfl w.heap.size (.slice ad mm cp) A rfl (by exact qAz (uh HO) (((Keeps.refl (λ_=>False) wr).alloc _).alloc _) (λ_ _ h=>h)) _ [o] rfl (by exact qHb (Blk.newAt (by simp) o.cells 34)) (by simp;omega) (by have:=(uh HK).size;simp;omega) ?_;intro ad2 c2 w2 hown2 hk2 hat2)
        have HK2:=hide ((((uh HK).alloc (.cells o.cells.toArray 34)).alloc (.cells o.cells.toArray 34)).trans hk2 (λi hi hlt=>by have:=((uh HO).lt i hi).1;omega))
        go_roundw
        case rel=>exact⟨k+1,_,_,_,by omega,by go_num,rfl,by show qMb _ _ _ _;rw[uh HH];exact hown2,HK2⟩
        case measure=>simp[intOf];omega
  ·have hkn:k=n:=by omega
   subst hkn
   have hf:decide ((k:Int)<(k:Int))=false:=by simp
   go_wp2
   go_ret
   exact⟨_,rfl,uh HO,uh HK⟩
end
section
theorem qSs(s:WS)(ops:List OpM)(i:Nat)(o:OpM)(h:ops[i]?=some o): (qLc s ops)[i]?=some (qA5 (qE6 s (ops.take i)) o).2:=by
 induction ops generalizing s i with
 | nil=>simp at h
 | cons a l ih =>
  cases i with
  | zero =>
   have:a=o:=by simpa using h
   subst this
   rfl
  | succ i =>
   have:=ih (qA5 s a).1 i (by simpa using h)
   simpa[qLc,qE6] using this
def qD3(ops:List OpM): List Int:=(qLc ws0 ops).map (·.1)
theorem qHo(ops:List OpM): (qD3 ops).length=ops.length:=by simp[qD3,qFs]
theorem qM5{ops:List OpM}{i:Nat}(hi:i<ops.length): ops[i]?=some (opAt ops i):=by
 simp[opAt,List.getD_eq_getElem?_getD,List.getElem?_eq_getElem hi]
theorem qQh(ops:List OpM)(i:Nat)(hi:i<ops.length): qGx (qD3 ops) i=(qA5 (qE6 ws0 (ops.take i)) (opAt ops i)).2.1:=by
 unfold qGx qD3
 rw[List.getD_eq_getElem?_getD,List.getElem?_map,qSs ws0 ops i _ (qM5 hi)]
 rfl
theorem qPo{ops:List OpM}{i:Nat}(hi:i<ops.length): ops.take (i+1)=ops.take i++[opAt ops i]:=by
 rw[List.take_add_one,qM5 hi];rfl
theorem qZs{ops:List OpM}{i:Nat}(hi:i<ops.length): opAt ops i∈ops:=List.mem_of_getElem? (qM5 hi)
theorem zEu(ops:List OpM)(hok:qJp ops)(n:Nat)(hn:n<=ops.length): qMe ops (qD3 ops) n=(qE6 ws0 (ops.take n)).clock:=by
 induction n with
 | zero=>rfl
 | succ n ih =>
  have hi:n<ops.length:=by omega
  rw[qSk,ih (by omega),qQh ops n hi,qPo hi,qKl,qMc _ _ (hok _ (qZs hi))]
theorem qXt(ops:List OpM)(id fr to:Int)(n:Nat)(hn:n<=ops.length): (qCw ops (qD3 ops) id fr to n).map (·.a)=(qIo ws0 (ops.take n) id).filter (λt=>decide (fr<t/\t<=to)):=by
 induction n with
 | zero=>rfl
 | succ n ih =>
  have hi:n<ops.length:=by omega
  rw[qHu,qPo hi,qVg,List.filter_append,List.map_append,ih (by omega),qQh ops n hi]
  congr 1
  unfold qTm
  by_cases h1:(opAt ops n).kind=2/\(opAt ops n).id=id/\(qA5 (qE6 ws0 (ops.take n)) (opAt ops n)).2.1=0
  ·rw[if_pos h1]
   by_cases h2:fr<(opAt ops n).a/\(opAt ops n).a<=to
   ·rw[if_pos ⟨h1.1,h1.2.1,h1.2.2,h2⟩]
    simp[h2.1,h2.2]
   ·rw[if_neg (λh=>h2 h.2.2.2)]
    rw[List.filter_cons_of_neg (by simpa using h2)]
    rfl
  ·rw[if_neg h1,if_neg (λh=>h1 ⟨h.1,h.2.1,h.2.2.1⟩)]
   rfl
structure OkI (c:Cfg) (k:Nat) (y:It):Prop where
 t0:0<=y.t
 t1:y.t<=4611686018427387904
 fit:qF8 c k ⟨y.t,y.k,y.d,0⟩=0
structure NLaw (k:Nat) (P:Cfg->Int->Note->List It->Prop):Prop where
 zero:∀c m,qA6 c=true->c.kind=k->P c m qVr []
 later:∀c m m' nt R,qA6 c=true->c.kind=k->m<=m'->P c m nt R->P c m' nt R
 rel:∀c m nt R y,qA6 c=true->c.kind=k->P c m nt R->(∀r∈R,OkI c k r/\leP r y/\r.n≠y.n)->OkI c k y->y.t<=m->P c m (qV2 k c nt y m) (R++[y])
 swp:∀c m nt R b,qA6 c=true->c.kind=k->P c m nt R->P c m (qL3 k c nt m b).1 R
structure GS (P:Cfg->Int->Note->List It->Prop) (clock:Int) (x:Ser) (A:List It):Prop where
 heap:HeapL x.l
 wait:∀y∈x.l,clock-x.c.lag<y.t
 okA:∀y∈A,OkI x.c x.k y
 num:∀(i:Nat) (y:It),A[i]?=some y->y.n=(i:Int)+1
 acc:x.acc=(A.length:Int)
 whole:∃R,P x.c (clock-x.c.lag) x.nt R/\R.Pairwise leP/\(∀r∈R,r.t<=clock-x.c.lag)/\(R++x.l).Perm A
theorem qUm{A:List It}(h:∀(i:Nat) (y:It),A[i]?=some y->y.n=(i:Int)+1): (A.map (·.n)).Nodup:=by
 refine List.pairwise_iff_getElem.2 (λi j hi hj hij=>?_)
 rw[List.length_map]at hi hj
 rw[List.getElem_map,List.getElem_map]
 have h1:=h i _ (List.getElem?_eq_getElem hi)
 have h2:=h j _ (List.getElem?_eq_getElem hj)
 omega
theorem HeapL.first_leP{l:List It}(h:HeapL l){y:It}(hy:y∈l): leP (itAt l 0) y:=by
 obtain⟨j,hj,rfl⟩:=List.mem_iff_getElem.1 hy
 have:=h.first j hj
 rw[show itAt l j=l[j] by simp[itAt,List.getD_eq_getElem?_getD,List.getElem?_eq_getElem hj]]at this
 exact this
theorem qZv(f:Nat): ∀(x:Ser) (m:Int),(qF7 f x m).acc=x.acc:=by
 induction f with
 | zero=>intro x m;rfl
 | succ f ih =>
  intro x m
  unfold qF7
  split
  ·rfl
  ·split
   ·rfl
   ·exact ih _ _
theorem zBp{k:Nat}{P:Cfg->Int->Note->List It->Prop}(hP:NLaw k P)(m:Int)(f:Nat): ∀(x:Ser) (R:List It),x.l.length<f->HeapL x.l->qA6 x.c=true->x.c.kind=k->x.k=k ->
  (∀y∈R++x.l,OkI x.c k y)->((R++x.l).map (·.n)).Nodup->P x.c m x.nt R->R.Pairwise leP->(∀r∈R,r.t<=m)->(∀r∈R,∀y∈x.l,leP r y) ->
  ∃R',P x.c m (qF7 f x m).nt R'/\R'.Pairwise leP/\(∀r∈R',r.t<=m)/\(R'++(qF7 f x m).l).Perm (R++x.l)/\(∀y∈(qF7 f x m).l,m<y.t):=by
 induction f with
 | zero=>intro x R h;omega
 | succ f ih =>
  intro x R hf hh hv hck hk hok hnd hp hs hr hx
  unfold qF7
  split
  ·rename_i he
   have hnil:x.l=[]:=List.isEmpty_iff.1 he
   exact⟨R,hp,hs,hr,List.Perm.refl _,by rw[hnil];simp⟩
  ·rename_i he
   have hne:x.l≠[]:=λh=>he (by rw[h];rfl)
   split
   ·rename_i hm
    refine⟨R,hp,hs,hr,List.Perm.refl _,λy hy=>?_⟩
    have:=hh.first_mem hy
    omega
   ·rename_i hm
    obtain⟨th,tp⟩:=qGg x.l hh hne
    have hlen:(qDs x m).l.length=x.l.length-1:=takeL_length _
    have hpos:0<x.l.length:=List.length_pos_iff.2 hne
    have hperm:((R++[itAt x.l 0])++takeL x.l).Perm (R++x.l):=by
     rw[List.append_assoc];exact List.Perm.append_left R tp
    have hy0:itAt x.l 0∈x.l:=tp.mem_iff.1 (by simp)
    have hnd2:(((R++[itAt x.l 0])++takeL x.l).map (·.n)).Nodup:=(hperm.map (·.n)).nodup_iff.2 hnd
    have hfirst:∀y∈takeL x.l,leP (itAt x.l 0) y:=λy hy=>hh.first_leP (tp.mem_iff.1 (by simp[hy]))
    have hnew:=hP.rel x.c m x.nt R (itAt x.l 0) hv hck hp (λr hrm=>⟨hok r (by simp[hrm]),hx r hrm _ hy0,λe=>by
         have h1:(((R++[itAt x.l 0])).map (·.n)).Nodup:=by
          rw[List.map_append]at hnd2
          exact(List.nodup_append.1 hnd2).1
         rw[List.map_append]at h1
         exact(List.nodup_append.1 h1).2.2 r.n (List.mem_map_of_mem hrm) (itAt x.l 0).n (by simp) e⟩) (hok _ (by simp[hy0])) (by omega)
    obtain⟨R',p1,p2,p3,p4,p5⟩:=ih (qDs x m) (R++[itAt x.l 0]) (by omega) th hv hck hk
     (λy hy=>hok y (hperm.mem_iff.1 hy)) hnd2 (by
        show P x.c m (qV2 x.k x.c x.nt (itAt x.l 0) m) _
        rw[hk];exact hnew)
     (List.pairwise_append.2 ⟨hs,by simp,λa ha b hb=>by rw[List.mem_singleton]at hb;rw[hb];exact hx a ha _ hy0⟩)
     (λr hrm=>by
        rcases List.mem_append.1 hrm with h | h
        ·exact hr r h
        ·rw[List.mem_singleton]at h;rw[h];omega)
     (λr hrm y hy=>by
        rcases List.mem_append.1 hrm with h | h
        ·exact hx r h y (tp.mem_iff.1 (by simp[show y∈takeL x.l from hy]))
        ·rw[List.mem_singleton]at h;rw[h];exact hfirst y hy)
    exact⟨R',p1,p2,p3,p4.trans hperm,p5⟩
theorem zBx{k:Nat}{P:Cfg->Int->Note->List It->Prop}(hP:NLaw k P){clock nc:Int}{x:Ser}{A:List It}(h:GS P clock x A)(hk:x.k=k)(hck:x.c.kind=k)(hv:qA6 x.c=true)(hcn:clock<=nc): GS P nc (qBg nc x) A:=by
 obtain⟨R,hw,hs,hr,hp⟩:=h.whole
 have hkk:=qP4 (nc-x.c.lag) (x.l.length+1) x (by omega) h.heap
 have hacc:(qF7 (x.l.length+1) x (nc-x.c.lag)).acc=x.acc:=qZv _ _ _
 obtain⟨R',p1,p2,p3,p4,p5⟩:=zBp hP (nc-x.c.lag) (x.l.length+1) x R (by omega) h.heap hv hck hk
  (λy hy=>by rw[<-hk];exact h.okA y (hp.mem_iff.1 hy)) ((hp.map (·.n)).nodup_iff.2 (qUm h.num)) (hP.later _ _ _ _ _ hv hck (by omega) hw) hs (λr hrm=>by have:=hr r hrm;omega)
  (λr hrm y hy=>.inl (by have h1:=hr r hrm;have h2:=h.wait y hy;omega))
 unfold qBg
 refine⟨hkk.1,λy hy=>?_,λy hy=>?_,h.num,?_,R',?_,p2,λr hrm=>?_,p4.trans hp⟩
 ·rw[hkk.2.1];exact p5 y hy
 ·rw[hkk.2.1,hkk.2.2.1];exact h.okA y hy
 ·rw[hacc];exact h.acc
 ·rw[hkk.2.1];exact p1
 ·rw[hkk.2.1];exact p3 r hrm
theorem qY8{k:Nat}{P:Cfg->Int->Note->List It->Prop}(hP:NLaw k P){nc b:Int}{x:Ser}{A:List It}(h:GS P nc x A)(hk:x.k=k)(hck:x.c.kind=k)(hv:qA6 x.c=true): GS P nc (qOv nc b x) A:=by
 obtain⟨R,hw,hs,hr,hp⟩:=h.whole
 refine⟨h.heap,h.wait,h.okA,h.num,h.acc,R,?_,hs,hr,hp⟩
 show P x.c (nc-x.c.lag) (qL3 x.k x.c x.nt (nc-x.c.lag) b).1 R
 rw[hk];exact hP.swp _ _ _ _ _ hv hck hw
theorem zEq{P:Cfg->Int->Note->List It->Prop}{clock:Int}{x:Ser}{A:List It}(h:GS P clock x A)(y:It)(hy:clock-x.c.lag<y.t)(hok:OkI x.c x.k (numbered y (x.acc+1))): GS P clock (qMw x y) (A++[numbered y (x.acc+1)]):=by
 obtain⟨R,hw,hs,hr,hp⟩:=h.whole
 obtain⟨h1,h2⟩:=qJu x.l (numbered y (x.acc+1)) h.heap
 refine⟨h1,λz hz=>?_,λz hz=>?_,λi z hz=>?_,?_,R,hw,hs,hr,?_⟩
 ·rcases List.mem_cons.1 (h2.mem_iff.1 hz) with e | e
  ·rw[e];exact hy
  ·exact h.wait z e
 ·rcases List.mem_append.1 hz with e | e
  ·exact h.okA z e
  ·rw[List.mem_singleton]at e;rw[e];exact hok
 ·by_cases hi:i<A.length
  ·rw[List.getElem?_append_left hi]at hz;exact h.num i z hz
  ·rw[List.getElem?_append_right (by omega)]at hz
   have hi2:i-A.length=0:=by
    have:=(List.getElem?_eq_some_iff.1 hz).1
    simp at this;omega
   rw[hi2]at hz
   simp at hz
   rw[<-hz]
   show x.acc+1=_
   rw[h.acc];omega
 ·show x.acc+1=_
  rw[h.acc,List.length_append];simp
 ·refine(List.Perm.append_left R h2).trans (List.perm_middle.trans ?_)
  exact(List.Perm.cons _ hp).trans (List.perm_append_singleton _ _).symm
theorem zEm{k:Nat}{P:Cfg->Int->Note->List It->Prop}(hP:NLaw k P)(clock id:Int)(c:Cfg)(hv:qA6 c=true)(hck:c.kind=k)(j:Nat): GS P clock (qAy id c j) [] :=
 ⟨λi _ hi=>by simp[qAy]at hi,λt ht=>by simp[qAy]at ht,λy hy=>by simp at hy,λi y hy=>by simp at hy,rfl,[],hP.zero _ _ hv hck,List.Pairwise.nil,λr hr=>by simp at hr,List.Perm.refl _⟩
def qYq(s:WS)(o:OpM)(id:Int): List It:=if o.kind=2/\o.id=id/\(qA5 s o).2.1=0 then[numbered o.item ((qA5 s o).2.2.headD 0)] else[]
structure GW (k:Nat) (P:Cfg->Int->Note->List It->Prop) (s:WS) (A:Int->List It):Prop where
 ids:(s.xs.map (·.id)).Nodup
 none:∀id,id ∉ s.xs.map (·.id)->A id=[]
 cnt:∀x,x∈s.xs->x.k=k->GS P s.clock x (A x.id)
theorem GW.same{k:Nat}{P:Cfg->Int->Note->List It->Prop}{s:WS}{A B:Int->List It}(h:GW k P s A)(he:∀id,B id=A id): GW k P s B :=
 ⟨h.ids,λid hid=>(he id).trans (h.none id hid),λx hx hk=>by rw[he];exact h.cnt x hx hk⟩
theorem qIm{s:WS}{o:OpM}(h:o.kind≠2\/(qA5 s o).2.1≠0)(id:Int): qYq s o id=[]:=by
 unfold qYq
 rw[if_neg]
 rintro ⟨h1,_,h3⟩
 rcases h with h | h
 ·exact h h1
 ·exact h h3
theorem zAz{k:Nat}{P:Cfg->Int->Note->List It->Prop}{s:WS}{A B:Int->List It}(h:GW k P s A){id:Int}{x y:Ser}(hf:qCi s.xs id=some x)(hid:y.id=x.id)(hb:∀i,i≠id->B i=A i)(hk:y.k=x.k)(hy:x.k=k->GS P s.clock x (A x.id)->GS P s.clock y (B id)): GW k P ⟨s.clock,qHd s.xs id y⟩ B:=by
 obtain⟨l1,l2,he,hx,hu⟩:=qDu hf
 have hm:(qHd s.xs id y).map (·.id)=s.xs.map (·.id):=by
  rw[hu,he];simp[hid]
 have hxm:x∈s.xs:=by rw[he];simp
 refine⟨by show((qHd s.xs id y).map _).Nodup;rw[hm];exact h.ids,λi hi=>?_,λz hz hzk=>?_⟩
 ·have hi':i ∉ s.xs.map (·.id):=by rw[<-hm];exact hi
  have hne:i≠id:=λh0=>hi' (by rw[h0,<-hx];exact List.mem_map_of_mem hxm)
  rw[hb i hne];exact h.none i hi'
 ·have hz':z∈l1++y::l2:=by rw[<-hu];exact hz
  have hnd:=h.ids
  rw[he,List.map_append,List.map_cons]at hnd
  obtain⟨_,n2,n3⟩:=List.nodup_append.1 hnd
  have n4:=(List.nodup_cons.1 n2).1
  rcases List.mem_append.1 hz' with hz1 | hz1
  ·have hne:z.id≠id:=λh0=>n3 z.id (List.mem_map_of_mem hz1) x.id (by simp) (by rw[h0,hx])
   show GS P s.clock z (B z.id)
   rw[hb _ hne];exact h.cnt z (by rw[he];simp[hz1]) hzk
  ·rcases List.mem_cons.1 hz1 with hz1 | hz1
   ·subst hz1
    show GS P s.clock z (B z.id)
    rw[hid,hx]
    exact hy (by rw[<-hk];exact hzk) (h.cnt x hxm (by rw[<-hk];exact hzk))
   ·have hne:z.id≠id:=λh0=>n4 (by rw[hx,<-h0];exact List.mem_map_of_mem hz1)
    show GS P s.clock z (B z.id)
    rw[hb _ hne];exact h.cnt z (by rw[he];simp[hz1]) hzk
theorem zA6{k:Nat}{P:Cfg->Int->Note->List It->Prop}(hP:NLaw k P){n:Int}{s:WS}{A:Int->List It}(hi:EInv n s.clock s.xs)(h:GW k P s A)(o:OpM)(h7:o.kind≠7): GW k P (qA5 s o).1 (λid=>A id++qYq s o id):=by
 by_cases h1:o.kind=1
 ·have ha:=qIm (s:=s) (o:=o) (.inl (by omega))
  simp only[ha,List.append_nil]
  unfold qA5
  rw[if_pos h1]
  unfold qCb
  split
  ·rename_i hc
   split
   ·rename_i hv
    split
    ·have hnew:o.id ∉ s.xs.map (·.id):=λhm=>by
      obtain⟨x,hx,hxi⟩:=List.mem_map.1 hm
      have:=hc.2
      unfold qCi at this
      rw[Option.isNone_iff_eq_none,List.find?_eq_none]at this
      exact this x hx (by simpa using hxi)
     refine⟨?_,λid hid=>?_,λx hx hk=>?_⟩
     ·show((s.xs++[qAy o.id o.cfg o.cfg.kind.toNat]).map (·.id)).Nodup
      rw[List.map_append]
      refine List.nodup_append.2 ⟨h.ids,by simp,λa ha b hb=>?_⟩
      simp[qAy]at hb
      subst hb
      exact λh0=>hnew (by rw[<-h0];exact ha)
     ·exact h.none id (λh0=>hid (by show id∈(s.xs++[qAy o.id o.cfg o.cfg.kind.toNat]).map (·.id);rw[List.map_append];exact List.mem_append.2 (.inl h0)))
     ·rcases List.mem_append.1 hx with hx | hx
      ·exact h.cnt x hx hk
      ·rw[List.mem_singleton]at hx;subst hx
       show GS P s.clock _ (A o.id)
       have hkd:=(qI1 (n:=0) o.id o.cfg hv (by omega)).kind
       have hkk:(qAy o.id o.cfg o.cfg.kind.toNat).k=k:=hk
       rw[hkk]at hkd
       rw[h.none o.id hnew];exact zEm hP _ _ _ hv hkd _
    ·exact h
   ·exact h
  ·exact h
 by_cases h2:o.kind=2
 ·have hs:qA5 s o=qH2 s o:=by unfold qA5;rw[if_neg h1,if_pos h2]
  cases hf:qCi s.xs o.id with
  | none =>
   have e:qH2 s o=(s,2,[]):=by unfold qH2;rw[hf]
   have ha:=qIm (s:=s) (o:=o) (.inr (by rw[hs,e];simp))
   simp only[ha,List.append_nil]
   rw[hs,e];exact h
  | some x =>
   by_cases hr:qJq x s.clock o.item=0
   ·have e:qH2 s o=(⟨s.clock,qHd s.xs o.id (qMw x o.item)⟩,0,[x.acc+1]):=by unfold qH2;rw[hf];simp only;rw[if_pos hr]
    have he2:=e
    rw[hs,e]
    refine zAz h hf rfl (λi hne=>?_) rfl (λ_ hb=>?_)
    ·show A i++qYq s o i=A i
     have:qYq s o i=[]:=by unfold qYq;rw[if_neg (λhh=>hne hh.2.1.symm)]
     rw[this,List.append_nil]
    ·show GS P s.clock (qMw x o.item) (A o.id++qYq s o o.id)
     have:qYq s o o.id=[numbered o.item (x.acc+1)]:=by unfold qYq;rw[if_pos ⟨h2,rfl,by rw[hs,e]⟩,hs,e];rfl
     rw[this]
     obtain⟨_,_,_,hx,_⟩:=qDu hf
     rw[hx]at hb
     obtain⟨z1,z2,_,_,_,z6,_⟩:=qKj hr
     exact zEq hb o.item (qP1 hr) ⟨z1,z2,z6⟩
   ·have e:qH2 s o=(⟨s.clock,qHd s.xs o.id (qQ7 x (qJq x s.clock o.item).toNat)⟩,qJq x s.clock o.item,[]):=by unfold qH2;rw[hf];simp only;rw[if_neg hr]
    have ha:=qIm (s:=s) (o:=o) (.inr (by rw[hs,e];exact hr))
    simp only[ha,List.append_nil]
    rw[hs,e]
    refine zAz h hf rfl (λi _=>rfl) rfl (λ_ hb=>?_)
    obtain⟨_,_,_,hx,_⟩:=qDu hf
    rw[hx]at hb
    exact⟨hb.heap,hb.wait,hb.okA,hb.num,hb.acc,hb.whole⟩
 have ha:=qIm (s:=s) (o:=o) (.inl h2)
 simp only[ha,List.append_nil]
 unfold qA5
 rw[if_neg h1,if_neg h2]
 split
 ·unfold qFv
  split
  ·split
   ·have hcn:s.clock<=qEh s.clock o.a:=by unfold qEh;split <;> omega
    have hids:((qBv (qEh s.clock o.a) o.b (s.xs.map (qBg (qEh s.clock o.a)))).1.map (·.id))=s.xs.map (·.id):=by
     rw[qIy,List.map_map]
     refine List.map_congr_left λx _=>?_
     exact(qEy _ _ _).2.2
    refine⟨by show List.Nodup _;rw[hids];exact h.ids,λid hid=>h.none id (by rw[<-hids];exact hid),λz hz hk=>?_⟩
    obtain⟨y,hy,b',rfl⟩:=qK6 _ _ _ hz
    obtain⟨x,hx,rfl⟩:=List.mem_map.1 hy
    have htk:(qBg (qEh s.clock o.a) x).k=x.k:=(qEy _ _ _).1
    have htc:(qBg (qEh s.clock o.a) x).c=x.c:=(qEy _ _ _).2.1
    have hkx:x.k=k:=by rw[<-htk];exact hk
    have hv:=hi.sers x hx
    have hck:x.c.kind=k:=by rw[hv.kind,hkx]
    have hid:(qOv (qEh s.clock o.a) b' (qBg (qEh s.clock o.a) x)).id=x.id:=(qEy _ _ _).2.2
    rw[hid]
    exact qY8 hP (zBx hP (h.cnt x hx hkx) hkx hck hv.valid hcn) (htk.trans hkx) (by rw[htc];exact hck) (by rw[htc];exact hv.valid)
   ·exact h
  ·exact h
 ·split
  ·unfold qF5;split <;> exact h
  ·split
   ·unfold qF6;split <;> exact h
   ·split <;> exact h
def zEj: WS->List OpM->Int->List It
 | _,[],_=>[]
 | s,o::r,id=>qYq s o id++zEj (qA5 s o).1 r id
theorem zDk{k:Nat}{P:Cfg->Int->Note->List It->Prop}(hP:NLaw k P)(l:List OpM): ∀ {n:Int} {s:WS} {A:Int->List It},0<=n->EInv n s.clock s.xs->qJp l->GW k P s A->GW k P (qE6 s l) (λid=>A id++zEj s l id):=by
 induction l with
 | nil=>intro n s A _ _ _ h;exact h.same (λid=>by simp[zEj])
 | cons o l ih =>
  intro n s A hn hi hok h
  have ho:=hok o (by simp)
  have:=ih (n:=n+1) (by omega) (qGi o hi hn (qD9 ho)) (λp hp=>hok p (by simp[hp])) (zA6 hP hi h o ho)
  exact this.same (λid=>by simp[zEj,List.append_assoc])
def qYr(K:Nat): Nat->Nat->List Bk->Prop
 | 0,_,l=>l=[]
 | F+1,g,l=>∃H a,l=H++a/\qYr K F (g+1) H/\(∀b∈a,b.sz=2 ^ g)/\a.length<=K+1
def Lev(K g:Nat)(l:List Bk): Prop:=∃F,qYr K F g l
theorem qTs(K:Nat): ∀F g,qYr K F g []
 | 0,_=>rfl
 | F+1,g=>⟨[],[],rfl,qTs K F (g+1),λb hb=>by simp at hb,by simp⟩
theorem qPz(K:Nat): ∀F g l,qYr K F g l->qYr K (F+1) g l
 | 0,g,l,h=>by
  have h':l=[]:=h
  subst h';exact qTs K 1 g
 | F+1,g,l,⟨H,a,e,h1,h2,h3⟩=>⟨H,a,e,qPz K F (g+1) H h1,h2,h3⟩
theorem Lev.nil(K g:Nat): Lev K g []:=⟨0,rfl⟩
theorem Lev.put{K g:Nat}{H a:List Bk}(h:Lev K (g+1) H)(ha:∀b∈a,b.sz=2 ^ g)(hl:a.length<=K+1): Lev K g (H++a):=by
 obtain⟨F,hF⟩:=h
 exact⟨F+1,H,a,rfl,hF,ha,hl⟩
theorem Lev.get{K g:Nat}{l:List Bk}(h:Lev K g l): ∃H a,l=H++a/\Lev K (g+1) H/\(∀b∈a,b.sz=2 ^ g)/\a.length<=K+1:=by
 obtain⟨F,hF⟩:=h
 obtain⟨H,a,e,h1,h2,h3⟩:=qPz K F g l hF
 exact⟨H,a,e,⟨F,h1⟩,h2,h3⟩
theorem qW9(K:Nat): ∀F g l,qYr K F g l->∀b∈l,∃i,g<=i/\b.sz=2 ^ i
 | 0,_,l,h=>λb hb=>by
  have h':l=[]:=h
  subst h';simp at hb
 | F+1,g,l,⟨H,a,e,h1,h2,_⟩=>λb hb=>by
  subst e
  rcases List.mem_append.1 hb with hb | hb
  ·obtain⟨i,hi,hs⟩:=qW9 K F (g+1) H h1 b hb
   exact⟨i,by omega,hs⟩
  ·exact⟨g,Nat.le_refl _,h2 b hb⟩
theorem Lev.ge{K g:Nat}{l:List Bk}(h:Lev K g l): ∀b∈l,∃i,g<=i/\b.sz=2 ^ i:=by
 obtain⟨F,hF⟩:=h;exact qW9 K F g l hF
theorem qO1(K:Nat): ∀F g l k,qYr K F g l->qYr K F g (l.drop k)
 | 0,_,l,k,h=>by
  have h':l=[]:=h
  subst h';simp[qYr]
 | F+1,g,l,k,⟨H,a,e,h1,h2,h3⟩=>by
  subst e
  rw[List.drop_append]
  exact⟨_,_,rfl,qO1 K F (g+1) H k h1,λb hb=>h2 b (List.mem_of_mem_drop hb),by rw[List.length_drop];omega⟩
theorem Lev.drop{K g:Nat}{l:List Bk}(h:Lev K g l)(k:Nat): Lev K g (l.drop k):=by
 obtain⟨F,hF⟩:=h;exact⟨F,qO1 K F g l k hF⟩
theorem zEs{g i:Nat}(h:g+1<=i): (2:Int) ^ i≠2 ^ g:=by
 intro e
 have h1:(2:Nat) ^ i=2 ^ g:=by exact_mod_cast e
 have h2:(2:Nat) ^ g<2 ^ i:=Nat.pow_lt_pow_right (by omega) (by omega)
 omega
theorem qZ6{H a:List Bk}(S:List Bk){j:Nat}(hj:j<a.length): qBi (H++a++S) (H.length+j)=a[j]:=by
 unfold qBi
 rw[List.append_assoc,List.getD_eq_getElem?_getD,List.getElem?_append_right (by omega),Nat.add_sub_cancel_left,List.getElem?_append_left hj,List.getElem?_eq_getElem hj]
 rfl
theorem qT3{H:List Bk}(S:List Bk){j:Nat}(hj:j<H.length): qBi (H++S) j=H[j]:=by
 unfold qBi
 rw[List.getD_eq_getElem?_getD,List.getElem?_append_left hj,List.getElem?_eq_getElem hj]
 rfl
theorem zAa{K g:Nat}{H a:List Bk}(S:List Bk)(hH:Lev K (g+1) H)(ha:∀b∈a,b.sz=2 ^ g): ∀j,j<=a.length->qBb (H++a++S) (2 ^ g) (H.length+j)=H.length:=by
 intro j
 induction j with
 | zero =>
  intro _
  rw[Nat.add_zero]
  cases hn:H.length with
  | zero=>rfl
  | succ n =>
   unfold qBb
   rw[if_neg]
   rw[List.append_assoc,qT3 (a++S) (by omega:n<H.length)]
   obtain⟨i,hi,hs⟩:=hH.ge H[n] (List.getElem_mem _)
   rw[hs];exact zEs hi
 | succ j ih =>
  intro hj
  rw[<-Nat.add_assoc]
  unfold qBb
  rw[if_pos (by rw[qZ6 S (by omega)];exact ha _ (List.getElem_mem _))]
  exact ih (by omega)
theorem qUd{H:List Bk}(b0 b1:Bk)(a' S:List Bk)(x:Bk): qB6 (H++(b0::b1::a')++S) H.length x=H++[x]++(a'++S):=by
 unfold qB6
 have e:H++(b0::b1::a')++S=H++(b0::b1::(a'++S)):=by simp
 rw[e,List.take_left,<-List.drop_drop,List.drop_left]
 simp
theorem qXv{K:Nat}(hK:1<=K)(f:Nat): ∀(g:Nat) (H a S:List Bk),Lev K (g+1) H->(∀b∈a,b.sz=2 ^ g)->a.length<=K+2->(H.length<f\/a.length<=K+1)->(∀Q,Lev K g Q->Lev K 0 (Q++S))->Lev K 0 (joinL (K:Int) f (H++a++S) (2 ^ g) (H.length+a.length)):=by
 induction f with
 | zero =>
  intro g H a S hH ha hl hf hS
  rcases hf with h | h
  ·omega
  ·exact hS _ (hH.put ha h)
 | succ f ih =>
  intro g H a S hH ha hl hf hS
  unfold joinL
  rw[zAa S hH ha a.length (Nat.le_refl _)]
  by_cases hc:((H.length+a.length:Nat):Int)-(H.length:Int)<=(K:Int)+1
  ·rw[if_pos hc]
   exact hS _ (hH.put ha (by omega))
  ·rw[if_neg hc]
   match a,ha,hl,hf,hc with
   | [],_,_,_,hc=>simp at hc;omega
   | [_],_,_,_,hc=>simp at hc;omega
   | b0::b1::a',ha,hl,hf,hc =>
    have hl2:a'.length+2<=K+2:=by simpa using hl
    rw[qUd]
    obtain⟨H',a2,e2,g1,g2,g3⟩:=hH.get
    have hx:(2:Int)*2 ^ g=2 ^ (g+1):=by rw[Int.pow_succ,Int.mul_comm]
    rw[hx]
    have e3:H++[(⟨2 ^ (g+1),(qBi (H++b0::b1::a'++S) (H.length+1)).t⟩:Bk)]++(a'++S)=H'++(a2++[(⟨2 ^ (g+1),(qBi (H++b0::b1::a'++S) (H.length+1)).t⟩:Bk)])++(a'++S):=by rw[e2];simp only[List.append_assoc]
    have e4:H.length+1=H'.length+(a2++[(⟨2 ^ (g+1),(qBi (H++b0::b1::a'++S) (H.length+1)).t⟩:Bk)]).length:=by rw[e2,List.length_append,List.length_append];simp;omega
    rw[e3]
    conv=>arg 3;arg 5;rw[e4]
    refine ih (g+1) H' _ (a'++S) g1 (λb hb=>?_) (by rw[List.length_append];simp;omega) ?_ (λQ hQ=>?_)
    ·rcases List.mem_append.1 hb with hb | hb
     ·exact g2 b hb
     ·rw[List.mem_singleton]at hb;rw[hb]
    ·by_cases ha2:a2=[]
     ·right;rw[ha2];simp
     ·left
      have hpos:0<a2.length:=List.length_pos_iff.2 ha2
      have hHl:H.length=H'.length+a2.length:=by rw[e2,List.length_append]
      rcases hf with h | h
      ·omega
      ·simp at h hc;omega
    ·rw[<-List.append_assoc]
     exact hS _ (hQ.put (λb hb=>ha b (by simp[hb])) (by omega))
theorem qZx{c:Cfg}{K:Nat}(hK:1<=K)(hc:c.k=K)(l:List Bk)(t m:Int)(h:Lev K 0 l): Lev K 0 (qSy c l t m):=by
 unfold qSy qQk qM4
 rw[hc]
 obtain⟨H,a,e,h1,h2,h3⟩:=(h.drop (pastN l (m-c.window))).get
 rw[e]
 have:=qXv hK ((H++a++[(⟨1,t⟩:Bk)]).length+1) 0 H (a++[(⟨1,t⟩:Bk)]) [] h1 (λb hb=>by
    rcases List.mem_append.1 hb with hb | hb
    ·exact h2 b hb
    ·rw[List.mem_singleton]at hb;rw[hb];rfl) (by rw[List.length_append];simp;omega) (.inl (by simp;omega)) (λQ hQ=>by rw[List.append_nil];exact hQ)
 rw[List.append_nil,<-List.append_assoc]at this
 have e2:H.length+(a++[(⟨1,t⟩:Bk)]).length=(H++a++[(⟨1,t⟩:Bk)]).length:=by simp only[List.length_append,List.length_singleton];omega
 rw[e2]at this
 exact this
theorem qTr(K:Nat): ∀F g l,qYr K F g l->l≠[]->∃i,g<=i/\(qBi l 0).sz=2 ^ i/\l.length<=(i+1-g)*(K+1)
 | 0,_,l,h,hn=>absurd h hn
 | F+1,g,l,⟨H,a,e,h1,h2,h3⟩,hn=>by
  subst e
  by_cases hH:H=[]
  ·subst hH
   have ha:a≠[]:=by simpa using hn
   have hp:0<a.length:=List.length_pos_iff.2 ha
   refine⟨g,Nat.le_refl _,?_,by simp;omega⟩
   rw[List.nil_append]
   have:qBi a 0=a[0]:=by
    unfold qBi
    rw[List.getD_eq_getElem?_getD,List.getElem?_eq_getElem hp];rfl
   rw[this];exact h2 _ (List.getElem_mem _)
  ·obtain⟨i,hi,hs,hl⟩:=qTr K F (g+1) H h1 hH
   have hp:0<H.length:=List.length_pos_iff.2 hH
   have hb:qBi (H++a) 0=qBi H 0:=by
    rw[qT3 a hp]
    unfold qBi
    rw[List.getD_eq_getElem?_getD,List.getElem?_eq_getElem hp];rfl
   refine⟨i,by omega,by rw[hb];exact hs,?_⟩
   rw[List.length_append,show i+1-g=(i+1-(g+1))+1 by omega,Nat.succ_mul]
   omega
theorem Lev.len{K:Nat}{l:List Bk}(h:Lev K 0 l)(hn:l≠[]): ∃i,(qBi l 0).sz=2 ^ i/\l.length<=(i+1)*(K+1):=by
 obtain⟨F,hF⟩:=h
 obtain⟨i,_,h1,h2⟩:=qTr K F 0 l hF hn
 exact⟨i,h1,h2⟩
def PL(c:Cfg)(_:Int)(nt:Note)(_:List It): Prop:=Lev c.k.toNat 0 nt.bs
theorem qYf{c:Cfg}(h:qA6 c=true)(hk:c.kind=1): 1<=c.k/\c.k<=10:=by
 simp only[qA6,hk,Bool.and_eq_true]at h
 have h2:countB c=true:=h.2.2
 simp only[countB,inB,Bool.and_eq_true,decide_eq_true_eq]at h2
 omega
theorem zDc: NLaw 1 PL where
 zero:=λc m _ _=>Lev.nil _ _
 later:=λc m m' nt R _ _ _ h=>h
 rel:=λc m nt R y hv hk h _ _ _=>by
  have hk2:=qYf hv hk
  show Lev c.k.toNat 0 (qV2 1 c nt y m).bs
  exact qZx (K:=c.k.toNat) (by omega) (by omega) nt.bs y.t m h
 swp:=λc m nt R b _ _ h=>by
  show Lev c.k.toNat 0 (qL3 1 c nt m b).1.bs
  exact h.drop _
theorem qP9{n i:Nat}(h:2 ^ i<=n): i+1<=Go.bitLen n:=by
 apply Nat.lt_of_not_le
 intro hle
 have h1:=(bitLen_spec n).1
 have h2:=Nat.pow_le_pow_right (show 1<=2 by omega) hle
 omega
theorem qQ9{b:Bk}{l:List Bk}{T:Int}(h:pastN (b::l) T=0): T<b.t:=by
 unfold pastN at h
 rw[List.takeWhile_cons]at h
 split at h
 ·simp at h
 ·rename_i h1;simpa using h1
theorem qU9{K:Int}{b:Bk}{l:List Bk}{D L:List Int}{T:Int}(hK:1<=K)(h1:1<=b.sz)(hb:HB K (b::l))(hs:qQ6 (b::l) L)(hp:(D++L).Pairwise (·<=·))(ht:T<b.t): b.sz<=qRd T (D++L):=by
 obtain⟨s,r,rfl,e1,e2,e3⟩:=hs
 obtain⟨_,hp2,_⟩:=List.pairwise_append.1 hp
 obtain⟨p1,p2,p3⟩:=List.pairwise_append.1 hp2
 obtain⟨q1,q2⟩:=qV6 e2 p1
 have hr:qRd T r=(r.length:Int):=qZr (λd hd=>by have:=p3 b.t q1 d hd;omega)
 have hs1:=qYz q1 ht
 have hsum:=qZm e3
 have h2:=hb.1
 have h3:b.sz-1<=K*(b.sz-1):=by
  have:=Int.mul_le_mul_of_nonneg_right hK (show 0<=b.sz-1 by omega)
  rw[Int.one_mul]at this
  exact this
 have hD:0<=qRd T D:=by unfold qRd;omega
 rw[qKc,qKc,hr]
 omega
theorem qUf{clock:Int}{x:Ser}{R:List Int}{K:Nat}(hW:Whole x.c (clock-x.c.lag-x.c.window) x.nt.bs R)(hone:∀b∈x.nt.bs,1<=b.sz)(hL:Lev K 0 x.nt.bs)(hk:x.k=1)(hck:x.c.k=K)(hK:1<=K)(hl:x.l=[])(h0:pastN x.nt.bs (clock-x.c.lag-x.c.window)=0)(n:Nat)(hn:(n:Int)=qRd (clock-x.c.lag-x.c.window) R): (qGw clock [x]).length<=400+32*(K+1)*(1+Go.bitLen n):=by
 have hN:(zAq x.k x.c x.nt (clock-x.c.lag)).length<=1+(1+Go.bitLen n)*(K+1)*2:=by
  unfold zAq
  rw[hk,if_neg (by omega),if_pos rfl]
  unfold zEo
  rw[List.length_cons]
  have h1:=qKp x.nt.bs (qD5 x.nt.bs) 0 (Nat.zero_le _)
  by_cases hnil:x.nt.bs=[]
  ·have hs:qD5 x.nt.bs=0:=by unfold qD5;rw[hnil];rfl
   rw[hs]at h1 ⊢
   rw[hnil]at h1 ⊢
   have h11:(qVz [] 0 0).length=0:=rfl
   rw[h11]
   omega
  ·obtain⟨i,hi,hlen⟩:=hL.len hnil
   obtain⟨b,l,hbl⟩:∃b l,x.nt.bs=b::l:=by
    cases hb:x.nt.bs with
    | nil=>exact absurd hb hnil
    | cons b l=>exact⟨b,l,rfl⟩
   have hpos:0<x.nt.bs.length:=List.length_pos_iff.2 hnil
   have hb0:qBi x.nt.bs 0=b:=by rw[hbl];rfl
   obtain⟨D,L,hDL,hD,hseg⟩:=hW.parts
   have hsrt:=hW.sorted
   have hhb:=hW.hb
   rw[hbl]at hseg hhb h0
   rw[hck]at hhb
   rw[hDL]at hsrt hn
   have hmany:=qU9 (K:=(K:Int)) (by omega) (hone b (by rw[hbl];simp)) hhb hseg hsrt (qQ9 h0)
   rw[hb0]at hi
   have hpw:2 ^ i<=n:=by
    have h3:((2 ^ i:Nat):Int)<=(n:Int):=by rw[hn,Int.natCast_pow];rw[hi]at hmany;exact hmany
    exact_mod_cast h3
   have hbit:=qP9 hpw
   have hsz:qD5 x.nt.bs=i+1:=by
    unfold qD5
    rw[if_neg (by omega),hb0,hi]
    have e:((2:Int) ^ i).toNat=2 ^ i:=by
     have:((2 ^ i:Nat):Int)=(2:Int) ^ i:=by rw[Int.natCast_pow];rfl
     rw[<-this,Int.toNat_natCast]
    rw[e]
    apply Nat.le_antisymm
    ·apply Nat.le_of_not_lt
     intro hlt
     have h4:=(bitLen_spec (2 ^ i)).2 (Nat.pos_iff_ne_zero.1 (Nat.pow_pos (show 0<2 by omega)))
     have h5:=Nat.pow_lt_pow_right (show 1<2 by omega) (show i<Go.bitLen (2 ^ i)-1 by omega)
     omega
    ·exact qP9 (Nat.le_refl _)
   rw[hsz]at h1 ⊢
   generalize Go.bitLen n=dg at *
   have h6:(i+1)*(K+1)<=dg*(K+1):=Nat.mul_le_mul_right _ hbit
   have h7:dg*1<=dg*(K+1):=Nat.mul_le_mul_left _ (by omega)
   have h8:(1+dg)*(K+1)*2=2*(dg*(K+1))+2*(K+1):=by rw[Nat.add_mul,Nat.one_mul];omega
   omega
 have hcfg:(qBu x.k x.c).length=6:=by rw[hk];rfl
 have hhead:(qGo x).length=16:=by
  unfold qGo
  rw[List.length_cons,List.length_append,hcfg,List.length_append,List.length_map]
  rfl
 have hbuf:qLb x.k (Qi.allL (x.l.length+1) x.l)=[]:=by rw[hl];rfl
 have hser:(qCz clock x).length=16+(zAq x.k x.c x.nt (clock-x.c.lag)).length:=by
  unfold qCz
  rw[hbuf,List.nil_append,List.length_append,hhead]
 have hwh:(qCv clock [x]).length=2+(qCz clock x).length:=by simp[qCv,qDg];omega
 have h2:=qAv (qCv clock [x])
 have h3:=qBd (qJy (qGc clock [x]))
 have h6:qCs.length=8:=rfl
 have h7:(qGc clock [x]).length=8+(qB2 (qCv clock [x])).length:=by unfold qGc;rw[List.length_append,h6]
 unfold qGw
 rw[List.length_append]
 generalize(1+Go.bitLen n)=dg at *
 have h9:32*(K+1)*dg=32*(dg*(K+1)):=by rw[Nat.mul_assoc,Nat.mul_comm (K+1) dg]
 rw[h9]
 have h10:dg*(K+1)*2=2*(dg*(K+1)):=by omega
 omega
theorem qZj(s:WS)(o:OpM)(h:o.kind=2\/o.kind=3): (qA5 s o).1.xs.map (·.id)=s.xs.map (·.id):=by
 rcases h with h2 | h3
 ·have hs:qA5 s o=qH2 s o:=by unfold qA5;rw[if_neg (by omega),if_pos h2]
  rw[hs]
  cases hf:qCi s.xs o.id with
  | none=>unfold qH2;rw[hf]
  | some x =>
   obtain⟨l1,l2,he,hx,hu⟩:=qDu hf
   unfold qH2
   rw[hf]
   simp only
   split
   ·show(qHd s.xs o.id (qMw x o.item)).map (·.id)=_
    rw[hu,he];simp[qMw]
   ·show(qHd s.xs o.id (qQ7 x _)).map (·.id)=_
    rw[hu,he];simp[qQ7]
 ·have hs:qA5 s o=qFv s o:=by unfold qA5;rw[if_neg (by omega),if_neg (by omega),if_pos h3]
  rw[hs]
  unfold qFv
  split
  ·split
   ·show(qBv _ _ _).1.map (·.id)=_
    rw[qIy,List.map_map]
    refine List.map_congr_left λx _=>?_
    exact(qEy _ _ _).2.2
   ·rfl
  ·rfl
theorem zBu(l:List OpM): ∀s:WS,(∀o∈l,o.kind=2\/o.kind=3)->(qE6 s l).xs.map (·.id)=s.xs.map (·.id):=by
 induction l with
 | nil=>intro s _;rfl
 | cons o l ih =>
  intro s h
  show(qE6 (qA5 s o).1 l).xs.map (·.id)=_
  rw[ih _ (λp hp=>h p (by simp[hp])),qZj s o (h o (by simp))]
theorem qO2(M:Int)(l:List OpM): ∀s:WS,(∀o∈l,o.kind=2\/(o.kind=3/\o.a<=M))->s.clock<=M->(qE6 s l).clock<=M:=by
 induction l with
 | nil=>intro s _ h;exact h
 | cons o l ih =>
  intro s h hs
  show(qE6 (qA5 s o).1 l).clock<=M
  refine ih _ (λp hp=>h p (by simp[hp])) ?_
  have ho:=h o (by simp)
  rw[qMc s o (by omega)]
  split
  ·omega
  ·exact hs
theorem zDw(M id:Int)(l:List OpM): ∀s:WS,(∀o∈l,o.kind=2->o.a<=M)->∀t∈qIo s l id,t<=M:=by
 induction l with
 | nil=>intro s _ t ht;simp[qIo]at ht
 | cons o l ih =>
  intro s h t ht
  rcases List.mem_append.1 (show t∈qTm s o id++qIo (qA5 s o).1 l id from ht) with ht | ht
  ·unfold qTm at ht
   split at ht
   ·rename_i h1
    rw[List.mem_singleton]at ht
    rw[ht];exact h o (by simp) h1.1
   ·simp at ht
  ·exact ih _ (λp hp=>h p (by simp[hp])) t ht
theorem qWs(l:List Bk)(T:Int): pastN (l.drop (pastN l T)) T=0:=by
 induction l with
 | nil=>rfl
 | cons b l ih =>
  by_cases hb:b.t<=T
  ·have e:pastN (b::l) T=pastN l T+1:=by unfold pastN;rw[List.takeWhile_cons,if_pos (by simpa using hb)];rfl
   rw[e,List.drop_succ_cons];exact ih
  ·have e:pastN (b::l) T=0:=by unfold pastN;rw[List.takeWhile_cons,if_neg (by simpa using hb)];rfl
   rw[e,List.drop_zero];exact e
def crO(c:Cfg): OpM:=⟨1,7,0,0,0,c,qAa⟩
def tkO(M:Int): OpM:=⟨3,0,M,100,0,cz,qAa⟩
def svO: OpM:=⟨6,0,0,0,0,cz,qAa⟩
theorem qUv(c:Cfg)(hv:qA6 c=true)(hk:c.kind=1)(hlag:c.lag=0)(M:Int)(M0:0<=M)(M1:M<=4611686018427387904)(mid:List OpM)(hmid:∀o∈mid,(o.kind=2/\o.a<=M)\/(o.kind=3/\o.a<=M))(hml:mid.length<=1000000)(t:List OpM)(ht:t=(crO c::mid)++[tkO M]++[svO]):
  ∃(left:Int) (bs:List Nat),(qLc ws0 t)[mid.length+1]?=some (0,[left])/\(qLc ws0 t)[mid.length+2]?=some (0,[])/\(qSg ws0 t)[mid.length+2]?=some (qEn bs)/\left<=4398046511104 /\
   (0<left\/(left=0/\bs.length<=400+32*(c.k.toNat+1)*(1+Go.bitLen (qCw t (qD3 t) 7 (M-c.window) M (mid.length+2)).length))):=by
 have hk2:=qYf hv hk
 have hkn:c.kind.toNat=1:=by rw[hk];rfl
 have hokp:qJp ((crO c::mid)++[tkO M]):=by
  intro o ho
  rcases List.mem_append.1 ho with ho | ho
  ·rcases List.mem_cons.1 ho with ho | ho
   ·rw[ho];show(1:Int)≠7;omega
   ·rcases hmid o ho with h | h <;> omega
  ·rw[List.mem_singleton]at ho;rw[ho];show(3:Int)≠7;omega
 have hok1:qJp (crO c::mid):=λo ho=>hokp o (List.mem_append.2 (.inl ho))
 have hcr:qA5 ws0 (crO c)=(⟨0,[qAy 7 c 1]⟩,0,[]):=by
  have h1:qA5 ws0 (crO c)=qCb ws0 (crO c):=rfl
  rw[h1]
  unfold qCb
  rw[if_pos ⟨show inB 7 0 99=true by decide,rfl⟩,if_pos (show qA6 (crO c).cfg=true from hv),if_pos (by decide)]
  show((⟨0,[qAy 7 c c.kind.toNat]⟩:WS),(0:Int),([]:List Int))=_
  rw[hkn]
 obtain⟨s0,hs0⟩:∃s0,qE6 ws0 (crO c::mid)=s0:=⟨_,rfl⟩
 have hs0':qE6 ⟨0,[qAy 7 c 1]⟩ mid=s0:=by rw[<-hs0];show _=qE6 (qA5 ws0 (crO c)).1 mid;rw[hcr]
 have hids:s0.xs.map (·.id)=[7]:=by rw[<-hs0',zBu mid _ (λo ho=>by rcases hmid o ho with h | h <;> omega)];rfl
 have hclk:s0.clock<=M:=by rw[<-hs0'];exact qO2 M mid _ (λo ho=>by rcases hmid o ho with h | h <;> omega) M0
 obtain⟨x0,hx0⟩:∃x0,s0.xs=[x0]:=by
  cases hxs:s0.xs with
  | nil=>rw[hxs]at hids;simp at hids
  | cons x l =>
   cases l with
   | nil=>exact⟨x,rfl⟩
   | cons y l=>rw[hxs]at hids;simp at hids
 have hL0:(((crO c::mid):List OpM).length:Int)=(mid.length:Int)+1:=by simp
 have hinv0:EInv ((mid.length:Int)+1) s0.clock s0.xs:=by
  have:=qT2 (crO c::mid) inv0 (by omega) (λi o ho=>qD9 (hok1 o (List.mem_of_getElem? ho)))
  rw[hs0,hL0]at this
  simpa using this
 have hx0i:SInv ((mid.length:Int)+1) x0:=hinv0.sers x0 (by rw[hx0];simp)
 have hx0id:x0.id=7:=by rw[hx0]at hids;simpa using hids
 have hx0c:x0.c=c:=by
  have hgen:∀(l:List OpM) (s:WS),(∀o∈l,o.kind=2\/o.kind=3)->(qCi (qE6 s l).xs 7).map (·.c)=(qCi s.xs 7).map (·.c):=by
   intro l
   induction l with
   | nil=>intro s _;rfl
   | cons o l ih =>
    intro s h
    show(qCi (qE6 (qA5 s o).1 l).xs 7).map (·.c)=_
    have ho:=h o (by simp)
    rw[ih _ (λp hp=>h p (by simp[hp])),qZ3 s o 7 (by omega)]
    cases (qCi s.xs 7).map (·.c) with
    | some c=>rfl
    | none=>simp only;rw[if_neg (by omega)]
  have h1:=hgen mid ⟨0,[qAy 7 c 1]⟩ (λo ho=>by rcases hmid o ho with h | h <;> omega)
  rw[hs0',hx0]at h1
  have h2:qCi [x0] 7=some x0:=by unfold qCi;rw[List.find?_cons_of_pos (by simpa using hx0id)]
  have h3:qCi [qAy 7 c 1] 7=some (qAy 7 c 1):=by unfold qCi;rw[List.find?_cons_of_pos (by rfl)]
  rw[h2,show qCi (⟨0,[qAy 7 c 1]⟩:WS).xs 7=some (qAy 7 c 1) from h3]at h1
  simpa[qAy] using h1
 have hx0k:x0.k=1:=by have:=hx0i.kind;rw[hx0c,hk]at this;omega
 -- the last TICK
 obtain⟨y,hy⟩:∃y,qBg M x0=y:=⟨_,rfl⟩
 have hyk:y.k=1:=by rw[<-hy];exact((qEy _ _ _).1).trans hx0k
 have hyc:y.c=c:=by rw[<-hy];exact((qEy _ _ _).2.1).trans hx0c
 have hyid:y.id=7:=by rw[<-hy];exact((qEy _ _ _).2.2).trans hx0id
 have hmx:qEh s0.clock M=M:=by unfold qEh;split <;> omega
 have htick:qA5 s0 (tkO M)=(⟨M,[qOv M 100 y]⟩,0,[qJt M 100 y]):=by
  have h1:qA5 s0 (tkO M)=qFv s0 (tkO M):=rfl
  rw[h1]
  unfold qFv
  rw[if_pos (show inB (tkO M).a 0 4611686018427387904=true by simp[inB,tkO,M0,M1]),if_pos (show inB (tkO M).b 0 100=true from(by decide:inB 100 0 100=true))]
  show((⟨qEh s0.clock M,(qBv (qEh s0.clock M) 100 (s0.xs.map (qBg (qEh s0.clock M)))).1⟩:WS),(0:Int),[(qBv (qEh s0.clock M) 100 (s0.xs.map (qBg (qEh s0.clock M)))).2])=_
  rw[hmx,hx0,List.map_cons,List.map_nil,hy]
  simp[qBv]
 obtain⟨x,hx⟩:∃x,qOv M 100 y=x:=⟨_,rfl⟩
 have hs1:qE6 ws0 ((crO c::mid)++[tkO M])=⟨M,[x]⟩:=by rw[qKl,hs0,htick,hx]
 have hxk:x.k=1:=by rw[<-hx];exact hyk
 have hxc:x.c=c:=by rw[<-hx];exact hyc
 have hxid:x.id=7:=by rw[<-hx];exact hyid
 have hyi:SInv ((mid.length:Int)+1) y:=by rw[<-hy];exact qNs _ hx0i _
 have hlft:qJt M 100 y=(pastN y.nt.bs (M-c.window):Int)-min (pastN y.nt.bs (M-c.window):Int) 100:=by
  unfold qJt qL3
  rw[hyk,if_pos rfl,hyc,hlag,Int.sub_zero]
  rfl
 have hxbs:x.nt.bs=y.nt.bs.drop (min (pastN y.nt.bs (M-c.window):Int) 100).toNat:=by
  rw[<-hx]
  show(qL3 y.k y.c y.nt (M-y.c.lag) 100).1.bs=_
  unfold qL3
  rw[hyk,if_pos rfl,hyc,hlag,Int.sub_zero]
  rfl
 -- what holds of it
 have hwb:WB ⟨M,[x]⟩ (qIo ws0 ((crO c::mid)++[tkO M])):=by
  have:=zD6 ((crO c::mid)++[tkO M]) (n:=0) (s:=ws0) (A:=λ_=>[]) (by omega) inv0 hokp ⟨by simp[ws0],λ_ _=>rfl,λx hx=>by simp[ws0]at hx⟩
  rw[hs1]at this
  exact this.same (λid=>by simp)
 have hgw:GW 1 PL ⟨M,[x]⟩ (zEj ws0 ((crO c::mid)++[tkO M])):=by
  have:=zDk zDc ((crO c::mid)++[tkO M]) (n:=0) (s:=ws0) (A:=λ_=>[]) (by omega) inv0 hokp ⟨by simp[ws0],λ_ _=>rfl,λx hx=>by simp[ws0]at hx⟩
  rw[hs1]at this
  exact this.same (λid=>by simp)
 have hbs:=hwb.cnt x (by simp) hxk
 obtain⟨_,hlev,_⟩:=(hgw.cnt x (by simp) hxk).whole
 have hlev':Lev c.k.toNat 0 x.nt.bs:=by have h:=hlev;unfold PL at h;rw[hxc]at h;exact h
 obtain⟨A,hA⟩:∃A,qIo ws0 ((crO c::mid)++[tkO M]) 7=A:=⟨_,rfl⟩
 rw[hxid,hA]at hbs
 have hAM:∀t∈A,t<=M:=by
  rw[<-hA]
  refine zDw M 7 _ ws0 (λo ho h2=>?_)
  rcases List.mem_append.1 ho with ho | ho
  ·rcases List.mem_cons.1 ho with ho | ho
   ·rw[ho]at h2;simp[crO]at h2
   ·rcases hmid o ho with h | h <;> omega
  ·rw[List.mem_singleton]at ho;rw[ho]at h2;simp[tkO]at h2
 obtain⟨R,hW,hRm,hperm⟩:=hbs.whole
 have hxl:x.l=[]:=by
  cases hl:x.l with
  | nil=>rfl
  | cons z l =>
   exfalso
   have h1:=hbs.wait z.t (by rw[hl];simp)
   have h2:=hAM z.t (hperm.mem_iff.1 (by rw[hl];simp))
   rw[hxc,hlag]at h1
   simp only at h1
   omega
 rw[hxl,List.map_nil,List.append_nil]at hperm
 have htk:t.take (mid.length+2)=(crO c::mid)++[tkO M]:=by
  rw[ht]
  exact List.take_left' (by simp)
 have htl:t.length=mid.length+3:=by rw[ht];simp
 have hitems:((qCw t (qD3 t) 7 (M-c.window) M (mid.length+2)).length:Int)=qRd (M-c.window) R:=by
  have h1:=congrArg List.length (qXt t 7 (M-c.window) M (mid.length+2) (by omega))
  rw[List.length_map,htk,hA]at h1
  rw[h1]
  unfold qRd
  rw[(hperm.filter _).length_eq]
  have h2:A.filter (λt=>decide (M-c.window<t/\t<=M))=A.filter (λt=>decide (M-c.window<t)):=List.filter_congr (λt ht=>by have:=hAM t ht;simp;omega)
  rw[h2]
 refine⟨qJt M 100 y,qGw M [x],?_,?_,?_,?_,?_⟩
 ·have h1:=qSs ws0 t (mid.length+1) (tkO M) (by rw[ht];simp)
  have h2:t.take (mid.length+1)=crO c::mid:=by rw[ht,List.append_assoc];exact List.take_left' (by simp)
  rw[h2,hs0,htick]at h1
  exact h1
 ·have h1:=qSs ws0 t (mid.length+2) svO (by rw[ht];simp)
  rw[htk,hs1]at h1
  exact h1
 ·rw[ht,qQz,List.getElem?_append_right (by rw[qJ7];simp),qJ7,hs1]
  simp
  rfl
 ·have:=(qWt M 100 hyi (by omega) (by omega)).2.2.2
  exact this
 ·by_cases hp:0<qJt M 100 y
  ·exact .inl hp
  ·right
   have h0:qJt M 100 y=0:=by
    have:=hlft
    omega
   refine⟨h0,?_⟩
   rw[hlft]at h0
   have hmin:(min (pastN y.nt.bs (M-c.window):Int) 100).toNat=pastN y.nt.bs (M-c.window):=by omega
   rw[hmin]at hxbs
   refine qUf (K:=c.k.toNat) (R:=R) hW (λb hb=>?_) hlev' hxk (by rw[hxc];omega) (by omega) hxl ?_ _ ?_
   ·obtain⟨i,_,hi⟩:=hlev'.ge b hb
    rw[hi]
    have:(0:Int)<2 ^ i:=Int.pow_pos (by omega)
    omega
   ·rw[hxc,hlag,Int.sub_zero,hxbs];exact qWs _ _
   ·rw[hxc,hlag,Int.sub_zero];exact hitems
end
section
open Go.RowKit
attribute [local go_sem ↓] qAb qAe qE7 qE9 qFz qCy
def cc: Cfg:=⟨1,0,9,8,1,5,0,0,0,0,0,0,0,0,0,0,0,0,0,0⟩
def p1: OpM:=⟨1,7,0,0,0,cc,qAa⟩
def p4: OpM:=⟨4,7,5,0,0,cz,qAa⟩
def qYa: List OpM:=[p1,o2,o3,p4]
def qFl: List Value:=p1.cells++(o2.cells++(o3.cells++p4.cells))
theorem zAj: qLc ws0 qYa=[(0,[]),(0,[1]),(0,[0]),(0,[1])]:=by kernel_rfl
theorem zCf(w:World): (qBs 32 #[(0,.int .i64 1),(2,.int .i64 9),(3,.int .i64 8),(4,.int .i64 1),(5,.int .i64 5)]).run Tryz.prog w=.ok (.value (.agg cc.cells.toArray)) w:=by kernel_rfl
theorem zEd(w:World): (qBs 34 #[(0,.int .i64 1),(1,.int .i64 7),(5,.agg cc.cells.toArray)]).run Tryz.prog w=.ok (.value (.agg p1.cells.toArray)) w:=by kernel_rfl
theorem zDt(w:World): (qBs 34 #[(0,.int .i64 4),(1,.int .i64 7),(2,.int .i64 5)]).run Tryz.prog w=.ok (.value (.agg p4.cells.toArray)) w:=by kernel_rfl
theorem zDd(w:World): (qWa 22 4 #[(0,.agg p1.cells.toArray),(1,.agg o2.cells.toArray),(2,.agg o3.cells.toArray),(3,.agg p4.cells.toArray)]).run Tryz.prog w =
  .ok (.value (.slice (some ⟨w.heap.size,0,none⟩) 4 4)) (w.alloc (.cells qFl.toArray 34)):=by kernel_rfl
attribute [local go_sem] qAg qAl qAd qAc qAo qAn qAj qAk zCf zEd zE5 zE0 zDt zDd
theorem zBw(w:World)(b:Nat)(h:Blk w b qFl 34): ScriptAt w b 0 qYa:=by
 intro i o ho
 have hi:i<4:=(List.getElem?_eq_some_iff.1 ho).1
 have hi':i=0\/i=1\/i=2\/i=3:=by omega
 have hr:∀(off:Nat) (cs:List Value),(qFl.drop off).take 26=cs->w.rangeAt b off cs:=by
  intro off cs hcs j v hv
  rw[<-hcs,List.getElem?_take]at hv
  split at hv
  ·exact h.cell (by simpa using hv)
  ·cases hv
 rcases hi' with h' | h' | h' | h'
 all_goals
  subst h'
  injection ho with ho
  subst ho
 ·exact hr 0 _ rfl
 ·exact hr 26 _ rfl
 ·exact hr 52 _ rfl
 ·exact hr 78 _ rfl
theorem qWn{α:Type _}(l:List α)(h:l.length=4): ∃a b c d,l=[a,b,c,d]:=by
 match l,h with
 | [a,b,c,d],_=>exact⟨a,b,c,d,rfl⟩
theorem zBz: qJp qYa:=by
 intro o ho
 simp[qYa,p1,o2,o3,p4]at ho
 rcases ho with h | h | h | h <;> subst h <;> simp
theorem qO7(w:World)(hT:Tab w): Calls Tryz.prog 14 #[] w λe w'=>e=.returned (.bool true)/\Keeps (λ_=>False) w w':=by
 have hst:∀zs:List Value,zs.length=20->(qCp 32 (.pointer (some ⟨w.heap.size,0,none⟩)) (.agg cc.cells.toArray)).run Tryz.prog (w.alloc (.cells zs.toArray 32))=.ok .skip (w.alloc (.cells cc.cells.toArray 32)):=λzs hz=>qHp w zs cc.cells hz rfl (by simp[Cfg.cells,Value.oneCell'])
 have hv1:qAp (w.alloc (.cells cc.cells.toArray 32)) w.heap.size 0 20=.agg cc.cells.toArray:=qAf w cc.cells 32 20 rfl
 have hh1:qAw (w.alloc (.cells cc.cells.toArray 32)) w.heap.size 0 20=true:=qB7 w cc.cells 32 20 rfl
 have HK0:=hide (((Keeps.refl (λ_=>False) w).alloc (.cells cc.cells.toArray 32)).alloc (.cells qFl.toArray 34))
 have HB0:=hide (show Blk ((w.alloc (.cells cc.cells.toArray 32)).alloc (.cells qFl.toArray 34)) (w.heap.size+1) qFl 34 from Blk.newAt (by simp) _ _)
 have HTT:=hide hT
 clear hT
 go_enter Tryz.func14,Tryz.ntmps14
 go_wp2_with fail
 refine(qRg (w.heap.size+1) 0 4 qYa _ (zBw _ _ (uh HB0)) (uh HB0).lt (by decide) ((uh HTT).keeps (uh HK0) (λh=>h)) zBz).mono ?_
 rintro r w1 ⟨v,l,rfl,hA,hM,_,hk1⟩
 rw[zAj]at hM
 obtain⟨x0,x1,x2,x3,hl5⟩:=qWn l (by have:=congrArg List.length hM;simpa using this)
 subst hl5
 simp only[List.map_cons,List.map_nil,List.cons.injEq,Prod.mk.injEq,and_true]at hM
 obtain⟨⟨k0,m0⟩,⟨k1,m1⟩,⟨k2,m2⟩,k3,m3⟩:=hM
 obtain⟨g,cap,hv,hc⟩:=qNq hA (by simp)
 have n3:=hA.nums x3 (by simp)
 rw[m3]at n3
 rcases qPj n3 with ⟨h,_⟩ | ⟨g1,cp1,hv1',hn1⟩
 ·cases h
 have y3:w1.cell? ⟨g,9,none⟩=some (.int .i64 0):=(hc 9 _ rfl).trans (by rw[k3])
 have z3:w1.cell? ⟨g,10,none⟩=some (.slice (some ⟨g1,0,none⟩) 1 cp1):=(hc 10 _ rfl).trans (by rw[hv1'];rfl)
 have q1:w1.cell? ⟨g1,0,none⟩=some (.int .i64 1):=hn1 0 (by simp)
 have HK1:=hide ((uh HK0).then hk1)
 rw[hv]
 clear hA hk1 hc n3 hn1 hv hv1' k0 k1 k2 k3 m0 m1 m2 m3 hst hv1 hh1 HK0 HB0
 show _
 go_wp2
 go_ret
 exact⟨rfl,uh HK1⟩
end
section
open Go.RowKit
def zDh(w:World)(base:Nat)(v:Value)(l:List Int): Prop:=((∃a c,v=.slice a 0 c)/\l=[])\/∃b off cap,v=.slice (some ⟨b,off,none⟩) l.length cap/\0<l.length/\l.length<=140737488355328/\b<base/\∀(i:Nat) u,l[i]?=some u->w.cell? ⟨b,off+i,none⟩=some (.int .i64 u)/\-9223372036854775808<=u/\u<=9223372036854775807
theorem qS9(c n:Int)(hc:0<=c)(hn:1<=n): c%n<=c:=by
 have h1:=Int.mul_nonneg (show 0<=n by omega) (Int.ediv_nonneg hc (show 0<=n by omega))
 have h2:=Int.emod_add_mul_ediv c n
 omega
theorem qNo(c n:Int)(w:World)(hn:1<=n)(c0:-9223372036854775808<=c)(c1:c<=9223372036854775807):
  Calls Tryz.prog 10 #[.int .i64 c,.int .i64 n] w λe w'=>∃k:Nat,(k:Int)<n/\e=.returned (.int .i64 k)/\w'=w:=by
 by_cases h:c<0
 ·obtain⟨k,hk⟩:∃k:Nat,(k:Int)=(-(c+1))%n:=⟨((-(c+1))%n).toNat,Int.toNat_of_nonneg (Int.emod_nonneg _ (by omega))⟩
  have hlt:=Int.emod_lt_of_pos (-(c+1)) (show 0<n by omega)
  have hke:=qS9 (-(c+1)) n (by omega) hn
  have HK:=hide hk
  clear hk
  go_enter Tryz.func10,Tryz.ntmps10
  go_wp2
  go_ret
  exact⟨k,by rw[uh HK];exact hlt,qBc ((Int.neg_tmod (c+1) n).symm.trans ((Int.tmod_eq_emod_of_nonneg (by omega)).trans (uh HK).symm)),rfl⟩
 ·obtain⟨k,hk⟩:∃k:Nat,(k:Int)=c%n:=⟨(c%n).toNat,Int.toNat_of_nonneg (Int.emod_nonneg _ (by omega))⟩
  have hlt:=Int.emod_lt_of_pos c (show 0<n by omega)
  have hke:=qS9 c n (by omega) hn
  have HK:=hide hk
  clear hk
  go_enter Tryz.func10,Tryz.ntmps10
  go_wp2
  go_ret
  exact⟨k,by rw[uh HK];exact hlt,qBc (uh HK).symm,rfl⟩
theorem zAl{w:World}{base g n cap:Nat}{l:List Ans}{t:List OpM}(h:ARep w base (.slice (some ⟨g,0,none⟩) n cap) l)(hm:l.map (λx=>(x.code,x.nums))=qLc ws0 t): qWi w g (qD3 t):=by
 intro i hi
 have hl:l.length=t.length:=by have:=congrArg List.length hm;rwa [List.length_map,qFs]at this
 rw[qHo]at hi
 obtain⟨x,hx⟩:∃x,l[i]?=some x:=⟨l[i]'(by omega),List.getElem?_eq_getElem _⟩
 obtain⟨g',e,a0,_,_⟩:=qJ9 h i x hx
 have e1:some (x.code,x.nums)=(qLc ws0 t)[i]?:=by rw[<-hm,List.getElem?_map,hx];rfl
 have e2:qGx (qD3 t) i=x.code:=by
  unfold qGx qD3
  rw[List.getD_eq_getElem?_getD,List.getElem?_map,<-e1]
  rfl
 rw[e2]
 injection e with e3
 injection e3 with e3
 rw[e3]
 exact a0
def qTz(K W:Int): Cfg:=⟨1,0,100,8,K,W,0,0,0,0,0,0,0,0,0,0,0,0,0,0⟩
theorem qPv{K W:Int}(k0:1<=K)(k1:K<=10)(w0:1<=W)(w1:W<=1000): qA6 (qTz K W)=true:=by
 have h1:inB K 1 10=true:=by simp[inB,k0,k1]
 have h2:inB W 1 1000=true:=by simp[inB,w0,w1]
 have h3:qA6 (qTz K W)=(inB 1 1 5&&((inB 0 0 100&&(inB 100 0 100&&inB 8 1 8))&&(inB K 1 10&&inB W 1 1000))):=rfl
 rw[h3,h1,h2]
 decide
def adO(a:Int): OpM:=⟨2,7,a,0,0,cz,qAa⟩
theorem zDp(K W:Int)(w:World): (qBs 32 #[(0,.int .i64 1),(3,.int .i64 8),(2,.int .i64 100),(4,.int .i64 K),(5,.int .i64 W)]).run Tryz.prog w=.ok (.value (.agg (qTz K W).cells.toArray)) w:=by kernel_rfl
theorem zCh(c:Cfg)(w:World): (qBs 34 #[(0,.int .i64 1),(1,.int .i64 7),(5,.agg c.cells.toArray)]).run Tryz.prog w=.ok (.value (.agg (crO c).cells.toArray)) w:=by kernel_rfl
theorem zBn(a:Int)(w:World): (qBs 34 #[(0,.int .i64 2),(1,.int .i64 7),(2,.int .i64 a)]).run Tryz.prog w=.ok (.value (.agg (adO a).cells.toArray)) w:=by kernel_rfl
theorem zCa(a:Int)(w:World): (qBs 34 #[(0,.int .i64 3),(2,.int .i64 a),(3,.int .i64 100)]).run Tryz.prog w=.ok (.value (.agg (tkO a).cells.toArray)) w:=by kernel_rfl
theorem zCr(w:World): (qBs 34 #[(0,.int .i64 6)]).run Tryz.prog w=.ok (.value (.agg svO.cells.toArray)) w:=by kernel_rfl
theorem zBc(w:World)(o:OpM)(base:Nat)(hb:base<=w.heap.size): qMb (w.alloc (.cells o.cells.toArray 34)) base (.slice (some ⟨w.heap.size,0,none⟩) 1 1) [o]:=by
 have:=World.ownsRow_lit (e:=34) (size:=26) w o.cells.toArray 1 hb (by unfold maxLen;omega) rfl
 have e:qDv [o]=o.cells:=by simp[qDv]
 unfold qMb
 rw[e]
 simpa using this
def MidOk(l:List OpM)(M:Int): Prop:=∀o∈l,(o.kind=2/\o.a<=M)\/(o.kind=3/\o.a<=M)
theorem MidOk.mono{l:List OpM}{M N:Int}(h:MidOk l M)(hm:M<=N): MidOk l N:=λo ho=>by rcases h o ho with h | h <;> omega
theorem MidOk.add{l:List OpM}{M a:Int}(h:MidOk l M)(ha:a<=M): MidOk (l++[adO a]) M:=λo ho=>by
 rcases List.mem_append.1 ho with ho | ho
 ·exact h o ho
 ·rw[List.mem_singleton]at ho;rw[ho];exact .inl ⟨rfl,ha⟩
theorem MidOk.tick{l:List OpM}{M:Int}(h:MidOk l M): MidOk (l++[tkO M]) M:=λo ho=>by
 rcases List.mem_append.1 ho with ho | ho
 ·exact h o ho
 ·rw[List.mem_singleton]at ho;rw[ho];exact .inr ⟨rfl,Int.le_refl _⟩
theorem zBh{c:Cfg}{l:List OpM}{M:Int}(h:MidOk l M): qJp ((crO c::l)++[svO]):=λo ho=>by
 rcases List.mem_append.1 ho with ho | ho
 ·rcases List.mem_cons.1 ho with ho | ho
  ·rw[ho];show(1:Int)≠7;omega
  ·rcases h o ho with h | h <;> omega
 ·rw[List.mem_singleton]at ho;rw[ho];show(6:Int)≠7;omega
theorem bitLen_half{n:Nat}(h:0<n): Go.bitLen n=Go.bitLen (n/2)+1:=by
 have h1:=bitLen_spec n
 have h2:=bitLen_spec (n/2)
 have h3:=h1.2 (by omega)
 have a1:=h1.1
 have a2:=h2.1
 by_cases hz:n/2=0
 ·have hn:n=1:=by omega
  subst hn
  decide
 ·have h4:=h2.2 hz
  generalize hp:Go.bitLen n=p at *
  generalize hq:Go.bitLen (n/2)=q at *
  have hq1:1<=q:=by
   rcases Nat.lt_or_ge q 1 with h | h
   ·have:q=0:=by omega
    subst this;simp at a2;omega
   ·exact h
  have hp1:1<=p:=by
   rcases Nat.lt_or_ge p 1 with h | h
   ·have:p=0:=by omega
    subst this;simp at a1;omega
   ·exact h
  have b1:2 ^ q<=n:=by
   have e:2 ^ q=2*2 ^ (q-1):=by
    obtain⟨q',rfl⟩:∃q',q=q'+1:=⟨q-1,by omega⟩
    rw[Nat.add_sub_cancel,Nat.pow_succ,Nat.mul_comm]
   omega
  have b2:n<2 ^ (q+1):=by rw[Nat.pow_succ];omega
  have c1:q<p:=by
   apply Nat.lt_of_not_le
   intro hle
   have:=Nat.pow_le_pow_right (show 1<=2 by omega) hle
   omega
  have c2:p-1<q+1:=by
   apply Nat.lt_of_not_le
   intro hle
   have:=Nat.pow_le_pow_right (show 1<=2 by omega) hle
   omega
  omega
theorem qUb(n:Nat)(w:World)(hn:n<=4611686018427387904): Calls Tryz.prog 16 #[.int .i64 n] w λe w'=>e=.returned (.int .i64 (Go.bitLen n:Nat))/\w'=w:=by
 have HB:=hide (show Go.bitLen n<=63 by
    apply Nat.le_of_not_lt
    intro h
    have h1:=(bitLen_spec n).2 (by intro e;subst e;simp[Go.bitLen]at h)
    have h2:=Nat.pow_le_pow_right (show 1<=2 by omega) (show 63<=Go.bitLen n-1 by omega)
    have e:(2:Nat) ^ 63=9223372036854775808:=by decide
    omega)
 go_enter Tryz.func16,Tryz.ntmps16
 go_wp2
 go_loopw [0,3] (λnv kv wr=>∃(m j:Nat),nv=.int .i64 m/\kv=.int .i64 j/\m<=4611686018427387904/\Hid (j+Go.bitLen m=Go.bitLen n)/\wr=w) (λnv _ _=>(intOf nv).toNat)
 case atStart=>exact⟨n,0,rfl,rfl,hn,Nat.zero_add _,rfl⟩
 case round =>
  obtain⟨m,j,rfl,rfl,hm,HS,rfl⟩:=hrel
  have hj:j<=63:=by have h1:=uh HS;have h2:=uh HB;omega
  by_cases hm0:0<m
  ·have hmi:(0:Int)<(m:Int):=by omega
   have hq:(m:Int).tdiv 2=((m/2:Nat):Int):=by rw[Int.tdiv_eq_ediv_of_nonneg (by omega)];omega
   have HN:=hide (show j+1+Go.bitLen (m/2)=Go.bitLen n by have h1:=uh HS;rw[bitLen_half hm0]at h1;omega)
   go_wp2
   go_roundw
   case rel=>exact⟨m/2,j+1,by go_num,by go_num,by omega,HN,by trivial⟩
   case measure=>simp[intOf];omega
  ·have hm1:m=0:=by omega
   subst hm1
   go_wp2
   go_ret
   have h1:=uh HS
   have h2:Go.bitLen 0=0:=by decide
   rw[h2,Nat.add_zero]at h1
   exact⟨by rw[<-h1];rfl,rfl⟩
end
end Go.Proofs.YtahnliehdjncdabGreatDoor
