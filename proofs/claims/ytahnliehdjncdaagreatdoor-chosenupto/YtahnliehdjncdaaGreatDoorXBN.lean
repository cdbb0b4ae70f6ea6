import Derived.Deep.DeepHandedRow
import Derived.Lib.LaidTab
import Derived.SevenTiedAt
import Derived.Test.YtahnliehdjncdaaGreatDoorCards
import Derived.Test.YtahnliehdjncdaaGreatDoorXBM
import Derived.Test.YtahnliehdjncdaaGreatDoorXAR
import Derived.Test.YtahnliehdjncdaaGreatDoorTie
import Derived.Test.YtahnliehdjncdaaGreatDoorXAZ
import Derived.Test.YtahnliehdjncdaaGreatDoorXBC
import Derived.Test.YtahnliehdjncdaaGreatDoorXBK
set_option maxRecDepth 100000
set_option maxHeartbeats 16000000
namespace Go.Proofs.YtahnliehdjncdaaGreatDoor
section
open Go.ChangeShapes Go.WideShapes Go.ChangeAt Go.RowKit Go.Deep
theorem gTab: Tryz.prog.globalNamed "math/bits.deBruijn64tab"=some 2:=by kernel_rfl
theorem qXp: (Tryz.prog.globals[2]?).map (·.type)=some 287:=by kernel_rfl
theorem zAa: Tryz.prog.cellsOf 287=64:=by kernel_rfl
theorem qZm: Tryz.prog.cellsOf 5=1:=by kernel_rfl
theorem zAj: Tryz.prog.underlying 5=some (.int .u8):=by kernel_rfl
def qNt: List Int:=Lib.deBruijn64tab.map λ(n:Nat)=>(n:Int)
def qZp: Array Value:=(qNt.map (.int .u8 ·)).toArray
theorem zA4{W:World}(h:laidMetH Tryz.prog [("math/bits.deBruijn64tab",Rows.laid_math_bits_deBruijn64tab)] W): Tab W:=by
 have ht:Lib.TabIs Tryz.prog W "math/bits.deBruijn64tab" .u8 qNt:=Lib.tabIs_of_head (rest:=[]) gTab qXp Tryz.underlying287 zAj qZm zAa h
 intro j hj
 have h1:=ht.cell gTab j (by simpa[qNt] using hj)
 rw[h1]
 unfold qNt
 rw[List.getD_eq_getElem?_getD,List.getD_eq_getElem?_getD,List.getElem?_map,List.getElem?_eq_getElem hj]
 rfl
noncomputable def qJ5(os:Os): World :=
 { World.holding Tryz.prog os ⟨#[],#[],[]⟩ with heap:=(World.holding Tryz.prog os ⟨#[],#[],[]⟩).heap.modify 2 fun
     | .cells _ t frozen=>.cells qZp t frozen
     | o=>o }
theorem qPz{H:Type}{enc:TypeId×Value->H}{W:World}{fuel:Nat}{a0:Option Addr}{len cap:Nat}{d:DataW H}{p:List MemPlace}(hf:DataW.trod enc Tryz.prog W 0 (λ_=>true) true fuel 22 (Value.slice a0 len cap).cells.toList=some (d,p))(hlt:∀x∈p,x.block<W.heap.size):
  ∃ops,ScriptW W (.slice a0 len cap) ops/\ops.length=len/\(len≠0->∃elems spare,d=.slice elems spare/\len<=elems.length+spare.length):=by
 by_cases hl0:len=0
 ·subst hl0
  exact⟨[],.inl ⟨⟨_,_,rfl⟩,rfl⟩,rfl,λh=>absurd rfl h⟩
 ·rcases open_slice Tryz.underlying22 hf with ⟨hcs,hx⟩ | ⟨a,len',cap',k,n,D,Pl,hcs,_,hl,hm,hk,hx,hcell⟩
  ·simp[Value.cells]at hcs
   exact absurd hcs.2.1 hl0
  ·simp[Value.cells]at hcs
   obtain⟨rfl,rfl,rfl⟩:=hcs
   simp only[Prod.mk.injEq]at hx
   obtain⟨rfl,rfl⟩:=hx
   simp only[if_true]at hk
   subst k
   rw[qP6]at hcell
   obtain⟨b,off,spot⟩:=a
   have hspot:spot=none:=by
    obtain⟨cs',h1,_⟩:=hcell 0 (by omega)
    obtain⟨_,h2,h3⟩:=World.cells?_some h1
    have h4:=h3 0 (by omega)
    rw[List.getElem?_eq_getElem (by omega)]at h4
    simpa[Addr.add] using World.cell?_spot h4
   subst hspot
   have hbW:b<W.heap.size:=hlt (.cell b off) (List.mem_append_left _ (MemPlace.mem_row.2 ⟨0,by rw[qP6];omega,by simp⟩))
   have hops:∀i,i<len->∃o:OpM,W.rangeAt b (off+i*26) o.cells:=by
    intro i hi
    obtain⟨cs',h1,h2⟩:=hcell i (by omega)
    obtain⟨V,bs,rfl,_⟩:=qZ0 h2
    obtain⟨_,h3,h4⟩:=World.cells?_some h1
    refine⟨opOf V bs,λj v hv=>?_⟩
    have hj:j<26:=by have:=(List.getElem?_eq_some_iff.1 hv).1;omega
    have:=h4 j hj
    rw[add_add,add_plain,hv,<-Nat.add_assoc]at this
    exact this
   haveI:Inhabited OpM:=⟨o1⟩
   obtain⟨O,hO⟩:=choose_lt (α:=OpM) hops
   refine⟨(List.range len).map O,.inr ⟨b,off,cap,by simp,by simpa using hl,?_,hbW⟩,by simp,λ_=>⟨_,_,rfl,by simp⟩⟩
   intro i o ho
   have hi:i<len:=by have:=(List.getElem?_eq_some_iff.1 ho).1;simpa using this
   have:O i=o:=by simpa[hi] using ho
   rw[<-this]
   exact hO i hi
end
section
def HB(K:Int): List Bk->Prop
 | []=>True
 | b::l=>K*(b.sz-1)<=qD6 l/\HB K l
theorem qU4(m:Int)(f:Nat): ∀x:Ser,x.l.length<f->HeapL x.l->HeapL (qGt f x m).l/\(qGt f x m).c=x.c/\(qGt f x m).k=x.k/\(qGt f x m).id=x.id:=by
 induction f with
 | zero=>intro x h;omega
 | succ f ih =>
  intro x hf hh
  unfold qGt
  split
  ·exact⟨hh,rfl,rfl,rfl⟩
  ·rename_i he
   have hne:x.l≠[]:=λh=>he (by rw[h];rfl)
   split
   ·exact⟨hh,rfl,rfl,rfl⟩
   ·obtain⟨th,tp⟩:=take_heap x.l hh hne
    have hlen:(qEh x m).l.length=x.l.length-1:=takeL_length _
    have hpos:0<x.l.length:=List.length_pos_iff.2 hne
    obtain⟨h1,h2,h3,h4⟩:=ih (qEh x m) (by omega) th
    exact⟨h1,h2,h3,h4⟩
theorem qP7{c:Int}(xs:List Ser): ∀(b:Int) (z:Ser),z∈(qBy c b xs).1->∃y,y∈xs/\∃b',z=qTw c b' y:=by
 induction xs with
 | nil=>intro b z hz;simp[qBy]at hz
 | cons x xs ih =>
  intro b z hz
  simp only[qBy]at hz
  rcases List.mem_cons.1 hz with hz | hz
  ·exact⟨x,by simp,b,hz⟩
  ·obtain⟨y,hy,h⟩:=ih _ z hz
   exact⟨y,by simp[hy],h⟩
theorem qTd(c:Int)(xs:List Ser): ∀b,(qBy c b xs).1.map (·.id)=xs.map (·.id):=by
 induction xs with
 | nil=>intro b;rfl
 | cons x xs ih=>intro b;simp only[qBy,List.map_cons,ih];rfl
theorem qGv{xs:List Ser}{id:Int}{x:Ser}(h:qDk xs id=some x): ∃l1 l2,xs=l1++x::l2/\x.id=id/\∀y:Ser,qIx xs id y=l1++y::l2:=by
 obtain⟨hp,l1,l2,he,hn⟩:=List.find?_eq_some_iff_append.1 h
 refine⟨l1,l2,he,by simpa using hp,λy=>?_⟩
 subst he
 clear h
 induction l1 with
 | nil=>simp[qIx];intro h0;exact absurd (by simpa using hp) h0
 | cons a l1 ih =>
  have ha:=hn a (by simp)
  simp only[List.cons_append,qIx]
  rw[if_neg (by simpa using ha),ih (λz hz=>hn z (by simp[hz]))]
theorem qWg{x:Ser}{clock:Int}{y:It}(h:qKv x clock y=0): clock-x.c.lag<y.t:=by
 unfold qKv at h
 split at h
 ·split at h
  ·omega
  ·omega
 ·omega
theorem qR9(s:WS)(o:OpM)(h7:o.kind≠7): (qBg s o).1.clock=if o.kind=3/\(qBg s o).2.1=0/\s.clock<o.a then o.a else s.clock:=by
 by_cases h3:o.kind=3
 ·have hs:qBg s o=qH7 s o:=by unfold qBg;rw[if_neg (by omega),if_neg (by omega),if_pos h3]
  rw[hs]
  unfold qH7
  by_cases ha:inB o.a 0 4611686018427387904=true
  ·rw[if_pos ha]
   by_cases hb:inB o.b 0 100=true
   ·rw[if_pos hb]
    show qF0 s.clock o.a=_
    unfold qF0
    by_cases hc:s.clock<o.a
    ·rw[if_pos hc,if_pos ⟨h3,rfl,hc⟩]
    ·rw[if_neg hc,if_neg (λh=>hc h.2.2)]
   ·rw[if_neg hb,if_neg (λh=>by have:=h.2.1;simp at this)]
  ·rw[if_neg ha,if_neg (λh=>by have:=h.2.1;simp at this)]
 ·rw[if_neg (λh=>h3 h.1)]
  unfold qBg
  split
  ·unfold qCo;split
   ·split
    ·split <;> rfl
    ·rfl
   ·rfl
  ·split
   ·unfold qMt;split
    ·rfl
    ·split <;> rfl
   ·split
    ·unfold qFz;split <;> rfl
    ·split
     ·unfold qGg;split <;> rfl
     ·first | (rw[if_neg h7];split <;> rfl) | (split <;> rfl)
theorem zBf(id:Int): ∀(l l':List Ser),l.map (λx=>(x.id,x.c))=l'.map (λx=>(x.id,x.c))->(qDk l id).map (·.c)=(qDk l' id).map (·.c):=by
 intro l
 induction l with
 | nil=>intro l' h;cases l' with
  | nil=>rfl
  | cons a l'=>simp at h
 | cons a l ih =>
  intro l' h
  cases l' with
  | nil=>simp at h
  | cons b l' =>
   simp only[List.map_cons,List.cons.injEq,Prod.mk.injEq]at h
   obtain⟨⟨h1,h2⟩,h3⟩:=h
   have:=ih l' h3
   unfold qDk at *
   rw[List.find?_cons,List.find?_cons,h1]
   cases (b.id==id)
   ·exact this
   ·simp[h2]
theorem zB0{xs:List Ser}{id:Int}{x y:Ser}(hf:qDk xs id=some x)(h1:y.id=x.id)(h2:y.c=x.c): (qIx xs id y).map (λx=>(x.id,x.c))=xs.map (λx=>(x.id,x.c)):=by
 obtain⟨l1,l2,he,_,hu⟩:=qGv hf
 rw[hu,he];simp[h1,h2]
theorem qXq(c:Int)(xs:List Ser): ∀b,(qBy c b xs).1.map (λx=>(x.id,x.c))=xs.map (λx=>(x.id,x.c)):=by
 induction xs with
 | nil=>intro b;rfl
 | cons x xs ih=>intro b;simp only[qBy,List.map_cons,ih];rfl
theorem qX3(s:WS)(o:OpM)(id:Int)(h7:o.kind≠7): (qDk (qBg s o).1.xs id).map (·.c)=match (qDk s.xs id).map (·.c) with
  | some c=>some c
  | none=>if o.kind=1/\o.id=id/\(qBg s o).2.1=0 then some o.cfg else none:=by
 have key:∀(p:Prop) [Decidable p] (r:Option Cfg),¬p->r=match r with | some c=>some c | none=>if p then some o.cfg else none:=by
  intro p _ r hp;cases r with
  | none=>simp[hp]
  | some c=>rfl
 by_cases h1:o.kind=1
 ·have hs:qBg s o=qCo s o:=by unfold qBg;rw[if_pos h1]
  rw[hs]
  unfold qCo
  by_cases ha:inB o.id 0 99=true/\(qDk s.xs o.id).isNone=true
  ·rw[if_pos ha]
   by_cases hv:qA4 o.cfg=true
   ·rw[if_pos hv]
    by_cases h6:s.xs.length<6
    ·rw[if_pos h6]
     show(qDk (s.xs++[qBt o.id o.cfg o.cfg.kind.toNat]) id).map (·.c)=_
     have e:qDk (s.xs++[qBt o.id o.cfg o.cfg.kind.toNat]) id=(qDk s.xs id).or (qDk [qBt o.id o.cfg o.cfg.kind.toNat] id):=List.find?_append
     rw[e]
     cases hf:qDk s.xs id with
     | some x=>rfl
     | none =>
      simp only[Option.none_or,Option.map_none]
      by_cases hid:o.id=id
      ·rw[if_pos ⟨h1,hid,by simp⟩]
       simp[qDk,qBt,hid]
      ·rw[if_neg (λh=>hid h.2.1)]
       simp[qDk,qBt,hid]
    ·rw[if_neg h6];exact key _ _ (λh=>by have:=h.2.2;simp at this)
   ·rw[if_neg hv];exact key _ _ (λh=>by have:=h.2.2;simp at this)
  ·rw[if_neg ha];exact key _ _ (λh=>by have:=h.2.2;simp at this)
 ·have hsame:(qDk (qBg s o).1.xs id).map (·.c)=(qDk s.xs id).map (·.c):=by
   refine zBf id _ _ ?_
   unfold qBg
   rw[if_neg h1]
   split
   ·unfold qMt
    split
    ·rfl
    ·rename_i x hf
     split
     ·exact zB0 hf rfl rfl
     ·exact zB0 hf rfl rfl
   ·split
    ·unfold qH7
     split
     ·split
      ·show(qBy _ _ _).1.map _=_
       rw[qXq,List.map_map]
       refine List.map_congr_left λx _=>?_
       have h:=qKo (x.l.length+1) x (qF0 s.clock o.a-x.c.lag)
       show((qBr _ x).id,(qBr _ x).c)=_
       unfold qBr
       rw[h.2.1,h.2.2]
      ·rfl
     ·rfl
    ·split
     ·unfold qFz;split <;> rfl
     ·split
      ·unfold qGg;split <;> rfl
      ·first | (rw[if_neg h7];split <;> rfl) | (split <;> rfl)
  rw[hsame];exact key _ _ (λh=>h1 h.1)
end
section
open Go.RowKit
attribute [local go_sem ↓] qAd qAe qB6
attribute [local go_sem] qAh qAi qAb qAc qAp qAo qAk qAj qAf qAl
def opAt(ops:List OpM)(i:Nat): OpM:=ops.getD i ⟨0,0,0,0,0,⟨0,0,0,0,0,0,0,0,0,0,0,0,0,0,0,0,0,0,0,0⟩,qAa⟩
def qEg(cs:List Int)(i:Nat): Int:=cs.getD i 1
def CodesAt(w:World)(g:Nat)(cs:List Int): Prop:=∀(i:Nat),i<cs.length->w.cell? ⟨g,i*3,none⟩=some (.int .i64 (qEg cs i))
theorem CodesAt.keeps{M:Nat->Prop}{w w':World}{g:Nat}{cs:List Int}(h:CodesAt w g cs)(hk:Keeps M w w')(hn:¬M g): CodesAt w' g cs:=λi hi=>hk.cell (h i hi) hn
theorem qEe{w:World}{sb so:Nat}{ops:List OpM}(h:ScriptAt w sb so ops){i:Nat}(hi:i<ops.length): w.cell? ⟨sb,so+i*26,none⟩=some (.int .i64 (opAt ops i).kind)/\w.cell? ⟨sb,so+i*26+1,none⟩=some (.int .i64 (opAt ops i).id)/\w.cell? ⟨sb,so+i*26+2,none⟩=some (.int .i64 (opAt ops i).a):=by
 have e:opAt ops i=ops[i]:=by simp[opAt,List.getD_eq_getElem?_getD,List.getElem?_eq_getElem hi]
 have h1:=h i ops[i] (List.getElem?_eq_getElem hi)
 rw[e]
 exact⟨by simpa using h1 0 _ rfl,h1 1 _ rfl,h1 2 _ rfl⟩
def qCg(ops:List OpM)(cs:List Int): Nat->Int
 | 0=>0
 | n+1=>if (opAt ops n).kind=3/\qEg cs n=0/\qCg ops cs n<(opAt ops n).a then(opAt ops n).a else qCg ops cs n
theorem qJt(ops:List OpM)(cs:List Int)(n:Nat): qCg ops cs (n+1)=if (opAt ops n).kind=3/\qEg cs n=0/\qCg ops cs n<(opAt ops n).a then(opAt ops n).a else qCg ops cs n:=rfl
theorem qV1(sb so cap g acap:Nat)(ops:List OpM)(cs:List Int)(n:Nat)(w:World)(hs:ScriptAt w sb so ops)(ha:CodesAt w g cs)(hn:n<=ops.length)(hc:cs.length=ops.length)(hl:ops.length<=1099511627776):
  Calls Tryz.prog 26 #[.slice (some ⟨sb,so,none⟩) ops.length cap,.slice (some ⟨g,0,none⟩) ops.length acap,.int .i64 n] w λr w'=>r=.returned (.int .i64 (qCg ops cs n))/\w'=w:=by
 have HS:=hide hs
 have HA:=hide ha
 have HC:=hide hc
 clear hs ha hc
 generalize hm:ops.length=m at *
 have HM:=hide hm
 clear hm
 go_enter Tryz.func26,Tryz.ntmps26
 go_wp2
 go_loopw [7,8] (λt i wr=>∃k:Nat,i=.int .i64 k/\k<=n/\t=.int .i64 (qCg ops cs k)/\wr=w) (λ_ i _=>n-(intOf i).toNat)
 case atStart=>exact⟨0,rfl,Nat.zero_le _,rfl,rfl⟩
 case round =>
  obtain⟨k,rfl,hk,rfl,hwr⟩:=hrel
  rw[hwr]
  clear hwr wr
  by_cases hlk:k<n
  ·obtain⟨c0,_,c2⟩:=qEe (uh HS) (i:=k) (by rw[uh HM];omega)
   have ca:=uh HA k (by rw[uh HC];omega)
   have HN:=hide (qJt ops cs k)
   generalize opAt ops k=o at *
   generalize qEg cs k=c at *
   generalize qCg ops cs k=T at *
   have hk0:(0:Int)<=(k:Int):=by omega
   have hkn:(k:Int)<(n:Int):=by omega
   have hkm:(k:Int)<(m:Int):=by omega
   cases h1:(o.kind==3)
   ·have h1':¬o.kind=3:=by simpa using h1
    have HN':=hide (show qCg ops cs (k+1)=T by rw[uh HN,if_neg (λh=>h1' h.1)])
    clear h1'
    go_wp2
    go_roundw
    case rel=>exact⟨k+1,by go_num,by omega,by rw[uh HN'],by simp⟩
    case measure=>simp[intOf];omega
   ·have h1':o.kind=3:=by simpa using h1
    cases h2:(c==0)
    ·have h2':¬c=0:=by simpa using h2
     have HN':=hide (show qCg ops cs (k+1)=T by rw[uh HN,if_neg (λh=>h2' h.2.1)])
     clear h2' h1'
     go_wp2
     go_roundw
     case rel=>exact⟨k+1,by go_num,by omega,by rw[uh HN'],by simp⟩
     case measure=>simp[intOf];omega
    ·have h2':c=0:=by simpa using h2
     cases h3:decide (T<o.a)
     ·have h3':¬T<o.a:=by simpa using h3
      have HN':=hide (show qCg ops cs (k+1)=T by rw[uh HN,if_neg (λh=>h3' h.2.2)])
      clear h3' h2' h1'
      go_wp2
      go_roundw
      case rel=>exact⟨k+1,by go_num,by omega,by rw[uh HN'],by simp⟩
      case measure=>simp[intOf];omega
     ·have h3':T<o.a:=by simpa using h3
      have HN':=hide (show qCg ops cs (k+1)=o.a by rw[uh HN,if_pos ⟨h1',h2',h3'⟩])
      clear h3' h2' h1'
      go_wp2
      go_roundw
      case rel=>exact⟨k+1,by go_num,by omega,by rw[uh HN'],by simp⟩
      case measure=>simp[intOf];omega
  ·have hkn:k=n:=by omega
   subst hkn
   have hf:decide ((k:Int)<(k:Int))=false:=by simp
   go_wp2
   go_ret
   exact⟨rfl,rfl⟩
def qCn(ops:List OpM)(cs:List Int)(id:Int): Nat->Option Cfg
 | 0=>none
 | n+1=>match qCn ops cs id n with
  | some c=>some c
  | none=>if (opAt ops n).kind=1/\(opAt ops n).id=id/\qEg cs n=0 then some (opAt ops n).cfg else none
theorem qN2(ops:List OpM)(cs:List Int)(id:Int)(n:Nat)(h:qCn ops cs id n=none): qCn ops cs id (n+1)=if (opAt ops n).kind=1/\(opAt ops n).id=id/\qEg cs n=0 then some (opAt ops n).cfg else none:=by
 show(match qCn ops cs id n with | some c=>some c | none=>_)=_
 rw[h]
theorem qOk(ops:List OpM)(cs:List Int)(id:Int)(n m:Nat)(c:Cfg)(h:qCn ops cs id n=some c)(hm:n<=m): qCn ops cs id m=some c:=by
 induction m with
 | zero =>
  have:n=0:=by omega
  subst this
  exact h
 | succ m ih =>
  by_cases e:n=m+1
  ·rw[<-e];exact h
  ·show(match qCn ops cs id m with | some c=>some c | none=>_)=_
   rw[ih (by omega)]
theorem qUc{w:World}{sb so:Nat}{ops:List OpM}(h:ScriptAt w sb so ops){i:Nat}(hi:i<ops.length): qAn w sb (so+i*26+5) 20=.agg (opAt ops i).cfg.cells.toArray/\qAr w sb (so+i*26+5) 20=true:=by
 have e:opAt ops i=ops[i]:=by simp[opAt,List.getD_eq_getElem?_getD,List.getElem?_eq_getElem hi]
 have h1:=h i ops[i] (List.getElem?_eq_getElem hi)
 rw[e]
 have h2:w.rangeAt sb (so+i*26+5) ops[i].cfg.cells:=by
  intro j v hv
  have hj:j<20:=by have:=(List.getElem?_eq_some_iff.1 hv).1;simpa[Cfg.cells] using this
  have h3:ops[i].cells[5+j]?=some v:=by
   have e2:(ops[i].cells.drop 5).take 20=ops[i].cfg.cells:=rfl
   rw[<-e2,List.getElem?_take,if_pos hj,List.getElem?_drop]at hv
   exact hv
  have:=h1 (5+j) v h3
  rw[show so+i*26+5+j=so+i*26+(5+j) by omega]
  exact this
 have h3:=qAm h2
 have e3:ops[i].cfg.cells.length=20:=rfl
 rw[e3]at h3
 exact⟨by unfold qAn;rw[h3.1],h3.2⟩
def qR3: Cfg:=⟨0,0,0,0,0,0,0,0,0,0,0,0,0,0,0,0,0,0,0,0⟩
attribute [local go_sem ↓] qC7 qE0
theorem qY2(w:World): (qA5 38 #[]).run Tryz.prog w=.ok (.value (.agg qR3.cells.toArray)) w:=by kernel_rfl
attribute [local go_sem] qY2
theorem qTm(sb so cap g acap:Nat)(ops:List OpM)(cs:List Int)(n:Nat)(id:Int)(w:World)(hs:ScriptAt w sb so ops)(ha:CodesAt w g cs)(hn:n<=ops.length)(hc:cs.length=ops.length)(hl:ops.length<=1099511627776):
  Calls Tryz.prog 25 #[.slice (some ⟨sb,so,none⟩) ops.length cap,.slice (some ⟨g,0,none⟩) ops.length acap,.int .i64 n,.int .i64 id] w λr w'=>r=.returned (.tuple #[((qCn ops cs id n).getD qR3).val,.bool (qCn ops cs id n).isSome])/\Keeps (λ_=>False) w w':=by
 obtain⟨W,hW⟩:∃W,W=w.alloc (.cells qR3.cells.toArray 38):=⟨_,rfl⟩
 have hkW:Keeps (λ_=>False) w W:=by rw[hW];exact(Keeps.refl _ _).alloc _
 have HS:=hide (show ScriptAt W sb so ops from λi o ho j v hv=>hkW.cell (hs i o ho j v hv) (λh=>h))
 have HA:=hide (ha.keeps hkW (λh=>h))
 have HC:=hide hc
 have HK:=hide hkW
 have HW:=hide (show w.alloc (.cells #[.int .i64 0,.int .i64 0,.int .i64 0,.int .i64 0,.int .i64 0,.int .i64 0,.int .i64 0,.int .i64 0,.int .i64 0,.int .i64 0,.int .i64 0,.int .i64 0,.int .i64 0,.int .i64 0,.int .i64 0,.int .i64 0,.int .i64 0,.int .i64 0,.int .i64 0,.int .i64 0] 38)=W from hW.symm)
 have HWW:=hide hW
 have HST:=hide (show ∀c:Cfg,(qCq 38 (.pointer (some ⟨w.heap.size,0,none⟩)) (.agg c.cells.toArray)).run Tryz.prog W=.ok .skip (w.alloc (.cells c.cells.toArray 38)) from λc=>by
    rw[hW];exact qD2 w qR3.cells c.cells rfl rfl (by simp[Cfg.cells,Value.oneCell']))
 clear hs ha hc hkW hW
 generalize hm:ops.length=m at *
 have HM:=hide hm
 clear hm
 go_enter Tryz.func25,Tryz.ntmps25
 go_wp2_with fail
 rw[uh HW]
 go_loopw [10] (λi wr=>∃k:Nat,i=.int .i64 k/\k<=n/\Hid (qCn ops cs id k=none)/\wr=W) (λi _=>n-(intOf i).toNat)
 case atStart=>exact⟨0,rfl,Nat.zero_le _,rfl,rfl⟩
 case round =>
  obtain⟨k,rfl,hk,HNO,hwr⟩:=hrel
  rw[hwr]
  clear hwr wr
  by_cases hlk:k<n
  ·obtain⟨c0,c1,_⟩:=qEe (uh HS) (i:=k) (by rw[uh HM];omega)
   have ca:=uh HA k (by rw[uh HC];omega)
   have HN:=hide (qN2 ops cs id k (uh HNO))
   have HCF:=hide (qUc (uh HS) (i:=k) (by rw[uh HM];omega))
   generalize opAt ops k=o at *
   generalize qEg cs k=c at *
   have hk0:(0:Int)<=(k:Int):=by omega
   have hkn:(k:Int)<(n:Int):=by omega
   have hkm:(k:Int)<(m:Int):=by omega
   by_cases hh:o.kind=1/\o.id=id/\c=0
   ·obtain⟨h1,h2,h3⟩:=hh
    have HN':=hide (show qCn ops cs id n=some o.cfg from qOk ops cs id (k+1) n _ (by rw[uh HN,if_pos ⟨h1,h2,h3⟩]) (by omega))
    obtain⟨hv,hb⟩:=uh HCF
    have hst:=uh HST o.cfg
    have e1:(o.kind==1)=true:=by simpa using h1
    have e2:(o.id==id)=true:=by simpa using h2
    have e3:(c==0)=true:=by simpa using h3
    clear h1 h2 h3
    have hv1:qAn (w.alloc (.cells o.cfg.cells.toArray 38)) w.heap.size 0 20=.agg o.cfg.cells.toArray:=qAf w o.cfg.cells 38 20 rfl
    have hh1:qAr (w.alloc (.cells o.cfg.cells.toArray 38)) w.heap.size 0 20=true:=qB2 w o.cfg.cells 38 20 rfl
    go_wp2
    have hb9:=Blk.new w o.cfg.cells 38
    have HK9:=hide ((Keeps.refl (λ_=>False) w).alloc (.cells o.cfg.cells.toArray 38))
    generalize w.alloc (.cells o.cfg.cells.toArray 38)=W9 at *
    have HLV:=hide (show(loadVar 38 ⟨w.heap.size,0,none⟩).run Tryz.prog W9=.ok (.agg o.cfg.cells.toArray) W9 from run_loadVar_mid W9 w.heap.size 0 38 o.cfg.cells _ (λj v hv=>by rw[Nat.zero_add];exact hb9.cell hv) Tryz.underlying38 rfl (by rw[qRj];rfl))
    clear hb9
    refine bodyPost_ret (v:=.tuple #[o.cfg.val,.bool true]) (by simp[results,Tryz.results25,asAddr,uh HLV];rfl) rfl ?_
    exact⟨by rw[uh HN'];rfl,uh HK9⟩
   ·have HN':=hide (show qCn ops cs id (k+1)=none by rw[uh HN,if_neg hh])
    cases h1:(o.kind==1)
    ·clear hh
     go_wp2
     go_roundw
     case rel=>exact⟨k+1,by go_num,by omega,HN',by simp⟩
     case measure=>simp[intOf];omega
    ·cases h2:(o.id==id)
     ·clear hh
      go_wp2
      go_roundw
      case rel=>exact⟨k+1,by go_num,by omega,HN',by simp⟩
      case measure=>simp[intOf];omega
     ·have h3:(c==0)=false:=by
       cases h3:(c==0)
       ·rfl
       ·exact absurd ⟨by simpa using h1,by simpa using h2,by simpa using h3⟩ hh
      clear hh
      go_wp2
      go_roundw
      case rel=>exact⟨k+1,by go_num,by omega,HN',by simp⟩
      case measure=>simp[intOf];omega
  ·have hkn:k=n:=by omega
   subst hkn
   have hf:decide ((k:Int)<(k:Int))=false:=by simp
   have hst:=uh HST qR3
   go_wp2
   have hb9:=Blk.new w qR3.cells 38
   have HK9:=hide ((Keeps.refl (λ_=>False) w).alloc (.cells qR3.cells.toArray 38))
   generalize w.alloc (.cells qR3.cells.toArray 38)=W9 at *
   have HLV:=hide (show(loadVar 38 ⟨w.heap.size,0,none⟩).run Tryz.prog W9=.ok (.agg qR3.cells.toArray) W9 from run_loadVar_mid W9 w.heap.size 0 38 qR3.cells _ (λj v hv=>by rw[Nat.zero_add];exact hb9.cell hv) Tryz.underlying38 rfl (by rw[qRj];rfl))
   clear hb9
   refine bodyPost_ret (v:=.tuple #[qR3.val,.bool false]) (by simp[results,Tryz.results25,asAddr,uh HLV];rfl) rfl ?_
   exact⟨by rw[uh HNO];rfl,uh HK9⟩
end
section
open Go.RowKit
attribute [local go_sem ↓] qAd qAe qB6 qD1
attribute [local go_sem] qAh qAi qAb qAc qAp qAo qAk qAj qAf qAl qKk
def qB7(ops:List OpM)(cs:List Int)(id fr to:Int): Nat->List OpM
 | 0=>[]
 | n+1=>qB7 ops cs id fr to n++(if (opAt ops n).kind=2/\(opAt ops n).id=id/\qEg cs n=0/\fr<(opAt ops n).a/\(opAt ops n).a<=to then[opAt ops n] else[])
theorem qHi(ops:List OpM)(cs:List Int)(id fr to:Int)(n:Nat): qB7 ops cs id fr to (n+1)=qB7 ops cs id fr to n++(if (opAt ops n).kind=2/\(opAt ops n).id=id/\qEg cs n=0/\fr<(opAt ops n).a/\(opAt ops n).a<=to then[opAt ops n] else[]):=rfl
theorem qHz(ops:List OpM)(cs:List Int)(id fr to:Int)(n:Nat): (qB7 ops cs id fr to n).length<=n:=by
 induction n with
 | zero=>simp[qB7]
 | succ n ih=>rw[qHi,List.length_append];split <;> simp <;> omega
theorem qYe{w:World}{sb so:Nat}{ops:List OpM}(h:ScriptAt w sb so ops){i:Nat}(hi:i<ops.length): qAn w sb (so+i*26) 26=.agg (opAt ops i).cells.toArray/\qAr w sb (so+i*26) 26=true:=by
 have e:opAt ops i=ops[i]:=by simp[opAt,List.getD_eq_getElem?_getD,List.getElem?_eq_getElem hi]
 have h3:=qAm (h i ops[i] (List.getElem?_eq_getElem hi))
 have e3:ops[i].cells.length=26:=rfl
 rw[e3]at h3
 rw[e]
 exact⟨by unfold qAn;rw[h3.1],h3.2⟩
theorem ScriptAt.keepsM{M:Nat->Prop}{w w':World}{sb so:Nat}{ops:List OpM}(h:ScriptAt w sb so ops)(hk:Keeps M w w')(hn:¬M sb): ScriptAt w' sb so ops:=λi o ho j v hv=>hk.cell (h i o ho j v hv) hn
theorem qUs(sb so cap g acap:Nat)(ops:List OpM)(cs:List Int)(n:Nat)(id fr to:Int)(w:World)(hs:ScriptAt w sb so ops)(hgl:g<w.heap.size)(ha:CodesAt w g cs)(hn:n<=ops.length)(hc:cs.length=ops.length)(hl:ops.length<=651562446088):
  Calls Tryz.prog 27 #[.slice (some ⟨sb,so,none⟩) ops.length cap,.slice (some ⟨g,0,none⟩) ops.length acap,.int .i64 n,.int .i64 id,.int .i64 fr,.int .i64 to] w λr w'=>∃v,r=.returned v/\qIt w' w.heap.size v (qB7 ops cs id fr to n)/\Keeps (λ_=>False) w w':=by
 have HS:=hide hs
 have HA:=hide ha
 have HC:=hide hc
 clear hs ha hc
 generalize hm:ops.length=m at *
 have HM:=hide hm
 clear hm
 go_enter Tryz.func27,Tryz.ntmps27
 go_wp2_with fail
 go_loopw [13,14] (λl i wr=>∃(k mm cp:Nat) (ad:Option Addr),k<=n/\i=.int .i64 k/\l=.slice ad mm cp/\Hid (qIt wr w.heap.size l (qB7 ops cs id fr to k))/\Hid (Keeps (λ_=>False) w wr)) (λ_ i _=>n-(intOf i).toNat)
 case atStart=>exact⟨0,0,0,none,by omega,rfl,rfl,World.ownsRow_nil _ _ _ _,Keeps.refl _ _⟩
 case round =>
  obtain⟨k,mm,cp,ad,hk,rfl,rfl,HO,HK⟩:=hrel
  by_cases hlk:k<n
  ·have HSr:=hide ((uh HS).keepsM (uh HK) (λh=>h))
   obtain⟨hv0,hh0⟩:=qYe (uh HSr) (i:=k) (by rw[uh HM];omega)
   have ca:wr.cell? ⟨g,k*3,none⟩=some (.int .i64 (qEg cs k)):=(uh HK).cell (uh HA k (by rw[uh HC];omega)) (λh=>h)
   have HN:=hide (qHi ops cs id fr to k)
   have hAl:=qHz ops cs id fr to k
   have hm':mm=(qB7 ops cs id fr to k).length:=by
    obtain⟨_,_,e⟩:=qC9 (uh HO)
    injection e
   generalize opAt ops k=o at *
   generalize qEg cs k=c at *
   have hst:∀zs:List Value,zs.length=26->(qCq 40 (.pointer (some ⟨wr.heap.size,0,none⟩)) (.agg o.cells.toArray)).run Tryz.prog (wr.alloc (.cells zs.toArray 40))=.ok .skip (wr.alloc (.cells o.cells.toArray 40)):=λzs hz=>qKm wr zs o.cells hz rfl (qIp o)
   have hv1:qAn (wr.alloc (.cells o.cells.toArray 40)) wr.heap.size 0 26=.agg o.cells.toArray:=qAf wr o.cells 40 26 rfl
   have hh1:qAr (wr.alloc (.cells o.cells.toArray 40)) wr.heap.size 0 26=true:=qB2 wr o.cells 40 26 rfl
   have o0:o.cells[0]?=some (.int .i64 o.kind):=rfl
   have o1:o.cells[1]?=some (.int .i64 o.id):=rfl
   have o2:o.cells[2]?=some (.int .i64 o.a):=rfl
   have hgne:g<wr.heap.size:=by have:=(uh HK).size;omega
   have ca2:(wr.alloc (.cells o.cells.toArray 40)).cell? ⟨g,k*3,none⟩=some (.int .i64 c):=((Keeps.refl (λ_=>False) wr).alloc _).cell ca (λh=>h)
   have hk0:(0:Int)<=(k:Int):=by omega
   have hkn:(k:Int)<(n:Int):=by omega
   have hkm:(k:Int)<(m:Int):=by omega
   cases h0:(o.kind==2)
   ·have hx:¬o.kind=2:=by simpa using h0
    have HH:=hide (show qB7 ops cs id fr to (k+1)=qB7 ops cs id fr to k by rw[uh HN,if_neg (λh=>hx h.1),List.append_nil])
    clear hx
    have HK2:=hide ((uh HK).alloc (.cells o.cells.toArray 40))
    have HO2:=hide (qAu (uh HO) ((Keeps.refl (λ_=>False) wr).alloc (.cells o.cells.toArray 40)) (λ_ _ h=>h))
    go_wp2_with fail
    go_roundw
    case rel=>exact⟨k+1,_,_,_,by omega,by go_num,rfl,by show qIt _ _ _ _;rw[uh HH];exact uh HO2,HK2⟩
    case measure=>simp[intOf];omega
   ·skip
    cases h1:(o.id==id)
    ·have hx:¬o.id=id:=by simpa using h1
     have HH:=hide (show qB7 ops cs id fr to (k+1)=qB7 ops cs id fr to k by rw[uh HN,if_neg (λh=>hx h.2.1),List.append_nil])
     clear hx
     have HK2:=hide ((uh HK).alloc (.cells o.cells.toArray 40))
     have HO2:=hide (qAu (uh HO) ((Keeps.refl (λ_=>False) wr).alloc (.cells o.cells.toArray 40)) (λ_ _ h=>h))
     go_wp2_with fail
     go_roundw
     case rel=>exact⟨k+1,_,_,_,by omega,by go_num,rfl,by show qIt _ _ _ _;rw[uh HH];exact uh HO2,HK2⟩
     case measure=>simp[intOf];omega
    ·skip
     cases h2:(c==0)
     ·have hx:¬c=0:=by simpa using h2
      have HH:=hide (show qB7 ops cs id fr to (k+1)=qB7 ops cs id fr to k by rw[uh HN,if_neg (λh=>hx h.2.2.1),List.append_nil])
      clear hx
      have HK2:=hide ((uh HK).alloc (.cells o.cells.toArray 40))
      have HO2:=hide (qAu (uh HO) ((Keeps.refl (λ_=>False) wr).alloc (.cells o.cells.toArray 40)) (λ_ _ h=>h))
      go_wp2_with fail
      go_roundw
      case rel=>exact⟨k+1,_,_,_,by omega,by go_num,rfl,by show qIt _ _ _ _;rw[uh HH];exact uh HO2,HK2⟩
      case measure=>simp[intOf];omega
     ·skip
      cases h3:decide (fr<o.a)
      ·have hx:¬fr<o.a:=by simpa using h3
       have HH:=hide (show qB7 ops cs id fr to (k+1)=qB7 ops cs id fr to k by rw[uh HN,if_neg (λh=>hx h.2.2.2.1),List.append_nil])
       clear hx
       have HK2:=hide ((uh HK).alloc (.cells o.cells.toArray 40))
       have HO2:=hide (qAu (uh HO) ((Keeps.refl (λ_=>False) wr).alloc (.cells o.cells.toArray 40)) (λ_ _ h=>h))
       go_wp2_with fail
       go_roundw
       case rel=>exact⟨k+1,_,_,_,by omega,by go_num,rfl,by show qIt _ _ _ _;rw[uh HH];exact uh HO2,HK2⟩
       case measure=>simp[intOf];omega
      ·skip
       cases h4:decide (o.a<=to)
       ·have hx:¬o.a<=to:=by simpa using h4
        have HH:=hide (show qB7 ops cs id fr to (k+1)=qB7 ops cs id fr to k by rw[uh HN,if_neg (λh=>hx h.2.2.2.2),List.append_nil])
        clear hx
        have HK2:=hide ((uh HK).alloc (.cells o.cells.toArray 40))
        have HO2:=hide (qAu (uh HO) ((Keeps.refl (λ_=>False) wr).alloc (.cells o.cells.toArray 40)) (λ_ _ h=>h))
        go_wp2_with fail
        go_roundw
        case rel=>exact⟨k+1,_,_,_,by omega,by go_num,rfl,by show qIt _ _ _ _;rw[uh HH];exact uh HO2,HK2⟩
        case measure=>simp[intOf];omega
       ·skip
        have HH:=hide (show qB7 ops cs id fr to (k+1)=qB7 ops cs id fr to k++[o] by rw[uh HN,if_pos ⟨by simpa using h0,by simpa using h1,by simpa using h2,by simpa using h3,by simpa using h4⟩])
        generalize qB7 ops cs id fr to k=A at *
        go_wp2_with (at_builtin;refine qBw rfl _ _ rfl w.heap.size (.slice ad mm cp) A rfl (by exact qAu (uh HO) (((Keeps.refl (λ_=>False) wr).alloc _).alloc _) (λ_ _ h=>h)) _ [o] rfl (by exact qGq (Blk.newAt (by simp) o.cells 40)) (by simp;omega) (by have:=(uh HK).size;simp;omega) ?_;intro ad2 c2 w2 hown2 hk2 hat2)
        have HK2:=hide ((((uh HK).alloc (.cells o.cells.toArray 40)).alloc (.cells o.cells.toArray 40)).trans hk2 (λi hi hlt=>by have:=((uh HO).lt i hi).1;omega))
        go_roundw
        case rel=>exact⟨k+1,_,_,_,by omega,by go_num,rfl,by show qIt _ _ _ _;rw[uh HH];exact hown2,HK2⟩
        case measure=>simp[intOf];omega
  ·have hkn:k=n:=by omega
   subst hkn
   have hf:decide ((k:Int)<(k:Int))=false:=by simp
   go_wp2
   go_ret
   exact⟨_,rfl,uh HO,uh HK⟩
end
section
theorem qWp(s:WS)(ops:List OpM)(i:Nat)(o:OpM)(h:ops[i]?=some o): (qJb s ops)[i]?=some (qBg (qE1 s (ops.take i)) o).2:=by
 induction ops generalizing s i with
 | nil=>simp at h
 | cons a l ih =>
  cases i with
  | zero =>
   have:a=o:=by simpa using h
   subst this
   rfl
  | succ i =>
   have:=ih (qBg s a).1 i (by simpa using h)
   simpa[qJb,qE1] using this
def qBo(ops:List OpM): List Int:=(qJb ws0 ops).map (·.1)
theorem qG5(ops:List OpM): (qBo ops).length=ops.length:=by simp[qBo,qFt]
theorem qJe{ops:List OpM}{i:Nat}(hi:i<ops.length): ops[i]?=some (opAt ops i):=by
 simp[opAt,List.getD_eq_getElem?_getD,List.getElem?_eq_getElem hi]
theorem qJx(ops:List OpM)(i:Nat)(hi:i<ops.length): qEg (qBo ops) i=(qBg (qE1 ws0 (ops.take i)) (opAt ops i)).2.1:=by
 unfold qEg qBo
 rw[List.getD_eq_getElem?_getD,List.getElem?_map,qWp ws0 ops i _ (qJe hi)]
 rfl
theorem qHy{ops:List OpM}{i:Nat}(hi:i<ops.length): ops.take (i+1)=ops.take i++[opAt ops i]:=by
 rw[List.take_add_one,qJe hi];rfl
theorem qRp{ops:List OpM}{i:Nat}(hi:i<ops.length): opAt ops i∈ops:=List.mem_of_getElem? (qJe hi)
theorem qWt(ops:List OpM)(hok:qJa ops)(n:Nat)(hn:n<=ops.length): qCg ops (qBo ops) n=(qE1 ws0 (ops.take n)).clock:=by
 induction n with
 | zero=>rfl
 | succ n ih =>
  have hi:n<ops.length:=by omega
  rw[qJt,ih (by omega),qJx ops n hi,qHy hi,qKn,qR9 _ _ (hok _ (qRp hi))]
theorem qS8(ops:List OpM)(hok:qJa ops)(id:Int)(n:Nat)(hn:n<=ops.length): qCn ops (qBo ops) id n=(qDk (qE1 ws0 (ops.take n)).xs id).map (·.c):=by
 induction n with
 | zero=>rfl
 | succ n ih =>
  have hi:n<ops.length:=by omega
  rw[qHy hi,qKn,qX3 _ _ _ (hok _ (qRp hi)),<-ih (by omega),<-qJx ops n hi]
  rfl
end
section
open Go.RowKit
def cc: Cfg:=⟨1,0,9,8,1,5,0,0,0,0,0,0,0,0,0,0,0,0,0,0⟩
def p1: OpM:=⟨1,7,0,0,0,cc,qAa⟩
def p4: OpM:=⟨4,7,5,0,0,cz,qAa⟩
end
end Go.Proofs.YtahnliehdjncdaaGreatDoor
