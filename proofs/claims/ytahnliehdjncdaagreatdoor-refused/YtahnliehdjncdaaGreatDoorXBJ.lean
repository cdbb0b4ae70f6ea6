import Derived.Test.YtahnliehdjncdaaGreatDoorXBI
import Derived.Deep.DeepHandedRow
import Derived.Lib.LaidTab
import Derived.SevenTiedAt
import Derived.Test.YtahnliehdjncdaaGreatDoorCards
import Derived.Test.YtahnliehdjncdaaGreatDoorXAQ
import Derived.Test.YtahnliehdjncdaaGreatDoorTie
import Derived.Test.YtahnliehdjncdaaGreatDoorXBC
import Derived.Laws.IdiomCopy
import Derived.Test.YtahnliehdjncdaaGreatDoorXAH
import Derived.Stop.BytesEq
set_option maxRecDepth 100000
set_option maxHeartbeats 16000000
namespace Go.Proofs.YtahnliehdjncdaaGreatDoor
section
open Go.RowKit
attribute [local go_sem ↓] qAd qAe qCx qHq
attribute [local go_sem] qAf qAl qAc qAb qAn qAm qAi qAj
theorem qD8{w:World}{ops:Array Oper}{rest:List Oper}{o:Oper}{a:Act}{Q:Exit->Act->World->Prop}(hgd:o.guard=none)(s x:Operand)(ho:o.op=.call { callee:=.builtin .append,args:=#[s,x],argTypes:=#[22,22] })(base:Nat)(v:Value)(A:List OpM)(hs:a.eval s=v)(hown:qYf w base v A)(u:Value)(B:List OpM)(hx:a.eval x=u)(hB:ScriptW w u B)(hlen:A.length+B.length<=651562446089)(hbase:base<=w.heap.size)(h:∀ad c w',qYf w' base (.slice ad (A.length+B.length) c) (A++B)->Keeps (λi=>v.ownBlock=some i) w w'->(∀i,(Value.slice ad (A.length+B.length) c).ownBlock=some i->v.ownBlock=some i\/w.heap.size<=i)->wpList Tryz.prog ops Q rest (a.put o.dst (.slice ad (A.length+B.length) c)) w'): wpList Tryz.prog ops Q (o::rest) a w:=by
 obtain⟨i0,hi0,hz0,hz1,hz2⟩:=info_parts zFo
 by_cases hb:B=[]
 ·subst hb
  have hu:∃ad c,u=.slice ad 0 c:=by
   rcases hB with ⟨h,_⟩ | ⟨sb,so,cap,h,_⟩
   ·exact h
   ·exact⟨_,_,h⟩
  obtain⟨ad,c,rfl⟩:=hu
  obtain⟨av,ac,hv⟩:=qCu hown
  refine qDw hgd s x 22 ho base 40 i0 26 Tryz.underlying22 hi0 v A.length (qD5 A) hs hown ad c hx ?_
  have:=h av ac w (by rw[List.append_nil];rw[hv]at hown;exact hown) (Keeps.refl _ _) (by rw[hv];exact λi hi=>.inl hi)
  rw[hv]
  exact this
 ·rcases hB with ⟨_,h0⟩ | ⟨sb,so,cap,rfl,hcap,hsc,hlt⟩
  ·exact absurd h0 hb
  ·have hpos:0<B.length:=List.length_pos_iff.2 hb
   refine wpList_append_lies w hgd s x 22 ho base 40 i0 (.agg cz0.toArray) 26 216 Tryz.underlying22 hi0 hz0 hz1 hz2 (by rfl) (by omega) v A.length (qD5 A) hs hown ⟨sb,so,none⟩ B.length cap (qD5 B) hx (qId B) ?_ (qWg B) hpos (by unfold maxLen;omega) (by omega) hbase w.heap.size rfl ?_
   ·intro j z hz
    have hj:j<B.length*26:=by have:=(List.getElem?_eq_some_iff.1 hz).1;rwa [qId]at this
    have hq:j/26<B.length:=by omega
    have hf:=qNb B (j/26) (j%26) B[j/26] (List.getElem?_eq_getElem hq) (by omega)
    rw[show j/26*26+j%26=j by omega,hz]at hf
    have:=hsc (j/26) B[j/26] (List.getElem?_eq_getElem hq) (j%26) z hf.symm
    rw[Go.WideShapes.add_plain,show so+j=so+j/26*26+j%26 by omega]
    exact this
   ·intro g c w' hown' hgrow hat hlt'
    refine h (some ⟨g,0,none⟩) c w' ?_ ?_ ?_
    ·show w'.ownsRow base 40 26 _ (A++B).length (qD5 (A++B))
     rw[qOh,List.length_append];exact hown'
    ·exact⟨hgrow.os,hgrow.tape,hgrow.output,hgrow.size,λk hk hn=>hgrow.block k hk (λh=>hn h.symm)⟩
    ·intro i hi
     have:g=i:=by simpa[Value.ownBlock] using hi
     subst this
     rcases hat with h1 | h1
     ·exact .inl h1
     ·exact .inr (by omega)
theorem qU4(v1 v2:Value)(A B:List OpM)(w:World)(h1:ScriptW w v1 A)(h2:ScriptW w v2 B)(hlen:A.length+B.length<=651562446089):
  Calls Tryz.prog 22 #[v1,v2] w λr w'=>∃v,r=.returned v/\qYf w' w.heap.size v (A++B)/\Keeps (λ_=>False) w w':=by
 have HA:=hide h1
 have HB:=hide h2
 clear h1 h2
 go_enter Tryz.func22,Tryz.ntmps22
 go_wp2_with (at_builtin;first
    | (refine qD8 rfl _ _ rfl w.heap.size (.slice none 0 0) [] rfl (World.ownsRow_nil _ _ _ _) v1 A rfl (uh HA) (by simp;omega) (by omega) ?_;intro ad c w1 hown1 hk1 hat1;have HO1:=hide (show qYf w1 w.heap.size (.slice ad A.length c) A by simpa using hown1);have HK1:=hide (show Keeps (λ_=>False) w w1 from hk1.mono (λi _ h=>by simp[Value.ownBlock]at h));clear hown1 hk1)
    | (refine qD8 rfl _ _ rfl w.heap.size (.slice ad A.length c) A rfl (uh HO1) v2 B rfl ((uh HB).keeps (uh HK1)) hlen (uh HK1).size ?_;intro ad2 c2 w2 hown2 hk2 hat2))
 go_ret
 refine⟨_,rfl,hown2,(uh HK1).trans hk2 (λi hi hlt=>?_)⟩
 have:=((uh HO1).lt i hi).1
 omega
def OpM.noLoad(o:OpM): Bool:=o.kind !=7
theorem qXk(w:World)(o:OpM): (zDt 22 1 #[(0,.agg o.cells.toArray)]).run Tryz.prog w=.ok (.value (.slice (some ⟨w.heap.size,0,none⟩) 1 1)) (w.alloc (.cells o.cells.toArray 40)):=by kernel_rfl
theorem qMz{w:World}{b:Nat}{o:OpM}(h:Blk w b o.cells 40): ScriptW w (.slice (some ⟨b,0,none⟩) 1 1) [o]:=by
 refine .inr ⟨b,0,1,rfl,by simp,?_,h.lt⟩
 intro i x hx j u hu
 have hi:i=0:=by have:=(List.getElem?_eq_some_iff.1 hx).1;simp at this;omega
 subst hi
 have:o=x:=by simpa using hx
 subst this
 have:=h.cell hu
 simpa using this
attribute [local go_sem] qXk
theorem qR6(v:Value)(ops:List OpM)(w:World)(h:ScriptW w v ops)(hlen:ops.length<=651562446089):
  Calls Tryz.prog 21 #[v,.int .i64 7] w λr w'=>∃v',r=.returned v'/\qYf w' w.heap.size v' (ops.filter OpM.noLoad)/\Keeps (λ_=>False) w w'/\(ops.filter OpM.noLoad=[]->v'=.slice none 0 0):=by
 by_cases h0:ops=[]
 ·subst h0
  have hv:∃a c,v=.slice a 0 c:=by
   rcases h with ⟨h,_⟩ | ⟨sb,so,cap,h,_⟩
   ·exact h
   ·exact⟨_,_,h⟩
  obtain⟨a,c,rfl⟩:=hv
  clear h
  go_enter Tryz.func21,Tryz.ntmps21
  go_wp2
  go_loopw [5,6] (λl i wr=>l=.slice none 0 0/\i=.int .i64 0/\wr=w) (λ_ _ _=>0)
  case atStart=>exact⟨rfl,rfl,rfl⟩
  case round =>
   obtain⟨rfl,rfl,rfl⟩:=hrel
   go_wp2
   go_ret
   exact⟨_,rfl,World.ownsRow_nil _ _ _ _,Keeps.refl _ _,λ_=>rfl⟩
 rcases h with ⟨_,h⟩ | ⟨sb,so,cap,rfl,hcap,hsc,hlt⟩
 ·exact absurd h h0
 have HSC:=hide hsc
 clear hsc
 generalize hn:ops.length=n at *
 have HN:=hide hn
 clear hn
 go_enter Tryz.func21,Tryz.ntmps21
 go_wp2_with fail
 go_loopw [5,6] (λl i wr=>∃(k m c:Nat) (ad:Option Addr),k<=n/\i=.int .i64 k/\l=.slice ad m c/\Hid (qYf wr w.heap.size l ((ops.take k).filter OpM.noLoad))/\Hid (Keeps (λ_=>False) w wr)/\Hid ((ops.take k).filter OpM.noLoad=[]->l=.slice none 0 0)) (λ_ i _=>n-(intOf i).toNat)
 case atStart=>exact⟨0,0,0,none,by omega,rfl,rfl,World.ownsRow_nil _ _ _ _,Keeps.refl _ _,λ_=>rfl⟩
 case round =>
  obtain⟨k,m,c,ad,hk,rfl,rfl,HO,HK,HE⟩:=hrel
  by_cases hkn:k<n
  ·obtain⟨o,ho⟩:∃o,ops[k]?=some o:=⟨ops[k]'(by rw[uh HN];exact hkn),List.getElem?_eq_getElem _⟩
   have hrange:=(uh HSC).keeps (uh HK) k o ho
   have hsb:=qAo hrange
   have hv0:qAp wr sb (so+k*26) 26=.agg o.cells.toArray:=by
    unfold qAp
    have:=hsb.1
    rw[show o.cells.length=26 from rfl]at this
    rw[this]
   have hh0:qAu wr sb (so+k*26) 26=true:=hsb.2
   have hkind:wr.cell? ⟨sb,so+k*26,none⟩=some (.int .i64 o.kind):=hrange 0 _ rfl
   have htk:ops.take (k+1)=ops.take k++[o]:=by rw[List.take_add_one,ho];rfl
   have hk0:(0:Int)<=(k:Int):=by omega
   have hkn':(k:Int)<(n:Int):=by omega
   have hl0:((ops.take k).filter OpM.noLoad).length<=k:=by
    have h1:=List.length_filter_le OpM.noLoad (ops.take k)
    rw[List.length_take]at h1
    omega
   have HFL:=hide (show(ops.take (k+1)).filter OpM.noLoad=(ops.take k).filter OpM.noLoad++[o].filter OpM.noLoad by rw[htk,List.filter_append])
   clear hrange hsb htk ho
   by_cases h7:o.kind=7
   ·have hne:(o.kind !=7)=false:=by simp[h7]
    have HF1:=hide (show[o].filter OpM.noLoad=[] by simp[OpM.noLoad,hne])
    rw[h7]at hkind
    clear h7 hne hv0 hh0
    go_wp2_with fail
    go_roundw
    case rel=>exact⟨k+1,m,c,ad,by omega,by go_num,rfl,by show qYf _ _ _ _;rw[uh HFL,uh HF1,List.append_nil];exact uh HO,HK,by show _->_;rw[uh HFL,uh HF1,List.append_nil];exact uh HE⟩
    case measure=>simp[intOf];omega
   ·have hne:(o.kind !=7)=true:=by simp[h7]
    have HF1:=hide (show[o].filter OpM.noLoad=[o] by simp[OpM.noLoad,hne])
    have hm:m=((ops.take k).filter OpM.noLoad).length:=by
     obtain⟨_,_,e⟩:=qCu (uh HO)
     injection e
    generalize(ops.take k).filter OpM.noLoad=A at *
    go_wp2_with (at_builtin;refine qD8 rfl _ _ rfl w.heap.size (.slice ad m c) A rfl (by exact qBc (uh HO) ((Keeps.refl (λ_=>False) wr).alloc _) (λ_ _ h=>h)) _ [o] rfl (by exact qMz (Blk.new wr o.cells 40)) (by simp;omega) (by have:=(uh HK).size;simp;omega) ?_;intro ad2 c2 w2 hown2 hk2 hat2)
    go_roundw
    case rel =>
     refine⟨k+1,A.length+1,c2,ad2,by omega,by go_num,rfl,?_,?_,?_⟩
     ·show qYf _ _ _ _;rw[uh HFL,uh HF1];exact hown2
     ·refine(((uh HK).alloc _).trans hk2 (λi hi hlt=>?_))
      have:=((uh HO).lt i hi).1
      omega
     ·show _->_;rw[uh HFL,uh HF1];intro h;simp at h
    case measure=>simp[intOf];omega
  ·have hkk:k=n:=by omega
   subst hkk
   go_wp2
   go_ret
   have h1:=uh HO
   have h2:=uh HE
   rw[List.take_of_length_le (by rw[uh HN];omega)]at h1 h2
   exact⟨_,rfl,h1,uh HK,h2⟩
end
section
open Go.ChangeShapes Go.WideShapes Go.ChangeAt Go.RowKit Go.Deep
theorem gTab: Tryz.prog.globalNamed "math/bits.deBruijn64tab"=some 2:=by kernel_rfl
theorem zBh: (Tryz.prog.globals[2]?).map (·.type)=some 287:=by kernel_rfl
theorem zEc: Tryz.prog.cellsOf 287=64:=by kernel_rfl
theorem zD7: Tryz.prog.cellsOf 5=1:=by kernel_rfl
theorem zCw: Tryz.prog.underlying 5=some (.int .u8):=by kernel_rfl
def qNr: List Int:=Lib.deBruijn64tab.map λ(n:Nat)=>(n:Int)
def zCk: Array Value:=(qNr.map (.int .u8 ·)).toArray
theorem zE0{W:World}(h:laidMetH Tryz.prog [("math/bits.deBruijn64tab",Rows.laid_math_bits_deBruijn64tab)] W): Tab W:=by
 have ht:Lib.TabIs Tryz.prog W "math/bits.deBruijn64tab" .u8 qNr:=Lib.tabIs_of_head (rest:=[]) gTab zBh Tryz.underlying287 zCw zD7 zEc h
 intro j hj
 have h1:=ht.cell gTab j (by simpa[qNr] using hj)
 rw[h1]
 unfold qNr
 rw[List.getD_eq_getElem?_getD,List.getD_eq_getElem?_getD,List.getElem?_map,List.getElem?_eq_getElem hj]
 rfl
noncomputable def qLk(os:Os): World :=
 { World.holding Tryz.prog os ⟨#[],#[],[]⟩ with heap:=(World.holding Tryz.prog os ⟨#[],#[],[]⟩).heap.modify 2 fun
     | .cells _ t frozen=>.cells zCk t frozen
     | o=>o }
theorem qP5{H:Type}{enc:TypeId×Value->H}{W:World}{fuel:Nat}{a0:Option Addr}{len cap:Nat}{d:DataW H}{p:List MemPlace}(hf:DataW.trod enc Tryz.prog W 0 (λ_=>true) true fuel 22 (Value.slice a0 len cap).cells.toList=some (d,p))(hlt:∀x∈p,x.block<W.heap.size):
  ∃ops,ScriptW W (.slice a0 len cap) ops/\ops.length=len/\(len≠0->∃elems spare,d=.slice elems spare/\len<=elems.length+spare.length)/\∀o,o∈ops->o.bytes.size<=9223372036854775807:=by
 by_cases hl0:len=0
 ·subst hl0
  exact⟨[],.inl ⟨⟨_,_,rfl⟩,rfl⟩,rfl,λh=>absurd rfl h,λo ho=>by cases ho⟩
 ·rcases open_slice Tryz.underlying22 hf with ⟨hcs,hx⟩ | ⟨a,len',cap',k,n,D,Pl,hcs,_,hl,hm,hk,hx,hcell⟩
  ·simp[Value.cells]at hcs
   exact absurd hcs.2.1 hl0
  ·simp[Value.cells]at hcs
   obtain⟨rfl,rfl,rfl⟩:=hcs
   simp only[Prod.mk.injEq]at hx
   obtain⟨rfl,rfl⟩:=hx
   simp only[if_true]at hk
   subst k
   rw[qRt]at hcell
   obtain⟨b,off,spot⟩:=a
   have hspot:spot=none:=by
    obtain⟨cs',h1,_⟩:=hcell 0 (by omega)
    obtain⟨_,h2,h3⟩:=World.cells?_some h1
    have h4:=h3 0 (by omega)
    rw[List.getElem?_eq_getElem (by omega)]at h4
    simpa[Addr.add] using World.cell?_spot h4
   subst hspot
   have hbW:b<W.heap.size:=hlt (.cell b off) (List.mem_append_left _ (MemPlace.mem_row.2 ⟨0,by rw[qRt];omega,by simp⟩))
   have hops:∀i,i<len->∃o:OpM,W.rangeAt b (off+i*26) o.cells/\o.bytes.size<=9223372036854775807:=by
    intro i hi
    obtain⟨cs',h1,h2⟩:=hcell i (by omega)
    obtain⟨V,bs,rfl,_,hbz⟩:=qZl h2
    obtain⟨_,h3,h4⟩:=World.cells?_some h1
    refine⟨zFb V bs,λj v hv=>?_,hbz⟩
    have hj:j<26:=by have:=(List.getElem?_eq_some_iff.1 hv).1;omega
    have:=h4 j hj
    rw[add_add,add_plain,hv,<-Nat.add_assoc]at this
    exact this
   haveI:Inhabited OpM:=⟨o1⟩
   obtain⟨O,hO⟩:=choose_lt (α:=OpM) hops
   refine⟨(List.range len).map O,.inr ⟨b,off,cap,by simp,by simpa using hl,?_,hbW⟩,by simp,λ_=>⟨_,_,rfl,by simp⟩,λo ho=>?_⟩
   ·intro i o ho
    have hi:i<len:=by have:=(List.getElem?_eq_some_iff.1 ho).1;simpa using this
    have:O i=o:=by simpa[hi] using ho
    rw[<-this]
    exact(hO i hi).1
   ·obtain⟨i,hi,rfl⟩:=List.mem_map.1 ho
    exact(hO i (List.mem_range.1 hi)).2
theorem qSb{H:Type}{enc:TypeId×Value->H}{W:World}{fuel:Nat}{a0:Option Addr}{len cap:Nat}{d:DataW H}{p:List MemPlace}(hf:DataW.trod enc Tryz.prog W 0 (λ_=>true) true fuel 22 (Value.slice a0 len cap).cells.toList=some (d,p))(hlt:∀x∈p,x.block<W.heap.size):
  ∃ops,ScriptW W (.slice a0 len cap) ops/\ops.length=len/\(len≠0->∃elems spare,d=.slice elems spare/\len<=elems.length+spare.length):=by
 obtain⟨ops,h1,h2,h3,_⟩:=qP5 hf hlt
 exact⟨ops,h1,h2,h3⟩
end
section
theorem qQu(a:Ser)(l:List Ser)(id:Int)(y:Ser): qHt (a::l) id y=if a.id==id then y::l else a::qHt l id y:=rfl
theorem qPk(n:Nat)(x:Ser)(t:Int): qIp (n+1) x t=if x.l.isEmpty then x else if t<(itAt x.l 0).t then x else qIp n (qEq x t) t:=rfl
def Ser.bare(x:Ser): Ser:={ x with ref:=[] }
def WS.bare(s:WS): WS:=⟨s.clock,s.xs.map Ser.bare⟩
theorem bare_bare(x:Ser): x.bare.bare=x.bare:=rfl
theorem WS.bare_bare(s:WS): s.bare.bare=s.bare:=by
 unfold WS.bare
 simp only[List.map_map]
 congr 1
theorem qGz(xs:List Ser)(id:Int): qEh (xs.map Ser.bare) id=(qEh xs id).map Ser.bare:=by
 induction xs with
 | nil=>rfl
 | cons a l ih =>
  unfold qEh at *
  rw[List.map_cons,List.find?_cons,List.find?_cons]
  have:(a.bare.id==id)=(a.id==id):=rfl
  rw[this]
  split
  ·rfl
  ·exact ih
theorem qIi(xs:List Ser)(id:Int)(y:Ser): (qHt xs id y).map Ser.bare=qHt (xs.map Ser.bare) id y.bare:=by
 induction xs with
 | nil=>rfl
 | cons a l ih =>
  rw[List.map_cons,qQu,qQu]
  have:(a.bare.id==id)=(a.id==id):=rfl
  rw[this]
  split
  ·rfl
  ·rw[List.map_cons,ih]
theorem zAo(xs:List Ser)(id:Int)(y:Ser)(h:qEh xs id=some y): qHt xs id y=xs:=by
 induction xs with
 | nil=>rfl
 | cons a l ih =>
  unfold qEh at h ih
  rw[List.find?_cons]at h
  unfold qHt
  split at h
  ·rename_i hc
   rw[if_pos hc]
   injection h with h
   rw[h]
  ·rename_i hc
   rw[if_neg (by simp[hc])]
   rw[ih h]
theorem qS7(x:Ser)(t:Int): (qEq x t).bare=qEq x.bare t:=rfl
theorem qZk(n:Nat)(x:Ser)(t:Int): (qIp n x t).bare=qIp n x.bare t:=by
 induction n generalizing x with
 | zero=>rfl
 | succ n ih =>
  rw[qPk,qPk]
  show _=if x.l.isEmpty then x.bare else if t<(itAt x.l 0).t then x.bare else qIp n (qEq x.bare t) t
  split
  ·rfl
  ·split
   ·rfl
   ·rw[ih,qS7]
theorem qX0(c:Int)(xs:List Ser): (xs.map Ser.bare).map (qB8 c)=(xs.map (qB8 c)).map Ser.bare:=by
 rw[List.map_map,List.map_map]
 refine List.map_congr_left λx _=>?_
 show qIp (x.l.length+1) x.bare (c-x.c.lag)=(qIp (x.l.length+1) x (c-x.c.lag)).bare
 rw[qZk]
theorem qWe(c b:Int)(xs:List Ser): (qBy c b (xs.map Ser.bare)).1.map Ser.bare=(qBy c b xs).1.map Ser.bare/\(qBy c b (xs.map Ser.bare)).2=(qBy c b xs).2:=by
 induction xs generalizing b with
 | nil=>exact⟨rfl,rfl⟩
 | cons a l ih =>
  have:=ih (b-qW2 c b a)
  refine⟨?_,?_⟩
  ·show(qXt c b a.bare).bare::(qBy c (b-qW2 c b a) (l.map Ser.bare)).1.map Ser.bare=(qXt c b a).bare::(qBy c (b-qW2 c b a) l).1.map Ser.bare
   rw[this.1];rfl
  ·show qQa c b a+(qBy c (b-qW2 c b a) (l.map Ser.bare)).2=qQa c b a+(qBy c (b-qW2 c b a) l).2
   rw[this.2]
theorem qPh(s:WS)(o:OpM)(h7:o.kind≠7): (qBi s.bare o).2.1=(qBi s o).2.1/\(o.kind≠5->(qBi s.bare o).2.2=(qBi s o).2.2)/\(qBi s.bare o).1.bare=(qBi s o).1.bare:=by
 unfold qBi
 by_cases h1:o.kind=1
 ·simp only[if_pos h1]
  unfold qC2
  have hf:(qEh s.bare.xs o.id).isNone=(qEh s.xs o.id).isNone:=by
   show(qEh (s.xs.map Ser.bare) o.id).isNone=_
   rw[qGz];cases qEh s.xs o.id <;> rfl
  have hl:s.bare.xs.length=s.xs.length:=by show(s.xs.map Ser.bare).length=_;simp
  rw[hf,hl]
  split
  ·split
   ·split
    ·refine⟨rfl,λ_=>rfl,?_⟩
     show(⟨s.clock,(s.bare.xs++[_]).map Ser.bare⟩:WS)=⟨s.clock,(s.xs++[_]).map Ser.bare⟩
     rw[List.map_append,List.map_append]
     show(⟨s.clock,(s.xs.map Ser.bare).map Ser.bare++_⟩:WS)=_
     rw[List.map_map]
     rfl
    ·exact⟨rfl,λ_=>rfl,s.bare_bare⟩
   ·exact⟨rfl,λ_=>rfl,s.bare_bare⟩
  ·exact⟨rfl,λ_=>rfl,s.bare_bare⟩
 simp only[if_neg h1]
 by_cases h2:o.kind=2
 ·simp only[if_pos h2]
  unfold qUt
  show _/\_
  have hf:qEh s.bare.xs o.id=(qEh s.xs o.id).map Ser.bare:=qGz _ _
  rw[hf]
  cases hx:qEh s.xs o.id with
  | none=>exact⟨rfl,λ_=>rfl,s.bare_bare⟩
  | some x =>
   have hr:qJu x.bare s.bare.clock o.item=qJu x s.clock o.item:=rfl
   simp only[Option.map_some]
   rw[hr]
   split
   ·refine⟨rfl,λ_=>rfl,?_⟩
    show(⟨s.clock,(qHt s.bare.xs o.id (qV9 x.bare o.item)).map Ser.bare⟩:WS)=⟨s.clock,(qHt s.xs o.id (qV9 x o.item)).map Ser.bare⟩
    rw[qIi,qIi]
    show(⟨s.clock,qHt ((s.xs.map Ser.bare).map Ser.bare) _ _⟩:WS)=_
    rw[List.map_map]
    rfl
   ·refine⟨rfl,λ_=>rfl,?_⟩
    show(⟨s.clock,(qHt s.bare.xs o.id (qSa x.bare _)).map Ser.bare⟩:WS)=⟨s.clock,(qHt s.xs o.id (qSa x _)).map Ser.bare⟩
    rw[qIi,qIi]
    show(⟨s.clock,qHt ((s.xs.map Ser.bare).map Ser.bare) _ _⟩:WS)=_
    rw[List.map_map]
    rfl
 simp only[if_neg h2]
 by_cases h3:o.kind=3
 ·simp only[if_pos h3]
  unfold qIb
  split
  ·split
   ·have hs:=qWe (qF4 s.clock o.a) o.b (s.xs.map (qB8 (qF4 s.clock o.a)))
    rw[<-qX0]at hs
    refine⟨rfl,λ_=>?_,?_⟩
    ·show[(qBy (qF4 s.clock o.a) o.b ((s.xs.map Ser.bare).map (qB8 (qF4 s.clock o.a)))).2]=[_]
     rw[hs.2]
    ·show(⟨qF4 s.clock o.a,(qBy (qF4 s.clock o.a) o.b ((s.xs.map Ser.bare).map (qB8 (qF4 s.clock o.a)))).1.map Ser.bare⟩:WS)=⟨qF4 s.clock o.a,(qBy (qF4 s.clock o.a) o.b (s.xs.map (qB8 (qF4 s.clock o.a)))).1.map Ser.bare⟩
     rw[hs.1]
   ·exact⟨rfl,λ_=>rfl,s.bare_bare⟩
  ·exact⟨rfl,λ_=>rfl,s.bare_bare⟩
 simp only[if_neg h3]
 by_cases h4:o.kind=4
 ·simp only[if_pos h4]
  unfold qGh
  show _/\_
  have hf:qEh s.bare.xs o.id=(qEh s.xs o.id).map Ser.bare:=qGz _ _
  rw[hf]
  cases hx:qEh s.xs o.id with
  | none=>exact⟨rfl,λ_=>rfl,s.bare_bare⟩
  | some x =>
   exact⟨rfl,λ_=>rfl,s.bare_bare⟩
 simp only[if_neg h4]
 by_cases h5:o.kind=5
 ·simp only[if_pos h5]
  unfold qGn
  show _/\_
  have hf:qEh s.bare.xs o.id=(qEh s.xs o.id).map Ser.bare:=qGz _ _
  rw[hf]
  cases hx:qEh s.xs o.id with
  | none=>exact⟨rfl,λ_=>rfl,s.bare_bare⟩
  | some x=>exact⟨rfl,λh=>absurd h5 h,s.bare_bare⟩
 simp only[if_neg h5]
 simp only[if_neg h7]
 split
 ·exact⟨rfl,λ_=>rfl,s.bare_bare⟩
 ·exact⟨rfl,λ_=>rfl,s.bare_bare⟩
theorem qYm(s:WS)(o:OpM)(h7:o.kind≠7)(h:(qBi s o).2.1≠0\/o.kind=4\/o.kind=5\/o.kind=6): (qBi s o).1.bare=s.bare:=by
 unfold qBi at *
 by_cases h1:o.kind=1
 ·have h0:(qBi s o).2.1≠0:=by
   rcases h with h | h | h | h
   ·unfold qBi;exact h
   all_goals omega
  unfold qBi at h0
  simp only[if_pos h1]at h0 ⊢
  unfold qC2 at h0 ⊢
  revert h0
  (repeat' split) <;> intro h0
  ·exact absurd rfl h0
  all_goals rfl
 simp only[if_neg h1]at h ⊢
 by_cases h2:o.kind=2
 ·have h0:(qUt s o).2.1≠0:=by
   rcases h with h | h | h | h
   ·simpa only[if_pos h2] using h
   all_goals omega
  simp only[if_pos h2]
  clear h
  unfold qUt at h0 ⊢
  revert h0
  cases hx:qEh s.xs o.id with
  | none=>intro _;rfl
  | some x =>
   simp only
   split
   ·intro h0;exact absurd rfl h0
   ·intro _
    show(⟨s.clock,(qHt s.xs o.id (qSa x _)).map Ser.bare⟩:WS)=⟨s.clock,s.xs.map Ser.bare⟩
    rw[qIi]
    show(⟨s.clock,qHt (s.xs.map Ser.bare) o.id x.bare⟩:WS)=_
    rw[zAo _ _ _ (by rw[qGz,hx];rfl)]
 simp only[if_neg h2]at h ⊢
 by_cases h3:o.kind=3
 ·have h0:(qIb s o).2.1≠0:=by
   rcases h with h | h | h | h
   ·simpa only[if_pos h3] using h
   all_goals omega
  simp only[if_pos h3]
  clear h
  unfold qIb at h0 ⊢
  revert h0
  (repeat' split) <;> intro h0
  ·exact absurd rfl h0
  all_goals rfl
 simp only[if_neg h3]
 clear h
 split
 ·unfold qGh;(repeat' split) <;> rfl
 split
 ·unfold qGn;(repeat' split) <;> rfl
 split
 ·rfl
 ·rfl
theorem zAq(l:List OpM)(hok:qK6 l): ∀(s s':WS),s.bare=s'.bare->∀i,i<l.length->((qF5 s l)[i]?.map (·.1)=(qF5 s' l)[i]?.map (·.1))/\((l.getD i o1).kind≠5->(qF5 s l)[i]?=(qF5 s' l)[i]?):=by
 induction l with
 | nil=>intro s s' _ i hi;simp at hi
 | cons o l ih =>
  intro s s' h i hi
  obtain⟨a1,a2,a3⟩:=qPh s o (hok o (by simp))
  obtain⟨b1,b2,b3⟩:=qPh s' o (hok o (by simp))
  rw[h]at a1 a2 a3
  cases i with
  | zero =>
   refine⟨?_,λhk=>?_⟩
   ·show some (qBi s o).2.1=some (qBi s' o).2.1
    rw[<-a1,b1]
   ·show some (qBi s o).2=some (qBi s' o).2
    have hk':o.kind≠5:=hk
    rw[show(qBi s o).2=((qBi s o).2.1,(qBi s o).2.2) from rfl,show(qBi s' o).2=((qBi s' o).2.1,(qBi s' o).2.2) from rfl,<-a1,b1,<-a2 hk',b2 hk']
  | succ i =>
   exact ih (λo ho=>hok o (by simp[ho])) _ _ (by rw[<-a3,b3]) i (by simpa using hi)
end
section
open Go.RowKit
theorem qMr(b1 b2:Nat)(v1 v2:Value)(l1 l2:List Int)(w:World)(h1:w.ownsRow b1 3 1 v1 l1.length (ints l1))(h2:w.ownsRow b2 3 1 v2 l2.length (ints l2))(hl1:l1.length<=1000)(hl2:l2.length<=1000):
  Calls Tryz.prog 23 #[v1,v2] w λe w'=>∃b,e=.returned (.bool b)/\(l1=l2->b=true)/\Keeps (λ_=>False) w w':=by
 by_cases he:l1=l2
 ·subst he
  exact(qX5 b1 b2 v1 v2 l1 w h1 h2 hl1).mono λe w' ⟨h,hk⟩=>⟨true,h,λ_=>rfl,hk⟩
 by_cases hlen:l1.length=l2.length
 ·rcases qEs h1 with ⟨rfl,_⟩ | ⟨g1,c1,rfl,hc1⟩
  ·have:l2=[]:=List.length_eq_zero_iff.1 hlen.symm
   exact absurd this.symm he
  rcases qEs h2 with ⟨rfl,_⟩ | ⟨g2,c2,rfl,hc2⟩
  ·have:l1=[]:=List.length_eq_zero_iff.1 hlen
   exact absurd this he
  rw[<-hlen]at hc2 ⊢
  have HC1:=hide hc1
  have HC2:=hide hc2
  clear h1 h2 hc1 hc2 hl2 hlen
  generalize hn:l1.length=n at *
  clear hn
  go_enter Tryz.func23,Tryz.ntmps23
  go_wp2
  go_loopw [5] (λi wr=>∃k:Nat,k<=n/\i=.int .i64 k/\Hid (Keeps (λ_=>False) w wr)) (λi _=>n-(intOf i).toNat)
  case atStart=>exact⟨0,by omega,rfl,Keeps.refl _ _⟩
  case round =>
   obtain⟨k,hk,rfl,HK⟩:=hrel
   by_cases hlt:k<n
   ·have x1:wr.cell? ⟨g1,k,none⟩=some (.int .i64 (l1.getD k 0)):=(uh HK).cell (uh HC1 k hlt) (λh=>h)
    have x2:wr.cell? ⟨g2,k,none⟩=some (.int .i64 (l2.getD k 0)):=(uh HK).cell (uh HC2 k hlt) (λh=>h)
    have hk0:(0:Int)<=(k:Int):=by omega
    have hkn:(k:Int)<(n:Int):=by omega
    by_cases hxy:l1.getD k 0=l2.getD k 0
    ·rw[hxy]at x1
     generalize l2.getD k 0=y at *
     have hne:(y !=y)=false:=by simp
     go_wp2
     go_quiet (fail)
     go_wp2
     go_roundw
     case rel=>exact⟨k+1,by omega,by go_num,hide ((uh HK).then (Keeps.drewN _ _ _))⟩
     case measure=>simp[intOf];omega
    ·generalize l2.getD k 0=y at *
     generalize l1.getD k 0=x at *
     have hne:(x !=y)=true:=by simp[hxy]
     go_wp2
     go_quiet (fail)
     go_wp2
     go_ret
     exact⟨false,rfl,λh=>absurd h he,(uh HK).then (Keeps.drewN _ _ _)⟩
   ·go_wp2
    go_ret
    exact⟨true,rfl,λh=>absurd h he,uh HK⟩
 ·obtain⟨a1,c1,rfl⟩:=qCu h1
  obtain⟨a2,c2,rfl⟩:=qCu h2
  clear h1 h2
  generalize l1.length=n1 at *
  generalize l2.length=n2 at *
  have hne:((n1:Int) !=(n2:Int))=true:=by simp;omega
  go_enter Tryz.func23,Tryz.ntmps23
  go_wp2
  go_ret
  exact⟨false,rfl,λh=>absurd h he,Keeps.refl _ _⟩
theorem qQ2(l:List Nat): (qF3 l).size=l.length:=by
 unfold qF3 strOfNums
 show(List.toArray _).size=_
 simp
theorem zBi(l:List Nat)(i:Nat)(hi:i<l.length)(hb:l.getD i 0<256)(h:i<(qF3 l).size): (((qF3 l)[i]'h).toNat:Int)=((l.getD i 0:Nat):Int):=by
 have e:(qF3 l)[i]'h=UInt8.ofNat (l.getD i 0):=by
  show(qF3 l).data[i]=_
  unfold qF3 strOfNums
  simp[List.getD_eq_getElem?_getD,List.getElem?_eq_getElem hi]
 rw[e,UInt8.toNat_ofNat']
 omega
theorem qQ6(l:List Nat)(k:Nat): (qF3 l).extract k (qF3 l).size=qF3 (l.drop k):=by
 rw[qQ2]
 unfold qF3 strOfNums
 rw[ByteArray.extract_mk]
 congr 2
 rw[List.map_drop,List.map_drop]
 rw[List.take_of_length_le (by simp)]
theorem qU8(a b:Nat)(ha:a<9223372036854775808)(hb:b<9223372036854775808): bits .or .i64 (a:Int) (b:Int)=((a ||| b:Nat):Int):=by
 have hx:a ||| b<2 ^ 63:=Nat.or_lt_two_pow (by omega) (by omega)
 show IntKind.i64.wrap ((BitVec.ofInt 64 (a:Int) ||| BitVec.ofInt 64 (b:Int)).toNat:Int)=_
 rw[BitVec.toNat_or,ofInt_u64 a (by omega),ofInt_u64 b (by omega),IntKind.wrap_i64]
 omega
theorem qIc(r:Nat)(w:World): Calls Tryz.prog 148 #[.pointer (some ⟨r,0,none⟩),.bool true] w λe w'=>e=.returned (.tuple #[])/\w'=w:=by
 go_enter Tryz.func148,Tryz.ntmps148
 go_wp2
 go_end0
 exact⟨rfl,rfl⟩
def qJ3: List Value->List Nat->List Int->List Value
 | cs,o::os,n::ns=>qJ3 (cs.set o (.int .i64 n)) os ns
 | cs,_,_=>cs
theorem qTt(os:List Nat): ∀(cs:List Value) (ns:List Int),(qJ3 cs os ns).length=cs.length:=by
 induction os with
 | nil=>intro cs ns;rfl
 | cons o os ih =>
  intro cs ns
  cases ns with
  | nil=>rfl
  | cons n ns=>show(qJ3 (cs.set o (.int .i64 n)) os ns).length=_;rw[ih];simp
theorem qYo(os:List Nat): ∀(cs:List Value) (ns:List Int) (o:Nat) (n:Int),os.length=ns.length->qJ3 cs (os++[o]) (ns++[n])=(qJ3 cs os ns).set o (.int .i64 n):=by
 induction os with
 | nil =>
  intro cs ns o n h
  cases ns with
  | nil=>rfl
  | cons a ns=>simp at h
 | cons a os ih =>
  intro cs ns o n h
  cases ns with
  | nil=>simp at h
  | cons b ns =>
   show qJ3 (cs.set a (.int .i64 b)) (os++[o]) (ns++[n])=(qJ3 (cs.set a (.int .i64 b)) os ns).set o (.int .i64 n)
   exact ih _ _ _ _ (by simpa using h)
theorem qPq(w:World)(ty:TypeId)(b dLen dCap:Nat)(s:ByteArray)(cs:List Value)(hcs:cs=((s.extract 0 (Nat.min s.size dLen)).data.map λ(b:UInt8)=>Value.int .u8 (b.toNat:Int)).toList)(hc:∀j,j<cs.length->(w.cell? ⟨b,j,none⟩).isSome=true)(hf:∀j,j<cs.length->w.frozen? ⟨b,j,none⟩=false):
  (Builtin.copy_ #[134,9] ty #[.slice (some ⟨b,0,none⟩) dLen dCap,.string s]).run Tryz.prog w=.ok (goInt (Nat.min s.size dLen)) (w.setCells b 0 cs):=by
 obtain⟨i0,hi0,hz0,hz1,hz2⟩:=info_parts zCa
 have hst:=run_storeCells_cells (P:=Tryz.prog) b 0 cs 0 w (by simpa using hc) (by simpa using hf) (λv hv=>by
    rw[hcs,Array.toList_map]at hv
    obtain⟨a,_,rfl⟩:=List.mem_map.1 hv
    rfl)
 subst hcs
 simp[Builtin.copy_,run_underlying Tryz.underlying134,Builtin.lenOf,Builtin.firstCells,sizeOf,typeInfo,hi0]
 simp at hst
 rw[hst]
 rfl
theorem zA6: (Tryz.prog.info? 170).map (·.size)=some 8:=by kernel_rfl
def qTn: Nat->Nat->Nat->List Nat->Option (Nat×List Nat)
 | 0,_,_,_=>none
 | _+1,_,_,[]=>none
 | f+1,i,a,b::l=>if b<128 then some (a+b*128 ^ i,l) else qTn f (i+1) (a+b%128*128 ^ i) l
def zCb(l:List Nat): Option (Nat×List Nat):=qTn 9 0 0 l
theorem zBf: ∀(f i a:Nat) (l:List Nat),f+i<=9->a<128 ^ i->∀n l',qTn f i a l=some (n,l')->n<9223372036854775808/\∃p,l=p++l'/\1<=p.length
 | 0,_,_,_,_,_,_,_,h=>by cases h
 | _+1,_,_,[],_,_,_,_,h=>by cases h
 | f+1,i,a,b::l,hf,ha,n,l',h=>by
  have hp:∀x,x<128->a+x*128 ^ i<128 ^ (i+1):=λx hx=>by
   rw[Nat.pow_succ]
   have h1:x*128 ^ i<=127*128 ^ i:=Nat.mul_le_mul_right _ (by omega)
   omega
  unfold qTn at h
  split at h
  ·rename_i hb
   simp only[Option.some.injEq,Prod.mk.injEq]at h
   obtain⟨rfl,rfl⟩:=h
   have h2:=hp b hb
   have h3:(128:Nat) ^ (i+1)<=128 ^ 9:=Nat.pow_le_pow_right (by omega) (by omega)
   have h4:(128:Nat) ^ 9=9223372036854775808:=by decide
   exact⟨by omega,[b],rfl,by simp⟩
  ·obtain⟨h1,p,h2,h3⟩:=zBf f (i+1) _ l (by omega) (hp (b%128) (Nat.mod_lt _ (by omega))) n l' h
   exact⟨h1,b::p,by rw[h2];rfl,by simp⟩
theorem zEr(a x i:Nat)(ha:a<128 ^ i): a ||| x*128 ^ i=a+x*128 ^ i:=by
 have e:(128:Nat) ^ i=2 ^ (7*i):=by rw[Nat.pow_mul]
 rw[e]at ha ⊢
 have:=Nat.shiftLeft_add_eq_or_of_lt ha x
 rw[Nat.shiftLeft_eq]at this
 rw[Nat.or_comm,<-this,Nat.add_comm]
theorem qYr(a x i:Nat)(hi:i<9)(ha:a<128 ^ i)(hx:x<256): ∃B Y:Nat,x%128=B/\B*128 ^ i=Y/\a+Y<128 ^ (i+1)/\bits BinOp.and IntKind.u8 (x:Int) 127=(B:Int)/\wrap64 ((B:Int)*2 ^ (7*i))=(Y:Int)/\wrap64 (B:Int)=(B:Int)/\bits .or .i64 (a:Int) (Y:Int)=((a+Y:Nat):Int):=by
 obtain⟨B,hB⟩:∃B,x%128=B:=⟨_,rfl⟩
 have hB128:B<128:=by rw[<-hB];exact Nat.mod_lt _ (by omega)
 obtain⟨Y,hY⟩:∃Y,B*128 ^ i=Y:=⟨_,rfl⟩
 have hsum:a+Y<128 ^ (i+1):=by
  rw[<-hY,Nat.pow_succ]
  have h1:B*128 ^ i<=127*128 ^ i:=Nat.mul_le_mul_right _ (by omega)
  generalize 128 ^ i=P at *
  omega
 have hlt:a+Y<9223372036854775808:=by
  have hp1:(128:Nat) ^ (i+1)<=128 ^ 9:=Nat.pow_le_pow_right (by omega) (by omega)
  have h63:(128:Nat) ^ 9=9223372036854775808:=by decide
  rw[h63]at hp1
  exact Nat.lt_of_lt_of_le hsum hp1
 have hor:=zEr a B i ha
 rw[hY]at hor
 have hbo:=qU8 a Y (by omega) (by omega)
 rw[hor]at hbo
 refine⟨B,Y,hB,hY,hsum,?_,?_,?_,hbo⟩
 ·have:=u8_and_nat x 127 hx (by omega)
  rw[nat_mask7,hB]at this
  exact this
 ·have e:((B:Int)*2 ^ (7*i))=(Y:Int):=by
   rw[<-hY,Int.natCast_mul,Int.natCast_pow]
   congr 1
   rw[Int.pow_mul];rfl
  rw[e]
  have h1:=IntKind.wrap_i64 (Y:Int)
  have h9:(Y:Int)<9223372036854775808:=by omega
  unfold wrap64
  clear e hor hsum hbo hY ha
  omega
 ·have h1:=IntKind.wrap_i64 (B:Int)
  unfold wrap64
  clear hor hsum hbo hY ha
  omega
structure RdB (w:World) (r:Nat) (l:List Nat) (wr:Bool):Prop where
 blk:Blk w r [.string (qF3 l),.bool wr] 173
 len:l.length<=9223372036854775807
 byt:∀b,b∈l->b<256
theorem RdB.keeps{M:Nat->Prop}{w w':World}{r:Nat}{l:List Nat}{wr:Bool}(h:RdB w r l wr)(hk:Keeps M w w')(hn:¬M r): RdB w' r l wr:=⟨h.blk.keeps hk hn,h.len,h.byt⟩
def zAr: Option (Nat×List Nat)->Value
 | some (n,_)=>.tuple #[.int .i64 (n:Int),.bool true]
 | none=>.tuple #[.int .i64 0,.bool false]
def nxtL(l:List Nat): Option (Nat×List Nat)->List Nat
 | some (_,l')=>l'
 | none=>l
theorem qZ9(r:Nat)(l:List Nat)(wg:Bool)(w:World)(h:RdB w r l wg):
  Calls Tryz.prog 147 #[.pointer (some ⟨r,0,none⟩)] w λe w'=>e=.returned (zAr (zCb l))/\RdB w' r (nxtL l (zCb l)) wg/\Keeps (λi=>i=r) w w':=by
 have c0:w.cell? ⟨r,0,none⟩=some (.string (qF3 l)):=h.blk.cell rfl
 have fz:=h.blk.frozen
 have hsz:(qF3 l).size=l.length:=qQ2 l
 have HG:=hide (show ∀i,i<l.length->∀h:i<(qF3 l).size,(((qF3 l)[i]'h).toNat:Int)=((l.getD i 0:Nat):Int) from λi hi hb=>zBi _ i hi (h.byt _ (by rw[List.getD_eq_getElem?_getD,List.getElem?_eq_getElem hi];exact List.getElem_mem hi)) hb)
 have HD:=hide (show ∀i,(qF3 l).extract (i+1) (qF3 l).size=qF3 (l.drop (i+1)) from λi=>qQ6 l (i+1))
 have HB:=hide h
 have hln:=h.len
 clear h
 obtain⟨SZ,hSZ⟩:∃SZ:Nat,l.length=SZ:=⟨_,rfl⟩
 rw[hSZ]at hsz hln
 have HSZ:=hide hSZ
 clear hSZ
 generalize qF3 l=st at *
 go_enter Tryz.func147,Tryz.ntmps147
 by_cases h9:(SZ:Int)<9
 all_goals
  go_wp2
  have H9:=hide h9
  clear h9
  go_loopw [4,13] (λnv iv wr=>∃i a:Nat,i<=9/\i<=SZ/\iv=.int .i64 i/\nv=.int .i64 (a:Int)/\wr=w/\Hid (a<128 ^ i)/\Hid (qTn (9-i) i a (l.drop i)=zCb l)) (λ_ iv _=>9-(intOf iv).toNat)
  case atStart=>exact⟨0,0,by omega,by omega,rfl,rfl,rfl,Nat.pow_pos (by omega),rfl⟩
  case round =>
   obtain⟨i,a,hi9',hiS',rfl,rfl,rfl,HA,HF⟩:=hrel
   by_cases hlt:i<SZ/\i<9
   ·have hil:i<l.length:=by rw[uh HSZ];exact hlt.1
    have hiK:(i:Int)<(SZ:Int):=by omega
    have hi9:(i:Int)<9:=by omega
    have hi0:(0:Int)<=(i:Int):=by omega
    have w7:IntKind.i64.wrap (7*(i:Int))=((7*i:Nat):Int):=by rw[IntKind.wrap_i64];omega
    have hib:=uh HG i hil (by omega)
    obtain⟨x,hx⟩:∃x,l.getD i 0=x:=⟨_,rfl⟩
    rw[hx]at hib
    have hgl:l[i]?=some x:=by
     rw[List.getElem?_eq_getElem hil]
     rw[List.getD_eq_getElem?_getD,List.getElem?_eq_getElem hil]at hx
     exact congrArg some hx
    have hx3:x<256:=(uh HB).byt x (List.mem_of_getElem? hgl)
    have hdr:l.drop i=x::l.drop (i+1):=by
     rw[List.drop_eq_getElem_cons hil]
     rw[List.getElem?_eq_getElem hil]at hgl
     rw[Option.some.inj hgl]
    have hf9:9-i=(9-(i+1))+1:=by omega
    have hF:=uh HF
    rw[hdr,hf9]at hF
    unfold qTn at hF
    obtain⟨B,Y,hB,hY,hsum,a7,hsh,hwB,hbo⟩:=qYr a x i hlt.2 (uh HA) hx3
    have HS:=hide hsum
    have HFF:=hide hF
    have HBX:=hide hB
    have HY:=hide hY
    clear hB hY hx hF hdr hf9 hgl hsum hil
    by_cases hxl:x<128
    ·have hxi:(x:Int)<128:=by omega
     have hex:=uh HD i
     rw[hsz]at hex
     have hR:zCb l=some (a+Y,l.drop (i+1)):=by
      have hF:=uh HFF
      rw[if_pos hxl]at hF
      rw[<-hF,<-uh HY,<-uh HBX,Nat.mod_eq_of_lt hxl]
     have HR:=hide hR
     have HBN:=hide ((uh HB).blk.setCell 0 (.string (qF3 (l.drop (i+1)))))
     have HKN:=hide ((Keeps.refl (λi=>i=r) wr).setCell (p:=⟨r,0,none⟩) (Or.inl rfl) (.string (qF3 (l.drop (i+1)))))
     clear hR
     generalize a+Y=n at *
     go_wp2
     refine bodyPost_ret (v:=.tuple #[.int .i64 (n:Int),.bool true]) (by simp[results,Tryz.results147,go_sem]) rfl ?_
     rw[uh HR]
     exact⟨rfl,⟨uh HBN,by show(l.drop (i+1)).length<=_;rw[List.length_drop];have:=(uh HB).len;omega,λb hb=>(uh HB).byt b (List.mem_of_mem_drop hb)⟩,uh HKN⟩
    ·have hxi:decide ((x:Int)<128)=false:=by simp;omega
     have HN:=hide (show qTn (9-(i+1)) (i+1) (a+Y) (l.drop (i+1))=zCb l by
        have hF:=uh HFF
        rw[if_neg hxl]at hF
        rw[<-hF,<-uh HY,<-uh HBX])
     have HSN:=hide (uh HS)
     generalize a+Y=n at *
     go_wp2
     go_roundw
     case rel=>exact⟨i+1,n,by omega,by omega,by go_num,rfl,by trivial,HSN,HN⟩
     case measure=>simp[intOf];omega
   ·have hR:zCb l=none:=by
     have hF:=uh HF
     rcases Nat.lt_or_ge i 9 with h1 | h1
     ·have hnil:l.drop i=[]:=List.drop_eq_nil_of_le (by rw[uh HSZ];omega)
      rw[hnil,show 9-i=(9-(i+1))+1 by omega]at hF
      exact hF.symm
     ·have:i=9:=by omega
      subst this
      exact hF.symm
    have HR:=hide hR
    have hle:(SZ:Int)<=(i:Int)\/(9:Int)<=(i:Int):=by omega
    clear hR HF
    have h9:=uh H9
    have hd:(i=SZ/\(SZ:Int)<9)\/(i=9/\¬(SZ:Int)<9):=by omega
    clear hle hlt
    rcases hd with ⟨hd,hx⟩ | ⟨hd,hx⟩
    all_goals
     first
      | (exfalso;omega)
      | (clear h9 hx
         subst hd
         go_wp2
         go_ret2
         rw[uh HR]
         exact⟨rfl,uh HB,Keeps.refl _ _⟩)
def RdS(w:World)(r:Nat)(st:Option (List Nat)): Prop:=∃l,RdB w r l st.isNone/\(st=none\/st=some l)
theorem RdS.keeps{M:Nat->Prop}{w w':World}{r:Nat}{st:Option (List Nat)}(h:RdS w r st)(hk:Keeps M w w')(hn:¬M r): RdS w' r st:=by
 obtain⟨l,h1,h2⟩:=h
 exact⟨l,h1.keeps hk hn,h2⟩
theorem RdS.lt{w:World}{r:Nat}{st:Option (List Nat)}(h:RdS w r st): r<w.heap.size:=by
 obtain⟨l,h1,_⟩:=h
 exact h1.blk.lt
def qAr(lo hi:Int)(st:Option (List Nat)): Int×Option (List Nat) :=
 match st with
 | none=>(lo,none)
 | some l=>match zCb l with
  | none=>(lo,none)
  | some (n,l')=>if inB (n:Int) lo hi then((n:Int),some l') else(lo,none)
def qE2(b:Bool)(st:Option (List Nat)): Option (List Nat):=if b then st else none
theorem qC3(r:Nat)(b:Bool)(st:Option (List Nat))(w:World)(h:RdS w r st): Calls Tryz.prog 148 #[.pointer (some ⟨r,0,none⟩),.bool b] w λe w'=>e=.returned (.tuple #[])/\RdS w' r (qE2 b st)/\Keeps (λi=>i=r) w w':=by
 cases b with
 | true =>
  refine(qIc r w).mono ?_
  rintro e w' ⟨rfl,rfl⟩
  exact⟨rfl,h,Keeps.refl _ _⟩
 | false =>
  obtain⟨l,h1,_⟩:=h
  obtain⟨u,hc⟩:∃u,w.cell? ⟨r,1,none⟩=some u:=⟨_,h1.blk.cell rfl⟩
  have fz:=h1.blk.frozen
  have HB:=hide (h1.blk.setCell 1 (.bool true))
  have HK:=hide ((Keeps.refl (λi=>i=r) w).setCell (p:=⟨r,1,none⟩) (Or.inl rfl) (.bool true))
  have HL:=hide h1
  clear h1
  go_enter Tryz.func148,Tryz.ntmps148
  go_wp2
  go_end0
  exact⟨rfl,⟨l,⟨uh HB,(uh HL).len,(uh HL).byt⟩,.inl rfl⟩,uh HK⟩
theorem qF8(r:Nat)(st:Option (List Nat))(w:World)(h:RdS w r st): Calls Tryz.prog 103 #[.pointer (some ⟨r,0,none⟩)] w λe w'=>e=.returned (.bool st.isNone)/\w'=w:=by
 obtain⟨l,h1,_⟩:=h
 have hc:w.cell? ⟨r,1,none⟩=some (.bool st.isNone):=h1.blk.cell rfl
 clear h1
 generalize st.isNone=b at *
 go_enter Tryz.func103,Tryz.ntmps103
 go_wp2
 go_ret
 exact⟨rfl,rfl⟩
theorem qB1(r:Nat)(lo hi:Int)(st:Option (List Nat))(w:World)(h:RdS w r st):
  Calls Tryz.prog 101 #[.pointer (some ⟨r,0,none⟩),.int .i64 lo,.int .i64 hi] w λe w'=>e=.returned (.int .i64 (qAr lo hi st).1)/\RdS w' r (qAr lo hi st).2/\Keeps (λi=>i=r) w w':=by
 obtain⟨l,h1,h2⟩:=h
 obtain⟨wg,hwg⟩:∃wg,st.isNone=wg:=⟨_,rfl⟩
 rw[hwg]at h1
 have HN:=hide (qZ9 r l wg w h1)
 clear h1
 cases hn:zCb l with
 | none =>
  have hR:qAr lo hi st=(lo,none):=by
   rcases h2 with e | e
   ·rw[e];rfl
   ·rw[e];unfold qAr;simp only;rw[hn]
  rw[hn]at HN
  rw[hR]
  go_enter Tryz.func101,Tryz.ntmps101
  go_wp2_with fail
  refine(uh HN).mono ?_
  rintro e w1 ⟨rfl,hr1,hk1⟩
  have HR:=hide (show RdS w1 r (if wg then none else some l) from⟨l,by cases wg <;> exact hr1,by cases wg <;> simp⟩)
  have HK:=hide hk1
  clear hr1 hk1 HN
  unfold zAr
  go_wp2_with fail
  refine(qC3 r false _ w1 (uh HR)).mono ?_
  rintro e w2 ⟨rfl,hr2,hk2⟩
  have hr3:RdS w2 r none:=hr2
  have HR2:=hide hr3
  have HK2:=hide ((uh HK).then hk2)
  obtain⟨l2,h4,_⟩:=hr3
  have hc:w2.cell? ⟨r,1,none⟩=some (.bool true):=h4.blk.cell rfl
  clear hr2 hk2 h4
  go_wp2
  go_ret
  exact⟨rfl,uh HR2,uh HK2⟩
 | some q =>
  obtain⟨n,l'⟩:=q
  rw[hn]at HN
  cases hb:inB (n:Int) lo hi with
  | false =>
   have hR:qAr lo hi st=(lo,none):=by
    rcases h2 with e | e
    ·rw[e];rfl
    ·rw[e];unfold qAr;simp only;rw[hn];simp only;rw[hb];rfl
   rw[hR]
   go_enter Tryz.func101,Tryz.ntmps101
   go_wp2_with fail
   refine(uh HN).mono ?_
   rintro e w1 ⟨rfl,hr1,hk1⟩
   have HR:=hide (show RdS w1 r (if wg then none else some l') from⟨l',by cases wg <;> exact hr1,by cases wg <;> simp⟩)
   have HK:=hide hk1
   clear hr1 hk1 HN
   unfold zAr
   go_wp2_with fail
   refine(qAh n lo hi _).mono ?_
   rintro e w2 ⟨rfl,hw2⟩
   rw[hw2,hb]
   clear hw2 w2
   go_wp2_with fail
   refine(qC3 r false _ w1 (uh HR)).mono ?_
   rintro e w2 ⟨rfl,hr2,hk2⟩
   have hr3:RdS w2 r none:=hr2
   have HR2:=hide hr3
   have HK2:=hide ((uh HK).then hk2)
   obtain⟨l2,h4,_⟩:=hr3
   have hc:w2.cell? ⟨r,1,none⟩=some (.bool true):=h4.blk.cell rfl
   clear hr2 hk2 h4
   go_wp2
   go_ret
   exact⟨rfl,uh HR2,uh HK2⟩
  | true =>
   have hR:qAr lo hi st=if wg then(lo,none) else((n:Int),some l'):=by
    rcases h2 with e | e
    ·rw[e]at hwg ⊢;rw[<-hwg];rfl
    ·rw[e]at hwg ⊢;rw[<-hwg];unfold qAr;simp only;rw[hn];simp only;rw[hb];rfl
   rw[hR]
   go_enter Tryz.func101,Tryz.ntmps101
   go_wp2_with fail
   refine(uh HN).mono ?_
   rintro e w1 ⟨rfl,hr1,hk1⟩
   have hc:w1.cell? ⟨r,1,none⟩=some (.bool wg):=hr1.blk.cell rfl
   have HR:=hide hr1
   have HK:=hide hk1
   clear hr1 hk1 HN
   unfold zAr
   go_wp2_with fail
   refine(qAh n lo hi _).mono ?_
   rintro e w2 ⟨rfl,hw2⟩
   rw[hw2,hb]
   clear hw2 w2
   go_wp2_with fail
   refine(qIc r _).mono ?_
   rintro e w2 ⟨rfl,hw2⟩
   rw[hw2]
   clear hw2 w2
   cases wg with
   | true =>
    go_wp2
    go_ret
    exact⟨rfl,⟨l',uh HR,.inl rfl⟩,uh HK⟩
   | false =>
    go_wp2
    go_ret
    exact⟨rfl,⟨l',uh HR,.inr rfl⟩,uh HK⟩
theorem qBu(lo hi:Int)(st:Option (List Nat)): lo<=(qAr lo hi st).1/\((qAr lo hi st).1<=hi\/(qAr lo hi st).1=lo)/\((qAr lo hi st).2≠none->(qAr lo hi st).1<=hi):=by
 unfold qAr
 split
 ·exact⟨Int.le_refl _,.inr rfl,λh=>absurd rfl h⟩
 ·split
  ·exact⟨Int.le_refl _,.inr rfl,λh=>absurd rfl h⟩
  ·split
   ·rename_i h
    obtain⟨a,b⟩:=qCi h
    exact⟨a,.inl b,λ_=>b⟩
   ·exact⟨Int.le_refl _,.inr rfl,λh=>absurd rfl h⟩
def qAv: Nat->Option (List Nat)->List Int×Option (List Nat)
 | 0,st=>([],st)
 | k+1,st=>((qAr 0 9223372036854775807 st).1::(qAv k (qAr 0 9223372036854775807 st).2).1,(qAv k (qAr 0 9223372036854775807 st).2).2)
theorem qDz(k:Nat): ∀st,(qAv k st).1.length=k:=by
 induction k with
 | zero=>intro st;rfl
 | succ k ih=>intro st;unfold qAv;rw[List.length_cons,ih]
theorem qVr(a b:Nat): ∀st,qAv (a+b) st=((qAv a st).1++(qAv b (qAv a st).2).1,(qAv b (qAv a st).2).2):=by
 induction a with
 | zero=>intro st;rw[Nat.zero_add];rfl
 | succ a ih =>
  intro st
  rw[Nat.succ_add]
  show((qAr 0 9223372036854775807 st).1::(qAv (a+b) (qAr 0 9223372036854775807 st).2).1,(qAv (a+b) (qAr 0 9223372036854775807 st).2).2)=_
  rw[ih]
  rfl
theorem qT3(k:Nat)(st:Option (List Nat)): qAv (k+1) st=((qAv k st).1++[(qAr 0 9223372036854775807 (qAv k st).2).1],(qAr 0 9223372036854775807 (qAv k st).2).2):=qVr k 1 st
theorem qLc(r cb:Nat)(os:List Nat)(cs:List Value)(T:TypeId)(pv:Value)(base:Nat)(st:Option (List Nat))(w:World)(h:RdS w r st)(hp:w.ownsRow base 167 1 pv os.length (qCt (at' cb os)))(hb:Blk w cb cs T)(ho:∀o,o∈os->o<cs.length)(hne:cb≠r)(hpv:∀i,pv.ownBlock=some i->i≠r/\i≠cb)(hl2:os.length<=1000):
  Calls Tryz.prog 152 #[.pointer (some ⟨r,0,none⟩),pv] w λe w'=>e=.returned (.tuple #[])/\RdS w' r (qAv os.length st).2/\Blk w' cb (qJ3 cs os (qAv os.length st).1) T/\Keeps (λi=>i=r\/i=cb) w w':=by
 have HR:=hide h
 have HP:=hide hp
 have HB:=hide hb
 have HO:=hide ho
 have HPV:=hide hpv
 obtain⟨va,vcap,hv,hva⟩:=qB7 hp
 have HVA:=hide hva
 clear h hp hb ho hpv hva
 subst hv
 generalize hm:os.length=m at *
 have HM:=hide hm
 clear hm
 go_enter Tryz.func152,Tryz.ntmps152
 go_wp2
 go_loopw [8] (λi wr=>∃k:Nat,i=.int .i64 k/\k<=m/\Hid (RdS wr r (qAv k st).2)/\Hid (Blk wr cb (qJ3 cs (os.take k) (qAv k st).1) T)/\Hid (Keeps (λi=>i=r\/i=cb) w wr)) (λi _=>m-(intOf i).toNat)
 case atStart=>exact⟨0,rfl,Nat.zero_le _,HR,HB,Keeps.refl _ _⟩
 case round =>
  obtain⟨k,rfl,hk,HRr,HBr,HKr⟩:=hrel
  by_cases hlk:k<m
  ·obtain⟨g,hg,hgb⟩:=uh HVA (by omega)
   subst hg
   have hkp:k<os.length:=by rw[uh HM];exact hlk
   obtain⟨o,hok⟩:∃o,os[k]?=some o:=⟨_,List.getElem?_eq_getElem hkp⟩
   have hrow:=qL4 (uh HP) (uh HKr) (λi hi he=>by have:=uh HPV i hi;rcases he with e | e <;> omega)
   have hck:wr.cell? ⟨g,k,none⟩=some (.pointer (some ⟨cb,o,none⟩)):=by
    rcases qIt hrow with ⟨h0,_⟩ | ⟨g',cap',hv',hc⟩
    ·omega
    ·cases hv';exact hc k _ (by unfold qCt at';rw[List.getElem?_map,List.getElem?_map,hok];rfl)
   have hol:=uh HO o (List.mem_of_getElem? hok)
   have hsn:=qT3 k st
   have HNG:=hide (qB1 r 0 9223372036854775807 (qAv k st).2 wr (uh HRr))
   have HTK:=hide (show qJ3 cs (os.take (k+1)) ((qAv k st).1++[(qAr 0 9223372036854775807 (qAv k st).2).1])=(qJ3 cs (os.take k) (qAv k st).1).set o (.int .i64 (qAr 0 9223372036854775807 (qAv k st).2).1) by
      rw[List.take_add_one,hok]
      exact qYo _ _ _ _ _ (by rw[List.length_take,uh HM,qDz];omega))
   generalize qAr 0 9223372036854775807 (qAv k st).2=q at *
   obtain⟨n,st2⟩:=q
   have HSN:=hide hsn
   have hk0:(0:Int)<=(k:Int):=by omega
   have hkm:(k:Int)<(m:Int):=by omega
   clear hrow hok hkp hsn
   go_wp2_with fail
   refine(uh HNG).mono ?_
   rintro e w1 ⟨rfl,hr1,hk1⟩
   have HR1:=hide hr1
   have HB1:=hide ((uh HBr).keeps hk1 hne)
   have HK1:=hide ((uh HKr).trans hk1 (λi hi _=>.inl hi))
   clear hr1 hk1 hck
   obtain⟨u,hu⟩:∃u,(qJ3 cs (os.take k) (qAv k st).1)[o]?=some u:=⟨_,List.getElem?_eq_getElem (by rw[qTt];exact hol)⟩
   have hcu:=(uh HB1).cell hu
   have hfz:=(uh HB1).frozen o
   have HB2:=hide ((uh HB1).setCell o (.int .i64 n))
   have HR2:=hide ((uh HR1).keeps ((Keeps.refl (λi=>i=cb) w1).setCell (p:=⟨cb,o,none⟩) (Or.inl rfl) (.int .i64 n)) (λe=>hne e.symm))
   have HK2:=hide ((uh HK1).setCell (p:=⟨cb,o,none⟩) (Or.inl (.inr rfl)) (.int .i64 n))
   clear hu
   go_wp2
   go_roundw
   case rel=>exact⟨k+1,by go_num,by omega,hide (by rw[uh HSN];exact uh HR2),hide (by rw[uh HSN,uh HTK];exact uh HB2),HK2⟩
   case measure=>simp[intOf];omega
  ·have hkm:k=m:=by omega
   subst hkm
   have h1:os.take k=os:=List.take_of_length_le (by rw[uh HM];exact Nat.le_refl _)
   rw[h1]at HBr
   go_wp2
   go_end0
   exact⟨rfl,uh HRr,uh HBr,uh HKr⟩
def bytesOf(t:ByteArray): List Nat:=t.data.toList.map UInt8.toNat
theorem qV7(t:ByteArray): ∀b,b∈bytesOf t->b<256:=λb hb=>by
 obtain⟨u,_,rfl⟩:=List.mem_map.1 hb
 exact u.toNat_lt
theorem qQx(t:ByteArray): qF3 (bytesOf t)=t:=by
 unfold qF3 strOfNums bytesOf
 apply ByteArray.ext
 simp[List.map_map,Function.comp_def]
theorem bytesOf_length(t:ByteArray): (bytesOf t).length=t.size:=by unfold bytesOf;rw[List.length_map];rfl
def qGg(t:ByteArray): List UInt8:=(t.data.toList.take 8)++List.replicate (8-(t.data.toList.take 8).length) 0
theorem qGu(t:ByteArray): (qGg t).length=8:=by
 unfold qGg
 rw[List.length_append,List.length_replicate]
 have:(t.data.toList.take 8).length<=8:=by rw[List.length_take];omega
 omega
def u8V(l:List UInt8): List Value:=l.map λb=>.int .u8 (b.toNat:Int)
def z8: List Value:=List.replicate 8 (.int .u8 0)
def qVd(t:ByteArray): List Value:=((t.extract 0 (Nat.min t.size 8)).data.map λ(b:UInt8)=>Value.int .u8 (b.toNat:Int)).toList
theorem qT8(t:ByteArray): qVd t=u8V (t.data.toList.take 8):=by
 unfold qVd u8V
 rw[Array.toList_map]
 congr 1
 rw[ByteArray.data_extract,Array.toList_extract]
 simp only[List.extract,List.drop_zero,Nat.sub_zero]
 have hs:t.size=t.data.toList.length:=rfl
 rw[hs]
 rcases Nat.le_total t.data.toList.length 8 with h | h
 ·rw[show Nat.min t.data.toList.length 8=t.data.toList.length from Nat.min_eq_left h,List.take_of_length_le (Nat.le_refl _),List.take_of_length_le h]
 ·rw[show Nat.min t.data.toList.length 8=8 from Nat.min_eq_right h]
theorem qJq(t:ByteArray): (qVd t).length<=8:=by
 rw[qT8]
 unfold u8V
 rw[List.length_map,List.length_take]
 exact Nat.min_le_left _ _
theorem qX3(t:ByteArray): over z8 0 (qVd t)=u8V (qGg t):=by
 unfold over qGg
 rw[qT8,List.take_zero,List.nil_append,Nat.zero_add]
 unfold u8V z8
 rw[List.map_append,List.map_replicate,List.drop_replicate,List.length_map]
 rfl
theorem list8{α:Type}(l:List α)(h:l.length=8): ∃a b c d e f g i,l=[a,b,c,d,e,f,g,i]:=by
 match l,h with
 | [a,b,c,d,e,f,g,i],_=>exact⟨a,b,c,d,e,f,g,i,rfl⟩
theorem qMk(t:ByteArray)(w:World): Calls Tryz.prog 146 #[.string t] w λe w'=>e=.returned (.agg (u8V (qGg t)).toArray)/\Keeps (λ_=>False) w w':=by
 obtain⟨W0,hW0⟩:∃W0,((w.alloc (.cells #[.int .u8 0,.int .u8 0,.int .u8 0,.int .u8 0,.int .u8 0,.int .u8 0,.int .u8 0,.int .u8 0] 170)).alloc (.cells #[.int .u8 0,.int .u8 0,.int .u8 0,.int .u8 0,.int .u8 0,.int .u8 0,.int .u8 0,.int .u8 0] 170))=W0:=⟨_,rfl⟩
 have HW0:=hide (show Blk W0 (w.heap.size+1) z8 170 by rw[<-hW0];exact Blk.newAt (by simp) _ _)
 have HR0:=hide (show Blk W0 w.heap.size z8 170 by rw[<-hW0];exact(Blk.new w _ _).alloc _)
 have HK0:=hide (show Keeps (λ_=>False) w W0 by rw[<-hW0];exact((Keeps.refl _ _).alloc _).alloc _)
 obtain⟨W1,hW1⟩:∃W1,W0.setCells (w.heap.size+1) 0 (qVd t)=W1:=⟨_,rfl⟩
 have hcp:(Builtin.copy_ #[134,9] 3 #[.slice (some ⟨w.heap.size+1,0,none⟩) 8 8,.string t]).run Tryz.prog ((w.alloc (.cells #[.int .u8 0,.int .u8 0,.int .u8 0,.int .u8 0,.int .u8 0,.int .u8 0,.int .u8 0,.int .u8 0] 170)).alloc (.cells #[.int .u8 0,.int .u8 0,.int .u8 0,.int .u8 0,.int .u8 0,.int .u8 0,.int .u8 0,.int .u8 0] 170))=.ok (goInt (Nat.min t.size 8)) W1:=by
  rw[hW0,<-hW1]
  refine qPq W0 3 (w.heap.size+1) 8 8 _ _ rfl (λj hj=>?_) (λj _=>(uh HW0).frozen j)
  have:=qJq t
  exact(uh HW0).some (show j<z8.length by show j<8;omega)
 have hb1:=Blk.setCells (qVd t) 0 W0 z8 (uh HW0) (by have:=qJq t;show 0+_<=8;omega)
 rw[hW1,qX3]at hb1
 obtain⟨c0,c1,c2,c3,c4,c5,c6,c7,hc⟩:=list8 (qGg t) (qGu t)
 have hU:u8V (qGg t)=[.int .u8 (c0.toNat:Int),.int .u8 (c1.toNat:Int),.int .u8 (c2.toNat:Int),.int .u8 (c3.toNat:Int),.int .u8 (c4.toNat:Int),.int .u8 (c5.toNat:Int),.int .u8 (c6.toNat:Int),.int .u8 (c7.toNat:Int)]:=by rw[hc];rfl
 rw[hU]at hb1 ⊢
 generalize(c0.toNat:Int)=u0 at *
 generalize(c1.toNat:Int)=u1 at *
 generalize(c2.toNat:Int)=u2 at *
 generalize(c3.toNat:Int)=u3 at *
 generalize(c4.toNat:Int)=u4 at *
 generalize(c5.toNat:Int)=u5 at *
 generalize(c6.toNat:Int)=u6 at *
 generalize(c7.toNat:Int)=u7 at *
 have hk1:Keeps (λi=>i=w.heap.size+1) W0 W1:=by rw[<-hW1];exact Keeps.setCells (M:=λi=>i=w.heap.size+1) (b:=w.heap.size+1) (Or.inl rfl) _ _ _ (Keeps.refl _ _)
 have HK1:=hide ((uh HK0).trans hk1 (λi hi hlt=>by omega))
 have hr1:=(uh HR0).keeps hk1 (by omega)
 have a0:=hb1.cell (i:=0) rfl
 have a1:=hb1.cell (i:=1) rfl
 have a2:=hb1.cell (i:=2) rfl
 have a3:=hb1.cell (i:=3) rfl
 have a4:=hb1.cell (i:=4) rfl
 have a5:=hb1.cell (i:=5) rfl
 have a6:=hb1.cell (i:=6) rfl
 have a7:=hb1.cell (i:=7) rfl
 have b0:=hr1.cell (i:=0) rfl
 have b1:=hr1.cell (i:=1) rfl
 have b2:=hr1.cell (i:=2) rfl
 have b3:=hr1.cell (i:=3) rfl
 have b4:=hr1.cell (i:=4) rfl
 have b5:=hr1.cell (i:=5) rfl
 have b6:=hr1.cell (i:=6) rfl
 have b7:=hr1.cell (i:=7) rfl
 have bf:=hr1.frozen
 have HK2:=hide ((((((((((uh HK1).setCell (p:=⟨w.heap.size,0,none⟩) (Or.inr (Nat.le_refl _)) (.int .u8 u0)).setCell (p:=⟨w.heap.size,1,none⟩) (Or.inr (Nat.le_refl _)) (.int .u8 u1)).setCell (p:=⟨w.heap.size,2,none⟩) (Or.inr (Nat.le_refl _)) (.int .u8 u2)).setCell (p:=⟨w.heap.size,3,none⟩) (Or.inr (Nat.le_refl _)) (.int .u8 u3)).setCell (p:=⟨w.heap.size,4,none⟩) (Or.inr (Nat.le_refl _)) (.int .u8 u4)).setCell (p:=⟨w.heap.size,5,none⟩) (Or.inr (Nat.le_refl _)) (.int .u8 u5)).setCell (p:=⟨w.heap.size,6,none⟩) (Or.inr (Nat.le_refl _)) (.int .u8 u6)).setCell (p:=⟨w.heap.size,7,none⟩) (Or.inr (Nat.le_refl _)) (.int .u8 u7)))
 have HF:=hide (show Blk _ w.heap.size [.int .u8 u0,.int .u8 u1,.int .u8 u2,.int .u8 u3,.int .u8 u4,.int .u8 u5,.int .u8 u6,.int .u8 u7] 170 from(((((((hr1.setCell 0 (.int .u8 u0)).setCell 1 (.int .u8 u1)).setCell 2 (.int .u8 u2)).setCell 3 (.int .u8 u3)).setCell 4 (.int .u8 u4)).setCell 5 (.int .u8 u5)).setCell 6 (.int .u8 u6)).setCell 7 (.int .u8 u7))
 clear hW0 hW1 hk1 hb1 hr1 hc hU
 go_enter Tryz.func146,Tryz.ntmps146
 go_wp2
 clear a0 a1 a2 a3 a4 a5 a6 a7 b0 b1 b2 b3 b4 b5 b6 b7 bf hcp
 generalize(((((((W1.setCell ⟨w.heap.size,0,none⟩ (.int .u8 u0)).setCell ⟨w.heap.size,1,none⟩ (.int .u8 u1)).setCell ⟨w.heap.size,2,none⟩ (.int .u8 u2)).setCell ⟨w.heap.size,3,none⟩ (.int .u8 u3)).setCell ⟨w.heap.size,4,none⟩ (.int .u8 u4)).setCell ⟨w.heap.size,5,none⟩ (.int .u8 u5)).setCell ⟨w.heap.size,6,none⟩ (.int .u8 u6)).setCell ⟨w.heap.size,7,none⟩ (.int .u8 u7)=W2 at *
 have HLV:=hide (show(loadVar 170 ⟨w.heap.size,0,none⟩).run Tryz.prog W2=.ok (.agg #[.int .u8 u0,.int .u8 u1,.int .u8 u2,.int .u8 u3,.int .u8 u4,.int .u8 u5,.int .u8 u6,.int .u8 u7]) W2 from run_loadVar_mid W2 w.heap.size 0 170 [.int .u8 u0,.int .u8 u1,.int .u8 u2,.int .u8 u3,.int .u8 u4,.int .u8 u5,.int .u8 u6,.int .u8 u7] _ (λj v hv=>by rw[Nat.zero_add];exact(uh HF).cell hv) Tryz.underlying170 rfl (by rw[zA6];rfl))
 refine bodyPost_ret (v:=.agg #[.int .u8 u0,.int .u8 u1,.int .u8 u2,.int .u8 u3,.int .u8 u4,.int .u8 u5,.int .u8 u6,.int .u8 u7]) (by simp[results,Tryz.results146,asAddr,uh HLV]) rfl ?_
 exact⟨rfl,uh HK2⟩
def qLy: List UInt8:=[115,107,101,116,99,104,32,49]
theorem qWo: qGg (qF3 (qI5++[]))=qLy:=by kernel_rfl
theorem zFi(w:World): (sizeOf 5).run Tryz.prog w=.ok 1 w:=by kernel_rfl
theorem head_eq(xs ys:List UInt8)(hx:xs.length=8)(hy:ys.length=8)(w:World): (Op.equalIn 10000 170 (.agg (u8V xs).toArray) (.agg (u8V ys).toArray)).run Tryz.prog w=.ok (xs==ys) w :=
 run_equalIn_bytes w 9998 170 5 8 (by kernel_rfl) (by kernel_rfl) (λw=>zFi w) xs ys hx hy
theorem qWd{t:ByteArray}(h:qGg t=qLy): 8<=t.size:=by
 have hs:t.size=t.data.toList.length:=rfl
 rw[hs]
 refine Nat.le_of_not_lt (λhlt=>?_)
 have h1:(qGg t)[7]?=some 0:=by
  unfold qGg
  rw[List.getElem?_append_right (by rw[List.length_take];omega),List.getElem?_replicate,if_pos (by rw[List.length_take];omega)]
 rw[h]at h1
 have h2:qLy[7]?=some 49:=rfl
 rw[h2]at h1
 exact absurd (Option.some.inj h1) (by decide)
def qNq(t:ByteArray): Option (List Nat):=if qGg t=qLy then some ((bytesOf t).drop 8) else none
theorem qOw(t:ByteArray)(w:World)(hl:t.size<=9223372036854775807): Calls Tryz.prog 100 #[.string t] w λe w'=>∃r,e=.returned (.pointer (some ⟨r,0,none⟩))/\w.heap.size<=r/\RdS w' r (qNq t)/\Keeps (λ_=>False) w w':=by
 have HE:=hide (λw=>head_eq (qGg t) (qGg (qF3 (qI5++[]))) (qGu _) (qGu _) w)
 have HH:=hide (qMk t)
 have HG:=hide (qMk (qF3 (qI5++[])))
 rw[qWo]at HE HG
 by_cases h:qGg t=qLy
 ·have hs:=qWd h
  have hdr:t.extract 8 t.size=qF3 ((bytesOf t).drop 8):=by
   have h1:=qQ6 (bytesOf t) 8
   rw[qQx]at h1
   exact h1
  have HN:=hide (show qNq t=some ((bytesOf t).drop 8) by unfold qNq;rw[if_pos h])
  have HLN:=hide (show((bytesOf t).drop 8).length<=9223372036854775807 by rw[List.length_drop,bytesOf_length];omega)
  have HBY:=hide (show ∀b,b∈(bytesOf t).drop 8->b<256 from λb hb=>qV7 t b (List.mem_of_mem_drop hb))
  rw[h]at HE HH
  clear h
  obtain⟨SZ,hSZ⟩:∃SZ,t.size=SZ:=⟨_,rfl⟩
  rw[hSZ]at hdr hs hl
  generalize(bytesOf t).drop 8=rest at *
  generalize u8V qLy=fU at *
  go_enter Tryz.func100,Tryz.ntmps100
  go_wp2_with fail
  refine(uh HH w).mono ?_
  rintro e w1 ⟨rfl,hk1⟩
  have HK1:=hide hk1
  clear hk1
  go_wp2_with fail
  have hF:(Value.string ⟨#[115,107,101,116,99,104,32,49]⟩)=.string (qF3 (qI5++[])):=by kernel_rfl
  rw[hF]
  refine(uh HG w1).mono ?_
  rintro e w2 ⟨rfl,hk2⟩
  have HK2:=hide ((uh HK1).then hk2)
  have hq:=uh HE w2
  rw[show(qLy==qLy)=true from by decide]at hq
  clear hk2 HK1 hF
  have HRB:=hide (Blk.new w2 [.string (qF3 rest),.bool false] 173)
  have HK3:=hide ((uh HK2).alloc (.cells #[.string (qF3 rest),.bool false] 173))
  have hle:=(uh HK2).size
  have h8:(8:Int)<=(SZ:Int):=by omega
  go_wp2
  go_ret
  exact⟨_,rfl,hle,by rw[uh HN];exact⟨rest,⟨uh HRB,uh HLN,uh HBY⟩,.inr rfl⟩,uh HK3⟩
 ·have HN:=hide (show qNq t=none by unfold qNq;rw[if_neg h])
  have hbe:(qGg t==qLy)=false:=by simpa using h
  rw[hbe]at HE
  clear h hbe
  generalize u8V (qGg t)=tU at *
  generalize u8V qLy=fU at *
  go_enter Tryz.func100,Tryz.ntmps100
  go_wp2_with fail
  refine(uh HH w).mono ?_
  rintro e w1 ⟨rfl,hk1⟩
  have HK1:=hide hk1
  clear hk1
  go_wp2_with fail
  have hF:(Value.string ⟨#[115,107,101,116,99,104,32,49]⟩)=.string (qF3 (qI5++[])):=by kernel_rfl
  rw[hF]
  refine(uh HG w1).mono ?_
  rintro e w2 ⟨rfl,hk2⟩
  have HK2:=hide ((uh HK1).then hk2)
  have hq:=uh HE w2
  clear hk2 HK1 hF
  have HRB:=hide (show Blk (w2.alloc (.cells #[.string ⟨#[]⟩,.bool true] 173)) w2.heap.size [.string (qF3 []),.bool true] 173 from Blk.new w2 [.string ⟨#[]⟩,.bool true] 173)
  have HK3:=hide ((uh HK2).alloc (.cells #[.string ⟨#[]⟩,.bool true] 173))
  have hle:=(uh HK2).size
  go_wp2
  go_ret
  exact⟨_,rfl,hle,by rw[uh HN];exact⟨[],⟨uh HRB,by simp,λb hb=>by cases hb⟩,.inl rfl⟩,uh HK3⟩
end
end Go.Proofs.YtahnliehdjncdaaGreatDoor
