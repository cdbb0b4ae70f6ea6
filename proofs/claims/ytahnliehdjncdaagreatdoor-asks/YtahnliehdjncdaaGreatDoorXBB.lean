import Derived.Test.YtahnliehdjncdaaGreatDoorXBA
import Derived.Test.YtahnliehdjncdaaGreatDoorXAZ
import Derived.Deep.Slices
import Derived.OpenShut
import Derived.ProofKit
import Derived.SizedLaws
import Derived.Test.YtahnliehdjncdaaGreatDoorRows
import Derived.Laws.AppendOwnNone
import Derived.Test.YtahnliehdjncdaaGreatDoorXAS
import Derived.Deep.DeepHandedRow
import Derived.Lib.LaidTab
import Derived.SevenTiedAt
import Derived.Test.YtahnliehdjncdaaGreatDoorCards
import Derived.Test.YtahnliehdjncdaaGreatDoorXAN
import Derived.Test.YtahnliehdjncdaaGreatDoorTie
import Derived.Test.YtahnliehdjncdaaGreatDoorXAW
import Derived.Test.YtahnliehdjncdaaGreatDoorXAU
import Derived.Test.YtahnliehdjncdaaGreatDoorXAX
set_option maxRecDepth 100000
set_option maxHeartbeats 16000000
namespace Go.Proofs.YtahnliehdjncdaaGreatDoor
section
open Go.RowKit
def c0: Cfg:=⟨4,0,9,8,0,0,0,0,0,0,0,0,0,0,0,0,0,0,0,0⟩
def cz: Cfg:=⟨0,0,0,0,0,0,0,0,0,0,0,0,0,0,0,0,0,0,0,0⟩
def o1: OpM:=⟨1,7,0,0,0,c0,qAa⟩
def o2: OpM:=⟨2,7,3,0,0,cz,qAa⟩
def o3: OpM:=⟨3,0,5,0,0,cz,qAa⟩
def o4: OpM:=⟨2,7,5,0,0,cz,qAa⟩
def o5: OpM:=⟨4,7,0,0,0,cz,qAa⟩
def qWa: List Value:=o1.cells++(o2.cells++(o3.cells++(o4.cells++o5.cells)))
theorem zDd(w:World): (qDg 38 #[(0,.int .i64 4),(2,.int .i64 9),(3,.int .i64 8)]).run Tryz.prog w=.ok (.value (.agg c0.cells.toArray)) w:=by kernel_rfl
theorem zE2(w:World): (qDg 40 #[(0,.int .i64 1),(1,.int .i64 7),(5,.agg c0.cells.toArray)]).run Tryz.prog w=.ok (.value (.agg o1.cells.toArray)) w:=by kernel_rfl
theorem zE1(w:World): (qDg 40 #[(0,.int .i64 2),(1,.int .i64 7),(2,.int .i64 3)]).run Tryz.prog w=.ok (.value (.agg o2.cells.toArray)) w:=by kernel_rfl
theorem zEu(w:World): (qDg 40 #[(0,.int .i64 3),(2,.int .i64 5)]).run Tryz.prog w=.ok (.value (.agg o3.cells.toArray)) w:=by kernel_rfl
theorem zE7(w:World): (qDg 40 #[(0,.int .i64 2),(1,.int .i64 7),(2,.int .i64 5)]).run Tryz.prog w=.ok (.value (.agg o4.cells.toArray)) w:=by kernel_rfl
theorem zFg(w:World): (qDg 40 #[(0,.int .i64 4),(1,.int .i64 7)]).run Tryz.prog w=.ok (.value (.agg o5.cells.toArray)) w:=by kernel_rfl
theorem qMd(ρ:Operand->Value)(dst:Option Tmp)(x:Array (Nat×Operand))(ty:TypeId)(pos:String)(after:Array Edge)(guard:Option (Nat×Bool)):
  execOp ρ { dst,op:=.build 38 x,type:=ty,pos,after,guard }=qDg 38 (x.map λ(i,y)=>(i,ρ y)):=rfl
theorem qMm(ρ:Operand->Value)(dst:Option Tmp)(x:Array (Nat×Operand))(ty:TypeId)(pos:String)(after:Array Edge)(guard:Option (Nat×Bool)):
  execOp ρ { dst,op:=.build 40 x,type:=ty,pos,after,guard }=qDg 40 (x.map λ(i,y)=>(i,ρ y)):=rfl
def zCg(ty:TypeId)(n:Nat)(ps:Array (Nat×Value)): Sem Next:=do pure (.value (<-Instr.buildSlice ty n ps))
theorem qC6(ρ:Operand->Value)(dst:Option Tmp)(n:Nat)(x:Array (Nat×Operand))(ty:TypeId)(pos:String)(after:Array Edge)(guard:Option (Nat×Bool)):
  execOp ρ { dst,op:=.buildSlice 22 n x,type:=ty,pos,after,guard }=zCg 22 n (x.map λ(i,y)=>(i,ρ y)):=rfl
theorem zDy(w:World): (zCg 22 5 #[(0,.agg o1.cells.toArray),(1,.agg o2.cells.toArray),(2,.agg o3.cells.toArray),(3,.agg o4.cells.toArray),(4,.agg o5.cells.toArray)]).run Tryz.prog w =
  .ok (.value (.slice (some ⟨w.heap.size,0,none⟩) 5 5)) (w.alloc (.cells qWa.toArray 40)):=by kernel_rfl
theorem qH1(ρ:Operand->Value)(dst:Option Tmp)(x y:Operand)(ty:TypeId)(pos:String)(after:Array Edge)(guard:Option (Nat×Bool)):
  execOp ρ { dst,op:=.store 38 x y,type:=ty,pos,after,guard }=qD4 38 (ρ x) (ρ y):=rfl
theorem qRt(w:World)(zs:List Value)(cs:List Value)(hz:zs.length=20)(hc:cs.length=20)(h1:cs.toArray.all (·.oneCell')=true):
  (qD4 38 (.pointer (some ⟨w.heap.size,0,none⟩)) (.agg cs.toArray)).run Tryz.prog (w.alloc (.cells zs.toArray 38))=.ok .skip (w.alloc (.cells cs.toArray 38)):=by
 unfold qD4
 have ht:(w.alloc (.cells zs.toArray 38)).there w.heap.size 0 cs.toArray.size:=by
  intro j hj
  have hj':j<20:=by simpa[hc] using hj
  rw[Nat.zero_add,World.cell?_alloc_new,World.frozen?_alloc_new]
  simp[hz,hj']
 rw[Sem.run_bind,run_storeAt_mid _ w.heap.size 0 38 cs.toArray ht (by rw[zBg];simp[hc]) h1]
 have h2:=qEr cs [] zs (by omega)
 simp only[List.nil_append,List.length_nil]at h2
 rw[qG7,List.toList_toArray,h2]
 rfl
end
section
open Go.RowKit
attribute [local go_sem ↓] qAd qAe qH1 qMd qMm qC6
attribute [local go_sem] qAi qAj qAc qAb qAm qAn qAg qAh zDd zE2 zE1 zEu zE7 zFg zDy
def zDv(ops:List OpM): Prop:=∀o,o∈ops->o.kind≠7
theorem zCm(s:WS)(ops:List OpM)(h:∀o,o∈ops->o.kind≠6): qVu s ops=List.replicate ops.length qAa:=by
 induction ops generalizing s with
 | nil=>rfl
 | cons o r ih =>
  unfold qVu qIv
  rw[if_neg (h o (by simp)),ih _ (λx hx=>h x (by simp[hx])),List.length_cons,List.replicate_succ]
theorem bs_no{l:List Ans}{ops:List OpM}(hb:l.map (·.bs)=qVu ws0 ops)(h:∀o,o∈ops->o.kind≠6): ∀x,x∈l->x.bs=qAa:=by
 intro x hx
 have h1:x.bs∈l.map (·.bs):=List.mem_map_of_mem hx
 rw[hb,zCm _ _ h]at h1
 exact(List.mem_replicate.1 h1).2
theorem zCj{w:World}{base:Nat}{v:Value}{l:List Ans}(h:ARep w base v l)(hl:l≠[]): ∃g cap,v=.slice (some ⟨g,0,none⟩) l.length cap/\∀i u,(qDm l)[i]?=some u->w.cell? ⟨g,i,none⟩=some u:=by
 rcases h.row.2 with ⟨_,h2⟩ | ⟨g,cap,cur,h1,_,h3,h4,h5,h6,h7⟩
 ·exact absurd (List.length_eq_zero_iff.1 h2) hl
 ·refine⟨g,cap,h1,λi u hu=>?_⟩
  have hi:i<l.length*3:=by have:=(List.getElem?_eq_some_iff.1 hu).1;have:=h.row.1;omega
  have:cur[i]?=some u:=by
   rw[<-h7,List.getElem?_take,if_pos hi]at hu
   simpa using hu
  simp[World.cell?,h3,this]
end
section
open Go.RowKit
attribute [local go_sem ↓] qAd qAe qBv
attribute [local go_sem] qAi qAj qAc qAb qAm qAn qAg qAh
theorem qWz{n:Int}{s:WS}(o:OpM)(h:EInv n s.clock s.xs): (qCb s o).2.2.length<=17:=by
 unfold qCb
 split
 ·unfold qDu;(repeat' split) <;> simp
 split
 ·unfold qPa;(repeat' split) <;> simp
 split
 ·unfold qJ9;(repeat' split) <;> simp
 split
 ·unfold qGh;split
  ·simp
  ·rename_i x hx
   have hi:=h.sers x (List.mem_of_find?_eq_some hx)
   show(qG4 x.k x.c x.nt o.a (s.clock-x.c.lag)).2.length<=17
   unfold qG4
   split
   ·simp
   split
   ·split <;> simp
   split
   ·rename_i h2
    obtain⟨_,_,b4,_,_⟩:=qD0 hi.valid hi.kind h2
    unfold zDu
    split
    ·show(qDr _ _ _++[_]).length<=17
     rw[List.length_append,qEd,List.length_singleton]
     have:zA7 x.c<=16:=Nat.pow_le_pow_right (n:=2) (by omega) (show x.c.bits.toNat<=4 by omega)
     omega
    ·simp
   split
   ·split <;> simp
   split
   ·rename_i h5
    have hd:=qC9 hi.valid hi.kind h5
    show(qSc x.c x.nt.tk).length<=17
    unfold qSc
    simp only[List.length_append,qC5,List.length_take]
    simp
    omega
   ·simp
 split
 ·unfold qH2;(repeat' split) <;> simp[qCu,qQu]
 split
 ·simp
 split
 ·unfold zDp;split <;> simp
 ·simp
theorem qXi{n:Int}{s:WS}(ops:List OpM)(hs:EInv n s.clock s.xs)(hn:0<=n)(hL:∀(i:Nat) o,ops[i]?=some o->qQz (n+i+1) o)(x:Int×List Int)(h:x∈qN6 s ops): x.2.length<=17:=by
 induction ops generalizing s n with
 | nil=>simp[qN6]at h
 | cons o r ih =>
  rcases List.mem_cons.1 h with h | h
  ·subst h;exact qWz o hs
  ·exact ih (qKq o hs hn (by have:=hL 0 o rfl;simpa using this)) (by omega) (λi o ho=>by
      have:=hL (i+1) o (by simpa using ho)
      rw[show n+1+(i:Int)+1=n+((i+1:Nat):Int)+1 by omega]
      exact this) h
theorem qVa(ops:List OpM)(hok:zDv ops)(x:Int×List Int)(h:x∈qN6 ws0 ops): x.2.length<=17 :=
 qXi ops inv0 (by omega) (λ_ o ho=>qIh (hok o (List.mem_of_getElem? ho))) x h
theorem zB5(a:Option Addr)(cap:Nat)(w:World):
  Calls Tryz.prog 19 #[.slice a 0 cap] w λr w'=>∃v l,r=.returned v/\ARep w' w.heap.size v l/\l.map (λx=>(x.code,x.nums))=qN6 ws0 []/\l.map (·.bs)=qVu ws0 []/\Keeps (λ_=>False) w w':=by
 obtain⟨i0,hi0,hz0,hz1,hz2⟩:=info_parts qWs
 go_enter Tryz.func19,Tryz.ntmps19
 go_wp2_with (at_make;refine wpList_make_own _ rfl _ _ _ rfl w.heap.size 33 i0 _ 3 Tryz.underlying27 hi0 hz0 hz1 _ _ _ 0 rfl rfl rfl (by rw[hz2];omega) (by unfold maxLen;omega) (by simp) ?_;intro w1 ho1 hg1)
 rw[World.size_alloc]at ho1
 have hkw1:Keeps (λ_=>False) w w1:=((Keeps.refl (λ_=>False) w).alloc _).grown hg1 (λk hk=>by cases hk)
 have HA1:=hide (show ARep w1 w.heap.size (.slice (some ⟨w.heap.size+1,0,none⟩) 0 0) [] from⟨ho1,λx hx=>by simp at hx,λx hx=>by simp at hx⟩)
 have HK1:=hide hkw1
 clear hg1 ho1 hkw1
 go_loopw [4,12] (λav i wr=>i=.int .i64 0/\av=.slice (some ⟨w.heap.size+1,0,none⟩) 0 0/\wr=w1) (λ_ _ _=>0)
 case atStart=>exact⟨rfl,rfl,rfl⟩
 case round =>
  obtain⟨rfl,rfl,rfl⟩:=hrel
  go_wp2
  go_ret
  exact⟨_,[],rfl,uh HA1,rfl,rfl,uh HK1⟩
theorem qIa(l:List Ans)(i j:Nat)(x:Ans)(h:l[i]?=some x)(hj:j<3): (qDm l)[i*3+j]?=x.cells[j]?:=by
 induction l generalizing i with
 | nil=>simp at h
 | cons a l ih =>
  have hc:qDm (a::l)=a.cells++qDm l:=by simp[qDm]
  rw[hc]
  cases i with
  | zero =>
   have:a=x:=by simpa using h
   subst this
   rw[List.getElem?_append_left (by simp[Ans.cells];omega)]
   simp
  | succ i =>
   rw[List.getElem?_append_right (by simp[Ans.cells];omega)]
   have:=ih i (by simpa using h)
   rw[<-this]
   congr 1
   simp[Ans.cells];omega
theorem qC4{w:World}{base T c:Nat}{v:Value}{n:Nat}{l:List Value}(h:w.ownsRow base T c v n l): ∃a cap,v=.slice a n cap:=by
 rcases h.2 with ⟨h1,h2⟩ | ⟨g,cap,cur,h1,_⟩
 ·exact⟨none,0,by rw[h1,h2]⟩
 ·exact⟨_,_,h1⟩
theorem qPx{w:World}{base:Nat}{a:Option Addr}{n cap:Nat}{l:List Ans}(h:ARep w base (.slice a n cap) l)(i:Nat)(x:Ans)(hx:l[i]?=some x):
  ∃g,a=some ⟨g,0,none⟩/\w.cell? ⟨g,i*3,none⟩=some (.int .i64 x.code)/\w.cell? ⟨g,i*3+1,none⟩=some x.nv/\w.cell? ⟨g,i*3+2,none⟩=some (.string x.bs):=by
 obtain⟨g,cap',hv,hc⟩:=zCj h (by intro h;rw[h]at hx;simp at hx)
 injection hv with h1 h2 h3
 exact⟨g,h1,hc _ _ (qIa l i 0 x hx (by omega)),hc _ _ (qIa l i 1 x hx (by omega)),hc _ _ (qIa l i 2 x hx (by omega))⟩
end
section
open Go.ChangeShapes Go.WideShapes Go.ChangeAt Go.RowKit Go.Deep
def opOf(V:Nat->Int)(b:ByteArray): OpM:=⟨V 0,V 1,V 2,V 3,V 4,⟨V 5,V 6,V 7,V 8,V 9,V 10,V 11,V 12,V 13,V 14,V 15,V 16,V 17,V 18,V 19,V 20,V 21,V 22,V 23,V 24⟩,b⟩
theorem qVy(V:Nat->Int)(b:ByteArray): (opOf V b).cells=(List.range 25).map (λj=>.int .i64 (V j))++[.string b]:=rfl
theorem cells3: Tryz.prog.cellsOf 3=1:=by kernel_rfl
theorem zCx: Tryz.prog.cellsOf 35=2:=by kernel_rfl
theorem qSu: Tryz.prog.cellsOf 40=26:=by kernel_rfl
theorem zDb: Tryz.prog.bytesOf 40=216:=by kernel_rfl
section
variable {H:Type} {enc:TypeId×Value->H} {w:World} {base:Nat} {spare:Nat->Bool} {held:Bool}
def IntAt(cs:List Value)(i:Nat): Prop:=∃n,cs[i]?=some (.int .i64 n)/\(Lit.int .i64 n).wf=true
theorem zBm{cs:List Value}{off n i:Nat}{v:Value}(h:((cs.drop off).take n)[i]?=some v): cs[off+i]?=some v:=by
 rw[List.getElem?_take]at h
 split at h
 ·rw[List.getElem?_drop]at h;exact h
 ·cases h
theorem IntAt.sub{cs:List Value}{off n i:Nat}(h:IntAt ((cs.drop off).take n) i): IntAt cs (off+i):=by
 obtain⟨k,h1,h2⟩:=h
 exact⟨k,zBm h1,h2⟩
theorem qWe{m:Nat}{cs:List Value}{x:DataW H×List MemPlace}(h:DataW.trod enc Tryz.prog w base spare held m 3 cs=some x): IntAt cs 0:=by
 obtain⟨n,rfl,_,hw⟩:=DataW.trod_int Tryz.underlying3 h
 exact⟨n,rfl,hw⟩
theorem qIg{α:Type}{xs:List α}{n i:Nat}(h:xs.length=n)(hi:i<n): ∃x,xs[i]?=some x:=⟨xs[i],List.getElem?_eq_getElem (by omega)⟩
theorem zCo{m:Nat}{cs:List Value}{x:DataW H×List MemPlace}(h:DataW.trod enc Tryz.prog w base spare held m 35 cs=some x)(i:Nat)(hi:i<2): IntAt cs i:=by
 obtain⟨xs,k,_,_,_,hl,hx⟩:=DataW.trod_array Tryz.underlying35 h
 obtain⟨y,hy⟩:=qIg hl hi
 have h1:=hx i hi
 rw[hy,cells3,Nat.mul_one]at h1
 have:=(qWe h1).sub
 simpa using this
theorem zB8{m:Nat}{cs:List Value}{x:DataW H×List MemPlace}(h:DataW.trod enc Tryz.prog w base spare held m 36 cs=some x)(i:Nat)(hi:i<6): IntAt cs i:=by
 obtain⟨xs,k,_,_,_,hl,hx⟩:=DataW.trod_array Tryz.underlying36 h
 have hq:i/2<3:=by omega
 obtain⟨y,hy⟩:=qIg hl hq
 have h1:=hx (i/2) hq
 rw[hy,zCx]at h1
 have:=(zCo h1 (i%2) (by omega)).sub
 rwa [show i/2*2+i%2=i by omega]at this
theorem zEd{m:Nat}{cs:List Value}{x:DataW H×List MemPlace}(h:DataW.trod enc Tryz.prog w base spare held m 38 cs=some x)(i:Nat)(hi:i<20): IntAt cs i:=by
 obtain⟨xs,k,_,_,_,hl,hx⟩:=DataW.trod_struct Tryz.underlying38 h
 have hl15:xs.length=15:=hl
 have one:∀(j:Nat) (f:Field),(Option.map (λf:Field=>(f.type,f.offset)) (some f))=some (3,j)->j<14->DataW.trod enc Tryz.prog w base spare held k f.type ((cs.drop f.offset).take (Tryz.prog.cellsOf f.type))=xs[j]?->IntAt cs j:=by
  intro j f hf hj h1
  obtain⟨y,hy⟩:=qIg hl15 (show j<15 by omega)
  simp only[Option.map_some,Option.some.injEq,Prod.mk.injEq]at hf
  rw[hf.1,hf.2,hy]at h1
  have:=(qWe h1).sub
  simpa using this
 by_cases h14:i<14
 ·have hc:i=0\/i=1\/i=2\/i=3\/i=4\/i=5\/i=6\/i=7\/i=8\/i=9\/i=10\/i=11\/i=12\/i=13:=by omega
  rcases hc with rfl | rfl | rfl | rfl | rfl | rfl | rfl | rfl | rfl | rfl | rfl | rfl | rfl | rfl <;> exact one _ _ rfl h14 (hx _ _ rfl)
 ·obtain⟨y,hy⟩:=qIg hl15 (show 14<15 by omega)
  have h1:DataW.trod enc Tryz.prog w base spare held k 36 ((cs.drop 14).take (Tryz.prog.cellsOf 36))=xs[14]?:=hx 14 _ rfl
  rw[hy]at h1
  have:=(zB8 h1 (i-14) (by omega)).sub
  rwa [show 14+(i-14)=i by omega]at this
theorem zC2{m:Nat}{cs:List Value}{x:DataW H×List MemPlace}(h:DataW.trod enc Tryz.prog w base spare held m 40 cs=some x):
  ∃(V:Nat->Int) (b:ByteArray),cs=(opOf V b).cells/\∀i,i<25->(Lit.int .i64 (V i)).wf=true:=by
 obtain⟨xs,k,_,_,hlen,hl,hx⟩:=DataW.trod_struct Tryz.underlying40 h
 rw[qSu]at hlen
 have hl7:xs.length=7:=hl
 have one:∀(j:Nat) (f:Field),(Option.map (λf:Field=>(f.type,f.offset)) (some f))=some (3,j)->j<5->DataW.trod enc Tryz.prog w base spare held k f.type ((cs.drop f.offset).take (Tryz.prog.cellsOf f.type))=xs[j]?->IntAt cs j:=by
  intro j f hf hj h1
  obtain⟨y,hy⟩:=qIg hl7 (show j<7 by omega)
  simp only[Option.map_some,Option.some.injEq,Prod.mk.injEq]at hf
  rw[hf.1,hf.2,hy]at h1
  have:=(qWe h1).sub
  simpa using this
 have hints:∀i,i<25->IntAt cs i:=by
  intro i hi
  by_cases h5:i<5
  ·have hc:i=0\/i=1\/i=2\/i=3\/i=4:=by omega
   rcases hc with rfl | rfl | rfl | rfl | rfl <;> exact one _ _ rfl h5 (hx _ _ rfl)
  ·obtain⟨y,hy⟩:=qIg hl7 (show 5<7 by omega)
   have h1:DataW.trod enc Tryz.prog w base spare held k 38 ((cs.drop 5).take (Tryz.prog.cellsOf 38))=xs[5]?:=hx 5 _ rfl
   rw[hy]at h1
   have:=(zEd h1 (i-5) (by omega)).sub
   rwa [show 5+(i-5)=i by omega]at this
 obtain⟨V,hV⟩:=choose_lt (α:=Int) hints
 obtain⟨y,hy⟩:=qIg hl7 (show 6<7 by omega)
 have h1:DataW.trod enc Tryz.prog w base spare held k 9 ((cs.drop 25).take (Tryz.prog.cellsOf 9))=xs[6]?:=hx 6 _ rfl
 rw[hy]at h1
 obtain⟨b,hb,_,_⟩:=DataW.trod_string Tryz.underlying9 h1
 have hb':cs[25]?=some (.string b):=zBm (off:=25) (i:=0) (by rw[hb];rfl)
 refine⟨V,b,?_,λi hi=>(hV i hi).2⟩
 rw[qVy]
 apply List.ext_getElem?
 intro j
 by_cases hj:j<25
 ·rw[(hV j hj).1,List.getElem?_append_left (by simpa using hj)]
  simp[hj]
 ·by_cases hj2:j=25
  ·subst hj2;rw[hb'];rfl
  ·rw[List.getElem?_eq_none (by omega),List.getElem?_eq_none (by simp;omega)]
end
end
section
open Go.ChangeShapes Go.WideShapes Go.ChangeAt Go.RowKit Go.Deep
theorem Tryz.own: ownKnob Tryz.prog.godebug=none:=by kernel_rfl
theorem Tryz.laidOut: laidOutB Tryz.prog=true:=by kernel_rfl
theorem Keeps.below{w w':World}(h:Keeps (λ_=>False) w w'): Below w.heap.size w w':=⟨h.os,h.tape,h.output,h.size,λk hk=>h.block k hk (λh=>h)⟩
end
section
open Go.RowKit
attribute [local go_sem ↓] qAd qAe qBv qC6
attribute [local go_sem] qAi qAj qAc qAb qAm qAn qAg qAh
def qEg(l:List OpM): List Value:=l.flatMap OpM.cells
theorem qNo(a b:List OpM): qEg (a++b)=qEg a++qEg b:=by simp[qEg]
theorem qI0(l:List OpM): (qEg l).length=l.length*26:=by
 induction l with
 | nil=>rfl
 | cons a l ih =>
  have hc:qEg (a::l)=a.cells++qEg l:=by simp[qEg]
  rw[hc,List.length_append,ih,List.length_cons]
  have:a.cells.length=26:=rfl
  omega
theorem qMv(l:List OpM)(i j:Nat)(x:OpM)(h:l[i]?=some x)(hj:j<26): (qEg l)[i*26+j]?=x.cells[j]?:=by
 induction l generalizing i with
 | nil=>simp at h
 | cons a l ih =>
  have hc:qEg (a::l)=a.cells++qEg l:=by simp[qEg]
  have hl:a.cells.length=26:=rfl
  rw[hc]
  cases i with
  | zero =>
   have:a=x:=by simpa using h
   subst this
   rw[List.getElem?_append_left (by omega)]
   simp
  | succ i =>
   rw[List.getElem?_append_right (by omega)]
   have:=ih i (by simpa using h)
   rw[<-this]
   congr 1
   omega
theorem qVe(l:List OpM)(u:Value)(h:u∈qEg l): u.oneCell'=true:=by
 obtain⟨o,_,hu⟩:=List.mem_flatMap.1 h
 have:=qFi o
 simp only[List.all_toArray,List.all_eq_true]at this
 exact this u hu
abbrev qKk(w:World)(base:Nat)(v:Value)(ops:List OpM): Prop:=w.ownsRow base 40 26 v ops.length (qEg ops)
def ScriptW(w:World)(v:Value)(ops:List OpM): Prop:=((∃a c,v=.slice a 0 c)/\ops=[])\/∃sb so cap,v=.slice (some ⟨sb,so,none⟩) ops.length cap/\ops.length<=cap/\ScriptAt w sb so ops/\sb<w.heap.size
theorem ScriptAt.keeps{w w':World}{sb so:Nat}{ops:List OpM}(h:ScriptAt w sb so ops)(hk:Keeps (λ_=>False) w w'): ScriptAt w' sb so ops :=
 λi o ho j u hu=>hk.cell (h i o ho j u hu) (λh=>h)
theorem ScriptW.keeps{w w':World}{v:Value}{ops:List OpM}(h:ScriptW w v ops)(hk:Keeps (λ_=>False) w w'): ScriptW w' v ops:=by
 rcases h with h | ⟨sb,so,cap,h1,h2,h3,h4⟩
 ·exact .inl h
 ·exact .inr ⟨sb,so,cap,h1,h2,h3.keeps hk,by have:=hk.size;omega⟩
theorem qTr{w:World}{base:Nat}{v:Value}{ops:List OpM}(h:qKk w base v ops): (v=.slice none 0 0/\ops=[])\/∃g cap,v=.slice (some ⟨g,0,none⟩) ops.length cap/\ops.length<=cap/\ScriptAt w g 0 ops/\g<w.heap.size/\base<=g/\cap<=maxLen:=by
 rcases h.2 with ⟨h1,h2⟩ | ⟨g,cap,cur,h1,h2,h3,h4,h5,h6,h7⟩
 ·exact .inl ⟨h1,List.length_eq_zero_iff.1 h2⟩
 ·refine .inr ⟨g,cap,h1,h4,?_,(Array.getElem?_eq_some_iff.1 h3).1,h2,h5⟩
  intro i o ho j u hu
  have hj:j<26:=by have:=(List.getElem?_eq_some_iff.1 hu).1;exact this
  have hi:i<ops.length:=(List.getElem?_eq_some_iff.1 ho).1
  have hf:=qMv ops i j o ho hj
  have hc:cur[i*26+j]?=some u:=by
   rw[<-h7,List.getElem?_take,if_pos (by omega),hu]at hf
   simpa using hf
  rw[Nat.zero_add]
  simp[World.cell?,h3,hc]
theorem qEo{w:World}{base:Nat}{v:Value}{ops:List OpM}(h:qKk w base v ops): ScriptW w v ops:=by
 rcases qTr h with ⟨h1,h2⟩ | ⟨g,cap,h1,h2,h3,h4,_,_⟩
 ·exact .inl ⟨⟨_,_,h1⟩,h2⟩
 ·exact .inr ⟨g,0,cap,h1,h2,h3,h4⟩
def cz0: List Value:=(⟨0,0,0,0,0,cz,qAa⟩:OpM).cells
theorem zEz: (Tryz.prog.info? 40).map (λi=>(i.zero,i.size,i.bytes))=some (some (.agg cz0.toArray),26,216):=by kernel_rfl
end
section
open Go.RowKit
attribute [local go_sem ↓] qAd qAe qBv qC6
attribute [local go_sem] qAi qAj qAc qAb qAm qAn qAg qAh
theorem qBg{w:World}{ops:Array Oper}{rest:List Oper}{o:Oper}{a:Act}{Q:Exit->Act->World->Prop}(hgd:o.guard=none)(s x:Operand)(ho:o.op=.call { callee:=.builtin .append,args:=#[s,x],argTypes:=#[22,22] })(base:Nat)(v:Value)(A:List OpM)(hs:a.eval s=v)(hown:qKk w base v A)(u:Value)(B:List OpM)(hx:a.eval x=u)(hB:ScriptW w u B)(hlen:A.length+B.length<=651562446089)(hbase:base<=w.heap.size)(h:∀ad c w',qKk w' base (.slice ad (A.length+B.length) c) (A++B)->Keeps (λi=>v.ownBlock=some i) w w'->(∀i,(Value.slice ad (A.length+B.length) c).ownBlock=some i->v.ownBlock=some i\/w.heap.size<=i)->wpList Tryz.prog ops Q rest (a.put o.dst (.slice ad (A.length+B.length) c)) w'): wpList Tryz.prog ops Q (o::rest) a w:=by
 obtain⟨i0,hi0,hz0,hz1,hz2⟩:=info_parts zEz
 by_cases hb:B=[]
 ·subst hb
  have hu:∃ad c,u=.slice ad 0 c:=by
   rcases hB with ⟨h,_⟩ | ⟨sb,so,cap,h,_⟩
   ·exact h
   ·exact⟨_,_,h⟩
  obtain⟨ad,c,rfl⟩:=hu
  obtain⟨av,ac,hv⟩:=qC4 hown
  refine qEf hgd s x 22 ho base 40 i0 26 Tryz.underlying22 hi0 v A.length (qEg A) hs hown ad c hx ?_
  have:=h av ac w (by rw[List.append_nil];rw[hv]at hown;exact hown) (Keeps.refl _ _) (by rw[hv];exact λi hi=>.inl hi)
  rw[hv]
  exact this
 ·rcases hB with ⟨_,h0⟩ | ⟨sb,so,cap,rfl,hcap,hsc,hlt⟩
  ·exact absurd h0 hb
  ·have hpos:0<B.length:=List.length_pos_iff.2 hb
   refine wpList_append_lies w hgd s x 22 ho base 40 i0 (.agg cz0.toArray) 26 216 Tryz.underlying22 hi0 hz0 hz1 hz2 (by rfl) (by omega) v A.length (qEg A) hs hown ⟨sb,so,none⟩ B.length cap (qEg B) hx (qI0 B) ?_ (qVe B) hpos (by unfold maxLen;omega) (by omega) hbase w.heap.size rfl ?_
   ·intro j z hz
    have hj:j<B.length*26:=by have:=(List.getElem?_eq_some_iff.1 hz).1;rwa [qI0]at this
    have hq:j/26<B.length:=by omega
    have hf:=qMv B (j/26) (j%26) B[j/26] (List.getElem?_eq_getElem hq) (by omega)
    rw[show j/26*26+j%26=j by omega,hz]at hf
    have:=hsc (j/26) B[j/26] (List.getElem?_eq_getElem hq) (j%26) z hf.symm
    rw[Go.WideShapes.add_plain,show so+j=so+j/26*26+j%26 by omega]
    exact this
   ·intro g c w' hown' hgrow hat hlt'
    refine h (some ⟨g,0,none⟩) c w' ?_ ?_ ?_
    ·show w'.ownsRow base 40 26 _ (A++B).length (qEg (A++B))
     rw[qNo,List.length_append];exact hown'
    ·exact⟨hgrow.os,hgrow.tape,hgrow.output,hgrow.size,λk hk hn=>hgrow.block k hk (λh=>hn h.symm)⟩
    ·intro i hi
     have:g=i:=by simpa[Value.ownBlock] using hi
     subst this
     rcases hat with h1 | h1
     ·exact .inl h1
     ·exact .inr (by omega)
theorem qIj(w:World)(o:OpM): (zCg 22 1 #[(0,.agg o.cells.toArray)]).run Tryz.prog w=.ok (.value (.slice (some ⟨w.heap.size,0,none⟩) 1 1)) (w.alloc (.cells o.cells.toArray 40)):=by kernel_rfl
theorem qDf{w:World}{b:Nat}{o:OpM}(h:Blk w b o.cells 40): ScriptW w (.slice (some ⟨b,0,none⟩) 1 1) [o]:=by
 refine .inr ⟨b,0,1,rfl,by simp,?_,h.lt⟩
 intro i x hx j u hu
 have hi:i=0:=by have:=(List.getElem?_eq_some_iff.1 hx).1;simp at this;omega
 subst hi
 have:o=x:=by simpa using hx
 subst this
 have:=h.cell hu
 simpa using this
attribute [local go_sem] qIj
end
section
open Go.ChangeShapes Go.WideShapes Go.ChangeAt Go.RowKit Go.Deep
theorem gTab: Tryz.prog.globalNamed "math/bits.deBruijn64tab"=some 2:=by kernel_rfl
theorem zAi: (Tryz.prog.globals[2]?).map (·.type)=some 287:=by kernel_rfl
theorem zCb: Tryz.prog.cellsOf 287=64:=by kernel_rfl
theorem zCe: Tryz.prog.cellsOf 5=1:=by kernel_rfl
theorem zB9: Tryz.prog.underlying 5=some (.int .u8):=by kernel_rfl
def qOk: List Int:=Lib.deBruijn64tab.map λ(n:Nat)=>(n:Int)
def zB0: Array Value:=(qOk.map (.int .u8 ·)).toArray
theorem zEp{W:World}(h:laidMetH Tryz.prog [("math/bits.deBruijn64tab",Rows.laid_math_bits_deBruijn64tab)] W): Tab W:=by
 have ht:Lib.TabIs Tryz.prog W "math/bits.deBruijn64tab" .u8 qOk:=Lib.tabIs_of_head (rest:=[]) gTab zAi Tryz.underlying287 zB9 zCe zCb h
 intro j hj
 have h1:=ht.cell gTab j (by simpa[qOk] using hj)
 rw[h1]
 unfold qOk
 rw[List.getD_eq_getElem?_getD,List.getD_eq_getElem?_getD,List.getElem?_map,List.getElem?_eq_getElem hj]
 rfl
noncomputable def qKo(os:Os): World :=
 { World.holding Tryz.prog os ⟨#[],#[],[]⟩ with heap:=(World.holding Tryz.prog os ⟨#[],#[],[]⟩).heap.modify 2 fun
     | .cells _ t frozen=>.cells zB0 t frozen
     | o=>o }
theorem qRr{H:Type}{enc:TypeId×Value->H}{W:World}{fuel:Nat}{a0:Option Addr}{len cap:Nat}{d:DataW H}{p:List MemPlace}(hf:DataW.trod enc Tryz.prog W 0 (λ_=>true) true fuel 22 (Value.slice a0 len cap).cells.toList=some (d,p))(hlt:∀x∈p,x.block<W.heap.size):
  ∃ops,ScriptW W (.slice a0 len cap) ops/\ops.length=len/\(len≠0->∃elems spare,d=.slice elems spare/\len<=elems.length+spare.length):=by
 by_cases hl0:len=0
 ·subst hl0
  exact⟨[],.inl ⟨⟨_,_,rfl⟩,rfl⟩,rfl,λh=>absurd rfl h⟩
 ·rcases open_slice Tryz.underlying22 hf with ⟨hcs,hx⟩ | ⟨a,len',cap',k,n,D,Pl,hcs,_,hl,hm,hk,hx,hcell⟩
  ·simp[Value.cells]at hcs
   exact absurd hcs.2.1 hl0
  ·simp[Value.cells]at hcs
   obtain⟨rfl,rfl,rfl⟩:=hcs
   simp only[Prod.mk.injEq]at hx
   obtain⟨rfl,rfl⟩:=hx
   simp only[if_true]at hk
   subst k
   rw[qSu]at hcell
   obtain⟨b,off,spot⟩:=a
   have hspot:spot=none:=by
    obtain⟨cs',h1,_⟩:=hcell 0 (by omega)
    obtain⟨_,h2,h3⟩:=World.cells?_some h1
    have h4:=h3 0 (by omega)
    rw[List.getElem?_eq_getElem (by omega)]at h4
    simpa[Addr.add] using World.cell?_spot h4
   subst hspot
   have hbW:b<W.heap.size:=hlt (.cell b off) (List.mem_append_left _ (MemPlace.mem_row.2 ⟨0,by rw[qSu];omega,by simp⟩))
   have hops:∀i,i<len->∃o:OpM,W.rangeAt b (off+i*26) o.cells:=by
    intro i hi
    obtain⟨cs',h1,h2⟩:=hcell i (by omega)
    obtain⟨V,bs,rfl,_⟩:=zC2 h2
    obtain⟨_,h3,h4⟩:=World.cells?_some h1
    refine⟨opOf V bs,λj v hv=>?_⟩
    have hj:j<26:=by have:=(List.getElem?_eq_some_iff.1 hv).1;omega
    have:=h4 j hj
    rw[add_add,add_plain,hv,<-Nat.add_assoc]at this
    exact this
   haveI:Inhabited OpM:=⟨o1⟩
   obtain⟨O,hO⟩:=choose_lt (α:=OpM) hops
   refine⟨(List.range len).map O,.inr ⟨b,off,cap,by simp,by simpa using hl,?_,hbW⟩,by simp,λ_=>⟨_,_,rfl,by simp⟩⟩
   intro i o ho
   have hi:i<len:=by have:=(List.getElem?_eq_some_iff.1 ho).1;simpa using this
   have:O i=o:=by simpa[hi] using ho
   rw[<-this]
   exact hO i hi
end
section
structure RIt where
 t:Int
 k:Int
 d:Int
 n:Int
 tick:Int
structure REv where
 t:Int
 m:Int
 away:Bool
 throw:Int
structure RSer where
 id:Int
 c:Cfg
 items:List RIt
 events:List REv
 ref:List Int
structure RWS where
 clock:Int
 ticks:Int
 xs:List RSer
def qA7(l:List RIt): List Int:=(l.filter (λz=>z.tick==0)).map (·.t)
def qC2(l:List RIt): List Int:=(l.filter (λz=>!(z.tick==0))).map (·.t)
def rAt(l:List RIt)(i:Nat): RIt:=l.getD i ⟨0,0,0,0,0⟩
def qJ7(c:Cfg)(a:Int): Int:=if (c.kind==4||c.kind==5)&&inB a 0 4611686018427387904 then qA3 (qAr c a) else 1
def qJ1(c:Cfg): Bool:=c.kind==2||(c.kind==3||c.kind==5)
def qB6(y:RSer)(clock:Int)(o:OpM): Int :=
 if inB o.a 0 4611686018427387904 then
  if o.a<=clock-y.c.lag then 6
  else if clock<o.a-y.c.skew then 7
  else if qJ7 y.c o.a=0 then 8
  else if qJ1 y.c&&!inB o.b 0 2147483648 then 10
  else if y.c.kind==5&&!inB o.c 1 2147483648 then 9
  else if y.c.cap<=(qA7 y.items).length then 11 else 0
 else 5
def qIp(all:List RIt)(mark:Int): List RIt->Nat->Int->Int
 | [],_,k=>k
 | x::r,i,k=>qIp all mark r (i+1) (if x.tick=0/\x.t<=mark/\(k<0\/x.t<(rAt all k.toNat).t) then(i:Int) else k)
def qE8(all:List RIt)(mark:Int): Int:=qIp all mark all 0 (-1)
def qB0(l:List RIt)(i:Nat)(ticks:Int): List RIt:=l.set i { rAt l i with tick:=ticks }
def qBf: Nat->RSer->Int->Int->RSer
 | 0,y,_,_=>y
 | f+1,y,mark,ticks=>if qE8 y.items mark<0 then y
  else qBf f { y with items:=qB0 y.items (qE8 y.items mark).toNat ticks,events:=y.events++[⟨(rAt y.items (qE8 y.items mark).toNat).t,mark,false,0⟩] } mark ticks
def qA6(clock ticks:Int)(y:RSer): RSer:=qBf (y.items.length+1) y (clock-y.c.lag) ticks
def qNz(c:Cfg)(l:List Bk)(e:REv): List Bk:=if e.away then l.drop e.throw.toNat else qNv c l e.t e.m
def qAq(c:Cfg)(evs:List REv): List Bk:=evs.foldl (qNz c) []
structure OkE (c:Cfg) (evs:List REv):Prop where
 thr:∀(i:Nat) e,evs[i]?=some e->e.away=true->0<=e.throw/\e.throw<=(qAq c (evs.take i)).length
 mark:∀e,e∈evs->-100<=e.m/\e.m<=4611686018427387904
def TS(q:List Bk): Prop:=∀i j,i<=j->j<q.length->(qBn q i).t<=(qBn q j).t
structure CInv (clock:Int) (y:RSer):Prop where
 ok:OkE y.c y.events
 ts:TS (qAq y.c y.events)
 le:∀b,b∈qAq y.c y.events->b.t<=clock-y.c.lag
 wt:∀t,t∈qA7 y.items->clock-y.c.lag<t
def qEb(clock:Int)(y:RSer): Int:=pastN (qAq y.c y.events) (clock-y.c.lag-y.c.window)
def qMa(clock b:Int)(y:RSer): RSer:={ y with events:=y.events++[⟨0,0,true,min (qEb clock y) b⟩] }
def qBa(clock ticks:Int): Int->List RSer->List RSer×Int
 | _,[]=>([],0)
 | b,y::ys=>if y.c.kind=1 then
   (qMa clock b (qA6 clock ticks y)::(qBa clock ticks (b-min (qEb clock (qA6 clock ticks y)) b) ys).1,
      qEb clock (qA6 clock ticks y)-min (qEb clock (qA6 clock ticks y)) b+(qBa clock ticks (b-min (qEb clock (qA6 clock ticks y)) b) ys).2)
  else(qA6 clock ticks y::(qBa clock ticks b ys).1,(qBa clock ticks b ys).2)
def qL0: List RSer->Int->RSer->List RSer
 | [],_,_=>[]
 | x::r,id,y=>if x.id==id then y::r else x::qL0 r id y
def qI2(xs:List RSer)(id:Int): Option RSer:=xs.find? (λx=>x.id==id)
def qLx(id:Int)(c:Cfg): RSer:=⟨id,c,[],[],List.replicate 15 0⟩
def zBu(x:RSer)(c:Nat): RSer:={ x with ref:=x.ref.set c (qAu x.ref c+1) }
def qUa(x:RSer)(o:OpM): RSer:={ x with items:=x.items++[⟨o.a,o.b,o.c,x.items.length+1,0⟩] }
def qC3(s:RWS)(o:OpM): RWS×Int×List Int :=
 if inB o.id 0 99=true/\(qI2 s.xs o.id).isNone=true then
  if qA0 o.cfg=true then(if s.xs.length=6 then(s,4,[]) else(⟨s.clock,s.ticks,s.xs++[qLx o.id o.cfg]⟩,0,[])) else(s,3,[])
 else(s,2,[])
def zDs(s:RWS)(o:OpM): RWS×Int×List Int :=
 match qI2 s.xs o.id with
 | none=>(s,2,[])
 | some y=>if qB6 y s.clock o=0 then(⟨s.clock,s.ticks,qL0 s.xs o.id (qUa y o)⟩,0,[(y.items.length:Int)+1])
  else(⟨s.clock,s.ticks,qL0 s.xs o.id (zBu y (qB6 y s.clock o).toNat)⟩,qB6 y s.clock o,[])
def qT0(s:RWS)(o:OpM): RWS×Int×List Int :=
 if inB o.a 0 4611686018427387904=true then
  if inB o.b 0 100=true then(⟨qDw s.clock o.a,s.ticks+1,(qBa (qDw s.clock o.a) (s.ticks+1) o.b s.xs).1⟩,0,[(qBa (qDw s.clock o.a) (s.ticks+1) o.b s.xs).2]) else(s,12,[])
 else(s,5,[])
def qEk(s:RWS)(o:OpM): RWS×Int×List Int :=
 if o.kind=1 then qC3 s o else if o.kind=2 then zDs s o else if o.kind=3 then qT0 s o else(s,1,[])
def qEl(c:Cfg): List RIt->Int->Int->Int×Int
 | [],hi,lo=>(hi,lo)
 | z::r,hi,lo=>if 0<z.tick then qEl c r (hi+qA3 (qAr c z.t)/2305843009213693952+(lo+qA3 (qAr c z.t)%2305843009213693952)/2305843009213693952) ((lo+qA3 (qAr c z.t)%2305843009213693952)%2305843009213693952) else qEl c r hi lo
def qTm(s:RWS)(o:OpM): Int×List Int :=
 match qI2 s.xs o.id with
 | none=>(2,[])
 | some y=>if y.c.kind=1 then(if inB o.a 1 y.c.window=true then(0,[qV1 (qAq y.c y.events) (s.clock-y.c.lag-o.a)]) else(13,[])) else(0,[(qEl y.c y.items 0 0).1,(qEl y.c y.items 0 0).2,qA3 (qAr y.c (s.clock-y.c.lag))])
def qLr(s:RWS)(o:OpM): Int×List Int :=
 match qI2 s.xs o.id with
 | none=>(2,[])
 | some y=>(0,(y.items.length:Int)::((y.items.length:Int)-(qA7 y.items).length)::qQu.map (qAu y.ref))
def zE5(s:RWS)(o:OpM): Int×List Int:=if o.kind=4 then qTm s o else if o.kind=5 then qLr s o else(qEk s o).2
def goR(s:RWS)(o:OpM): RWS:=if o.kind=4\/o.kind=5 then s else(qEk s o).1
def rs0: RWS:=⟨0,0,[]⟩
def qOn(f:Int->Int): List Int->Int
 | []=>0
 | a::l=>f a+qOn f l
theorem qSh(f:Int->Int)(a b:List Int): qOn f (a++b)=qOn f a+qOn f b:=by
 induction a with
 | nil=>simp[qOn]
 | cons x a ih=>simp only[List.cons_append,qOn,ih];omega
theorem qQe(f:Int->Int){a b:List Int}(h:a.Perm b): qOn f a=qOn f b:=by
 induction h with
 | nil=>rfl
 | cons x _ ih=>simp only[qOn,ih]
 | swap x y l=>simp only[qOn];omega
 | trans _ _ h1 h2=>exact h1.trans h2
def qDn(m ticks:Int)(z:RIt): RIt:=if z.tick=0/\z.t<=m then { z with tick:=ticks } else z
theorem qT9(m ticks:Int)(ht:ticks≠0)(l:List RIt): qA7 (l.map (qDn m ticks))=(qA7 l).filter (λt=>decide (m<t)):=by
 induction l with
 | nil=>rfl
 | cons z l ih =>
  have ih':(List.filter (λz=>z.tick==0) (l.map (qDn m ticks))).map (·.t)=(qA7 l).filter (λt=>decide (m<t)):=ih
  unfold qA7
  rw[List.map_cons,List.filter_cons]
  by_cases h0:z.tick=0
  ·by_cases h1:z.t<=m
   ·have:qDn m ticks z={ z with tick:=ticks }:=by unfold qDn;rw[if_pos ⟨h0,h1⟩]
    rw[this,List.filter_cons]
    have hb:(ticks==0)=false:=by simpa using ht
    have hd:decide (m<z.t)=false:=by simp;omega
    simp only[hb,h0,beq_self_eq_true,if_true,List.map_cons,List.filter_cons,hd,Bool.false_eq_true,if_false]
    exact ih'
   ·have:qDn m ticks z=z:=by unfold qDn;rw[if_neg (λh=>h1 h.2)]
    rw[this,List.filter_cons]
    have hd:decide (m<z.t)=true:=by simp;omega
    simp only[h0,beq_self_eq_true,if_true,List.map_cons,List.filter_cons,hd]
    rw[ih'];rfl
  ·have:qDn m ticks z=z:=by unfold qDn;rw[if_neg (λh=>h0 h.1)]
   have hb:(z.tick==0)=false:=by simpa using h0
   rw[this,List.filter_cons]
   simp only[hb,Bool.false_eq_true,if_false]
   exact ih'
theorem qXx(m ticks:Int)(ht:ticks≠0)(l:List RIt): (qC2 (l.map (qDn m ticks))).Perm (qC2 l++(qA7 l).filter (λt=>decide (t<=m))):=by
 induction l with
 | nil=>exact List.Perm.refl _
 | cons z l ih =>
  by_cases h0:z.tick=0
  ·have e1:qC2 (z::l)=qC2 l:=by unfold qC2;rw[List.filter_cons];simp[h0]
   have e2:qA7 (z::l)=z.t::qA7 l:=by unfold qA7;rw[List.filter_cons];simp[h0]
   rw[e1,e2,List.map_cons,List.filter_cons]
   by_cases h1:z.t<=m
   ·have:qDn m ticks z={ z with tick:=ticks }:=by unfold qDn;rw[if_pos ⟨h0,h1⟩]
    have e3:qC2 (qDn m ticks z::l.map (qDn m ticks))=z.t::qC2 (l.map (qDn m ticks)):=by
     rw[this];unfold qC2;rw[List.filter_cons];simp[ht]
    rw[e3,if_pos (by simpa using h1)]
    exact(List.Perm.cons _ ih).trans List.perm_middle.symm
   ·have:qDn m ticks z=z:=by unfold qDn;rw[if_neg (λh=>h1 h.2)]
    have e3:qC2 (qDn m ticks z::l.map (qDn m ticks))=qC2 (l.map (qDn m ticks)):=by
     rw[this];unfold qC2;rw[List.filter_cons];simp[h0]
    rw[e3,if_neg (by simpa using h1)]
    exact ih
  ·have e1:qC2 (z::l)=z.t::qC2 l:=by unfold qC2;rw[List.filter_cons];simp[h0]
   have e2:qA7 (z::l)=qA7 l:=by unfold qA7;rw[List.filter_cons];simp[h0]
   have:qDn m ticks z=z:=by unfold qDn;rw[if_neg (λh=>h0 h.1)]
   have e3:qC2 (qDn m ticks z::l.map (qDn m ticks))=z.t::qC2 (l.map (qDn m ticks)):=by
    rw[this];unfold qC2;rw[List.filter_cons];simp[h0]
   rw[e1,e2,List.map_cons,e3,List.cons_append]
   exact List.Perm.cons _ ih
theorem qCo(l:List RIt): (qA7 l).length+(qC2 l).length=l.length:=by
 induction l with
 | nil=>rfl
 | cons z l ih =>
  unfold qA7 qC2 at *
  rw[List.filter_cons,List.filter_cons]
  cases (z.tick==0) <;> simp at ih ⊢ <;> omega
theorem qCc(l:List RIt)(j:Nat)(hj:j<l.length): rAt l j=l[j]:=by
 unfold rAt;rw[List.getD_eq_getElem?_getD,List.getElem?_eq_getElem hj];rfl
def Due(all:List RIt)(mark:Int)(k:Int): Prop:=(0<=k/\k.toNat<all.length/\(rAt all k.toNat).tick=0/\(rAt all k.toNat).t<=mark)
theorem qT3(all:List RIt)(mark:Int)(l:List RIt): ∀(i:Nat) (k:Int),l=all.drop i->(k=-1\/Due all mark k)->(k=-1->∀j,j<i->j<all.length->(rAt all j).tick=0->mark<(rAt all j).t) ->
  (qIp all mark l i k=-1/\∀j,j<all.length->(rAt all j).tick=0->mark<(rAt all j).t)\/Due all mark (qIp all mark l i k):=by
 induction l with
 | nil =>
  intro i k hd hk hb
  have hlen:all.length<=i:=by
   have:=congrArg List.length hd
   simp at this;omega
  unfold qIp
  rcases hk with hk | hk
  ·exact .inl ⟨hk,λj hj=>hb hk j (by omega) hj⟩
  ·exact .inr hk
 | cons x r ih =>
  intro i k hd hk hb
  have hi:i<all.length:=by
   have:=congrArg List.length hd
   simp at this;omega
  rw[List.drop_eq_getElem_cons hi]at hd
  injection hd with hx hr
  have hxa:rAt all i=x:=by rw[qCc _ _ hi,hx]
  unfold qIp
  by_cases hc:x.tick=0/\x.t<=mark/\(k<0\/x.t<(rAt all k.toNat).t)
  ·rw[if_pos hc]
   refine ih (i+1) i hr (.inr ⟨by omega,by simpa using hi,?_,?_⟩) (λh=>by omega)
   ·rw[Int.toNat_natCast,hxa];exact hc.1
   ·rw[Int.toNat_natCast,hxa];exact hc.2.1
  ·rw[if_neg hc]
   refine ih (i+1) k hr hk (λh j hj hja ht=>?_)
   by_cases hji:j=i
   ·subst hji
    rw[hxa]at ht ⊢
    by_cases h1:x.t<=mark
    ·exact absurd ⟨ht,h1,.inl (by omega)⟩ hc
    ·omega
   ·exact hb h j (by omega) hja ht
theorem qFe(all:List RIt)(mark:Int): (qE8 all mark=-1/\∀z,z∈all->z.tick=0->mark<z.t)\/Due all mark (qE8 all mark):=by
 rcases qT3 all mark all 0 (-1) rfl (.inl rfl) (λ_ j hj=>absurd hj (by omega)) with ⟨h,hb⟩ | h
 ·refine .inl ⟨h,λz hz ht=>?_⟩
  obtain⟨j,hj,rfl⟩:=List.mem_iff_getElem.1 hz
  have:=hb j hj
  rw[qCc _ _ hj]at this
  exact this ht
 ·exact .inr h
theorem qXl(mark ticks:Int)(all:List RIt)(h:∀z,z∈all->z.tick=0->mark<z.t): all.map (qDn mark ticks)=all:=by
 conv=>rhs;rw[<-List.map_id all]
 refine List.map_congr_left λz hz=>?_
 unfold qDn
 rw[if_neg (λhc=>by have:=h z hz hc.1;omega)]
 rfl
theorem zAk(mark ticks:Int)(ht:ticks≠0)(all:List RIt)(k:Nat)(hk:k<all.length)(h0:(rAt all k).tick=0)(h1:(rAt all k).t<=mark): (qB0 all k ticks).map (qDn mark ticks)=all.map (qDn mark ticks):=by
 unfold qB0
 rw[List.map_set]
 have e1:qDn mark ticks (rAt all k)={ rAt all k with tick:=ticks }:=by unfold qDn;rw[if_pos ⟨h0,h1⟩]
 have e2:qDn mark ticks { rAt all k with tick:=ticks }={ rAt all k with tick:=ticks }:=by unfold qDn;rw[if_neg (λh=>ht h.1)]
 rw[e2,<-e1,qCc _ _ hk]
 apply List.ext_getElem?
 intro j
 rw[List.getElem?_set]
 by_cases hj:k=j
 ·subst hj;simp[hk]
 ·rw[if_neg hj]
theorem qHw(ticks:Int)(ht:ticks≠0)(all:List RIt)(k:Nat)(hk:k<all.length)(h0:(rAt all k).tick=0): (qA7 (qB0 all k ticks)).length+1=(qA7 all).length:=by
 unfold qB0 qA7
 rw[qCc _ _ hk]at h0 ⊢
 rw[List.set_eq_take_append_cons_drop,if_pos hk]
 conv=>rhs;rw[<-List.take_append_drop k all,List.drop_eq_getElem_cons hk]
 rw[List.filter_append,List.filter_append,List.filter_cons,List.filter_cons]
 simp[ht,h0]
 omega
theorem qGo(mark ticks:Int)(ht:ticks≠0)(f:Nat): ∀y:RSer,(qA7 y.items).length<f ->
  (qBf f y mark ticks).items=y.items.map (qDn mark ticks)/\(qBf f y mark ticks).id=y.id/\(qBf f y mark ticks).c=y.c/\(qBf f y mark ticks).ref=y.ref:=by
 induction f with
 | zero=>intro y h;omega
 | succ f ih =>
  intro y hf
  unfold qBf
  rcases qFe y.items mark with ⟨h,hb⟩ | ⟨h1,h2,h3,h4⟩
  ·rw[if_pos (by omega)]
   exact⟨(qXl mark ticks _ hb).symm,rfl,rfl,rfl⟩
  ·rw[if_neg (by omega)]
   have hw:=qHw ticks ht y.items _ h2 h3
   obtain⟨i1,i2,i3,i4⟩:=ih { y with items:=qB0 y.items (qE8 y.items mark).toNat ticks,events:=y.events++[⟨(rAt y.items (qE8 y.items mark).toNat).t,mark,false,0⟩] } (by show(qA7 (qB0 _ _ _)).length<f;omega)
   exact⟨i1.trans (zAk mark ticks ht _ _ h2 h3 h4),i2,i3,i4⟩
end
section
open Go.RowKit
def RIt.cells(z:RIt): List Value:=[.int .i64 z.t,.int .i64 z.k,.int .i64 z.d,.int .i64 z.n,.int .i64 z.tick]
def REv.cells(z:REv): List Value:=[.int .i64 z.t,.int .i64 z.m,.bool z.away,.int .i64 z.throw]
def qE7(l:List RIt): List Value:=l.flatMap RIt.cells
def qF2(l:List REv): List Value:=l.flatMap REv.cells
theorem qSe{α:Type}(f:α->List Value)(sz:Nat)(hf:∀x,(f x).length=sz)(l:List α)(i j:Nat)(x:α)(h:l[i]?=some x)(hj:j<sz): (l.flatMap f)[i*sz+j]?=(f x)[j]?:=by
 induction l generalizing i with
 | nil=>simp at h
 | cons a l ih =>
  rw[List.flatMap_cons]
  cases i with
  | zero =>
   simp at h;subst h
   rw[List.getElem?_append_left (by rw[hf];omega)]
   congr 1;omega
  | succ i =>
   rw[List.getElem?_append_right (by rw[hf];rw[Nat.add_mul];omega),hf]
   have:=ih i (by simpa using h)
   rw[<-this]
   congr 1
   rw[Nat.add_mul];omega
theorem qRw{α:Type}(f:α->List Value)(sz:Nat)(hf:∀x,(f x).length=sz)(l:List α): (l.flatMap f).length=l.length*sz:=by
 induction l with
 | nil=>simp
 | cons a l ih=>rw[List.flatMap_cons,List.length_append,ih,hf,List.length_cons,Nat.add_mul];omega
theorem qSz{α:Type}(f:α->List Value)(sz:Nat)(hf:∀x,(f x).length=sz)(l:List α)(i j:Nat)(x y:α)(h:l[i]?=some x)(u:Value)(hj:j<sz)(hy:f y=(f x).set j u): (l.flatMap f).set (i*sz+j) u=(l.set i y).flatMap f:=by
 induction l generalizing i with
 | nil=>simp at h
 | cons a l ih =>
  rw[List.flatMap_cons]
  cases i with
  | zero =>
   simp at h;subst h
   rw[List.set_append_left _ _ (by rw[hf];omega),List.set_cons_zero,List.flatMap_cons,hy]
   congr 2;omega
  | succ i =>
   rw[List.set_append_right _ _ (by rw[hf,Nat.add_mul];omega),hf,List.set_cons_succ,List.flatMap_cons]
   have:=ih i (by simpa using h)
   rw[<-this]
   congr 2
   rw[Nat.add_mul];omega
theorem qBl(l:List RIt)(i j:Nat)(hi:i<l.length)(hj:j<5): (qE7 l)[i*5+j]?=(rAt l i).cells[j]? :=
 qSe RIt.cells 5 (λ_=>rfl) l i j _ (by rw[qCc _ _ hi];exact List.getElem?_eq_getElem hi) hj
theorem qVx(l:List RIt)(i:Nat)(hi:i<l.length)(ticks:Int): (qE7 l).set (i*5+4) (.int .i64 ticks)=qE7 (qB0 l i ticks) :=
 qSz RIt.cells 5 (λ_=>rfl) l i 4 (rAt l i) _ (by rw[qCc _ _ hi];exact List.getElem?_eq_getElem hi) _ (by omega) rfl
theorem qCy{w:World}{base T sz:Nat}{v:Value}{n:Nat}{xs:List Value}(h:w.ownsRow base T sz v n xs):
  ∃a cap,v=.slice a n cap/\(∀g,a=some g->g=⟨g.block,0,none⟩)/\(0<n->∃g,a=some ⟨g,0,none⟩)/\∀g,a=some ⟨g,0,none⟩->(∀i u,xs[i]?=some u->w.cell? ⟨g,i,none⟩=some u)/\∀i,w.frozen? ⟨g,i,none⟩=false:=by
 rcases h.2 with ⟨h1,h2⟩ | ⟨g,cap,cur,h1,h2,h3,h4,h5,h6,h7⟩
 ·exact⟨none,0,by rw[h1,h2],λg hg=>by(cases hg),λhn=>by omega,λg hg=>by(cases hg)⟩
 ·refine⟨some ⟨g,0,none⟩,cap,h1,λg' hg=>by cases hg;rfl,λ_=>⟨g,rfl⟩,λg' hg=>?_⟩
  cases hg
  refine⟨λi u hu=>?_,λi=>by simp[World.frozen?,h3]⟩
  have hi:i<n*sz:=by have:=(List.getElem?_eq_some_iff.1 hu).1;have:=h.1;omega
  have:cur[i]?=some u:=by
   rw[<-h7,List.getElem?_take,if_pos hi]at hu
   simpa using hu
  simp[World.cell?,h3,this]
theorem qXm{w:World}{base T sz g n cap:Nat}{xs:List Value}(h:w.ownsRow base T sz (.slice (some ⟨g,0,none⟩) n cap) n xs)(i:Nat)(u:Value):
  (w.setCell ⟨g,i,none⟩ u).ownsRow base T sz (.slice (some ⟨g,0,none⟩) n cap) n (xs.set i u):=by
 refine⟨by rw[List.length_set];exact h.1,?_⟩
 rcases h.2 with ⟨h1,_⟩ | ⟨g',cap',cur,h1,h2,h3,h4,h5,h6,h7⟩
 ·cases h1
 ·cases h1
  refine .inr ⟨g,cap,cur.set! i u,rfl,h2,?_,h4,h5,by simp[h6],?_⟩
  ·simp[World.setCell,Array.getElem?_modify,h3]
  ·rw[<-h7]
   simp[List.take_set]
structure RB where
 s:Nat
 iv:Value
 ev:Value
def RB.foot(b:RB)(i:Nat): Prop:=i=b.s\/b.iv.ownBlock=some i\/b.ev.ownBlock=some i
def qDi(b:RB)(y:RSer): List Value:=.int .i64 y.id::y.c.vals (b.iv::b.ev::y.ref.map (.int .i64 ·))
structure RRep (w:World) (b:RB) (y:RSer):Prop where
 blk:Blk w b.s (qDi b y) 119
 its:w.ownsRow 0 155 5 b.iv y.items.length (qE7 y.items)
 evs:w.ownsRow 0 159 4 b.ev y.events.length (qF2 y.events)
 si:b.iv.ownBlock≠some b.s
 se:b.ev.ownBlock≠some b.s
 ie:∀i,b.iv.ownBlock=some i->b.ev.ownBlock≠some i
theorem RRep.keeps{M:Nat->Prop}{w w':World}{b:RB}{y:RSer}(h:RRep w b y)(hk:Keeps M w w')(hn:∀i,b.foot i->¬M i): RRep w' b y :=
 ⟨h.blk.keeps hk (hn _ (.inl rfl)),qAf h.its hk (λi hi=>hn i (.inr (.inl hi))),qAf h.evs hk (λi hi=>hn i (.inr (.inr hi))),h.si,h.se,h.ie⟩
theorem RRep.still{w w':World}{b:RB}{y:RSer}(h:RRep w b y)(hk:Keeps (λ_=>False) w w'): RRep w' b y:=h.keeps hk (λ_ _ h=>h)
theorem RRep.lt{w:World}{b:RB}{y:RSer}(h:RRep w b y)(i:Nat)(hi:b.foot i): i<w.heap.size:=by
 rcases hi with hi | hi | hi
 ·subst hi;exact h.blk.lt
 ·exact(h.its.lt i hi).2
 ·exact(h.evs.lt i hi).2
structure RInv (n:Int) (y:RSer):Prop where
 valid:qA0 y.c=true
 items:(y.items.length:Int)<=n
 events:(y.events.length:Int)<=(qC2 y.items).length+n
 refl:y.ref.length=15
 refn:∀v,v∈y.ref->0<=v/\v<=n
 times:∀z,z∈y.items->0<=z.t/\z.t<=4611686018427387904
theorem RInv.common{n:Int}{y:RSer}(h:RInv n y): 0<=y.c.lag/\y.c.lag<=100/\0<=y.c.skew/\y.c.skew<=100/\1<=y.c.cap/\y.c.cap<=8:=by
 obtain⟨k,hk,h1,h5,hc,_⟩:=qCw h.valid
 simp only[qA1,inB,Bool.and_eq_true,decide_eq_true_eq]at hc
 omega
def qIq(ps:List (RB×RSer)): List Value:=ps.map λp=>.pointer (some ⟨p.1.s,0,none⟩)
structure RWRep (w:World) (e:Nat) (v:Value) (clock ticks:Int) (ps:List (RB×RSer)):Prop where
 blk:Blk w e [.int .i64 clock,.int .i64 ticks,v] 111
 row:w.ownsRow 0 112 1 v ps.length (qIq ps)
 reps:∀p,p∈ps->RRep w p.1 p.2
 apart:ps.Pairwise (λp q=>∀i,p.1.foot i->¬q.1.foot i)
 ev:v.ownBlock≠some e
 ef:∀p,p∈ps->∀i,p.1.foot i->i≠e/\v.ownBlock≠some i
def RFoot(e:Nat)(v:Value)(ps:List (RB×RSer))(i:Nat): Prop:=i=e\/v.ownBlock=some i\/∃p,p∈ps/\p.1.foot i
theorem RWRep.lt{w:World}{e:Nat}{v:Value}{clock ticks:Int}{ps:List (RB×RSer)}(h:RWRep w e v clock ticks ps)(i:Nat)(hi:RFoot e v ps i): i<w.heap.size:=by
 rcases hi with hi | hi | ⟨p,hp,hi⟩
 ·subst hi;exact h.blk.lt
 ·exact(h.row.lt i hi).2
 ·exact(h.reps p hp).lt i hi
theorem RWRep.keeps{M:Nat->Prop}{w w':World}{e:Nat}{v:Value}{clock ticks:Int}{ps:List (RB×RSer)}(h:RWRep w e v clock ticks ps)(hk:Keeps M w w')(hn:∀i,RFoot e v ps i->¬M i): RWRep w' e v clock ticks ps :=
 ⟨h.blk.keeps hk (hn _ (.inl rfl)),qAf h.row hk (λi hi=>hn i (.inr (.inl hi))),λp hp=>(h.reps p hp).keeps hk (λi hi=>hn i (.inr (.inr ⟨p,hp,hi⟩))),h.apart,h.ev,h.ef⟩
theorem RWRep.still{w w':World}{e:Nat}{v:Value}{clock ticks:Int}{ps:List (RB×RSer)}(h:RWRep w e v clock ticks ps)(hk:Keeps (λ_=>False) w w'): RWRep w' e v clock ticks ps:=h.keeps hk (λ_ _ h=>h)
structure RWInv (n:Int) (clock ticks:Int) (xs:List RSer):Prop where
 c0:0<=clock
 c1:clock<=4611686018427387904
 t0:0<=ticks
 tn:ticks<=n
 six:xs.length<=6
 sers:∀x,x∈xs->RInv n x
 cnt:∀y,y∈xs->y.c.kind=1->CInv clock y
def qB2(ps:List (RB×RSer))(id:Int): Option (RB×RSer):=ps.find? (λp=>p.2.id==id)
def qEh: Option (RB×RSer)->Value
 | some p=>.pointer (some ⟨p.1.s,0,none⟩)
 | none=>.pointer none
theorem qCg(e:Nat)(v:Value)(clock ticks id:Int)(ps:List (RB×RSer))(w:World)(h:RWRep w e v clock ticks ps)(hl:ps.length<=1000):
  Calls Tryz.prog 75 #[.pointer (some ⟨e,0,none⟩),.int .i64 id] w λr w'=>r=.returned (qEh (qB2 ps id))/\w'=w:=by
 have hc1:w.cell? ⟨e,2,none⟩=some v:=h.blk.cell rfl
 obtain⟨a,cap,rfl,-,ha,hcells⟩:=qCy h.row
 have HC:=hide hcells
 have HA:=hide ha
 have HS:=hide (show ∀p,p∈ps->w.cell? ⟨p.1.s,0,none⟩=some (.int .i64 p.2.id) from λp hp=>(h.reps p hp).blk.cell rfl)
 clear h hcells ha
 generalize hn:ps.length=n at *
 have HN:=hide hn
 clear hn
 go_enter Tryz.func75,Tryz.ntmps75
 go_wp2
 go_loop [5] (λi=>∃k:Nat,k<=n/\i=.int .i64 k/\Hid (qB2 ps id=qB2 (ps.drop k) id)) (λi=>n-(intOf i).toNat)
 case atStart=>exact⟨0,Nat.zero_le _,rfl,rfl⟩
 case round =>
  obtain⟨k,hk,rfl,HE⟩:=hrel
  by_cases hlt:k<n
  ·obtain⟨p,hp⟩:∃p,ps[k]?=some p:=⟨ps[k]'(by rw[uh HN];exact hlt),List.getElem?_eq_getElem _⟩
   have hd:ps.drop k=p::ps.drop (k+1):=by
    rw[List.drop_eq_getElem_cons (by rw[uh HN];exact hlt)]
    rw[List.getElem?_eq_getElem (by rw[uh HN];exact hlt)]at hp
    cases hp;rfl
   obtain⟨g,hg⟩:=uh HA (by omega)
   have hck:w.cell? ⟨g,k,none⟩=some (.pointer (some ⟨p.1.s,0,none⟩)):=(uh HC g hg).1 k _ (by unfold qIq;rw[List.getElem?_map,hp];rfl)
   subst hg
   have hid:=uh HS p (List.mem_of_getElem? hp)
   have hk0:(0:Int)<=(k:Int):=by omega
   have hkn:(k:Int)<(n:Int):=by omega
   cases hb:(p.2.id==id)
   ·have HE':=hide (show qB2 ps id=qB2 (ps.drop (k+1)) id by rw[uh HE,hd];unfold qB2;rw[List.find?_cons];rw[hb])
    clear hd hp
    go_wp2
    go_round
    case rel=>exact⟨k+1,by omega,by go_num,HE'⟩
    case measure=>simp[intOf];omega
   ·have HE':=hide (show qB2 ps id=some p by rw[uh HE,hd];unfold qB2;rw[List.find?_cons];rw[hb])
    clear hd hp
    go_wp2
    go_ret
    exact⟨by rw[uh HE'];rfl,rfl⟩
  ·have HE':=hide (show qB2 ps id=none by rw[uh HE,List.drop_eq_nil_of_le (by rw[uh HN];omega)];rfl)
   go_wp2
   go_ret
   exact⟨by rw[uh HE'];rfl,rfl⟩
theorem qBy(e s:Nat)(lag clock:Int)(w:World)(hc:w.cell? ⟨e,0,none⟩=some (.int .i64 clock))(h:w.cell? ⟨s,2,none⟩=some (.int .i64 lag))(l0:0<=lag)(l1:lag<=100)(c0:0<=clock)(c1:clock<=4611686018427387904):
  Calls Tryz.prog 76 #[.pointer (some ⟨e,0,none⟩),.pointer (some ⟨s,0,none⟩)] w λr w'=>r=.returned (.int .i64 (clock-lag))/\Keeps (λ_=>False) w w':=by
 go_enter Tryz.func76,Tryz.ntmps76
 go_wp2_with fail
 go_region
 go_wp2
 go_ret
 exact⟨rfl,(Keeps.refl _ _).drew⟩
theorem qT6(l:List RIt)(k:Nat)(hk:k<l.length): (qA7 (l.take (k+1))).length=(qA7 (l.take k)).length+(if (rAt l k).tick=0 then 1 else 0):=by
 rw[List.take_succ_eq_append_getElem hk,qCc _ _ hk]
 unfold qA7
 rw[List.filter_append,List.map_append,List.length_append]
 congr 1
 by_cases h:l[k].tick=0 <;> simp[h]
theorem qCa(b:RB)(y:RSer)(w:World)(h:RRep w b y)(hl:y.items.length<=1152921504606846976):
  Calls Tryz.prog 83 #[.pointer (some ⟨b.s,0,none⟩)] w λr w'=>r=.returned (.int .i64 (qA7 y.items).length)/\w'=w:=by
 have hc1:w.cell? ⟨b.s,21,none⟩=some b.iv:=h.blk.cell rfl
 obtain⟨a,cap,hv,-,ha,hcells⟩:=qCy h.its
 rw[hv]at hc1
 have HC:=hide hcells
 have HA:=hide ha
 clear h hcells ha
 generalize hn:y.items.length=n at *
 have HN:=hide hn
 clear hn
 generalize b.s=s at *
 go_enter Tryz.func83,Tryz.ntmps83
 go_wp2
 go_loop [3,4] (λc i=>∃k m:Nat,k<=n/\i=.int .i64 k/\c=.int .i64 m/\m<=k/\Hid ((qA7 (y.items.take k)).length=m)) (λ_ i=>n-(intOf i).toNat)
 case atStart=>exact⟨0,0,Nat.zero_le _,rfl,rfl,Nat.le_refl _,rfl⟩
 case round =>
  obtain⟨k,m,hk,rfl,rfl,hmk,HE⟩:=hrel
  by_cases hlt:k<n
  ·have hs:=qT6 y.items k (by rw[uh HN];exact hlt)
   obtain⟨g,hg⟩:=uh HA (by omega)
   have hck:w.cell? ⟨g,k*5+4,none⟩=some (.int .i64 (rAt y.items k).tick):=(uh HC g hg).1 _ _ (by rw[qBl _ _ _ (by rw[uh HN];exact hlt) (by omega)];rfl)
   subst hg
   have hk0:(0:Int)<=(k:Int):=by omega
   have hkn:(k:Int)<(n:Int):=by omega
   rw[uh HE]at hs
   have HS:=hide hs
   clear hs
   generalize(rAt y.items k).tick=t at *
   by_cases ht:t=0
   ·subst ht
    go_wp2
    go_round
    case rel=>exact⟨k+1,m+1,by omega,by go_num,by go_num,by omega,by rw[uh HS];rfl⟩
    case measure=>simp[intOf];omega
   ·have hb:(t==0)=false:=by simpa using ht
    have HT:=hide ht
    clear ht
    go_wp2
    go_round
    case rel=>exact⟨k+1,m,by omega,by go_num,rfl,by omega,by rw[uh HS,if_neg (uh HT)];rfl⟩
    case measure=>simp[intOf];omega
  ·have hkn:k=n:=by omega
   subst hkn
   have HE':=hide (show(qA7 y.items).length=m by rw[<-uh HE,List.take_of_length_le (by rw[uh HN];exact Nat.le_refl _)])
   go_wp2
   go_ret
   exact⟨by rw[uh HE'];rfl,rfl⟩
theorem qX5(n k:Nat)(hk:k<=61): qDh 2 n (2 ^ k)=if 61<k+n then none else some (2 ^ (k+n)):=by
 induction n generalizing k with
 | zero=>rw[if_neg (by omega)];rfl
 | succ n ih =>
  show(if 2305843009213693952/2<(2:Int) ^ k then none else qDh 2 n (2 ^ k*2))=_
  by_cases h61:k=61
  ·subst h61
   rw[if_pos (by decide),if_pos (by omega)]
  ·have h1:=qJg k hk
   have h2:(2:Int) ^ k<=1152921504606846976:=by
    have e:(2:Int) ^ k=((2 ^ k:Nat):Int):=by simp
    have h2:2 ^ k<=2 ^ 60:=Nat.pow_le_pow_right (by omega) (by omega)
    have h3:(2:Nat) ^ 60=1152921504606846976:=by decide
    rw[e];omega
   rw[if_neg (by omega),<-Int.pow_succ,ih (k+1) (by omega),show k+1+n=k+(n+1) by omega]
theorem qSb(c:Cfg)(t:Int)(hm:¬t<c.mark)(h0:0<=c.half):
  qAr c t=if 0<c.half then qDh 2 ((t-c.mark)/c.half).toNat 1 else qDh (t-c.mark+1) c.degree.toNat 1:=by
 unfold qAr
 rw[if_neg hm]
 by_cases hh:c.half=0
 ·rw[if_pos hh,if_neg (by rw[hh];decide)]
 ·have hq:0<=(t-c.mark)/c.half:=Int.ediv_nonneg (by omega) (by omega)
  rw[if_neg hh,if_pos (show 0<c.half by omega)]
  have:=qX5 ((t-c.mark)/c.half).toNat 0 (by omega)
  rw[Nat.zero_add,Int.pow_zero]at this
  rw[this]
  generalize(t-c.mark)/c.half=q at *
  by_cases h:61<q
  ·rw[if_pos h,if_pos (show 61<q.toNat by omega)]
  ·rw[if_neg h,if_neg (show ¬61<q.toNat by omega)]
theorem qF3(code:Int)(w:World):
  Calls Tryz.prog 51 #[.int .i64 code] w λe w'=>e=.returned (qBu code (.slice none 0 0))/\Keeps (λ_=>False) w w':=by
 go_enter Tryz.func51,Tryz.ntmps51
 go_wp2
 refine bodyPost_ret (v:=qBu code (.slice none 0 0)) (by simp[results,Tryz.results51,go_sem,qBu];rfl) rfl ⟨rfl,?_⟩
 repeat (first | exact Keeps.refl _ _ | apply Keeps.alloc)
theorem qZa(code:Int)(w:World): Calls Tryz.prog 57 #[.int .i64 code] w λe w'=>e=.returned (.int .i64 code)/\w'=w:=by
 go_enter Tryz.func57,Tryz.ntmps57
 go_wp2
 go_ret
 exact⟨rfl,rfl⟩
theorem qAl(n lo hi:Int)(w:World):
  Calls Tryz.prog 77 #[.int .i64 n,.int .i64 lo,.int .i64 hi] w λe w'=>e=.returned (.bool (inB n lo hi))/\w'=w:=by
 by_cases h:lo<=n
 ·go_enter Tryz.func77,Tryz.ntmps77
  go_wp2
  go_ret
  exact⟨by simp[inB,h],rfl⟩
 ·have hd:decide (lo<=n)=false:=by simpa using h
  have HI:Hid (false=inB n lo hi):=by simp[Hid,inB,h]
  go_enter Tryz.func77,Tryz.ntmps77
  go_wp2
  go_ret
  exact⟨qAz HI.out,rfl⟩
theorem qD5(c:Cfg)(t:Int)(w:World)(hc:c.weighs)(t0:-100<=t)(t1:t<=4611686018427387904):
  Calls Tryz.prog 109 #[c.val,.int .i64 t] w λe w'=>e=.returned (.int .i64 (qA3 (qAr c t)))/\Keeps (λ_=>False) w w':=by
 obtain⟨d0,d1,h0,h1,m0,m1⟩:=hc
 have HK:=hide ((Keeps.refl (λ_=>False) w).alloc (.cells c.cells.toArray 38))
 by_cases hm:t<c.mark
 ·have HW:=hide (show qAr c t=none by unfold qAr;rw[if_pos hm])
  unfold Cfg.val Cfg.cells at *
  go_enter Tryz.func109,Tryz.ntmps109
  go_wp2
  go_ret
  exact⟨by rw[uh HW];rfl,uh HK⟩
 ·have HW:=hide (qSb c t hm h0)
  obtain⟨b,n,hb1,hb2,hn1,hbn,HWN⟩:∃(b:Int) (n:Nat),1<=b/\b<=4611686018427387905/\(n:Int)<=4611686018427387904/\((0<c.half/\b=2/\(t-c.mark).tdiv c.half=n)\/(c.half=0/\b=t-c.mark+1/\c.degree=n))/\Hid (qAr c t=qDh b n 1):=by
   by_cases hh:0<c.half
   ·have hq:0<=(t-c.mark)/c.half:=Int.ediv_nonneg (by omega) (by omega)
    have hn2:(t-c.mark)/c.half<=4611686018427387904:=by
     have:=Int.ediv_le_self c.half (show 0<=t-c.mark by omega)
     omega
    have hw:=uh HW
    rw[if_pos hh]at hw
    have htd:(t-c.mark).tdiv c.half=(t-c.mark)/c.half:=Int.tdiv_eq_ediv_of_nonneg (by omega)
    refine⟨2,((t-c.mark)/c.half).toNat,by omega,by omega,by omega,.inl ⟨hh,rfl,?_⟩,hw⟩
    rw[htd];omega
   ·have hw:=uh HW
    rw[if_neg hh]at hw
    exact⟨t-c.mark+1,c.degree.toNat,by omega,by omega,by omega,.inr ⟨by omega,rfl,by omega⟩,hw⟩
  have HB:=hide (show ∀p:Int,¬2305843009213693952/b<p->1<=p->1<=p*b/\p*b<=2305843009213693952 from λp h1 h2=>qV7 p b h2 hb1 h1)
  clear HW
  have HBN:=hide hbn
  rcases hbn with ⟨hh,rfl,htd⟩ | ⟨hh,hbe,hd⟩
  ·have hhb:(c.half==0)=false:=by simp;omega
   unfold Cfg.val Cfg.cells at *
   go_enter Tryz.func109,Tryz.ntmps109
   go_wp2_with fail
   clear HBN
   go_loopw [7,8] (λp i wr=>∃(k:Nat) (q:Int),k<=n/\i=.int .i64 k/\p=.int .i64 q/\1<=q/\q<=2305843009213693952/\Hid (qDh 2 (n-k) q=qDh 2 n 1)/\Hid (Keeps (λ_=>False) w wr)) (λ_ i _=>n-(intOf i).toNat)
   case atStart=>exact⟨0,1,by omega,rfl,rfl,by omega,by omega,rfl,HK⟩
   case round =>
    obtain⟨k,q,hk,rfl,rfl,hq1,hq2,HP,HKr⟩:=hrel
    by_cases hkn:k<n
    ·have hkn':(k:Int)<(n:Int):=by omega
     have HS:=hide (show qDh 2 (n-k) q=if 2305843009213693952/2<q then none else qDh 2 (n-(k+1)) (q*2) by
        rw[show n-k=(n-(k+1))+1 by omega];rfl)
     by_cases hc:(1152921504606846976:Int)<q
     ·have HR:=hide (show qA3 (qAr c t)=0 by rw[uh HWN,<-uh HP,uh HS,if_pos (by first | exact hc | omega)];rfl)
      go_wp2
      go_ret
      exact⟨qBi (uh HR).symm,uh HKr⟩
     ·have HS2:=hide (show qDh 2 (n-(k+1)) (q*2)=qDh 2 n 1 by rw[<-uh HP,uh HS,if_neg (by first | exact hc | omega)])
      obtain⟨hm1,hm2⟩:=uh HB q (by first | exact hc | exact Int.not_lt.1 hc | omega) hq1
      go_wp2
      go_roundw
      case rel=>exact⟨k+1,q*2,by omega,by go_num,by go_num,hm1,hm2,HS2,HKr⟩
      case measure=>simp[intOf];omega
    ·have hkk:k=n:=by omega
     subst hkk
     have HR:=hide (show qA3 (qAr c t)=q by rw[uh HWN,<-uh HP,Nat.sub_self];rfl)
     go_wp2
     go_ret
     exact⟨qBi (uh HR).symm,uh HKr⟩
  ·have hhb:(c.half==0)=true:=by simp;omega
   unfold Cfg.val Cfg.cells at *
   go_enter Tryz.func109,Tryz.ntmps109
   go_wp2_with fail
   try rw[<-hbe]
   clear HBN hbe hd
   go_loopw [7,8] (λp i wr=>∃(k:Nat) (q:Int),k<=n/\i=.int .i64 k/\p=.int .i64 q/\1<=q/\q<=2305843009213693952/\Hid (qDh b (n-k) q=qDh b n 1)/\Hid (Keeps (λ_=>False) w wr)) (λ_ i _=>n-(intOf i).toNat)
   case atStart=>exact⟨0,1,by omega,rfl,rfl,by omega,by omega,rfl,hide ((Keeps.refl (λ_=>False) w).alloc _)⟩
   case round =>
    obtain⟨k,q,hk,rfl,rfl,hq1,hq2,HP,HKr⟩:=hrel
    by_cases hkn:k<n
    ·have hkn':(k:Int)<(n:Int):=by omega
     have HS:=hide (show qDh b (n-k) q=if 2305843009213693952/b<q then none else qDh b (n-(k+1)) (q*b) by
        rw[show n-k=(n-(k+1))+1 by omega];rfl)
     by_cases hc:(2305843009213693952/b:Int)<q
     ·have HR:=hide (show qA3 (qAr c t)=0 by rw[uh HWN,<-uh HP,uh HS,if_pos (by first | exact hc | omega)];rfl)
      go_wp2
      go_ret
      exact⟨qBi (uh HR).symm,uh HKr⟩
     ·have HS2:=hide (show qDh b (n-(k+1)) (q*b)=qDh b n 1 by rw[<-uh HP,uh HS,if_neg (by first | exact hc | omega)])
      obtain⟨hm1,hm2⟩:=uh HB q (by first | exact hc | exact Int.not_lt.1 hc | omega) hq1
      go_wp2
      go_roundw
      case rel=>exact⟨k+1,q*b,by omega,by go_num,by go_num,hm1,hm2,HS2,HKr⟩
      case measure=>simp[intOf];omega
    ·have hkk:k=n:=by omega
     subst hkk
     have HR:=hide (show qA3 (qAr c t)=q by rw[uh HWN,<-uh HP,Nat.sub_self];rfl)
     go_wp2
     go_ret
     exact⟨qBi (uh HR).symm,uh HKr⟩
end
end Go.Proofs.YtahnliehdjncdaaGreatDoor
