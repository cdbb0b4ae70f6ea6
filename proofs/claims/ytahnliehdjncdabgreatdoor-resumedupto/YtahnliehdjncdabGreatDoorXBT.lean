import Derived.Test.YtahnliehdjncdabGreatDoorXBS
import Derived.Deep.DeepHandedRow
import Derived.Lib.LaidTab
import Derived.SevenTiedAt
import Derived.Test.YtahnliehdjncdabGreatDoorCards
import Derived.Test.YtahnliehdjncdabGreatDoorXBJ
import Derived.Test.YtahnliehdjncdabGreatDoorXAQ
import Derived.Test.YtahnliehdjncdabGreatDoorTie
set_option maxRecDepth 100000
set_option maxHeartbeats 16000000
namespace Go.Proofs.YtahnliehdjncdabGreatDoor
section
open Go.ChangeShapes Go.WideShapes Go.ChangeAt Go.RowKit Go.Deep
theorem Tryz.own: ownKnob Tryz.prog.godebug=none:=by kernel_rfl
theorem Tryz.laidOut: laidOutB Tryz.prog=true:=by kernel_rfl
theorem Keeps.below{w w':World}(h:Keeps (λ_=>False) w w'): Below w.heap.size w w':=⟨h.os,h.tape,h.output,h.size,λk hk=>h.block k hk (λh=>h)⟩
theorem zAd{x:Int}(h:(Lit.int .i64 x).wf=true): -9223372036854775808<=x/\x<=9223372036854775807:=by
 simp[Lit.wf,IntKind.min,IntKind.max,IntKind.signed,IntKind.bits]at h
 omega
theorem gTab: Tryz.prog.globalNamed "math/bits.deBruijn64tab"=some 2:=by kernel_rfl
theorem zBg: (Tryz.prog.globals[2]?).map (·.type)=some 290:=by kernel_rfl
theorem zDg: Tryz.prog.cellsOf 290=64:=by kernel_rfl
theorem zE6: Tryz.prog.cellsOf 5=1:=by kernel_rfl
theorem zEo: Tryz.prog.underlying 5=some (.int .u8):=by kernel_rfl
def qPg: List Int:=Lib.deBruijn64tab.map λ(n:Nat)=>(n:Int)
def zD2: Array Value:=(qPg.map (.int .u8 ·)).toArray
theorem zGx{W:World}(h:laidMetH Tryz.prog [("math/bits.deBruijn64tab",Rows.laid_math_bits_deBruijn64tab)] W): Tab W:=by
 have ht:Lib.TabIs Tryz.prog W "math/bits.deBruijn64tab" .u8 qPg:=Lib.tabIs_of_head (rest:=[]) gTab zBg Tryz.underlying290 zEo zE6 zDg h
 intro j hj
 have h1:=ht.cell gTab j (by simpa[qPg] using hj)
 rw[h1]
 unfold qPg
 rw[List.getD_eq_getElem?_getD,List.getD_eq_getElem?_getD,List.getElem?_map,List.getElem?_eq_getElem hj]
 rfl
noncomputable def qMv(os:Os): World :=
 { World.holding Tryz.prog os ⟨#[],#[],[]⟩ with heap:=(World.holding Tryz.prog os ⟨#[],#[],[]⟩).heap.modify 2 fun
     | .cells _ t frozen=>.cells zD2 t frozen
     | o=>o }
theorem qL4{H:Type}{enc:TypeId×Value->H}{W:World}{fuel:Nat}{a0:Option Addr}{len cap:Nat}{d:DataW H}{p:List MemPlace}(hf:DataW.trod enc Tryz.prog W 0 (λ_=>true) true fuel 22 (Value.slice a0 len cap).cells.toList=some (d,p))(hlt:∀x∈p,x.block<W.heap.size):
  ∃ops,ScriptW W (.slice a0 len cap) ops/\ops.length=len/\(len≠0->∃elems spare,d=.slice elems spare/\len<=elems.length+spare.length):=by
 by_cases hl0:len=0
 ·subst hl0
  exact⟨[],.inl ⟨⟨_,_,rfl⟩,rfl⟩,rfl,λh=>absurd rfl h⟩
 ·rcases open_slice Tryz.underlying22 hf with ⟨hcs,hx⟩ | ⟨a,len',cap',k,n,D,Pl,hcs,_,hl,hm,hk,hx,hcell⟩
  ·simp[Value.cells]at hcs
   exact absurd hcs.2.1 hl0
  ·simp[Value.cells]at hcs
   obtain⟨rfl,rfl,rfl⟩:=hcs
   simp only[Prod.mk.injEq]at hx
   obtain⟨rfl,rfl⟩:=hx
   simp only[if_true]at hk
   subst k
   rw[qSs]at hcell
   obtain⟨b,off,spot⟩:=a
   have hspot:spot=none:=by
    obtain⟨cs',h1,_⟩:=hcell 0 (by omega)
    obtain⟨_,h2,h3⟩:=World.cells?_some h1
    have h4:=h3 0 (by omega)
    rw[List.getElem?_eq_getElem (by omega)]at h4
    simpa[Addr.add] using World.cell?_spot h4
   subst hspot
   have hbW:b<W.heap.size:=hlt (.cell b off) (List.mem_append_left _ (MemPlace.mem_row.2 ⟨0,by rw[qSs];omega,by simp⟩))
   have hops:∀i,i<len->∃o:OpM,W.rangeAt b (off+i*26) o.cells:=by
    intro i hi
    obtain⟨cs',h1,h2⟩:=hcell i (by omega)
    obtain⟨V,bs,rfl,_⟩:=zE5 h2
    obtain⟨_,h3,h4⟩:=World.cells?_some h1
    refine⟨opOf V bs,λj v hv=>?_⟩
    have hj:j<26:=by have:=(List.getElem?_eq_some_iff.1 hv).1;omega
    have:=h4 j hj
    rw[add_add,add_plain,hv,<-Nat.add_assoc]at this
    exact this
   haveI:Inhabited OpM:=⟨o1⟩
   obtain⟨O,hO⟩:=choose_lt (α:=OpM) hops
   refine⟨(List.range len).map O,.inr ⟨b,off,cap,by simp,by simpa using hl,?_,hbW⟩,by simp,λ_=>⟨_,_,rfl,by simp⟩⟩
   intro i o ho
   have hi:i<len:=by have:=(List.getElem?_eq_some_iff.1 ho).1;simpa using this
   have:O i=o:=by simpa[hi] using ho
   rw[<-this]
   exact hO i hi
end
end Go.Proofs.YtahnliehdjncdabGreatDoor
