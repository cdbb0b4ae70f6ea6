import Derived.Deep.Slices
import Derived.OpenShut
import Derived.ProofKit
import Derived.SizedLaws
import Derived.Test.YtahnliehdjncdabGreatDoorXBN
import Derived.Test.YtahnliehdjncdabGreatDoorRows
import Derived.Deep.DeepHandedRow
import Derived.Lib.LaidTab
import Derived.SevenTiedAt
import Derived.Test.YtahnliehdjncdabGreatDoorCards
import Derived.Test.YtahnliehdjncdabGreatDoorXAB
import Derived.Test.YtahnliehdjncdabGreatDoorTie
import Derived.Test.YtahnliehdjncdabGreatDoorXBO
set_option maxRecDepth 100000
set_option maxHeartbeats 16000000
namespace Go.Proofs.YtahnliehdjncdabGreatDoor
section
open Go.ChangeShapes Go.WideShapes Go.ChangeAt Go.RowKit Go.Deep
theorem cells3: Tryz.prog.cellsOf 3=1:=by kernel_rfl
section
variable {H:Type} {enc:TypeId×Value->H} {w:World} {base:Nat} {spare:Nat->Bool} {held:Bool}
def IntAt(cs:List Value)(i:Nat): Prop:=∃n,cs[i]?=some (.int .i64 n)/\(Lit.int .i64 n).wf=true
theorem zDi{m:Nat}{cs:List Value}{x:DataW H×List MemPlace}(h:DataW.trod enc Tryz.prog w base spare held m 3 cs=some x): IntAt cs 0:=by
 obtain⟨n,rfl,_,hw⟩:=DataW.trod_int Tryz.underlying3 h
 exact⟨n,rfl,hw⟩
end
end
section
open Go.ChangeShapes Go.WideShapes Go.ChangeAt Go.RowKit Go.Deep
theorem Tryz.own: ownKnob Tryz.prog.godebug=none:=by kernel_rfl
theorem Tryz.laidOut: laidOutB Tryz.prog=true:=by kernel_rfl
theorem Keeps.below{w w':World}(h:Keeps (λ_=>False) w w'): Below w.heap.size w w':=⟨h.os,h.tape,h.output,h.size,λk hk=>h.block k hk (λh=>h)⟩
theorem qK9{x:Int}(h:(Lit.int .i64 x).wf=true): -9223372036854775808<=x/\x<=9223372036854775807:=by
 simp[Lit.wf,IntKind.min,IntKind.max,IntKind.signed,IntKind.bits]at h
 omega
theorem gTab: Tryz.prog.globalNamed "math/bits.deBruijn64tab"=some 2:=by kernel_rfl
theorem qY0: (Tryz.prog.globals[2]?).map (·.type)=some 290:=by kernel_rfl
theorem zCj: Tryz.prog.cellsOf 290=64:=by kernel_rfl
theorem zB1: Tryz.prog.cellsOf 5=1:=by kernel_rfl
theorem zBi: Tryz.prog.underlying 5=some (.int .u8):=by kernel_rfl
def qNe: List Int:=Lib.deBruijn64tab.map λ(n:Nat)=>(n:Int)
def zCx: Array Value:=(qNe.map (.int .u8 ·)).toArray
theorem zEf{W:World}(h:laidMetH Tryz.prog [("math/bits.deBruijn64tab",Rows.laid_math_bits_deBruijn64tab)] W): Tab W:=by
 have ht:Lib.TabIs Tryz.prog W "math/bits.deBruijn64tab" .u8 qNe:=Lib.tabIs_of_head (rest:=[]) gTab qY0 Tryz.underlying290 zBi zB1 zCj h
 intro j hj
 have h1:=ht.cell gTab j (by simpa[qNe] using hj)
 rw[h1]
 unfold qNe
 rw[List.getD_eq_getElem?_getD,List.getD_eq_getElem?_getD,List.getElem?_map,List.getElem?_eq_getElem hj]
 rfl
noncomputable def qJ8(os:Os): World :=
 { World.holding Tryz.prog os ⟨#[],#[],[]⟩ with heap:=(World.holding Tryz.prog os ⟨#[],#[],[]⟩).heap.modify 2 fun
     | .cells _ t frozen=>.cells zCx t frozen
     | o=>o }
theorem zD1: Tryz.prog.bytesOf 3=8:=by kernel_rfl
theorem qYm{H:Type}{enc:TypeId×Value->H}{W:World}{fuel:Nat}{a0:Option Addr}{len cap:Nat}{d:DataW H}{p:List MemPlace}(hf:DataW.trod enc Tryz.prog W 0 (λ_=>true) true fuel 36 (Value.slice a0 len cap).cells.toList=some (d,p))(hlt:∀x∈p,x.block<W.heap.size)(hlen:len≠0->∀elems spare,d=.slice elems spare->len<=elems.length+spare.length->len<=140737488355328):
  ∃l,zDh W W.heap.size (.slice a0 len cap) l:=by
 by_cases hl0:len=0
 ·subst hl0
  exact⟨[],.inl ⟨⟨_,_,rfl⟩,rfl⟩⟩
 ·rcases open_slice Tryz.underlying36 hf with ⟨hcs,hx⟩ | ⟨a,len',cap',k,n,D,Pl,hcs,_,hl,hm,hk,hx,hcell⟩
  ·simp[Value.cells]at hcs
   exact absurd hcs.2.1 hl0
  ·simp[Value.cells]at hcs
   obtain⟨rfl,rfl,rfl⟩:=hcs
   simp only[Prod.mk.injEq]at hx
   obtain⟨rfl,rfl⟩:=hx
   simp only[if_true]at hk
   subst k
   rw[cells3]at hcell
   obtain⟨b,off,spot⟩:=a
   have hspot:spot=none:=by
    obtain⟨cs',h1,_⟩:=hcell 0 (by omega)
    obtain⟨_,h2,h3⟩:=World.cells?_some h1
    have h4:=h3 0 (by omega)
    rw[List.getElem?_eq_getElem (by omega)]at h4
    simpa[Addr.add] using World.cell?_spot h4
   subst hspot
   have hbW:b<W.heap.size:=hlt (.cell b off) (List.mem_append_left _ (MemPlace.mem_row.2 ⟨0,by rw[cells3];omega,by simp⟩))
   have hints:∀i,i<len->∃u:Int,W.cell? ⟨b,off+i,none⟩=some (.int .i64 u)/\-9223372036854775808<=u/\u<=9223372036854775807:=by
    intro i hi
    obtain⟨cs',h1,h2⟩:=hcell i (by omega)
    obtain⟨u,h5,h6⟩:=zDi h2
    obtain⟨_,h3,h4⟩:=World.cells?_some h1
    have:=h4 0 (by omega)
    rw[add_add,add_plain,h5,Nat.add_zero,Nat.mul_one]at this
    exact⟨u,this,qK9 h6⟩
   obtain⟨U,hU⟩:=choose_lt (α:=Int) hints
   refine⟨(List.range len).map U,.inr ⟨b,off,cap,by simp,by simp;omega,by simpa using hlen hl0 _ _ rfl (by simp),hbW,?_⟩⟩
   intro i u hu
   have hi:i<len:=by have:=(List.getElem?_eq_some_iff.1 hu).1;simpa using this
   have:U i=u:=by simpa[hi] using hu
   rw[<-this]
   exact hU i hi
end
end Go.Proofs.YtahnliehdjncdabGreatDoor
