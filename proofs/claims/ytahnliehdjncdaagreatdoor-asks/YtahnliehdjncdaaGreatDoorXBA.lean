import Derived.Test.YtahnliehdjncdaaGreatDoorXAZ
import Derived.Test.YtahnliehdjncdaaGreatDoorXAW
import Derived.Test.YtahnliehdjncdaaGreatDoorXAV
import Derived.Laws.MathBits
import Derived.Lib.Tables
import Derived.Test.YtahnliehdjncdaaGreatDoorXAJ
import Derived.Test.YtahnliehdjncdaaGreatDoorXAK
import Derived.Test.YtahnliehdjncdaaGreatDoorXAP
set_option maxRecDepth 100000
set_option maxHeartbeats 16000000
namespace Go.Proofs.YtahnliehdjncdaaGreatDoor
open Go.RowKit
attribute [local go_sem ↓] qAd qAe
attribute [local go_sem] qAi qAj qAb qAc qAm qAn qAk qAo
def cfgNums (k:Nat) (c:Cfg):List Int:=c.kind::([1,2,3].map c.num++((namedL k).map c.num++(seedsL (pairsN k c).toNat).map c.num))
end Go.Proofs.YtahnliehdjncdaaGreatDoor
namespace Go.Proofs.YtahnliehdjncdaaGreatDoor
open Go.RowKit
def savT (l:List Dr.It):List Int:=l.flatMap fun x=>[x.n,x.t,x.k,x.d]
end Go.Proofs.YtahnliehdjncdaaGreatDoor
namespace Go.Proofs.YtahnliehdjncdaaGreatDoor
open Go.RowKit
attribute [local go_sem ↓] Mk.execOp_fieldMk
attribute [local go_sem] Mk.run_fieldMk0 Mk.run_fieldMk1
def marksN (l:List Bk):List Int:=l.flatMap fun b=>[b.sz,b.t]
def savR (l:List Bk) (t:Int):List Int:=((l.length-Mk.pastN l t:Nat):Int)::marksN (l.drop (Mk.pastN l t))
def savD (ls:Nat→List Bk) (n:Nat) (t:Int):List Int:=(List.range n).flatMap fun i=>savR (ls i) t
end Go.Proofs.YtahnliehdjncdaaGreatDoor
namespace Go.Proofs.YtahnliehdjncdaaGreatDoor
open Go.RowKit
attribute [local go_sem ↓] Pa.execOp_loadP Pa.execOp_storeP qD5 qDq qDo qE3
attribute [local go_sem] Pa.run_loadP qF7 qFb qE7 qBb qAb qAc qHu qGb
def rowN (wd:Nat) (cs:List Int) (r:Nat):List Int:=(List.range wd).map fun j=>cs.getD (r*16+j) 0
def cellsN (rs wd:Nat) (cs:List Int):List Int:=(List.range rs).flatMap (rowN wd cs)
def paneN (c:Cfg) (p:Pa.Pn):List Int:=p.no::cellsN c.rows.toNat c.width.toNat p.cs
def panesN (c:Cfg) (l:List Pa.Pn):List Int:=l.flatMap (paneN c)
def savO (c:Cfg) (o:Pa.Pn) (cl:List Pa.Pn) (t:Int):List Int:=((qGu c o cl t).length:Int)::panesN c (qGu c o cl t)
end Go.Proofs.YtahnliehdjncdaaGreatDoor
namespace Go.Proofs.YtahnliehdjncdaaGreatDoor
open Go.RowKit
def qV6 (v:Value):Sem Next:=do pure (.value (←Instr.field 211 v 1))
theorem qLm (ρ:Operand→Value) (dst:Option Tmp) (x:Operand) (ty:TypeId) (pos:String) (after:Array Edge) (guard:Option (Nat×Bool)) :
  execOp ρ { dst,op:=.field 211 x 1,type:=ty,pos,after,guard }=qV6 (ρ x):=rfl
theorem qRc (a b:Value) (w:World):(qV6 (.agg #[a,b])).run Tryz.prog w=.ok (.value b) w:=by kernel_rfl
attribute [local go_sem ↓] qEq qLm
attribute [local go_sem] qGh qRc
def endZ (l:List Bk) (sz:Int) (s:Nat):Nat:=s+((l.drop s).takeWhile (fun b=>decide (b.sz=sz))).length
def savB (l:List Bk):Nat→Nat→List Int
 | 0,_=>[]
 | f+1,s=>((endZ l (2 ^ f) s-s:Nat):Int)::(((l.drop s).take (endZ l (2 ^ f) s-s)).map (·.t)++savB l f (endZ l (2 ^ f) s))
def sizesC (l:List Bk):Nat:=if l.length=0 then 0 else bitLen (bkAt l 0).sz.toNat
def savC (l:List Bk):List Int:=(sizesC l:Int)::savB l (sizesC l) 0
end Go.Proofs.YtahnliehdjncdaaGreatDoor
namespace Go.Proofs.YtahnliehdjncdaaGreatDoor
open Go.RowKit
def savN (k:Nat) (c:Cfg) (nt:Note) (m:Int):List Int :=
 if k=4 then [nt.q,nt.r] else if k=1 then savC nt.bs else if k=2 then savD nt.rg (regN c) (m-c.window)
 else if k=3 then savO c nt.op nt.cl (m-c.window) else if k=5 then savT (Dr.allL (nt.tk.length+1) nt.tk) else []
end Go.Proofs.YtahnliehdjncdaaGreatDoor
