import Derived.Test.YtahnliehdjncdaaGreatDoorXAX
import Derived.Test.YtahnliehdjncdaaGreatDoorXAT
import Derived.Laws.MathBits
import Derived.Lib.Tables
import Derived.Test.YtahnliehdjncdaaGreatDoorXAI
import Derived.Test.YtahnliehdjncdaaGreatDoorXAN
import Derived.Test.YtahnliehdjncdaaGreatDoorXAU
import Derived.Laws.MakeOwn
import Derived.Test.YtahnliehdjncdaaGreatDoorXAG
import Derived.Test.YtahnliehdjncdaaGreatDoorXAS
import Derived.Deep.LoopGhost
import Derived.Test.YtahnliehdjncdaaGreatDoorXAA
import Derived.Test.YtahnliehdjncdaaGreatDoorXAV
set_option maxRecDepth 100000
set_option maxHeartbeats 16000000
namespace Go.Proofs.YtahnliehdjncdaaGreatDoor
section
open Go.RowKit
attribute [local go_sem ↓] Mk.execOp_fieldMk
attribute [local go_sem] Mk.run_fieldMk0 Mk.run_fieldMk1
def zEo(l:List Bk): List Int:=l.flatMap λb=>[b.sz,b.t]
def savR(l:List Bk)(t:Int): List Int:=((l.length-Mk.pastN l t:Nat):Int)::zEo (l.drop (Mk.pastN l t))
def savD(ls:Nat->List Bk)(n:Nat)(t:Int): List Int:=(List.range n).flatMap λi=>savR (ls i) t
end
section
open Go.RowKit
attribute [local go_sem ↓] Pa.execOp_loadP Pa.execOp_storeP qD7 qDo qDq qFb
attribute [local go_sem] Pa.run_loadP qGe qFd qFc qBb qAc qAb qHn qGb
def rowN(wd:Nat)(cs:List Int)(r:Nat): List Int:=(List.range wd).map λj=>cs.getD (r*16+j) 0
def zD5(rs wd:Nat)(cs:List Int): List Int:=(List.range rs).flatMap (rowN wd cs)
def paneN(c:Cfg)(p:Pa.Pn): List Int:=p.no::zD5 c.rows.toNat c.width.toNat p.cs
def zD7(c:Cfg)(l:List Pa.Pn): List Int:=l.flatMap (paneN c)
def savO(c:Cfg)(o:Pa.Pn)(cl:List Pa.Pn)(t:Int): List Int:=((qG2 c o cl t).length:Int)::zD7 c (qG2 c o cl t)
end
section
open Go.RowKit
def qXc(v:Value): Sem Next:=do pure (.value (<-Instr.field 211 v 1))
theorem qMl(ρ:Operand->Value)(dst:Option Tmp)(x:Operand)(ty:TypeId)(pos:String)(after:Array Edge)(guard:Option (Nat×Bool)):
  execOp ρ { dst,op:=.field 211 x 1,type:=ty,pos,after,guard }=qXc (ρ x):=rfl
theorem qRo(a b:Value)(w:World): (qXc (.agg #[a,b])).run Tryz.prog w=.ok (.value b) w:=by kernel_rfl
attribute [local go_sem ↓] qEs qMl
attribute [local go_sem] qGw qRo
def endZ(l:List Bk)(sz:Int)(s:Nat): Nat:=s+((l.drop s).takeWhile (λb=>decide (b.sz=sz))).length
def savB(l:List Bk): Nat->Nat->List Int
 | 0,_=>[]
 | f+1,s=>((endZ l (2 ^ f) s-s:Nat):Int)::(((l.drop s).take (endZ l (2 ^ f) s-s)).map (·.t)++savB l f (endZ l (2 ^ f) s))
def zBe(l:List Bk): Nat:=if l.length=0 then 0 else bitLen (qBn l 0).sz.toNat
def savC(l:List Bk): List Int:=(zBe l:Int)::savB l (zBe l) 0
end
section
open Go.RowKit
def savN(k:Nat)(c:Cfg)(nt:Note)(m:Int): List Int :=
 if k=4 then[nt.q,nt.r] else if k=1 then savC nt.bs else if k=2 then savD nt.rg (zA7 c) (m-c.window)
 else if k=3 then savO c nt.op nt.cl (m-c.window) else if k=5 then savT (Dr.allL (nt.tk.length+1) nt.tk) else[]
end
end Go.Proofs.YtahnliehdjncdaaGreatDoor
namespace Go.Proofs.YtahnliehdjncdaaGreatDoor.Qi
open Go.RowKit
def allL: Nat->List It->List It
 | 0,_=>[]
 | f+1,l=>if l.length=0 then[] else itAt l 0::allL f (takeL l)
end Go.Proofs.YtahnliehdjncdaaGreatDoor.Qi
namespace Go.Proofs.YtahnliehdjncdaaGreatDoor
section
open Go.RowKit
attribute [local go_sem ↓] qAd qAe
attribute [local go_sem] qAi qAj qAc qAb qAm qAn qAg qAh qAk qAo
def itemN(k:Nat)(y:It): List Int:=y.n::(zEf k).map (λj=>[y.t,y.k,y.d].getD j 0)
def bufN(k:Nat)(l:List It): List Int:=l.flatMap (itemN k)
def zCh(x:Ser): List Int:=x.id::(zBw x.k x.c++(qQu.map (qAu x.ref)++[x.rel,(x.l.length:Int)]))
def zC3(clock:Int)(x:Ser): List Int:=zCh x++(bufN x.k (Qi.allL (x.l.length+1) x.l)++savN x.k x.c x.nt (clock-x.c.lag))
attribute [local go_sem] ix0 ix1 ix2 ix3 ix4 ix5 ix6
end
end Go.Proofs.YtahnliehdjncdaaGreatDoor
