import Derived.Test.YtahnliehdjncdaaGreatDoorXBM
import Derived.Test.YtahnliehdjncdaaGreatDoorXBN
set_option maxRecDepth 100000
set_option maxHeartbeats 16000000
namespace Go.Proofs.YtahnliehdjncdaaGreatDoor
section
open Go.RowKit
def qOp(id a:Int): OpM:=⟨4,id,a,0,0,qR3,qAa⟩
theorem qZq(id a:Int)(w:World): (qA5 40 #[(0,.int .i64 4),(1,.int .i64 id),(2,.int .i64 a)]).run Tryz.prog w=.ok (.value (.agg (qOp id a).cells.toArray)) w:=by kernel_rfl
theorem qZg(id a:Int)(w:World): (qS7 22 1 #[(0,.agg #[.int .i64 4,.int .i64 id,.int .i64 a,.int .i64 0,.int .i64 0,.int .i64 0,.int .i64 0,.int .i64 0,.int .i64 0,.int .i64 0,.int .i64 0,.int .i64 0,.int .i64 0,.int .i64 0,.int .i64 0,.int .i64 0,.int .i64 0,.int .i64 0,.int .i64 0,.int .i64 0,.int .i64 0,.int .i64 0,.int .i64 0,.int .i64 0,.int .i64 0,.string ⟨#[]⟩])]).run Tryz.prog w=.ok (.value (.slice (some ⟨w.heap.size,0,none⟩) 1 1)) (w.alloc (.cells #[.int .i64 4,.int .i64 id,.int .i64 a,.int .i64 0,.int .i64 0,.int .i64 0,.int .i64 0,.int .i64 0,.int .i64 0,.int .i64 0,.int .i64 0,.int .i64 0,.int .i64 0,.int .i64 0,.int .i64 0,.int .i64 0,.int .i64 0,.int .i64 0,.int .i64 0,.int .i64 0,.int .i64 0,.int .i64 0,.int .i64 0,.int .i64 0,.int .i64 0,.string ⟨#[]⟩] 40)):=by kernel_rfl
theorem qW0{w:World}{base g n cap:Nat}{l:List Ans}{t:List OpM}(h:ARep w base (.slice (some ⟨g,0,none⟩) n cap) l)(hm:l.map (λx=>(x.code,x.nums))=qJb ws0 t): CodesAt w g (qBo t):=by
 intro i hi
 have hl:l.length=t.length:=by have:=congrArg List.length hm;rwa [List.length_map,qFt]at this
 rw[qG5]at hi
 obtain⟨x,hx⟩:∃x,l[i]?=some x:=⟨l[i]'(by omega),List.getElem?_eq_getElem _⟩
 obtain⟨g',e,a0,_,_⟩:=qOt h i x hx
 have e1:some (x.code,x.nums)=(qJb ws0 t)[i]?:=by rw[<-hm,List.getElem?_map,hx];rfl
 have e2:qEg (qBo t) i=x.code:=by
  unfold qEg qBo
  rw[List.getD_eq_getElem?_getD,List.getElem?_map,<-e1]
  rfl
 rw[e2]
 injection e with e3
 injection e3 with e3
 rw[e3]
 exact a0
end
end Go.Proofs.YtahnliehdjncdaaGreatDoor
