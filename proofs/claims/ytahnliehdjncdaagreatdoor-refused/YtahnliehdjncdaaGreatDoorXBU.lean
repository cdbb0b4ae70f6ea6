import Derived.Test.YtahnliehdjncdaaGreatDoorXBT
set_option maxRecDepth 100000
set_option maxHeartbeats 16000000
namespace Go.Proofs.YtahnliehdjncdaaGreatDoor
section
open Go.RowKit
theorem qYh(l:List OpM): ∀s:WS,EInv 4611686018427387904 s.clock s.xs->∀x,x∈qJ5 qBq s l->x.2.length<=17:=by
 induction l with
 | nil=>intro s _ x h;cases h
 | cons o l ih =>
  intro s hs x h
  rcases List.mem_cons.1 h with h | h
  ·subst h
   unfold stepG
   split
   ·split <;> simp
   ·exact qPs o hs
  ·exact ih _ (qQk o hs) x h
theorem qMj(l:List OpM)(x:Int×List Int)(h:x∈qJ5 qBq ws0 l): x.2.length<=17:=qYh l ws0 (inv0.mono (by omega)) x h
end
end Go.Proofs.YtahnliehdjncdaaGreatDoor
