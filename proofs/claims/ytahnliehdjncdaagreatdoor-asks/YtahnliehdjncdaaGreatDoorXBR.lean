import Derived.Test.YtahnliehdjncdaaGreatDoorXBH
import Derived.Test.YtahnliehdjncdaaGreatDoorXBQ
import Derived.Test.YtahnliehdjncdaaGreatDoorXBP
import Derived.Test.YtahnliehdjncdaaGreatDoorXBN
import Derived.Test.YtahnliehdjncdaaGreatDoorXBB
import Derived.Test.YtahnliehdjncdaaGreatDoorXBI
import Derived.Test.YtahnliehdjncdaaGreatDoorXBJ
import Derived.Test.YtahnliehdjncdaaGreatDoorXBM
set_option maxRecDepth 100000
set_option maxHeartbeats 16000000
namespace Go.Proofs.YtahnliehdjncdaaGreatDoor
section
open Go.RowKit
attribute [local go_sem ↓] qAd qAe
attribute [local go_sem] qAi qAj qAc qAb qAm qAn qAg qAh qAk qAo
def qE1(w:World)(e:Nat)(v:Value)(ps:List (RB×RSer))(x:RWS×Int×List Int)(r:Ending)(w':World): Prop :=
 ∃nv,r=.returned (qBu x.2.1 nv)/\w'.ownsRow w.heap.size 3 1 nv x.2.2.length (ints x.2.2)/\qIi w e v ps x.1 w'
theorem qEn{w w0 w1 w9:World}{e ob:Nat}{v:Value}{clock ticks:Int}{ps:List (RB×RSer)}{s':RWS}(hE:RWRep w e v clock ticks ps)(hk0:Keeps (λ_=>False) w w0)(h:qIi w0 e v ps s' w1)(hk:Keeps (λi=>i=ob+1) w1 w9)(hob:w.heap.size=ob)(hlt:ob+1<w0.heap.size): qIi w e v ps s' w9:=by
 obtain⟨v',ps',h1,h2,h3,h4⟩:=h
 have hsz:=hk0.size
 refine⟨v',ps',h1.keeps hk (λi hi hh=>?_),h2,?_,?_⟩
 ·rcases h4 i hi with h | h
  ·have:=hE.lt i h;omega
  ·omega
 ·exact((hk0.mono (M':=RFoot e v ps) (λ_ _ h=>h.elim)).then h3).trans hk (λi hi hl=>by omega)
 ·intro i hi
  rcases h4 i hi with h | h
  ·exact .inl h
  ·exact .inr (by omega)
theorem qR1(e:Nat)(v:Value)(clock ticks:Int)(ps:List (RB×RSer))(o:OpM)(w:World)(h:RWRep w e v clock ticks ps)(hl:ps.length<=6):
  Calls Tryz.prog 84 #[.pointer (some ⟨e,0,none⟩),o.val] w λr w'=>r=.returned (.int .i64 (qC3 ⟨clock,ticks,ps.map (·.2)⟩ o).2.1)/\(qC3 ⟨clock,ticks,ps.map (·.2)⟩ o).2.2=[]/\qIi w e v ps (qC3 ⟨clock,ticks,ps.map (·.2)⟩ o).1 w':=by
 by_cases hno:inB o.id 0 99=true/\qB2 ps o.id=none/\qA0 o.cfg=true/\ps.length≠6
 ·obtain⟨h1,h2,h3,h4⟩:=hno
  have he:qC3 ⟨clock,ticks,ps.map (·.2)⟩ o=(⟨clock,ticks,ps.map (·.2)++[qLx o.id o.cfg]⟩,0,[]):=by
   rw[qI7,if_pos ⟨h1,h2⟩,if_pos h3,if_neg h4]
  rw[he]
  refine(qR4 e v clock ticks ps o w h (by omega) h1 h2 h3).mono ?_
  rintro r w' ⟨rfl,hp⟩
  exact⟨rfl,rfl,hp⟩
 ·exact qVc e v clock ticks ps o w h (by omega) hno
theorem qVq(n:Int)(e:Nat)(v:Value)(clock ticks:Int)(ps:List (RB×RSer))(o:OpM)(w:World)(h:RWRep w e v clock ticks ps)(hi:RWInv n clock ticks (ps.map (·.2)))(h1k:o.kind≠1)(h2k:o.kind≠2)(h3k:o.kind≠3):
  Calls Tryz.prog 55 #[.pointer (some ⟨e,0,none⟩),o.val] w λr w'=>qE1 w e v ps (⟨clock,ticks,ps.map (·.2)⟩,1,[]) r w':=by
 have h1:o.cells[0]?=some (.int .i64 o.kind):=rfl
 have HE:=hide h
 have HI:=hide hi
 have hl:ps.length<=1000:=by have:=hi.six;rw[List.length_map]at this;omega
 clear h hi
 unfold OpM.val
 go_enter Tryz.func55,Tryz.ntmps55
 go_upto_region 1 with fail
 have hk0:Keeps (λ_=>False) w ((w.alloc (.cells o.cells.toArray 40)).alloc (.cells #[.int .i64 0,.slice none 0 0,.string ⟨#[]⟩] 33)):=((Keeps.refl (λ_=>False) w).alloc _).alloc _
 have HO0:=hide (show Blk ((w.alloc (.cells o.cells.toArray 40)).alloc (.cells #[.int .i64 0,.slice none 0 0,.string ⟨#[]⟩] 33)) w.heap.size o.cells 40 from(Blk.new w o.cells 40).alloc _)
 have HR0:=hide (show Blk ((w.alloc (.cells o.cells.toArray 40)).alloc (.cells #[.int .i64 0,.slice none 0 0,.string ⟨#[]⟩] 33)) (w.heap.size+1) [.int .i64 0,.slice none 0 0,.string qAa] 33 from Blk.newAt (by simp) [_,_,_] 33)
 have HE0:=hide ((uh HE).still hk0)
 have HK0:=hide hk0
 clear hk0
 generalize(w.alloc (.cells o.cells.toArray 40)).alloc (.cells #[.int .i64 0,.slice none 0 0,.string ⟨#[]⟩] 33)=w0 at *
 have HLT:=hide (show ∀i,RFoot e v ps i->i<w.heap.size from(uh HE).lt)
 generalize hob:w.heap.size=ob at *
 have HOB:=hide hob
 clear hob
 have hsz0:ob+1<w0.heap.size:=(uh HR0).lt
 obtain⟨hv0,hh0⟩:=qA4 (uh HO0) 26 rfl
 have o0:w0.cell? ⟨ob,0,none⟩=some (.int .i64 o.kind):=(uh HO0).cell rfl
 have o2:w0.cell? ⟨ob,2,none⟩=some (.int .i64 o.a):=(uh HO0).cell rfl
 have o3:w0.cell? ⟨ob,3,none⟩=some (.int .i64 o.b):=(uh HO0).cell rfl
 have b1:(o.kind==1)=false:=by simpa using h1k
 have b2:(o.kind==2)=false:=by simpa using h2k
 have b3:(o.kind==3)=false:=by simpa using h3k
 go_wp2_with fail
 refine(qF3 1 w0).mono ?_
 rintro r w1 ⟨rfl,hk1⟩
 unfold qBu
 have HR:=hide ((uh HR0).keeps hk1 (λh=>h))
 have HKN:=hide hk1
 clear hk1
 have r0:w1.cell? ⟨ob+1,0,none⟩=some (.int .i64 0):=(uh HR).cell rfl
 have r1:w1.cell? ⟨ob+1,1,none⟩=some (.slice none 0 0):=(uh HR).cell rfl
 have r2:w1.cell? ⟨ob+1,2,none⟩=some (.string qAa):=(uh HR).cell rfl
 have rf:=(uh HR).frozen
 have hrl:=(uh HR).lt
 go_wp2
 have hbf:=((((uh HR).setCell 0 (.int .i64 1)).setCell 1 (.slice none 0 0)).setCell 2 (.string qAa))
 have HKF:=hide (show Keeps (λi=>i=ob+1) w1 (((w1.setCell ⟨ob+1,0,none⟩ (.int .i64 1)).setCell ⟨ob+1,1,none⟩ (.slice none 0 0)).setCell ⟨ob+1,2,none⟩ (.string qAa)) from((((Keeps.refl (λi=>i=ob+1) w1).setCell (p:=⟨ob+1,0,none⟩) (Or.inl rfl) _).setCell (p:=⟨ob+1,1,none⟩) (Or.inl rfl) _).setCell (p:=⟨ob+1,2,none⟩) (Or.inl rfl) _))
 have e9:(((w1.setCell ⟨ob+1,0,none⟩ (.int .i64 1)).setCell ⟨ob+1,1,none⟩ (.slice none 0 0)).setCell ⟨ob+1,2,none⟩ (.string ⟨#[]⟩))=(((w1.setCell ⟨ob+1,0,none⟩ (.int .i64 1)).setCell ⟨ob+1,1,none⟩ (.slice none 0 0)).setCell ⟨ob+1,2,none⟩ (.string qAa)):=rfl
 first | rw[e9] | skip
 clear e9
 generalize(((w1.setCell ⟨ob+1,0,none⟩ (.int .i64 1)).setCell ⟨ob+1,1,none⟩ (.slice none 0 0)).setCell ⟨ob+1,2,none⟩ (.string qAa))=w9 at *
 have q0:w9.cell? ⟨ob+1,0,none⟩=some (.int .i64 1):=hbf.cell rfl
 have q1:w9.cell? ⟨ob+1,1,none⟩=some (.slice none 0 0):=hbf.cell rfl
 have q2:w9.cell? ⟨ob+1,2,none⟩=some (.string qAa):=hbf.cell rfl
 refine bodyPost_ret (v:=qBu (1) (.slice none 0 0)) (by simp[results,Tryz.results55,go_sem,q0,q1,q2,qBu]) rfl ?_
 exact⟨_,rfl,World.ownsRow_nil _ _ _ _,qEn (uh HE) (uh HK0) (qFu (uh HE0) (uh HKN)) (uh HKF) (uh HOB) hsz0⟩
theorem qTx(n:Int)(e:Nat)(v:Value)(clock ticks:Int)(ps:List (RB×RSer))(o:OpM)(w:World)(h:RWRep w e v clock ticks ps)(hi:RWInv n clock ticks (ps.map (·.2)))(hkd:o.kind=3)(ha:inB o.a 0 4611686018427387904=false):
  Calls Tryz.prog 55 #[.pointer (some ⟨e,0,none⟩),o.val] w λr w'=>qE1 w e v ps (⟨clock,ticks,ps.map (·.2)⟩,5,[]) r w':=by
 have h1:o.cells[0]?=some (.int .i64 o.kind):=rfl
 have HE:=hide h
 have HI:=hide hi
 have hl:ps.length<=1000:=by have:=hi.six;rw[List.length_map]at this;omega
 clear h hi
 unfold OpM.val
 go_enter Tryz.func55,Tryz.ntmps55
 go_upto_region 1 with fail
 have hk0:Keeps (λ_=>False) w ((w.alloc (.cells o.cells.toArray 40)).alloc (.cells #[.int .i64 0,.slice none 0 0,.string ⟨#[]⟩] 33)):=((Keeps.refl (λ_=>False) w).alloc _).alloc _
 have HO0:=hide (show Blk ((w.alloc (.cells o.cells.toArray 40)).alloc (.cells #[.int .i64 0,.slice none 0 0,.string ⟨#[]⟩] 33)) w.heap.size o.cells 40 from(Blk.new w o.cells 40).alloc _)
 have HR0:=hide (show Blk ((w.alloc (.cells o.cells.toArray 40)).alloc (.cells #[.int .i64 0,.slice none 0 0,.string ⟨#[]⟩] 33)) (w.heap.size+1) [.int .i64 0,.slice none 0 0,.string qAa] 33 from Blk.newAt (by simp) [_,_,_] 33)
 have HE0:=hide ((uh HE).still hk0)
 have HK0:=hide hk0
 clear hk0
 generalize(w.alloc (.cells o.cells.toArray 40)).alloc (.cells #[.int .i64 0,.slice none 0 0,.string ⟨#[]⟩] 33)=w0 at *
 have HLT:=hide (show ∀i,RFoot e v ps i->i<w.heap.size from(uh HE).lt)
 generalize hob:w.heap.size=ob at *
 have HOB:=hide hob
 clear hob
 have hsz0:ob+1<w0.heap.size:=(uh HR0).lt
 obtain⟨hv0,hh0⟩:=qA4 (uh HO0) 26 rfl
 have o0:w0.cell? ⟨ob,0,none⟩=some (.int .i64 3):=by rw[<-hkd];exact(uh HO0).cell rfl
 have o2:w0.cell? ⟨ob,2,none⟩=some (.int .i64 o.a):=(uh HO0).cell rfl
 have o3:w0.cell? ⟨ob,3,none⟩=some (.int .i64 o.b):=(uh HO0).cell rfl
 have hout:o.a<0\/(0<=o.a/\4611686018427387904<o.a):=by
  simp[inB]at ha;omega
 rcases hout with ha1 | ⟨ha1,ha2⟩
 all_goals
  go_wp2_with fail
  refine(qF3 5 w0).mono ?_
  rintro r w1 ⟨rfl,hk1⟩
  unfold qBu
  have HR:=hide ((uh HR0).keeps hk1 (λh=>h))
  have HKN:=hide hk1
  clear hk1
  have r0:w1.cell? ⟨ob+1,0,none⟩=some (.int .i64 0):=(uh HR).cell rfl
  have r1:w1.cell? ⟨ob+1,1,none⟩=some (.slice none 0 0):=(uh HR).cell rfl
  have r2:w1.cell? ⟨ob+1,2,none⟩=some (.string qAa):=(uh HR).cell rfl
  have rf:=(uh HR).frozen
  have hrl:=(uh HR).lt
  go_wp2
  have hbf:=((((uh HR).setCell 0 (.int .i64 5)).setCell 1 (.slice none 0 0)).setCell 2 (.string qAa))
  have HKF:=hide (show Keeps (λi=>i=ob+1) w1 (((w1.setCell ⟨ob+1,0,none⟩ (.int .i64 5)).setCell ⟨ob+1,1,none⟩ (.slice none 0 0)).setCell ⟨ob+1,2,none⟩ (.string qAa)) from((((Keeps.refl (λi=>i=ob+1) w1).setCell (p:=⟨ob+1,0,none⟩) (Or.inl rfl) _).setCell (p:=⟨ob+1,1,none⟩) (Or.inl rfl) _).setCell (p:=⟨ob+1,2,none⟩) (Or.inl rfl) _))
  have e9:(((w1.setCell ⟨ob+1,0,none⟩ (.int .i64 5)).setCell ⟨ob+1,1,none⟩ (.slice none 0 0)).setCell ⟨ob+1,2,none⟩ (.string ⟨#[]⟩))=(((w1.setCell ⟨ob+1,0,none⟩ (.int .i64 5)).setCell ⟨ob+1,1,none⟩ (.slice none 0 0)).setCell ⟨ob+1,2,none⟩ (.string qAa)):=rfl
  first | rw[e9] | skip
  clear e9
  generalize(((w1.setCell ⟨ob+1,0,none⟩ (.int .i64 5)).setCell ⟨ob+1,1,none⟩ (.slice none 0 0)).setCell ⟨ob+1,2,none⟩ (.string qAa))=w9 at *
  have q0:w9.cell? ⟨ob+1,0,none⟩=some (.int .i64 5):=hbf.cell rfl
  have q1:w9.cell? ⟨ob+1,1,none⟩=some (.slice none 0 0):=hbf.cell rfl
  have q2:w9.cell? ⟨ob+1,2,none⟩=some (.string qAa):=hbf.cell rfl
  refine bodyPost_ret (v:=qBu (5) (.slice none 0 0)) (by simp[results,Tryz.results55,go_sem,q0,q1,q2,qBu]) rfl ?_
  exact⟨_,rfl,World.ownsRow_nil _ _ _ _,qEn (uh HE) (uh HK0) (qFu (uh HE0) (uh HKN)) (uh HKF) (uh HOB) hsz0⟩
theorem qP5(n:Int)(e:Nat)(v:Value)(clock ticks:Int)(ps:List (RB×RSer))(o:OpM)(w:World)(h:RWRep w e v clock ticks ps)(hi:RWInv n clock ticks (ps.map (·.2)))(hkd:o.kind=3)(ha:inB o.a 0 4611686018427387904=true)(hb:inB o.b 0 100=false):
  Calls Tryz.prog 55 #[.pointer (some ⟨e,0,none⟩),o.val] w λr w'=>qE1 w e v ps (⟨clock,ticks,ps.map (·.2)⟩,12,[]) r w':=by
 have h1:o.cells[0]?=some (.int .i64 o.kind):=rfl
 have HE:=hide h
 have HI:=hide hi
 have hl:ps.length<=1000:=by have:=hi.six;rw[List.length_map]at this;omega
 clear h hi
 unfold OpM.val
 go_enter Tryz.func55,Tryz.ntmps55
 go_upto_region 1 with fail
 have hk0:Keeps (λ_=>False) w ((w.alloc (.cells o.cells.toArray 40)).alloc (.cells #[.int .i64 0,.slice none 0 0,.string ⟨#[]⟩] 33)):=((Keeps.refl (λ_=>False) w).alloc _).alloc _
 have HO0:=hide (show Blk ((w.alloc (.cells o.cells.toArray 40)).alloc (.cells #[.int .i64 0,.slice none 0 0,.string ⟨#[]⟩] 33)) w.heap.size o.cells 40 from(Blk.new w o.cells 40).alloc _)
 have HR0:=hide (show Blk ((w.alloc (.cells o.cells.toArray 40)).alloc (.cells #[.int .i64 0,.slice none 0 0,.string ⟨#[]⟩] 33)) (w.heap.size+1) [.int .i64 0,.slice none 0 0,.string qAa] 33 from Blk.newAt (by simp) [_,_,_] 33)
 have HE0:=hide ((uh HE).still hk0)
 have HK0:=hide hk0
 clear hk0
 generalize(w.alloc (.cells o.cells.toArray 40)).alloc (.cells #[.int .i64 0,.slice none 0 0,.string ⟨#[]⟩] 33)=w0 at *
 have HLT:=hide (show ∀i,RFoot e v ps i->i<w.heap.size from(uh HE).lt)
 generalize hob:w.heap.size=ob at *
 have HOB:=hide hob
 clear hob
 have hsz0:ob+1<w0.heap.size:=(uh HR0).lt
 obtain⟨hv0,hh0⟩:=qA4 (uh HO0) 26 rfl
 have o0:w0.cell? ⟨ob,0,none⟩=some (.int .i64 3):=by rw[<-hkd];exact(uh HO0).cell rfl
 have o2:w0.cell? ⟨ob,2,none⟩=some (.int .i64 o.a):=(uh HO0).cell rfl
 have o3:w0.cell? ⟨ob,3,none⟩=some (.int .i64 o.b):=(uh HO0).cell rfl
 obtain⟨ha1,ha2⟩:=qA9 ha
 have hout:o.b<0\/(0<=o.b/\100<o.b):=by
  simp[inB]at hb;omega
 rcases hout with hb1 | ⟨hb1,hb2⟩
 all_goals
  go_wp2_with fail
  refine(qF3 12 w0).mono ?_
  rintro r w1 ⟨rfl,hk1⟩
  unfold qBu
  have HR:=hide ((uh HR0).keeps hk1 (λh=>h))
  have HKN:=hide hk1
  clear hk1
  have r0:w1.cell? ⟨ob+1,0,none⟩=some (.int .i64 0):=(uh HR).cell rfl
  have r1:w1.cell? ⟨ob+1,1,none⟩=some (.slice none 0 0):=(uh HR).cell rfl
  have r2:w1.cell? ⟨ob+1,2,none⟩=some (.string qAa):=(uh HR).cell rfl
  have rf:=(uh HR).frozen
  have hrl:=(uh HR).lt
  go_wp2
  have hbf:=((((uh HR).setCell 0 (.int .i64 12)).setCell 1 (.slice none 0 0)).setCell 2 (.string qAa))
  have HKF:=hide (show Keeps (λi=>i=ob+1) w1 (((w1.setCell ⟨ob+1,0,none⟩ (.int .i64 12)).setCell ⟨ob+1,1,none⟩ (.slice none 0 0)).setCell ⟨ob+1,2,none⟩ (.string qAa)) from((((Keeps.refl (λi=>i=ob+1) w1).setCell (p:=⟨ob+1,0,none⟩) (Or.inl rfl) _).setCell (p:=⟨ob+1,1,none⟩) (Or.inl rfl) _).setCell (p:=⟨ob+1,2,none⟩) (Or.inl rfl) _))
  have e9:(((w1.setCell ⟨ob+1,0,none⟩ (.int .i64 12)).setCell ⟨ob+1,1,none⟩ (.slice none 0 0)).setCell ⟨ob+1,2,none⟩ (.string ⟨#[]⟩))=(((w1.setCell ⟨ob+1,0,none⟩ (.int .i64 12)).setCell ⟨ob+1,1,none⟩ (.slice none 0 0)).setCell ⟨ob+1,2,none⟩ (.string qAa)):=rfl
  first | rw[e9] | skip
  clear e9
  generalize(((w1.setCell ⟨ob+1,0,none⟩ (.int .i64 12)).setCell ⟨ob+1,1,none⟩ (.slice none 0 0)).setCell ⟨ob+1,2,none⟩ (.string qAa))=w9 at *
  have q0:w9.cell? ⟨ob+1,0,none⟩=some (.int .i64 12):=hbf.cell rfl
  have q1:w9.cell? ⟨ob+1,1,none⟩=some (.slice none 0 0):=hbf.cell rfl
  have q2:w9.cell? ⟨ob+1,2,none⟩=some (.string qAa):=hbf.cell rfl
  refine bodyPost_ret (v:=qBu (12) (.slice none 0 0)) (by simp[results,Tryz.results55,go_sem,q0,q1,q2,qBu]) rfl ?_
  exact⟨_,rfl,World.ownsRow_nil _ _ _ _,qEn (uh HE) (uh HK0) (qFu (uh HE0) (uh HKN)) (uh HKF) (uh HOB) hsz0⟩
theorem qVg(n:Int)(e:Nat)(v:Value)(clock ticks:Int)(ps:List (RB×RSer))(o:OpM)(w:World)(h:RWRep w e v clock ticks ps)(hi:RWInv n clock ticks (ps.map (·.2)))(hn:n<1099511627776)(hkd:o.kind=3)(ha:inB o.a 0 4611686018427387904=true)(hb:inB o.b 0 100=true):
  Calls Tryz.prog 55 #[.pointer (some ⟨e,0,none⟩),o.val] w λr w'=>qE1 w e v ps (⟨qDw clock o.a,ticks+1,(qBa (qDw clock o.a) (ticks+1) o.b (ps.map (·.2))).1⟩,0,[(qBa (qDw clock o.a) (ticks+1) o.b (ps.map (·.2))).2]) r w':=by
 have h1:o.cells[0]?=some (.int .i64 o.kind):=rfl
 have HE:=hide h
 have HI:=hide hi
 have hl:ps.length<=1000:=by have:=hi.six;rw[List.length_map]at this;omega
 clear h hi
 unfold OpM.val
 go_enter Tryz.func55,Tryz.ntmps55
 go_upto_region 1 with fail
 have hk0:Keeps (λ_=>False) w ((w.alloc (.cells o.cells.toArray 40)).alloc (.cells #[.int .i64 0,.slice none 0 0,.string ⟨#[]⟩] 33)):=((Keeps.refl (λ_=>False) w).alloc _).alloc _
 have HO0:=hide (show Blk ((w.alloc (.cells o.cells.toArray 40)).alloc (.cells #[.int .i64 0,.slice none 0 0,.string ⟨#[]⟩] 33)) w.heap.size o.cells 40 from(Blk.new w o.cells 40).alloc _)
 have HR0:=hide (show Blk ((w.alloc (.cells o.cells.toArray 40)).alloc (.cells #[.int .i64 0,.slice none 0 0,.string ⟨#[]⟩] 33)) (w.heap.size+1) [.int .i64 0,.slice none 0 0,.string qAa] 33 from Blk.newAt (by simp) [_,_,_] 33)
 have HE0:=hide ((uh HE).still hk0)
 have HK0:=hide hk0
 clear hk0
 generalize(w.alloc (.cells o.cells.toArray 40)).alloc (.cells #[.int .i64 0,.slice none 0 0,.string ⟨#[]⟩] 33)=w0 at *
 have HLT:=hide (show ∀i,RFoot e v ps i->i<w.heap.size from(uh HE).lt)
 generalize hob:w.heap.size=ob at *
 have HOB:=hide hob
 clear hob
 have hsz0:ob+1<w0.heap.size:=(uh HR0).lt
 obtain⟨hv0,hh0⟩:=qA4 (uh HO0) 26 rfl
 have o0:w0.cell? ⟨ob,0,none⟩=some (.int .i64 3):=by rw[<-hkd];exact(uh HO0).cell rfl
 have o2:w0.cell? ⟨ob,2,none⟩=some (.int .i64 o.a):=(uh HO0).cell rfl
 have o3:w0.cell? ⟨ob,3,none⟩=some (.int .i64 o.b):=(uh HO0).cell rfl
 obtain⟨ha1,ha2⟩:=qA9 ha
 obtain⟨hb1,hb2⟩:=qA9 hb
 go_wp2_with fail
 refine(qYq n e v clock ticks o.a o.b ps w0 (uh HE0) (uh HI) hn ha1 ha2 hb1 hb2).mono ?_
 rintro r w1 ⟨rfl,hpost⟩
 obtain⟨lf,hlf⟩:∃lf,lf=(qBa (qDw clock o.a) (ticks+1) o.b (ps.map (·.2))).2:=⟨_,rfl⟩
 rw[<-hlf]
 have HLF:=hide hlf
 clear hlf
 have hR1:=hpost
 obtain⟨v1,ps1,hE1,hx1,hkk1,hf1⟩:=hR1
 have HR1:=hide ((uh HR0).keeps hkk1 (λh=>by have:=uh HLT _ h;omega))
 have HP1:=hide hpost
 clear hE1 hx1 hkk1 hf1 hpost hv0 hh0 o0 o2 o3
 have HR:=HR1
 have r0:w1.cell? ⟨ob+1,0,none⟩=some (.int .i64 0):=(uh HR).cell rfl
 have r1:w1.cell? ⟨ob+1,1,none⟩=some (.slice none 0 0):=(uh HR).cell rfl
 have r2:w1.cell? ⟨ob+1,2,none⟩=some (.string qAa):=(uh HR).cell rfl
 have rf:=(uh HR).frozen
 have hrl:=(uh HR).lt
 have hrn:ob+1≠w1.heap.size:=by omega
 go_wp2
 have hbf:=((((uh HR).setCell 0 (.int .i64 0)).setCell 1 (.slice (some ⟨w1.heap.size,0,none⟩) 1 1)).setCell 2 (.string qAa)).alloc (.cells #[.int .i64 lf] 3)
 have HKF:=hide (show Keeps (λi=>i=ob+1) w1 ((((w1.setCell ⟨ob+1,0,none⟩ (.int .i64 0)).setCell ⟨ob+1,1,none⟩ (.slice (some ⟨w1.heap.size,0,none⟩) 1 1)).setCell ⟨ob+1,2,none⟩ (.string qAa)).alloc (.cells #[.int .i64 lf] 3)) from((((Keeps.refl (λi=>i=ob+1) w1).setCell (p:=⟨ob+1,0,none⟩) (Or.inl rfl) _).setCell (p:=⟨ob+1,1,none⟩) (Or.inl rfl) _).setCell (p:=⟨ob+1,2,none⟩) (Or.inl rfl) _).alloc _)
 have hbn:Blk ((((w1.setCell ⟨ob+1,0,none⟩ (.int .i64 0)).setCell ⟨ob+1,1,none⟩ (.slice (some ⟨w1.heap.size,0,none⟩) 1 1)).setCell ⟨ob+1,2,none⟩ (.string qAa)).alloc (.cells #[.int .i64 lf] 3)) w1.heap.size [.int .i64 lf] 3:=Blk.newAt (by simp) [_] 3
 have e9:((((w1.setCell ⟨ob+1,0,none⟩ (.int .i64 0)).setCell ⟨ob+1,1,none⟩ (.slice (some ⟨w1.heap.size,0,none⟩) 1 1)).setCell ⟨ob+1,2,none⟩ (.string ⟨#[]⟩)).alloc (.cells #[.int .i64 lf] 3))=((((w1.setCell ⟨ob+1,0,none⟩ (.int .i64 0)).setCell ⟨ob+1,1,none⟩ (.slice (some ⟨w1.heap.size,0,none⟩) 1 1)).setCell ⟨ob+1,2,none⟩ (.string qAa)).alloc (.cells #[.int .i64 lf] 3)):=rfl
 first | rw[e9] | skip
 clear e9
 generalize((((w1.setCell ⟨ob+1,0,none⟩ (.int .i64 0)).setCell ⟨ob+1,1,none⟩ (.slice (some ⟨w1.heap.size,0,none⟩) 1 1)).setCell ⟨ob+1,2,none⟩ (.string qAa)).alloc (.cells #[.int .i64 lf] 3))=w9 at *
 have q0:w9.cell? ⟨ob+1,0,none⟩=some (.int .i64 0):=hbf.cell rfl
 have q1:w9.cell? ⟨ob+1,1,none⟩=some (.slice (some ⟨w1.heap.size,0,none⟩) 1 1):=hbf.cell rfl
 have q2:w9.cell? ⟨ob+1,2,none⟩=some (.string qAa):=hbf.cell rfl
 refine bodyPost_ret (v:=qBu (0) (.slice (some ⟨w1.heap.size,0,none⟩) 1 1)) (by simp[results,Tryz.results55,go_sem,q0,q1,q2,qBu]) rfl ?_
 have hlf:=uh HLF
 subst hlf
 have hw1:w.heap.size<=w1.heap.size:=by have:=uh HOB;omega
 exact⟨_,rfl,⟨rfl,.inr ⟨w1.heap.size,1,_,rfl,hw1,hbn,by simp,by unfold maxLen;simp,rfl,rfl⟩⟩,qEn (uh HE) (uh HK0) (uh HP1) (uh HKF) (uh HOB) hsz0⟩
theorem qQl(n:Int)(e:Nat)(v:Value)(clock ticks:Int)(ps:List (RB×RSer))(o:OpM)(w:World)(h:RWRep w e v clock ticks ps)(hi:RWInv n clock ticks (ps.map (·.2)))(hkd:o.kind=1):
  Calls Tryz.prog 55 #[.pointer (some ⟨e,0,none⟩),o.val] w λr w'=>qE1 w e v ps (qC3 ⟨clock,ticks,ps.map (·.2)⟩ o) r w':=by
 have h1:o.cells[0]?=some (.int .i64 o.kind):=rfl
 have HE:=hide h
 have HI:=hide hi
 have hl:ps.length<=1000:=by have:=hi.six;rw[List.length_map]at this;omega
 clear h hi
 unfold OpM.val
 go_enter Tryz.func55,Tryz.ntmps55
 go_upto_region 1 with fail
 have hk0:Keeps (λ_=>False) w ((w.alloc (.cells o.cells.toArray 40)).alloc (.cells #[.int .i64 0,.slice none 0 0,.string ⟨#[]⟩] 33)):=((Keeps.refl (λ_=>False) w).alloc _).alloc _
 have HO0:=hide (show Blk ((w.alloc (.cells o.cells.toArray 40)).alloc (.cells #[.int .i64 0,.slice none 0 0,.string ⟨#[]⟩] 33)) w.heap.size o.cells 40 from(Blk.new w o.cells 40).alloc _)
 have HR0:=hide (show Blk ((w.alloc (.cells o.cells.toArray 40)).alloc (.cells #[.int .i64 0,.slice none 0 0,.string ⟨#[]⟩] 33)) (w.heap.size+1) [.int .i64 0,.slice none 0 0,.string qAa] 33 from Blk.newAt (by simp) [_,_,_] 33)
 have HE0:=hide ((uh HE).still hk0)
 have HK0:=hide hk0
 clear hk0
 generalize(w.alloc (.cells o.cells.toArray 40)).alloc (.cells #[.int .i64 0,.slice none 0 0,.string ⟨#[]⟩] 33)=w0 at *
 have HLT:=hide (show ∀i,RFoot e v ps i->i<w.heap.size from(uh HE).lt)
 generalize hob:w.heap.size=ob at *
 have HOB:=hide hob
 clear hob
 have hsz0:ob+1<w0.heap.size:=(uh HR0).lt
 obtain⟨hv0,hh0⟩:=qA4 (uh HO0) 26 rfl
 have o0:w0.cell? ⟨ob,0,none⟩=some (.int .i64 1):=by rw[<-hkd];exact(uh HO0).cell rfl
 have o2:w0.cell? ⟨ob,2,none⟩=some (.int .i64 o.a):=(uh HO0).cell rfl
 have o3:w0.cell? ⟨ob,3,none⟩=some (.int .i64 o.b):=(uh HO0).cell rfl
 go_wp2_with fail
 refine(qR1 e v clock ticks ps o w0 (uh HE0) (by have:=(uh HI).six;simpa using this)).mono ?_
 rintro r w1 ⟨rfl,hnil,hpost⟩
 have hR1:=hpost
 obtain⟨v1,ps1,hE1,hx1,hkk1,hf1⟩:=hR1
 have HR1:=hide ((uh HR0).keeps hkk1 (λh=>by have:=uh HLT _ h;omega))
 have HP1:=hide hpost
 clear hE1 hx1 hkk1 hf1 hpost hv0 hh0 o0 o2 o3
 generalize hcr:qC3 ⟨clock,ticks,ps.map (·.2)⟩ o=cr at *
 obtain⟨s',cd,nums⟩:=cr
 have hnil':nums=[]:=hnil
 subst hnil'
 have HCR:=hide hcr
 clear hnil hcr
 go_wp2_with fail
 refine(qF3 cd w1).mono ?_
 rintro r w2 ⟨rfl,hk1⟩
 unfold qBu
 have HR:=hide ((uh HR1).keeps hk1 (λh=>h))
 have HKN:=hide hk1
 clear hk1
 have r0:w2.cell? ⟨ob+1,0,none⟩=some (.int .i64 0):=(uh HR).cell rfl
 have r1:w2.cell? ⟨ob+1,1,none⟩=some (.slice none 0 0):=(uh HR).cell rfl
 have r2:w2.cell? ⟨ob+1,2,none⟩=some (.string qAa):=(uh HR).cell rfl
 have rf:=(uh HR).frozen
 have hrl:=(uh HR).lt
 go_wp2
 have hbf:=((((uh HR).setCell 0 (.int .i64 cd)).setCell 1 (.slice none 0 0)).setCell 2 (.string qAa))
 have HKF:=hide (show Keeps (λi=>i=ob+1) w2 (((w2.setCell ⟨ob+1,0,none⟩ (.int .i64 cd)).setCell ⟨ob+1,1,none⟩ (.slice none 0 0)).setCell ⟨ob+1,2,none⟩ (.string qAa)) from((((Keeps.refl (λi=>i=ob+1) w2).setCell (p:=⟨ob+1,0,none⟩) (Or.inl rfl) _).setCell (p:=⟨ob+1,1,none⟩) (Or.inl rfl) _).setCell (p:=⟨ob+1,2,none⟩) (Or.inl rfl) _))
 have e9:(((w2.setCell ⟨ob+1,0,none⟩ (.int .i64 cd)).setCell ⟨ob+1,1,none⟩ (.slice none 0 0)).setCell ⟨ob+1,2,none⟩ (.string ⟨#[]⟩))=(((w2.setCell ⟨ob+1,0,none⟩ (.int .i64 cd)).setCell ⟨ob+1,1,none⟩ (.slice none 0 0)).setCell ⟨ob+1,2,none⟩ (.string qAa)):=rfl
 first | rw[e9] | skip
 clear e9
 generalize(((w2.setCell ⟨ob+1,0,none⟩ (.int .i64 cd)).setCell ⟨ob+1,1,none⟩ (.slice none 0 0)).setCell ⟨ob+1,2,none⟩ (.string qAa))=w9 at *
 have q0:w9.cell? ⟨ob+1,0,none⟩=some (.int .i64 cd):=hbf.cell rfl
 have q1:w9.cell? ⟨ob+1,1,none⟩=some (.slice none 0 0):=hbf.cell rfl
 have q2:w9.cell? ⟨ob+1,2,none⟩=some (.string qAa):=hbf.cell rfl
 refine bodyPost_ret (v:=qBu (cd) (.slice none 0 0)) (by simp[results,Tryz.results55,go_sem,q0,q1,q2,qBu]) rfl ?_
 obtain⟨v1,ps1,hE1,hx1,hkk1,hf1⟩:=uh HP1
 have hP2:qIi w0 e v ps s' w2:=⟨v1,ps1,hE1.still (uh HKN),hx1,hkk1.trans (uh HKN) (λ_ h _=>h.elim),hf1⟩
 rw[uh HCR]
 exact⟨_,rfl,World.ownsRow_nil _ _ _ _,qEn (uh HE) (uh HK0) hP2 (uh HKF) (uh HOB) hsz0⟩
theorem qIk(n:Int)(e:Nat)(v:Value)(clock ticks:Int)(ps:List (RB×RSer))(o:OpM)(w:World)(h:RWRep w e v clock ticks ps)(hi:RWInv n clock ticks (ps.map (·.2)))(hkd:o.kind=2)(x:RWS×Int×List Int)(hx:x.2.2=[])(hx1:x.2.1≠0)(hcall:Calls Tryz.prog 85 #[.pointer (some ⟨e,0,none⟩),o.val] ((w.alloc (.cells o.cells.toArray 40)).alloc (.cells #[.int .i64 0,.slice none 0 0,.string ⟨#[]⟩] 33)) λr w'=>r=.returned (.tuple #[.int .i64 0,.int .i64 x.2.1])/\qIi ((w.alloc (.cells o.cells.toArray 40)).alloc (.cells #[.int .i64 0,.slice none 0 0,.string ⟨#[]⟩] 33)) e v ps x.1 w'):
  Calls Tryz.prog 55 #[.pointer (some ⟨e,0,none⟩),o.val] w λr w'=>qE1 w e v ps (x) r w':=by
 have HCALL:=hide hcall
 unfold OpM.val at HCALL
 clear hcall
 have h1:o.cells[0]?=some (.int .i64 o.kind):=rfl
 have HE:=hide h
 have HI:=hide hi
 have hl:ps.length<=1000:=by have:=hi.six;rw[List.length_map]at this;omega
 clear h hi
 unfold OpM.val
 go_enter Tryz.func55,Tryz.ntmps55
 go_upto_region 1 with fail
 have hk0:Keeps (λ_=>False) w ((w.alloc (.cells o.cells.toArray 40)).alloc (.cells #[.int .i64 0,.slice none 0 0,.string ⟨#[]⟩] 33)):=((Keeps.refl (λ_=>False) w).alloc _).alloc _
 have HO0:=hide (show Blk ((w.alloc (.cells o.cells.toArray 40)).alloc (.cells #[.int .i64 0,.slice none 0 0,.string ⟨#[]⟩] 33)) w.heap.size o.cells 40 from(Blk.new w o.cells 40).alloc _)
 have HR0:=hide (show Blk ((w.alloc (.cells o.cells.toArray 40)).alloc (.cells #[.int .i64 0,.slice none 0 0,.string ⟨#[]⟩] 33)) (w.heap.size+1) [.int .i64 0,.slice none 0 0,.string qAa] 33 from Blk.newAt (by simp) [_,_,_] 33)
 have HE0:=hide ((uh HE).still hk0)
 have HK0:=hide hk0
 clear hk0
 generalize(w.alloc (.cells o.cells.toArray 40)).alloc (.cells #[.int .i64 0,.slice none 0 0,.string ⟨#[]⟩] 33)=w0 at *
 have HLT:=hide (show ∀i,RFoot e v ps i->i<w.heap.size from(uh HE).lt)
 generalize hob:w.heap.size=ob at *
 have HOB:=hide hob
 clear hob
 have hsz0:ob+1<w0.heap.size:=(uh HR0).lt
 obtain⟨hv0,hh0⟩:=qA4 (uh HO0) 26 rfl
 have o0:w0.cell? ⟨ob,0,none⟩=some (.int .i64 2):=by rw[<-hkd];exact(uh HO0).cell rfl
 have o2:w0.cell? ⟨ob,2,none⟩=some (.int .i64 o.a):=(uh HO0).cell rfl
 have o3:w0.cell? ⟨ob,3,none⟩=some (.int .i64 o.b):=(uh HO0).cell rfl
 obtain⟨s',cd,nums⟩:=x
 have hx':nums=[]:=hx
 subst hx'
 have hcd:(cd !=0)=true:=by simpa using hx1
 clear hx hx1
 go_wp2_with fail
 refine(uh HCALL).mono ?_
 rintro r w1 ⟨rfl,hpost⟩
 have hR1:=hpost
 obtain⟨v1,ps1,hE1,hx1,hkk1,hf1⟩:=hR1
 have HR1:=hide ((uh HR0).keeps hkk1 (λh=>by have:=uh HLT _ h;omega))
 have HP1:=hide hpost
 clear hE1 hx1 hkk1 hf1 hpost hv0 hh0 o0 o2 o3
 go_wp2_with fail
 refine(qF3 cd w1).mono ?_
 rintro r w2 ⟨rfl,hk1⟩
 unfold qBu
 have HR:=hide ((uh HR1).keeps hk1 (λh=>h))
 have HKN:=hide hk1
 clear hk1
 have r0:w2.cell? ⟨ob+1,0,none⟩=some (.int .i64 0):=(uh HR).cell rfl
 have r1:w2.cell? ⟨ob+1,1,none⟩=some (.slice none 0 0):=(uh HR).cell rfl
 have r2:w2.cell? ⟨ob+1,2,none⟩=some (.string qAa):=(uh HR).cell rfl
 have rf:=(uh HR).frozen
 have hrl:=(uh HR).lt
 go_wp2
 have hbf:=((((uh HR).setCell 0 (.int .i64 cd)).setCell 1 (.slice none 0 0)).setCell 2 (.string qAa))
 have HKF:=hide (show Keeps (λi=>i=ob+1) w2 (((w2.setCell ⟨ob+1,0,none⟩ (.int .i64 cd)).setCell ⟨ob+1,1,none⟩ (.slice none 0 0)).setCell ⟨ob+1,2,none⟩ (.string qAa)) from((((Keeps.refl (λi=>i=ob+1) w2).setCell (p:=⟨ob+1,0,none⟩) (Or.inl rfl) _).setCell (p:=⟨ob+1,1,none⟩) (Or.inl rfl) _).setCell (p:=⟨ob+1,2,none⟩) (Or.inl rfl) _))
 have e9:(((w2.setCell ⟨ob+1,0,none⟩ (.int .i64 cd)).setCell ⟨ob+1,1,none⟩ (.slice none 0 0)).setCell ⟨ob+1,2,none⟩ (.string ⟨#[]⟩))=(((w2.setCell ⟨ob+1,0,none⟩ (.int .i64 cd)).setCell ⟨ob+1,1,none⟩ (.slice none 0 0)).setCell ⟨ob+1,2,none⟩ (.string qAa)):=rfl
 first | rw[e9] | skip
 clear e9
 generalize(((w2.setCell ⟨ob+1,0,none⟩ (.int .i64 cd)).setCell ⟨ob+1,1,none⟩ (.slice none 0 0)).setCell ⟨ob+1,2,none⟩ (.string qAa))=w9 at *
 have q0:w9.cell? ⟨ob+1,0,none⟩=some (.int .i64 cd):=hbf.cell rfl
 have q1:w9.cell? ⟨ob+1,1,none⟩=some (.slice none 0 0):=hbf.cell rfl
 have q2:w9.cell? ⟨ob+1,2,none⟩=some (.string qAa):=hbf.cell rfl
 refine bodyPost_ret (v:=qBu (cd) (.slice none 0 0)) (by simp[results,Tryz.results55,go_sem,q0,q1,q2,qBu]) rfl ?_
 obtain⟨v1,ps1,hE1,hx1,hkk1,hf1⟩:=uh HP1
 have hP2:qIi w0 e v ps s' w2:=⟨v1,ps1,hE1.still (uh HKN),hx1,hkk1.trans (uh HKN) (λ_ h _=>h.elim),hf1⟩
 exact⟨_,rfl,World.ownsRow_nil _ _ _ _,qEn (uh HE) (uh HK0) hP2 (uh HKF) (uh HOB) hsz0⟩
theorem qNk(n:Int)(e:Nat)(v:Value)(clock ticks:Int)(ps:List (RB×RSer))(o:OpM)(w:World)(h:RWRep w e v clock ticks ps)(hi:RWInv n clock ticks (ps.map (·.2)))(hn:n<1099511627776)(hkd:o.kind=2)(p:RB×RSer)(hf:qB2 ps o.id=some p)(hr:qB6 p.2 clock o=0):
  Calls Tryz.prog 55 #[.pointer (some ⟨e,0,none⟩),o.val] w λr w'=>qE1 w e v ps (⟨clock,ticks,qL0 (ps.map (·.2)) o.id (qUa p.2 o)⟩,0,[(p.2.items.length:Int)+1]) r w':=by
 have h1:o.cells[0]?=some (.int .i64 o.kind):=rfl
 have HE:=hide h
 have HI:=hide hi
 have hl:ps.length<=1000:=by have:=hi.six;rw[List.length_map]at this;omega
 clear h hi
 unfold OpM.val
 go_enter Tryz.func55,Tryz.ntmps55
 go_upto_region 1 with fail
 have hk0:Keeps (λ_=>False) w ((w.alloc (.cells o.cells.toArray 40)).alloc (.cells #[.int .i64 0,.slice none 0 0,.string ⟨#[]⟩] 33)):=((Keeps.refl (λ_=>False) w).alloc _).alloc _
 have HO0:=hide (show Blk ((w.alloc (.cells o.cells.toArray 40)).alloc (.cells #[.int .i64 0,.slice none 0 0,.string ⟨#[]⟩] 33)) w.heap.size o.cells 40 from(Blk.new w o.cells 40).alloc _)
 have HR0:=hide (show Blk ((w.alloc (.cells o.cells.toArray 40)).alloc (.cells #[.int .i64 0,.slice none 0 0,.string ⟨#[]⟩] 33)) (w.heap.size+1) [.int .i64 0,.slice none 0 0,.string qAa] 33 from Blk.newAt (by simp) [_,_,_] 33)
 have HE0:=hide ((uh HE).still hk0)
 have HK0:=hide hk0
 clear hk0
 generalize(w.alloc (.cells o.cells.toArray 40)).alloc (.cells #[.int .i64 0,.slice none 0 0,.string ⟨#[]⟩] 33)=w0 at *
 have HLT:=hide (show ∀i,RFoot e v ps i->i<w.heap.size from(uh HE).lt)
 generalize hob:w.heap.size=ob at *
 have HOB:=hide hob
 clear hob
 have hsz0:ob+1<w0.heap.size:=(uh HR0).lt
 obtain⟨hv0,hh0⟩:=qA4 (uh HO0) 26 rfl
 have o0:w0.cell? ⟨ob,0,none⟩=some (.int .i64 2):=by rw[<-hkd];exact(uh HO0).cell rfl
 have o2:w0.cell? ⟨ob,2,none⟩=some (.int .i64 o.a):=(uh HO0).cell rfl
 have o3:w0.cell? ⟨ob,3,none⟩=some (.int .i64 o.b):=(uh HO0).cell rfl
 go_wp2_with fail
 refine(qZh n e v clock ticks ps o w0 (uh HE0) (uh HI) hn p hf hr).mono ?_
 rintro r w1 ⟨rfl,hpost⟩
 have hR1:=hpost
 obtain⟨v1,ps1,hE1,hx1,hkk1,hf1⟩:=hR1
 have HR1:=hide ((uh HR0).keeps hkk1 (λh=>by have:=uh HLT _ h;omega))
 have HP1:=hide hpost
 clear hE1 hx1 hkk1 hf1 hpost hv0 hh0 o0 o2 o3
 have HR:=HR1
 generalize hnum:(p.2.items.length:Int)+1=num at *
 have HNUM:=hide hnum
 clear hnum
 have r0:w1.cell? ⟨ob+1,0,none⟩=some (.int .i64 0):=(uh HR).cell rfl
 have r1:w1.cell? ⟨ob+1,1,none⟩=some (.slice none 0 0):=(uh HR).cell rfl
 have r2:w1.cell? ⟨ob+1,2,none⟩=some (.string qAa):=(uh HR).cell rfl
 have rf:=(uh HR).frozen
 have hrl:=(uh HR).lt
 have hrn:ob+1≠w1.heap.size:=by omega
 go_wp2
 have hbf:=((((uh HR).setCell 0 (.int .i64 0)).setCell 1 (.slice (some ⟨w1.heap.size,0,none⟩) 1 1)).setCell 2 (.string qAa)).alloc (.cells #[.int .i64 num] 3)
 have HKF:=hide (show Keeps (λi=>i=ob+1) w1 ((((w1.setCell ⟨ob+1,0,none⟩ (.int .i64 0)).setCell ⟨ob+1,1,none⟩ (.slice (some ⟨w1.heap.size,0,none⟩) 1 1)).setCell ⟨ob+1,2,none⟩ (.string qAa)).alloc (.cells #[.int .i64 num] 3)) from((((Keeps.refl (λi=>i=ob+1) w1).setCell (p:=⟨ob+1,0,none⟩) (Or.inl rfl) _).setCell (p:=⟨ob+1,1,none⟩) (Or.inl rfl) _).setCell (p:=⟨ob+1,2,none⟩) (Or.inl rfl) _).alloc _)
 have hbn:Blk ((((w1.setCell ⟨ob+1,0,none⟩ (.int .i64 0)).setCell ⟨ob+1,1,none⟩ (.slice (some ⟨w1.heap.size,0,none⟩) 1 1)).setCell ⟨ob+1,2,none⟩ (.string qAa)).alloc (.cells #[.int .i64 num] 3)) w1.heap.size [.int .i64 num] 3:=Blk.newAt (by simp) [_] 3
 have e9:((((w1.setCell ⟨ob+1,0,none⟩ (.int .i64 0)).setCell ⟨ob+1,1,none⟩ (.slice (some ⟨w1.heap.size,0,none⟩) 1 1)).setCell ⟨ob+1,2,none⟩ (.string ⟨#[]⟩)).alloc (.cells #[.int .i64 num] 3))=((((w1.setCell ⟨ob+1,0,none⟩ (.int .i64 0)).setCell ⟨ob+1,1,none⟩ (.slice (some ⟨w1.heap.size,0,none⟩) 1 1)).setCell ⟨ob+1,2,none⟩ (.string qAa)).alloc (.cells #[.int .i64 num] 3)):=rfl
 first | rw[e9] | skip
 clear e9
 generalize((((w1.setCell ⟨ob+1,0,none⟩ (.int .i64 0)).setCell ⟨ob+1,1,none⟩ (.slice (some ⟨w1.heap.size,0,none⟩) 1 1)).setCell ⟨ob+1,2,none⟩ (.string qAa)).alloc (.cells #[.int .i64 num] 3))=w9 at *
 have q0:w9.cell? ⟨ob+1,0,none⟩=some (.int .i64 0):=hbf.cell rfl
 have q1:w9.cell? ⟨ob+1,1,none⟩=some (.slice (some ⟨w1.heap.size,0,none⟩) 1 1):=hbf.cell rfl
 have q2:w9.cell? ⟨ob+1,2,none⟩=some (.string qAa):=hbf.cell rfl
 refine bodyPost_ret (v:=qBu (0) (.slice (some ⟨w1.heap.size,0,none⟩) 1 1)) (by simp[results,Tryz.results55,go_sem,q0,q1,q2,qBu]) rfl ?_
 have hw1:w.heap.size<=w1.heap.size:=by have:=uh HOB;omega
 rw[uh HNUM]
 exact⟨_,rfl,⟨rfl,.inr ⟨w1.heap.size,1,_,rfl,hw1,hbn,by simp,by unfold maxLen;simp,rfl,rfl⟩⟩,qEn (uh HE) (uh HK0) (uh HP1) (uh HKF) (uh HOB) hsz0⟩
end
section
open Go.RowKit
theorem RInv.mono{n m:Int}{y:RSer}(h:RInv n y)(hm:n<=m): RInv m y:=by
 have h1:=h.items
 have h2:=h.events
 exact⟨h.valid,by omega,by omega,h.refl,λv hv=>by have:=h.refn v hv;omega,h.times⟩
theorem zAt{n:Int}(id:Int)(c:Cfg)(h:qA0 c=true)(hn:0<=n): RInv n (qLx id c):=by
 refine⟨h,by simpa[qLx] using hn,by simpa[qLx,qC2] using hn,rfl,?_,by simp[qLx]⟩
 intro v hv
 have:v=0:=by simpa[qLx] using hv
 omega
theorem qJ2{n:Int}(mark ticks:Int)(ht:ticks≠0)(f:Nat): ∀y:RSer,RInv n y->RInv n (qBf f y mark ticks):=by
 induction f with
 | zero=>intro y h;exact h
 | succ f ih =>
  intro y h
  unfold qBf
  rcases qFe y.items mark with ⟨h0,_⟩ | ⟨h1,h2,h3,_⟩
  ·rw[if_pos (by omega)];exact h
  ·rw[if_neg (by omega)]
   have hw:=qHw ticks ht y.items _ h2 h3
   have hr1:=qCo y.items
   have hr2:=qCo (qB0 y.items (qE8 y.items mark).toNat ticks)
   have hl:(qB0 y.items (qE8 y.items mark).toNat ticks).length=y.items.length:=by simp[qB0]
   have he:=h.events
   have hi:=h.items
   refine ih _ ⟨h.valid,?_,?_,h.refl,h.refn,?_⟩
   ·show((qB0 _ _ _).length:Int)<=n;omega
   ·show((y.events++[_]).length:Int)<=(qC2 (qB0 _ _ _)).length+n
    rw[List.length_append];simp;omega
   ·intro z hz
    rcases List.mem_or_eq_of_mem_set hz with hz | hz
    ·exact h.times z hz
    ·subst hz
     have:=h.times (rAt y.items (qE8 y.items mark).toNat) (by rw[qCc _ _ h2];exact List.getElem_mem _)
     exact this
theorem qV8{n:Int}{y:RSer}(clock b:Int)(h:RInv n y): RInv (n+1) (qMa clock b y):=by
 have hm:=h.mono (m:=n+1) (by omega)
 have he:=h.events
 refine⟨hm.valid,hm.items,?_,hm.refl,hm.refn,hm.times⟩
 show((y.events++[_]).length:Int)<=(qC2 y.items).length+(n+1)
 rw[List.length_append];simp;omega
theorem qK6(nc tk:Int)(xs:List RSer): ∀b,(qBa nc tk b xs).1.length=xs.length:=by
 induction xs with
 | nil=>intro b;rfl
 | cons y ys ih =>
  intro b
  simp only[qBa]
  split <;> simp[ih]
theorem qJz{nc tk:Int}{xs:List RSer}: ∀ {b:Int},0<=b->∀ {z:RSer},z∈(qBa nc tk b xs).1->∃y,y∈xs/\((y.c.kind≠1/\z=qA6 nc tk y)\/(y.c.kind=1/\∃b',0<=b'/\z=qMa nc b' (qA6 nc tk y))):=by
 induction xs with
 | nil=>intro b _ z hz;simp[qBa]at hz
 | cons y ys ih =>
  intro b hb z hz
  simp only[qBa]at hz
  split at hz
  ·rename_i hk
   rcases List.mem_cons.1 hz with hz | hz
   ·exact⟨y,by simp,.inr ⟨hk,b,hb,hz⟩⟩
   ·obtain⟨y',hy',h⟩:=ih (by omega) hz
    exact⟨y',by simp[hy'],h⟩
  ·rename_i hk
   rcases List.mem_cons.1 hz with hz | hz
   ·exact⟨y,by simp,.inl ⟨hk,hz⟩⟩
   ·obtain⟨y',hy',h⟩:=ih hb hz
    exact⟨y',by simp[hy'],h⟩
theorem qU4{y:RSer}{clock:Int}{o:OpM}(h:qB6 y clock o=0): clock-y.c.lag<o.a:=by
 unfold qB6 at h
 split at h
 ·split at h
  ·omega
  ·omega
 ·omega
theorem qUo{y:RSer}{clock:Int}{o:OpM}(h:qB6 y clock o=0): 0<=o.a/\o.a<=4611686018427387904:=by
 unfold qB6 at h
 split at h
 ·rename_i ha;exact qA9 ha
 ·omega
theorem qKi{xs:List RSer}{id:Int}{y z:RSer}(h:z∈qL0 xs id y): z∈xs\/z=y:=by
 induction xs with
 | nil=>simp[qL0]at h
 | cons a l ih =>
  unfold qL0 at h
  split at h
  ·rcases List.mem_cons.1 h with h | h
   ·exact .inr h
   ·exact .inl (by simp[h])
  ·rcases List.mem_cons.1 h with h | h
   ·exact .inl (by simp[h])
   ·rcases ih h with h | h
    ·exact .inl (by simp[h])
    ·exact .inr h
theorem qKw(xs:List RSer)(id:Int)(y:RSer): (qL0 xs id y).length=xs.length:=by
 induction xs with
 | nil=>rfl
 | cons a l ih =>
  unfold qL0
  split
  ·rfl
  ·simp[ih]
theorem qYf{n:Int}{s:RWS}(o:OpM)(h:RWInv n s.clock s.ticks s.xs)(hn:0<=n): RWInv (n+1) (qEk s o).1.clock (qEk s o).1.ticks (qEk s o).1.xs:=by
 have htn:=h.tn
 have hs:RWInv (n+1) s.clock s.ticks s.xs:=⟨h.c0,h.c1,h.t0,by omega,h.six,λx hx=>(h.sers x hx).mono (by omega),h.cnt⟩
 unfold qEk
 split
 ·unfold qC3
  split
  ·split
   ·split
    ·exact hs
    ·rename_i h2 h3
     have h6:=h.six
     refine⟨h.c0,h.c1,h.t0,by show s.ticks<=n+1;omega,by show(s.xs++[_]).length<=6;rw[List.length_append];simp;omega,λx hx=>?_,λx hx hk=>?_⟩
     ·rcases List.mem_append.1 hx with hx | hx
      ·exact hs.sers x hx
      ·rw[List.mem_singleton]at hx;subst hx;exact zAt _ _ h2 (by omega)
     ·rcases List.mem_append.1 hx with hx | hx
      ·exact h.cnt x hx hk
      ·rw[List.mem_singleton]at hx;subst hx;exact zA6 _ _ _
   ·exact hs
  ·exact hs
 ·split
  ·unfold zDs
   split
   ·exact hs
   ·rename_i y hf
    have hy:y∈s.xs:=List.mem_of_find?_eq_some hf
    have hyi:=h.sers y hy
    have hyl:=hyi.items
    split
    ·rename_i hr
     obtain⟨t0,t1⟩:=qUo hr
     refine⟨h.c0,h.c1,h.t0,by show s.ticks<=n+1;omega,by show(qL0 _ _ _).length<=6;rw[qKw];exact h.six,λz hz=>?_,λz hz hk=>?_⟩
     ·rcases qKi hz with hz | hz
      ·exact hs.sers z hz
      ·subst hz
       have hyn:=hyi.mono (m:=n+1) (by omega)
       refine⟨hyn.valid,?_,?_,hyn.refl,hyn.refn,?_⟩
       ·show((y.items++[_]).length:Int)<=n+1
        rw[List.length_append];simp;omega
       ·have:qC2 (qUa y o).items=qC2 y.items:=by
         show qC2 (y.items++[_])=_
         unfold qC2
         rw[List.filter_append,List.map_append];simp
        rw[this];exact hyn.events
       ·intro z hz
        rcases List.mem_append.1 hz with hz | hz
        ·exact hyn.times z hz
        ·rw[List.mem_singleton]at hz;subst hz;exact⟨t0,t1⟩
     ·rcases qKi hz with hz | hz
      ·exact h.cnt z hz hk
      ·subst hz
       exact qVk (h.cnt y hy hk) o (qU4 hr)
    ·refine⟨h.c0,h.c1,h.t0,by show s.ticks<=n+1;omega,by show(qL0 _ _ _).length<=6;rw[qKw];exact h.six,λz hz=>?_,λz hz hk=>?_⟩
     ·rcases qKi hz with hz | hz
      ·exact hs.sers z hz
      ·subst hz
       have hyn:=hyi.mono (m:=n+1) (by omega)
       refine⟨hyn.valid,hyn.items,hyn.events,by show(y.ref.set _ _).length=15;rw[List.length_set];exact hyn.refl,?_,hyn.times⟩
       intro v hv
       rcases List.mem_or_eq_of_mem_set hv with hv | hv
       ·exact hyn.refn v hv
       ·subst hv
        have:0<=qAu y.ref (qB6 y s.clock o).toNat/\qAu y.ref (qB6 y s.clock o).toNat<=n:=by
         have hrr:=qK7 y s.clock o
         refine hyi.refn _ ?_
         unfold qAu
         rw[List.getD_eq_getElem?_getD,List.getElem?_eq_getElem (by rw[hyi.refl];omega)]
         exact List.getElem_mem _
        omega
     ·rcases qKi hz with hz | hz
      ·exact h.cnt z hz hk
      ·subst hz
       have hc:=h.cnt y hy hk
       exact⟨hc.ok,hc.ts,hc.le,hc.wt⟩
  ·split
   ·unfold qT0
    split
    ·rename_i ha
     obtain⟨a0,a1⟩:=qA9 ha
     have hc0:=h.c0
     have hc1:=h.c1
     have ht0:=h.t0
     split
     ·rename_i hb
      have b0:=(qA9 hb).1
      have hcn:s.clock<=qDw s.clock o.a:=by unfold qDw;split <;> omega
      have hm0:0<=qDw s.clock o.a:=by omega
      have hm1:qDw s.clock o.a<=4611686018427387904:=by unfold qDw;split <;> omega
      refine⟨hm0,hm1,by show 0<=s.ticks+1;omega,by show s.ticks+1<=n+1;omega,by show(qBa _ _ _ _).1.length<=6;rw[qK6];exact h.six,λz hz=>?_,λz hz hk=>?_⟩
      ·obtain⟨y,hy,⟨_,rfl⟩ | ⟨_,b',_,rfl⟩⟩:=qJz b0 hz
       ·exact qJ2 _ _ (by omega) _ _ (hs.sers y hy)
       ·exact qV8 _ _ (qJ2 _ _ (by omega) _ _ (h.sers y hy))
      ·obtain⟨y,hy,⟨hky,rfl⟩ | ⟨hky,b',hb',rfl⟩⟩:=qJz b0 hz
       ·rw[qNa _ _ _ (by omega)]at hk;exact absurd hk hky
       ·obtain⟨la0,la1,_,_,_,_⟩:=(h.sers y hy).common
        have hvc:=qDk (k:=1) (h.sers y hy).valid hky rfl
        show CInv (qDw s.clock o.a) _
        exact qX4 (qPv (by omega) (h.cnt y hy hky) hcn (by omega) (by omega)) hb'
     ·exact hs
    ·exact hs
   ·exact hs
theorem qHr(f:Nat): ∀(y:RSer) (mark ticks:Int),(qBf f y mark ticks).c=y.c:=by
 induction f with
 | zero=>intro y m t;rfl
 | succ f ih =>
  intro y m t
  unfold qBf
  split
  ·rfl
  ·exact ih _ _ _
theorem qPk(n:Int)(e:Nat)(v:Value)(clock ticks:Int)(ps:List (RB×RSer))(o:OpM)(w:World)(h:RWRep w e v clock ticks ps)(hi:RWInv n clock ticks (ps.map (·.2)))(hn:n<1099511627776):
  Calls Tryz.prog 55 #[.pointer (some ⟨e,0,none⟩),o.val] w λr w'=>qE1 w e v ps (qEk ⟨clock,ticks,ps.map (·.2)⟩ o) r w':=by
 unfold qEk
 by_cases h1:o.kind=1
 ·rw[if_pos h1];exact qQl n e v clock ticks ps o w h hi h1
 rw[if_neg h1]
 by_cases h2:o.kind=2
 ·rw[if_pos h2]
  unfold zDs
  rw[qE0]
  have hk0:Keeps (λ_=>False) w ((w.alloc (.cells o.cells.toArray 40)).alloc (.cells #[.int .i64 0,.slice none 0 0,.string ⟨#[]⟩] 33)):=((Keeps.refl (λ_=>False) w).alloc _).alloc _
  cases hf:qB2 ps o.id with
  | none =>
   exact qIk n e v clock ticks ps o w h hi h2 (⟨clock,ticks,ps.map (·.2)⟩,2,[]) rfl (by simp) (zDe e v clock ticks ps o _ (h.still hk0) (by have:=hi.six;simp at this;omega) hf)
  | some p =>
   simp only[Option.map_some]
   by_cases hr:qB6 p.2 clock o=0
   ·rw[if_pos hr]
    exact qNk n e v clock ticks ps o w h hi hn h2 p hf hr
   ·rw[if_neg hr]
    exact qIk n e v clock ticks ps o w h hi h2 (⟨clock,ticks,qL0 (ps.map (·.2)) o.id (zBu p.2 (qB6 p.2 clock o).toNat)⟩,qB6 p.2 clock o,[]) rfl hr (qZd n e v clock ticks ps o _ (h.still hk0) hi (by omega) p hf hr)
 rw[if_neg h2]
 by_cases h3:o.kind=3
 ·rw[if_pos h3]
  unfold qT0
  by_cases ha:inB o.a 0 4611686018427387904=true
  ·rw[if_pos ha]
   by_cases hb:inB o.b 0 100=true
   ·rw[if_pos hb]
    exact qVg n e v clock ticks ps o w h hi hn h3 ha hb
   ·rw[if_neg hb]
    exact qP5 n e v clock ticks ps o w h hi h3 ha (by simpa using hb)
  ·rw[if_neg ha]
   exact qTx n e v clock ticks ps o w h hi h3 (by simpa using ha)
 ·rw[if_neg h3]
  exact qVq n e v clock ticks ps o w h hi h1 h2 h3
end
section
open Go.RowKit
attribute [local go_sem ↓] qAd qAe
attribute [local go_sem] qAi qAj qAc qAb qAm qAn qAg qAh qAk qAo
def qEm: RWS->List OpM->RWS
 | s,[]=>s
 | s,o::r=>qEm (qEk s o).1 r
theorem qX9(s:RWS)(l:List OpM)(o:OpM): qEm s (l++[o])=(qEk (qEm s l) o).1:=by
 induction l generalizing s with
 | nil=>rfl
 | cons a l ih=>exact ih _
theorem qTb{n:Int}{s:RWS}(l:List OpM)(h:RWInv n s.clock s.ticks s.xs)(hn:0<=n): RWInv (n+l.length) (qEm s l).clock (qEm s l).ticks (qEm s l).xs:=by
 induction l generalizing s n with
 | nil=>simpa[qEm] using h
 | cons a l ih =>
  have:=ih (qYf a h hn) (by omega)
  rw[List.length_cons,show n+((l.length+1:Nat):Int)=n+1+(l.length:Int) by omega]
  exact this
theorem zEb: RWInv 0 rs0.clock rs0.ticks rs0.xs:=⟨by simp[rs0],by simp[rs0],by simp[rs0],by simp[rs0],by simp[rs0],λx hx=>by simp[rs0]at hx,λx hx=>by simp[rs0]at hx⟩
theorem qFo{w:World}{v:Value}{ops:List OpM}(h:ScriptW w v ops): ∃a cap,v=.slice a ops.length cap/\∀i o,ops[i]?=some o->∃sb so,a=some ⟨sb,so,none⟩/\sb<w.heap.size/\w.rangeAt sb (so+i*26) o.cells:=by
 rcases h with ⟨⟨a,c,rfl⟩,rfl⟩ | ⟨sb,so,cap,rfl,_,h3,h4⟩
 ·exact⟨a,c,rfl,λi o ho=>by simp at ho⟩
 ·exact⟨_,cap,rfl,λi o ho=>⟨sb,so,rfl,h4,h3 i o ho⟩⟩
theorem qHe{w wr:World}{sb so:Nat}{o:OpM}(h:w.rangeAt sb so o.cells)(hlt:sb<w.heap.size)(hk:Keeps (λ_=>False) w wr): qAv wr sb so 26=.agg o.cells.toArray/\qA2 wr sb so 26=true:=by
 have hsb:=qAx h
 have hkp:=qAp (o:=so) (n:=26) hk (λh=>h) hlt
 refine⟨?_,by rw[hkp.2];exact hsb.2⟩
 rw[hkp.1];unfold qAv
 have:=hsb.1
 rw[show o.cells.length=26 from rfl]at this
 rw[this]
theorem qI9(v:Value)(ops:List OpM)(w:World)(hs:ScriptW w v ops)(hlen:ops.length<=651562446090):
  Calls Tryz.prog 52 #[v] w λr w'=>∃e vv ps,r=.returned (.pointer (some ⟨e,0,none⟩))/\RWRep w' e vv (qEm rs0 ops).clock (qEm rs0 ops).ticks ps/\ps.map (·.2)=(qEm rs0 ops).xs/\Keeps (λ_=>False) w w'/\(∀i,RFoot e vv ps i->w.heap.size<=i):=by
 obtain⟨a,cap,rfl,hsv⟩:=qFo hs
 have HSV:=hide hsv
 clear hs hsv
 generalize hn:ops.length=n at *
 have HN:=hide hn
 clear hn
 go_enter Tryz.func52,Tryz.ntmps52
 go_wp2_with fail
 have hbe:Blk (w.alloc (.cells #[.int .i64 0,.int .i64 0,.slice none 0 0] 111)) w.heap.size [.int .i64 0,.int .i64 0,.slice none 0 0] 111:=Blk.new w [.int .i64 0,.int .i64 0,.slice none 0 0] 111
 have HE1:=hide (show RWRep (w.alloc (.cells #[.int .i64 0,.int .i64 0,.slice none 0 0] 111)) w.heap.size (.slice none 0 0) 0 0 [] from⟨hbe,World.ownsRow_nil _ _ _ _,λp hp=>by simp at hp,List.Pairwise.nil,by simp[Value.ownBlock],λp hp=>by simp at hp⟩)
 have HK1:=hide ((Keeps.refl (λ_=>False) w).alloc (.cells #[.int .i64 0,.int .i64 0,.slice none 0 0] 111))
 clear hbe
 generalize w.alloc (.cells #[.int .i64 0,.int .i64 0,.slice none 0 0] 111)=w1 at *
 generalize hen:w.heap.size=e at *
 have HEN:=hide hen
 clear hen
 go_loopw [4] (λi wr=>∃(k:Nat) (vv:Value) (ps:List (RB×RSer)),k<=n/\i=.int .i64 k/\Hid (RWRep wr e vv (qEm rs0 (ops.take k)).clock (qEm rs0 (ops.take k)).ticks ps)/\Hid (ps.map (·.2)=(qEm rs0 (ops.take k)).xs)/\Hid (Keeps (λ_=>False) w wr)/\Hid (∀i,RFoot e vv ps i->e<=i)) (λi _=>n-(intOf i).toNat)
 case atStart =>
  refine⟨0,.slice none 0 0,[],by omega,rfl,HE1,rfl,HK1,λi hi=>?_⟩
  rcases hi with hi | hi | ⟨p,hp,_⟩
  ·omega
  ·simp[Value.ownBlock]at hi
  ·simp at hp
 case round =>
  obtain⟨k,vv,ps,hk,rfl,HEr,HXr,HKr,HLr⟩:=hrel
  by_cases hkn:k<n
  ·obtain⟨o,ho⟩:∃o,ops[k]?=some o:=⟨ops[k]'(by rw[uh HN];exact hkn),List.getElem?_eq_getElem _⟩
   have HO:=hide ho
   obtain⟨sb,so,ha,hlt,hra⟩:=uh HSV k o ho
   rw[<-uh HEN]at hlt
   obtain⟨hv0,hh0⟩:=qHe hra (by have:=uh HEN;omega) (uh HKr)
   subst ha
   have hk0:(0:Int)<=(k:Int):=by omega
   have hkn':(k:Int)<(n:Int):=by omega
   have hkl:(ops.take k).length=k:=by rw[List.length_take,uh HN];omega
   have hinv:RWInv (k:Int) (qEm rs0 (ops.take k)).clock (qEm rs0 (ops.take k)).ticks (ps.map (·.2)):=by
    have:=qTb (ops.take k) zEb (by omega)
    rw[hkl]at this
    rw[uh HXr]
    simpa using this
   have HINV:=hide hinv
   clear ho hra hkl hinv
   go_wp2_with fail
   refine(qPk k e vv _ _ ps o wr (uh HEr) (uh HINV) (by omega)).mono ?_
   rintro r w2 ⟨nv,rfl,_,v2,ps2,hE2,hx2,hk2,hf2⟩
   have HE2:=hide hE2
   have HX2:=hide hx2
   have HK2:=hide hk2
   have HF2:=hide hf2
   clear hE2 hx2 hk2 hf2 hv0 hh0
   unfold qBu
   go_wp2
   go_roundw
   case rel =>
    have htk:qEm rs0 (ops.take (k+1))=(qEk (qEm rs0 (ops.take k)) o).1:=by
     rw[List.take_add_one,uh HO]
     exact qX9 rs0 (ops.take k) o
    have hss:(⟨(qEm rs0 (ops.take k)).clock,(qEm rs0 (ops.take k)).ticks,ps.map (·.2)⟩:RWS)=qEm rs0 (ops.take k):=by
     rw[uh HXr]
    have hE2:=uh HE2
    have hX2:=uh HX2
    rw[hss]at hE2 hX2
    refine⟨k+1,v2,ps2,by omega,by go_num,by rw[htk];exact hE2,by rw[htk];exact hX2,?_,λi hi=>?_⟩
    ·exact(uh HKr).trans (uh HK2) (λi hi hlt=>by have:=uh HLr i hi;have:=uh HEN;omega)
    ·rcases uh HF2 i hi with h | h
     ·exact uh HLr i h
     ·have:=(uh HKr).size;have:=uh HEN;omega
   case measure=>simp[intOf];omega
  ·have hkm:k=n:=by omega
   subst hkm
   go_wp2
   go_ret
   have ht:ops.take k=ops:=List.take_of_length_le (by rw[uh HN];exact Nat.le_refl _)
   have hE:=uh HEr
   have hX:=uh HXr
   rw[ht]at hE hX
   exact⟨e,vv,ps,rfl,hE,hX,uh HKr,by rw[uh HEN];exact uh HLr⟩
end
section
structure RelS (x:Ser) (y:RSer):Prop where
 id:x.id=y.id
 c:x.c=y.c
 kind:x.c.kind=x.k
 acc:x.acc=y.items.length
 rel:x.rel=(qC2 y.items).length
 wait:(x.l.map (·.t)).Perm (qA7 y.items)
 heap:HeapL x.l
 tick:∀z,z∈y.items->0<=z.tick
 refs:∀j,j<12->qAu x.ref j=qAu y.ref j
 xr:x.ref.length=12
 yr:y.ref.length=15
 sum:x.k=4->x.nt.q*2305843009213693952+x.nt.r=qOn (λt=>qA3 (qAr x.c t)) (qC2 y.items)
 r0:0<=x.nt.r
 r1:x.nt.r<2305843009213693952
 bks:x.k=1->x.nt.bs=qAq y.c y.events
def RelL: List Ser->List RSer->Prop
 | [],[]=>True
 | x::xs,y::ys=>RelS x y/\RelL xs ys
 | _,_=>False
theorem RelL.length{xs:List Ser}{ys:List RSer}(h:RelL xs ys): xs.length=ys.length:=by
 induction xs generalizing ys with
 | nil=>cases ys with | nil=>rfl | cons y ys=>exact h.elim
 | cons x xs ih=>cases ys with | nil=>exact h.elim | cons y ys=>simp[ih h.2]
theorem RelL.append{xs:List Ser}{ys:List RSer}(h:RelL xs ys){x:Ser}{y:RSer}(hr:RelS x y): RelL (xs++[x]) (ys++[y]):=by
 induction xs generalizing ys with
 | nil=>cases ys with | nil=>exact⟨hr,trivial⟩ | cons y ys=>exact h.elim
 | cons x xs ih=>cases ys with | nil=>exact h.elim | cons y ys=>exact⟨h.1,ih h.2⟩
theorem RelL.find{xs:List Ser}{ys:List RSer}(h:RelL xs ys)(id:Int): (qH9 xs id=none/\qI2 ys id=none)\/∃x y,qH9 xs id=some x/\qI2 ys id=some y/\RelS x y:=by
 unfold qH9 qI2
 induction xs generalizing ys with
 | nil=>cases ys with | nil=>exact .inl ⟨rfl,rfl⟩ | cons y ys=>exact h.elim
 | cons x xs ih =>
  cases ys with
  | nil=>exact h.elim
  | cons y ys =>
   rw[List.find?_cons,List.find?_cons,<-h.1.id]
   cases (x.id==id) with
   | true=>exact .inr ⟨x,y,rfl,rfl,h.1⟩
   | false=>exact ih h.2
theorem RelL.upd{xs:List Ser}{ys:List RSer}(h:RelL xs ys)(id:Int){x':Ser}{y':RSer}(hr:RelS x' y'): RelL (qIm xs id x') (qL0 ys id y'):=by
 induction xs generalizing ys with
 | nil=>cases ys with | nil=>trivial | cons y ys=>exact h.elim
 | cons x xs ih =>
  cases ys with
  | nil=>exact h.elim
  | cons y ys =>
   unfold qIm qL0
   rw[<-h.1.id]
   cases (x.id==id) with
   | true=>exact⟨hr,h.2⟩
   | false=>exact⟨h.1,ih h.2⟩
theorem qWj(m:Int)(f:Nat): ∀x:Ser,x.l.length<f->HeapL x.l->0<=x.nt.r->x.nt.r<2305843009213693952 ->
  ∃R:List Int,(x.l.map (·.t)).Perm (R++(qFh f x m).l.map (·.t))/\(∀t,t∈R->t<=m)/\(∀t,t∈(qFh f x m).l.map (·.t)->m<t)/\HeapL (qFh f x m).l /\
   (qFh f x m).rel=x.rel+R.length/\(x.k=4->(qFh f x m).nt.q*2305843009213693952+(qFh f x m).nt.r=x.nt.q*2305843009213693952+x.nt.r+qOn (λt=>qA3 (qAr x.c t)) R) /\
   0<=(qFh f x m).nt.r/\(qFh f x m).nt.r<2305843009213693952/\(qFh f x m).acc=x.acc/\(qFh f x m).ref=x.ref:=by
 induction f with
 | zero=>intro x h;omega
 | succ f ih =>
  intro x hf hh r0 r1
  unfold qFh
  split
  ·rename_i he
   have hnil:x.l=[]:=List.isEmpty_iff.1 he
   exact⟨[],List.Perm.refl _,by simp,by simp[hnil],hh,by simp,λ_=>by simp[qOn],r0,r1,rfl,rfl⟩
  ·rename_i he
   have hne:x.l≠[]:=λh=>he (by rw[h];rfl)
   split
   ·rename_i hm
    refine⟨[],List.Perm.refl _,by simp,?_,hh,by simp,λ_=>by simp[qOn],r0,r1,rfl,rfl⟩
    intro t ht
    obtain⟨y,hy,rfl⟩:=List.mem_map.1 ht
    have:=hh.first_mem hy
    omega
   ·rename_i hm
    obtain⟨th,tp⟩:=take_heap x.l hh hne
    have hlen:(qDa x m).l.length=x.l.length-1:=takeL_length _
    have hpos:0<x.l.length:=List.length_pos_iff.2 hne
    have hr:0<=(qDa x m).nt.r/\(qDa x m).nt.r<2305843009213693952:=by
     show 0<=(qRb x.k x.c x.nt (itAt x.l 0) m).r/\(qRb x.k x.c x.nt (itAt x.l 0) m).r<2305843009213693952
     unfold qRb
     split
     ·show 0<=_%_/\_%_<_;omega
     ·repeat (first | exact⟨r0,r1⟩ | split)
    obtain⟨R,h1,h2,h3,h4,h5,h6,h7,h8,h9,h10⟩:=ih (qDa x m) (by omega) th hr.1 hr.2
    refine⟨(itAt x.l 0).t::R,?_,?_,h3,h4,?_,?_,h7,h8,h9,h10⟩
    ·have:=(tp.map (·.t)).symm
     refine this.trans ?_
     rw[List.map_cons,List.cons_append]
     exact List.Perm.cons _ h1
    ·intro t ht
     rcases List.mem_cons.1 ht with ht | ht
     ·omega
     ·exact h2 t ht
    ·rw[h5]
     show x.rel+1+(R.length:Int)=_
     simp only[List.length_cons];omega
    ·intro hk
     have:=h6 hk
     have e1:(qDa x m).nt.q=x.nt.q+(x.nt.r+qA3 (qAr x.c (itAt x.l 0).t))/2305843009213693952:=by
      show(qRb x.k x.c x.nt (itAt x.l 0) m).q=_;unfold qRb;rw[if_pos hk]
     have e2:(qDa x m).nt.r=(x.nt.r+qA3 (qAr x.c (itAt x.l 0).t))%2305843009213693952:=by
      show(qRb x.k x.c x.nt (itAt x.l 0) m).r=_;unfold qRb;rw[if_pos hk]
     rw[this,e1,e2]
     show _+qOn (λt=>qA3 (qAr x.c t)) R=_
     simp only[qOn]
     omega
theorem qT5(m:Int){T W R L:List Int}(h1:T.Perm W)(h2:T.Perm (R++L))(hR:∀t,t∈R->t<=m)(hL:∀t,t∈L->m<t):
  (W.filter (λt=>decide (t<=m))).Perm R/\(W.filter (λt=>decide (m<t))).Perm L:=by
 have h:=h1.symm.trans h2
 have a1:R.filter (λt=>decide (t<=m))=R:=List.filter_eq_self.2 (λt ht=>by simpa using hR t ht)
 have a2:L.filter (λt=>decide (t<=m))=[]:=List.filter_eq_nil_iff.2 (λt ht=>by have:=hL t ht;simp;omega)
 have a3:R.filter (λt=>decide (m<t))=[]:=List.filter_eq_nil_iff.2 (λt ht=>by have:=hR t ht;simp;omega)
 have a4:L.filter (λt=>decide (m<t))=L:=List.filter_eq_self.2 (λt ht=>by simpa using hL t ht)
 constructor
 ·have:=h.filter (λt=>decide (t<=m))
  rw[List.filter_append,a1,a2,List.append_nil]at this
  exact this
 ·have:=h.filter (λt=>decide (m<t))
  rw[List.filter_append,a3,a4,List.nil_append]at this
  exact this
theorem qZl(clock ticks:Int)(ht:0<ticks)(x:Ser)(y:RSer)(h:RelS x y): RelS (qBj clock x) (qA6 clock ticks y):=by
 unfold qBj qA6
 rw[<-h.c]
 obtain⟨i1,i2,i3,i4⟩:=qGo (clock-x.c.lag) ticks (by omega) (y.items.length+1) y (by have:=qCo y.items;omega)
 obtain⟨R,h1,h2,h3,h4,h5,h6,h7,h8,h9,h10⟩:=qWj (clock-x.c.lag) (x.l.length+1) x (by omega) h.heap h.r0 h.r1
 obtain⟨k1,k2,k3⟩:=qI3 (x.l.length+1) x (clock-x.c.lag)
 obtain⟨pR,pL⟩:=qT5 (clock-x.c.lag) h.wait h1 h2 h3
 have hrt:=qXx (clock-x.c.lag) ticks (by omega) y.items
 refine⟨by rw[k3,i2];exact h.id,by rw[k2,i3];exact h.c,by rw[k2,k1];exact h.kind,?_,?_,?_,h4,?_,?_,by rw[h10];exact h.xr,by rw[i4];exact h.yr,?_,h7,h8,?_⟩
 ·rw[h9,i1,List.length_map];exact h.acc
 ·rw[h5,i1,hrt.length_eq,List.length_append,pR.length_eq,h.rel];simp
 ·rw[i1,qT9 _ _ (by omega)];exact pL.symm
 ·intro z hz
  rw[i1]at hz
  obtain⟨z',hz',rfl⟩:=List.mem_map.1 hz
  unfold qDn
  split
  ·show 0<=ticks;omega
  ·exact h.tick z' hz'
 ·intro j hj;rw[h10,i4];exact h.refs j hj
 ·intro hk
  rw[k1]at hk
  rw[h6 hk,k2,i1,qQe _ hrt,qSh,qQe _ pR,h.sum hk]
 ·intro hk
  rw[k1]at hk
  have:=qQx clock ticks (by omega) x y hk h.c h.heap h.wait (h.bks hk)
  unfold qBj qA6 at this
  rw[<-h.c]at this
  exact this
theorem zAj(b:Int)(hb:1<=b)(n:Nat): ∀(p v:Int),1<=p->qDh b n p=some v->1<=v:=by
 induction n with
 | zero=>intro p v hp h;simp[qDh]at h;omega
 | succ n ih =>
  intro p v hp h
  unfold qDh at h
  split at h
  ·cases h
  ·refine ih _ v ?_ h
   have:=Int.mul_le_mul hp hb (by omega) (by omega)
   omega
theorem qUx(c:Cfg)(t v:Int)(h:qAr c t=some v): 1<=v:=by
 unfold qAr at h
 split at h
 ·cases h
 ·split at h
  ·exact zAj _ (by omega) _ 1 v (by omega) h
  ·split at h
   ·cases h
   ·rename_i h1 h2 h3
    have:=qJg ((t-c.mark)/c.half).toNat (by omega)
    injection h with h
    omega
theorem qSv(c:Cfg)(t:Int): (qA3 (qAr c t)=0)↔qAr c t=none:=by
 cases h:qAr c t with
 | none=>simp[qA3]
 | some v =>
  have hv:1<=v:=qUx c t v h
  simp[qA3];omega
theorem qX8(c:Cfg)(k:Nat)(o:OpM)(z:Int)(hkind:c.kind=k)(h1:1<=k)(h5:k<=5)(ha:inB o.a 0 4611686018427387904=true):
  (if qFr c k o.item≠0 then qFr c k o.item else z)=(if qJ7 c o.a=0 then 8 else if (qJ1 c&&!inB o.b 0 2147483648)=true then 10 else if (c.kind==5&&!inB o.c 1 2147483648)=true then 9 else z):=by
 have hwp:=qSv c o.a
 have hcases:k=1\/k=2\/k=3\/k=4\/k=5:=by omega
 unfold qJ7 qJ1
 rw[ha,hkind]
 rcases hcases with hk | hk | hk | hk | hk <;> subst hk
 ·show(if (0:Int)≠0 then 0 else z)=_
  simp
 ·show(if qPb o.item≠0 then qPb o.item else z)=_
  unfold qPb OpM.item
  cases inB o.b 0 2147483648 <;> simp
 ·show(if qPb o.item≠0 then qPb o.item else z)=_
  unfold qPb OpM.item
  cases inB o.b 0 2147483648 <;> simp
 ·show(if qFp c o.item≠0 then qFp c o.item else z)=_
  unfold qFp OpM.item
  simp only
  cases hq:qAr c o.a with
  | none=>simp[qA3]
  | some v=>rw[hq]at hwp;simp[qA3]at hwp ⊢;simp[hwp]
 ·show(if qJv c o.item≠0 then qJv c o.item else z)=_
  unfold qJv OpM.item
  simp only
  cases hq:qAr c o.a with
  | none=>simp[qA3]
  | some v =>
   rw[hq]at hwp
   simp[qA3]at hwp ⊢
   cases inB o.b 0 2147483648 <;> cases inB o.c 1 2147483648 <;> simp[hwp]
theorem qXj(x:Ser)(y:RSer)(clock:Int)(o:OpM)(h:RelS x y)(h1:1<=x.k)(h5:x.k<=5)(hacc:x.acc<4611686018427387904): qKb x clock o.item=qB6 y clock o:=by
 have hw:x.l.length=(qA7 y.items).length:=by have:=h.wait.length_eq;simpa using this
 unfold qKb qB6
 rw[<-h.c,<-hw]
 rw[if_neg (show ¬4611686018427387904<=x.acc by omega)]
 show(if inB o.a 0 4611686018427387904=true then if o.a<=clock-x.c.lag then 6 else if clock+x.c.skew<o.a then 7 else if qFr x.c x.k o.item≠0 then qFr x.c x.k o.item else if x.c.cap<=x.l.length then 11 else 0 else 5)=_
 by_cases ha:inB o.a 0 4611686018427387904=true
 ·rw[if_pos ha,if_pos ha]
  by_cases hl:o.a<=clock-x.c.lag
  ·rw[if_pos hl,if_pos hl]
  ·rw[if_neg hl,if_neg hl]
   by_cases hs:clock+x.c.skew<o.a
   ·rw[if_pos hs,if_pos (show clock<o.a-x.c.skew by omega)]
   ·rw[if_neg hs,if_neg (show ¬clock<o.a-x.c.skew by omega)]
    exact qX8 x.c x.k o _ h.kind h1 h5 ha
 ·rw[if_neg ha,if_neg ha]
structure RelW (D:Bool) (s:WS) (r:RWS):Prop where
 clock:s.clock=r.clock
 ticks:0<=r.ticks
 xs:RelL s.xs r.xs
 kinds:∀x,x∈s.xs->1<=x.k/\x.k<=5/\(D=true->x.k=1\/x.k=4)
 six:s.xs.length<=6
def okOp(D:Bool)(o:OpM): Prop:=(o.kind=5\/o.kind<=(if D then 4 else 3))/\(o.kind=1->qA0 o.cfg=true->D=true->o.cfg.kind=1\/o.cfg.kind=4)
theorem zDn(id:Int)(c:Cfg)(h:0<=c.kind): RelS (qCx id c c.kind.toNat) (qLx id c):=by
 refine⟨rfl,rfl,?_,rfl,rfl,List.Perm.refl _,?_,?_,?_,rfl,rfl,?_,Int.le_refl _,by show(0:Int)<_;omega,λ_=>rfl⟩
 ·show c.kind=(c.kind.toNat:Int);omega
 ·intro i _ hi;exact absurd hi (by simp[qCx])
 ·intro z hz;simp[qLx]at hz
 ·intro j hj
  have hc:j=0\/j=1\/j=2\/j=3\/j=4\/j=5\/j=6\/j=7\/j=8\/j=9\/j=10\/j=11:=by omega
  rcases hc with rfl | rfl | rfl | rfl | rfl | rfl | rfl | rfl | rfl | rfl | rfl | rfl <;> rfl
 ·intro _;rfl
theorem zCq(x:Ser)(y:RSer)(o:OpM)(h:RelS x y): RelS (qTg x o.item) (qUa y o):=by
 obtain⟨ph,pp⟩:=put_heap x.l (numbered o.item (x.acc+1)) h.heap
 have e1:qA7 (qUa y o).items=qA7 y.items++[o.a]:=by
  show qA7 (y.items++[_])=_
  unfold qA7
  rw[List.filter_append,List.map_append];rfl
 have e2:qC2 (qUa y o).items=qC2 y.items:=by
  show qC2 (y.items++[_])=_
  unfold qC2
  rw[List.filter_append,List.map_append];simp
 refine⟨h.id,h.c,h.kind,?_,by rw[e2];exact h.rel,?_,ph,?_,h.refs,h.xr,h.yr,by rw[e2];exact h.sum,h.r0,h.r1,h.bks⟩
 ·show x.acc+1=((y.items++[_]).length:Int)
  rw[List.length_append,h.acc];simp
 ·rw[e1]
  refine(pp.map (·.t)).trans ?_
  rw[List.map_cons]
  exact(List.Perm.cons _ h.wait).trans (List.perm_append_singleton _ _).symm
 ·intro z hz
  rcases List.mem_append.1 hz with hz | hz
  ·exact h.tick z hz
  ·rw[List.mem_singleton]at hz;subst hz;exact Int.le_refl _
theorem zC9(x:Ser)(y:RSer)(c:Nat)(h:RelS x y)(hc:c<12)(hb:qAu x.ref c<4611686018427387904): RelS (qS9 x c) (zBu y c):=by
 refine⟨h.id,h.c,h.kind,h.acc,h.rel,h.wait,h.heap,h.tick,?_,by simp[qS9,h.xr],by simp[zBu,h.yr],h.sum,h.r0,h.r1,h.bks⟩
 intro j hj
 have hx:=h.xr
 have hy:=h.yr
 have hmin:qZo (qAu x.ref c+1) 4611686018427387904=qAu x.ref c+1:=by unfold qZo;split <;> omega
 show qAu (x.ref.set c (qZo (qAu x.ref c+1) 4611686018427387904)) j=qAu (y.ref.set c (qAu y.ref c+1)) j
 rw[hmin]
 have hs:∀(l:List Int) (v:Int),c<l.length->qAu (l.set c v) j=if c=j then v else qAu l j:=by
  intro l v hl
  unfold qAu
  rw[List.getD_eq_getElem?_getD,List.getElem?_set,List.getD_eq_getElem?_getD]
  by_cases he:c=j
  ·subst he;simp[hl]
  ·rw[if_neg he,if_neg he]
 rw[hs _ _ (by omega),hs _ _ (by omega),h.refs j hj,h.refs c hc]
theorem qQc(c:Cfg)(l:List RIt): ∀(hi lo:Int),(∀z,z∈l->0<=z.tick)->0<=lo->lo<2305843009213693952 ->
  (qEl c l hi lo).1*2305843009213693952+(qEl c l hi lo).2=hi*2305843009213693952+lo+qOn (λt=>qA3 (qAr c t)) (qC2 l)/\0<=(qEl c l hi lo).2/\(qEl c l hi lo).2<2305843009213693952:=by
 induction l with
 | nil=>intro hi lo _ h0 h1;exact⟨by simp[qEl,qC2,qOn],h0,h1⟩
 | cons z l ih =>
  intro hi lo hz h0 h1
  have hz0:=hz z (by simp)
  unfold qEl
  split
  ·rename_i ht
   obtain⟨i1,i2,i3⟩:=ih (hi+qA3 (qAr c z.t)/2305843009213693952+(lo+qA3 (qAr c z.t)%2305843009213693952)/2305843009213693952) ((lo+qA3 (qAr c z.t)%2305843009213693952)%2305843009213693952) (λy hy=>hz y (by simp[hy])) (by omega) (by omega)
   refine⟨?_,i2,i3⟩
   have e:qC2 (z::l)=z.t::qC2 l:=by
    unfold qC2;rw[List.filter_cons]
    have:(z.tick==0)=false:=by simp;omega
    simp[this]
   rw[i1,e]
   simp only[qOn]
   omega
  ·rename_i ht
   obtain⟨i1,i2,i3⟩:=ih hi lo (λy hy=>hz y (by simp[hy])) h0 h1
   refine⟨?_,i2,i3⟩
   have e:qC2 (z::l)=qC2 l:=by
    unfold qC2;rw[List.filter_cons]
    have:z.tick=0:=by omega
    simp[this]
   rw[i1,e]
theorem qY3(nc b:Int)(x:Ser)(y:RSer)(h:RelS x y)(hk:x.k=1): RelS (qTe nc b x) (qMa nc b y)/\qW2 nc b x=min (qEb nc y) b/\qMo nc b x=qEb nc y-min (qEb nc y) b:=by
 have hd:qDt x.c x.nt.bs (nc-x.c.lag) b=min (qEb nc y) b:=by
  unfold qDt qEb
  rw[h.bks hk,h.c]
 have e1:qLz x.k x.c x.nt (nc-x.c.lag) b=({ x.nt with bs:=x.nt.bs.drop (min (qEb nc y) b).toNat },min (qEb nc y) b,qEb nc y-min (qEb nc y) b):=by
  unfold qLz
  rw[if_pos hk,hd]
  have:(pastN x.nt.bs (nc-x.c.lag-x.c.window):Int)=qEb nc y:=by unfold qEb;rw[h.bks hk,h.c]
  rw[this]
 refine⟨?_,by unfold qW2;rw[e1],by unfold qMo;rw[e1]⟩
 refine⟨h.id,h.c,h.kind,h.acc,h.rel,h.wait,h.heap,h.tick,h.refs,h.xr,h.yr,λh4=>?_,?_,?_,λ_=>?_⟩
 ·have h4':x.k=4:=h4
  omega
 ·show 0<=(qLz x.k x.c x.nt (nc-x.c.lag) b).1.r;rw[e1];exact h.r0
 ·show(qLz x.k x.c x.nt (nc-x.c.lag) b).1.r<_;rw[e1];exact h.r1
 ·show(qLz x.k x.c x.nt (nc-x.c.lag) b).1.bs=qAq y.c (y.events++[⟨0,0,true,min (qEb nc y) b⟩])
  rw[e1]
  unfold qAq
  rw[List.foldl_append]
  show x.nt.bs.drop _=_
  rw[h.bks hk]
  rfl
theorem zA3(nc tk:Int)(htk:0<tk): ∀(xs:List Ser) (ys:List RSer) (b:Int),RelL xs ys->0<=b->RelL (qCk nc b (xs.map (qBj nc))).1 (qBa nc tk b ys).1/\(qCk nc b (xs.map (qBj nc))).2=(qBa nc tk b ys).2:=by
 intro xs
 induction xs with
 | nil=>intro ys b h _;cases ys with | nil=>exact⟨trivial,rfl⟩ | cons y ys=>exact h.elim
 | cons x xs ih =>
  intro ys b h hb
  cases ys with
  | nil=>exact h.elim
  | cons y ys =>
   have hr:=qZl nc tk htk x y h.1
   have hkx:=(qI3 (x.l.length+1) x (nc-x.c.lag)).1
   have hkx':(qBj nc x).k=x.k:=hkx
   have hkk:(y.c.kind=1)↔x.k=1:=by rw[<-h.1.c,h.1.kind];omega
   rw[List.map_cons]
   simp only[qCk,qBa]
   by_cases hk:x.k=1
   ·obtain⟨r1,r2,r3⟩:=qY3 nc b _ _ hr (by rw[hkx'];exact hk)
    rw[if_pos (hkk.2 hk),r2,r3]
    obtain⟨i1,i2⟩:=ih ys (b-min (qEb nc (qA6 nc tk y)) b) h.2 (by omega)
    exact⟨⟨r1,i1⟩,by rw[i2]⟩
   ·have hk':(qBj nc x).k≠1:=by rw[hkx'];exact hk
    have e1:qTe nc b (qBj nc x)=qBj nc x:=by unfold qTe qLz;rw[if_neg hk']
    have e2:qMo nc b (qBj nc x)=0:=by unfold qMo qLz;rw[if_neg hk']
    have e3:qW2 nc b (qBj nc x)=0:=by unfold qW2 qLz;rw[if_neg hk']
    rw[if_neg (λhh=>hk (hkk.1 hh)),e1,e2,e3,Int.sub_zero,Int.zero_add]
    obtain⟨i1,i2⟩:=ih ys b h.2 hb
    exact⟨⟨hr,i1⟩,i2⟩
theorem qPl(D:Bool)(s:WS)(r:RWS)(o:OpM)(h:RelW D s r)(ho:okOp D o){n:Int}(hi:EInv n s.clock s.xs)(hn:n<4611686018427387904): (qCb s o).2=zE5 r o/\RelW D (qCb s o).1 (goR r o):=by
 unfold qCb zE5 goR qEk
 by_cases h1:o.kind=1
 ·rw[if_pos h1,if_neg (by omega),if_neg (by omega),if_pos h1,if_neg (by omega)]
  unfold qDu qC3
  have hl:=h.xs.length
  have hfind:(qH9 s.xs o.id).isNone=(qI2 r.xs o.id).isNone:=by
   rcases h.xs.find o.id with ⟨a,b⟩ | ⟨x,y,a,b,_⟩ <;> rw[a,b] <;> rfl
  rw[hfind]
  split
  ·split
   ·rename_i hv
    rw[hl]
    obtain⟨k,hk,k1,k5,_,_⟩:=qCw hv
    have n4:=ho.2 h1 hv
    by_cases h6:r.xs.length<6
    ·rw[if_pos h6,if_neg (by omega)]
     refine⟨rfl,h.clock,h.ticks,h.xs.append (zDn _ _ (by omega)),λx hx=>?_,?_⟩
     ·rcases List.mem_append.1 hx with hx | hx
      ·exact h.kinds x hx
      ·rw[List.mem_singleton]at hx;subst hx
       show 1<=o.cfg.kind.toNat/\o.cfg.kind.toNat<=5/\(D=true->o.cfg.kind.toNat=1\/o.cfg.kind.toNat=4)
       exact⟨by omega,by omega,λhD=>by have:=n4 hD;omega⟩
     ·show(s.xs++[_]).length<=6
      rw[List.length_append];simp;omega
    ·have h7:=h.six
     rw[if_neg h6,if_pos (by omega)]
     exact⟨rfl,h⟩
   ·exact⟨rfl,h⟩
  ·exact⟨rfl,h⟩
 ·rw[if_neg h1]
  by_cases h2:o.kind=2
  ·rw[if_pos h2,if_neg (by omega),if_neg (by omega),if_neg h1,if_pos h2,if_neg (by omega)]
   unfold qPa zDs
   rcases h.xs.find o.id with ⟨a,b⟩ | ⟨x,y,a,b,hr⟩
   ·rw[a,b];exact⟨rfl,h⟩
   ·rw[a,b]
    have hk:=h.kinds x (List.mem_of_find?_eq_some a)
    have hsi:=hi.sers x (List.mem_of_find?_eq_some a)
    have he:=qXj x y s.clock o hr (by omega) (by omega) (by have:=hsi.accn;omega)
    simp only
    rw[<-h.clock,<-he]
    split
    ·refine⟨by simp[hr.acc],rfl,h.ticks,h.xs.upd o.id (zCq x y o hr),λz hz=>?_,by show(qIm _ _ _).length<=6;rw[qGs];exact h.six⟩
     rcases qHv hz with hz | hz
     ·exact h.kinds z hz
     ·subst hz;exact hk
    ·refine⟨rfl,rfl,h.ticks,h.xs.upd o.id (zC9 x y _ hr (by have:=qF6 x s.clock o.item;omega) (by
            have hrr:=qF6 x s.clock o.item
            have:=hsi.refn (qAu x.ref (qKb x s.clock o.item).toNat) (by unfold qAu;rw[List.getD_eq_getElem?_getD,List.getElem?_eq_getElem (by have:=hsi.reflen;omega)];exact List.getElem_mem _)
            omega)),λz hz=>?_,by show(qIm _ _ _).length<=6;rw[qGs];exact h.six⟩
     rcases qHv hz with hz | hz
     ·exact h.kinds z hz
     ·subst hz;exact hk
  ·rw[if_neg h2]
   by_cases h3:o.kind=3
   ·rw[if_pos h3,if_neg (by omega),if_neg (by omega),if_neg h1,if_neg h2,if_pos h3,if_neg (by omega)]
    unfold qJ9 qT0
    rw[<-h.clock]
    have ht:=h.ticks
    split
    ·split
     ·rename_i hbb
      obtain⟨hb0,_⟩:=qA9 hbb
      obtain⟨a1,a2⟩:=zA3 (qDw s.clock o.a) (r.ticks+1) (by omega) s.xs r.xs o.b h.xs hb0
      refine⟨by rw[a2],rfl,by show 0<=r.ticks+1;omega,a1,?_,by show(qCk _ _ _).1.length<=6;rw[qI4,List.length_map];exact h.six⟩
      refine qJq (P:=λz=>1<=z.k/\z.k<=5/\(D=true->z.k=1\/z.k=4)) _ (λb x hx=>hx) _ _ (λz hz=>?_)
      obtain⟨x,hx,rfl⟩:=List.mem_map.1 hz
      have hk:=h.kinds x hx
      have:=(qI3 (x.l.length+1) x (qDw s.clock o.a-x.c.lag)).1
      unfold qBj
      rw[this];exact hk
     ·exact⟨rfl,h⟩
    ·exact⟨rfl,h⟩
   ·rw[if_neg h3]
    by_cases h4:o.kind=4
    ·rw[if_pos h4,if_pos h4,if_pos (.inl h4)]
     have hD:D=true:=by
      cases D with
      | true=>rfl
      | false=>have:=ho.1;simp at this;omega
     unfold qGh qTm
     rcases h.xs.find o.id with ⟨a,b⟩ | ⟨x,y,a,b,hr⟩
     ·rw[a,b];exact⟨rfl,h⟩
     ·rw[a,b]
      have hk:=(h.kinds x (List.mem_of_find?_eq_some a)).2.2 hD
      refine⟨?_,h⟩
      show qG4 x.k x.c x.nt o.a (s.clock-x.c.lag)=_
      have hkind:y.c.kind=x.k:=by rw[<-hr.c];exact hr.kind
      rcases hk with hk | hk
      ·unfold qG4
       rw[if_neg (by omega),if_pos hk]
       simp only
       have hy1:y.c.kind=1:=by rw[hkind,hk];rfl
       rw[if_pos hy1,hr.bks hk,<-h.clock,<-hr.c]
      ·unfold qG4
       rw[if_pos hk]
       simp only
       rw[if_neg (by rw[hkind,hk];omega)]
       obtain⟨d1,d2,d3⟩:=qQc y.c y.items 0 0 hr.tick (by omega) (by omega)
       have hs:=hr.sum hk
       have r0:=hr.r0
       have r1:=hr.r1
       rw[<-hr.c]at d1 d2 d3 ⊢
       rw[<-h.clock]
       have e1:x.nt.q=(qEl x.c y.items 0 0).1:=by omega
       have e2:x.nt.r=(qEl x.c y.items 0 0).2:=by omega
       rw[e1,e2]
    ·rw[if_neg h4,if_neg h4]
     by_cases h5:o.kind=5
     ·rw[if_pos h5,if_pos h5,if_pos (.inr h5)]
      unfold qH2 qLr
      rcases h.xs.find o.id with ⟨a,b⟩ | ⟨x,y,a,b,hr⟩
      ·rw[a,b];exact⟨rfl,h⟩
      ·rw[a,b]
       refine⟨?_,h⟩
       have hwr:=qCo y.items
       have e:x.rel=(y.items.length:Int)-(qA7 y.items).length:=by rw[hr.rel];omega
       have e2:qQu.map (qAu x.ref)=qQu.map (qAu y.ref):=List.map_congr_left λj hj=>hr.refs j (by simp[qQu]at hj;omega)
       simp only[qCu]
       rw[hr.acc,e,e2]
     ·rw[if_neg h5,if_neg h5,if_neg h1,if_neg h2,if_neg h3]
      have h67:o.kind≠6/\o.kind≠7:=by
       have:=ho.1
       cases D <;> simp at this <;> omega
      rw[if_neg h67.1,if_neg h67.2]
      refine⟨rfl,?_⟩
      rw[if_neg (by omega)]
      exact h
end
section
open Go.RowKit
def qXo(base:Nat)(w:World)(c:Int×List Int)(r:Ending)(w':World): Prop:=∃code nums nv,c=(code,nums)/\r=.returned (qBu code nv)/\w'.ownsRow w.heap.size 3 1 nv nums.length (ints nums)/\Keeps (λi=>base<=i) w w'
theorem zEj(base:Nat)(n:Int)(e:Nat)(v:Value)(clock ticks:Int)(ps:List (RB×RSer))(o:OpM)(w:World)(h:RWRep w e v clock ticks ps)(hi:RWInv n clock ticks (ps.map (·.2)))(hn:n<1099511627776)(hk:∀y,y∈ps.map (·.2)->y.c.kind=1\/y.c.kind=4):
  Calls Tryz.prog 53 #[.pointer (some ⟨e,0,none⟩),o.val] w λr w'=>qXo base w (qTm ⟨clock,ticks,ps.map (·.2)⟩ o) r w':=by
 unfold qTm
 rw[qE0]
 cases hf:qB2 ps o.id with
 | none =>
  refine(qQ3 e v clock ticks ps o w h (by have:=hi.six;simp at this;omega) hf).mono ?_
  rintro r w' ⟨nv,h1,h2,h3⟩
  exact⟨_,_,nv,rfl,h1,h2,h3.mono (λ_ _ h=>h.elim)⟩
 | some p =>
  simp only[Option.map_some]
  rcases hk p.2 (List.mem_map_of_mem (List.mem_of_find?_eq_some hf)) with hk1 | hk4
  ·rw[if_pos hk1]
   by_cases hw:inB o.a 1 p.2.c.window=true
   ·rw[if_pos hw]
    refine(qM5 n e v clock ticks ps o w h hi hn p hf hk1 hw).mono ?_
    rintro r w' ⟨nv,h1,h2,h3⟩
    exact⟨_,_,nv,rfl,h1,h2,h3.mono (λ_ _ h=>h.elim)⟩
   ·rw[if_neg hw]
    refine(qNh n e v clock ticks ps o w h hi p hf hk1 (by simpa using hw)).mono ?_
    rintro r w' ⟨nv,h1,h2,h3⟩
    exact⟨_,_,nv,rfl,h1,h2,h3.mono (λ_ _ h=>h.elim)⟩
  ·rw[if_neg (by omega)]
   refine(qNj n e v clock ticks ps o w h hi hn p hf hk4).mono ?_
   rintro r w' ⟨nv,h1,h2,h3⟩
   exact⟨_,_,nv,rfl,h1,h2,h3.mono (λ_ _ h=>h.elim)⟩
theorem qWg(base:Nat)(n:Int)(e:Nat)(v:Value)(clock ticks:Int)(ps:List (RB×RSer))(o:OpM)(w:World)(h:RWRep w e v clock ticks ps)(hi:RWInv n clock ticks (ps.map (·.2)))(hn:n<1099511627776):
  Calls Tryz.prog 54 #[.pointer (some ⟨e,0,none⟩),o.val] w λr w'=>qXo base w (qLr ⟨clock,ticks,ps.map (·.2)⟩ o) r w':=by
 unfold qLr
 rw[qE0]
 cases hf:qB2 ps o.id with
 | none =>
  refine(qWl e v clock ticks ps o w h (by have:=hi.six;simp at this;omega) hf).mono ?_
  rintro r w' ⟨nv,h1,h2,h3⟩
  exact⟨_,_,nv,rfl,h1,h2,h3.mono (λ_ _ h=>h.elim)⟩
 | some p =>
  refine(qUg n e v clock ticks ps o w h hi hn p hf).mono ?_
  rintro r w' ⟨nv,h1,h2,h3⟩
  exact⟨_,_,nv,rfl,h1,h2,h3.mono (λ_ _ h=>h.elim)⟩
theorem qZs(base:Nat)(n:Int)(e:Nat)(v:Value)(clock ticks:Int)(ps:List (RB×RSer))(o:OpM)(w:World)(h:RWRep w e v clock ticks ps)(hi:RWInv n clock ticks (ps.map (·.2)))(hn:n<1099511627776)(hb:∀i,RFoot e v ps i->base<=i):
  Calls Tryz.prog 55 #[.pointer (some ⟨e,0,none⟩),o.val] w λr w'=>qXo base w (qEk ⟨clock,ticks,ps.map (·.2)⟩ o).2 r w':=by
 refine(qPk n e v clock ticks ps o w h hi hn).mono ?_
 rintro r w' ⟨nv,h1,h2,v',ps',_,_,h3,_⟩
 exact⟨_,_,nv,rfl,h1,h2,h3.mono (λi _ h=>hb i h)⟩
def chg(o:OpM): Bool:=!(o.kind==4||o.kind==5)
theorem zBx(s:RWS)(o:OpM): goR s o=qEm s ([o].filter chg):=by
 unfold goR
 by_cases h:o.kind=4\/o.kind=5
 ·rw[if_pos h]
  have hb:(o.kind==4||o.kind==5)=true:=by simpa using h
  have hc:chg o=false:=by unfold chg;rw[hb];rfl
  rw[List.filter_cons_of_neg (by rw[hc];simp)]
  rfl
 ·rw[if_neg h]
  have hb:(o.kind==4||o.kind==5)=false:=by simpa using h
  have hc:chg o=true:=by unfold chg;rw[hb];rfl
  rw[List.filter_cons_of_pos hc]
  rfl
theorem qSi(s:RWS)(a b:List OpM): qEm s (a++b)=qEm (qEm s a) b:=by
 induction a generalizing s with
 | nil=>rfl
 | cons x l ih=>exact ih _
structure RR (w:World) (base:Nat) (av:Value) (l:List Ans) (sv:Value) (S:List OpM) (tv:Value) (k:Nat) (nv:Value) (nums:List Int):Prop where
 A:ARep w base av l
 S:qKk w base sv S
 T:w.ownsRow base 22 1 tv k (List.replicate k (.slice none 0 0))
 P:w.ownsRow base 3 1 nv nums.length (ints nums)
 st:∀i,sv.ownBlock=some i->tv.ownBlock≠some i/\¬qH0 av l i
 tt:∀i,tv.ownBlock=some i->¬qH0 av l i
 pd:∀i,nv.ownBlock=some i->sv.ownBlock≠some i/\tv.ownBlock≠some i/\¬qH0 av l i
 nb:∀x,x∈l->x.bs=qAa
theorem RR.still{w w':World}{base:Nat}{av:Value}{l:List Ans}{sv:Value}{S:List OpM}{tv:Value}{k:Nat}{nv:Value}{nums:List Int}(h:RR w base av l sv S tv k nv nums)(hk:Keeps (λ_=>False) w w'): RR w' base av l sv S tv k nv nums :=
 ⟨h.A.keeps hk (λ_ _ h=>h),qAf h.S hk (λ_ _ h=>h),qAf h.T hk (λ_ _ h=>h),qAf h.P hk (λ_ _ h=>h),h.st,h.tt,h.pd,h.nb⟩
theorem RR.pend{w w':World}{base:Nat}{av:Value}{l:List Ans}{sv:Value}{S:List OpM}{tv:Value}{k:Nat}{nv:Value}{nums:List Int}(h:RR w base av l sv S tv k (.slice none 0 0) [])(hb:base<=w.heap.size)(hk:Keeps (λ_=>False) w w')(hn:w'.ownsRow w.heap.size 3 1 nv nums.length (ints nums)): RR w' base av l sv S tv k nv nums:=by
 have h':=h.still hk
 refine⟨h'.A,h'.S,h'.T,qEy hn hb,h.st,h.tt,λi hi=>?_,h.nb⟩
 have hge:=(hn.lt i hi).1
 exact⟨λhh=>by have:=(h.S.lt i hh).2;omega,λhh=>by have:=(h.T.lt i hh).2;omega,λhh=>by have:=(h.A.lt i hh).2;omega⟩
theorem RR.steps{w w':World}{base:Nat}{av:Value}{l:List Ans}{sv sv':Value}{S S':List OpM}{tv:Value}{k:Nat}{nv:Value}{nums:List Int}(h:RR w base av l sv S tv k nv nums)(hk:Keeps (λi=>sv.ownBlock=some i) w w')(hS:qKk w' base sv' S')(hat:∀i,sv'.ownBlock=some i->sv.ownBlock=some i\/w.heap.size<=i): RR w' base av l sv' S' tv k nv nums:=by
 refine⟨h.A.keeps hk (λi hi hh=>(h.st i hh).2 hi),hS,qAf h.T hk (λi hi hh=>(h.st i hh).1 hi),qAf h.P hk (λi hi hh=>(h.pd i hi).1 hh),λi hi=>?_,h.tt,λi hi=>⟨λhh=>?_,(h.pd i hi).2⟩,h.nb⟩
 ·rcases hat i hi with h1 | h1
  ·exact h.st i h1
  ·exact⟨λhh=>by have:=(h.T.lt i hh).2;omega,λhh=>by have:=(h.A.lt i hh).2;omega⟩
 ·rcases hat i hh with h1 | h1
  ·exact(h.pd i hi).1 h1
  ·have:=(h.P.lt i hi).2;omega
theorem RR.saved{w w':World}{base:Nat}{av:Value}{l:List Ans}{sv:Value}{S:List OpM}{tv tv':Value}{k k':Nat}{nv:Value}{nums:List Int}(h:RR w base av l sv S tv k nv nums)(hk:Keeps (λi=>tv.ownBlock=some i) w w')(hT:w'.ownsRow base 22 1 tv' k' (List.replicate k' (.slice none 0 0)))(hat:∀i,tv'.ownBlock=some i->tv.ownBlock=some i\/w.heap.size<=i): RR w' base av l sv S tv' k' nv nums:=by
 refine⟨h.A.keeps hk (λi hi hh=>h.tt i hh hi),qAf h.S hk (λi hi hh=>(h.st i hi).1 hh),hT,qAf h.P hk (λi hi hh=>(h.pd i hi).2.1 hh),λi hi=>⟨λhh=>?_,(h.st i hi).2⟩,λi hi=>?_,λi hi=>⟨(h.pd i hi).1,λhh=>?_,(h.pd i hi).2.2⟩,h.nb⟩
 ·rcases hat i hh with h1 | h1
  ·exact(h.st i hi).1 h1
  ·have:=(h.S.lt i hi).2;omega
 ·rcases hat i hi with h1 | h1
  ·exact h.tt i h1
  ·exact λhh=>by have:=(h.A.lt i hh).2;omega
 ·rcases hat i hh with h1 | h1
  ·exact(h.pd i hi).2.1 h1
  ·have:=(h.P.lt i hi).2;omega
theorem RR.out{w w':World}{base:Nat}{av av':Value}{l:List Ans}{sv:Value}{S:List OpM}{tv:Value}{k:Nat}{nv:Value}{nums:List Int}{code:Int}(h:RR w base av l sv S tv k nv nums)(hk:Keeps (λi=>av.ownBlock=some i) w w')(hA:w'.ownsRow base 33 3 av' (l.length+1) (qDm l++[.int .i64 code,nv,.string qAa]))(hat:∀i,av'.ownBlock=some i->av.ownBlock=some i\/w.heap.size<=i):
  RR w' base av' (l++[⟨code,nv,nums,qAa⟩]) sv S tv k (.slice none 0 0) []:=by
 have hnew:∀i,qH0 av' (l++[⟨code,nv,nums,qAa⟩]) i->qH0 av l i\/nv.ownBlock=some i\/w.heap.size<=i:=by
  intro i hi
  rcases hi with hi | ⟨x,hx,hi⟩
  ·rcases hat i hi with h1 | h1
   ·exact .inl (.inl h1)
   ·exact .inr (.inr h1)
  ·rcases List.mem_append.1 hx with hx | hx
   ·exact .inl (.inr ⟨x,hx,hi⟩)
   ·rw[List.mem_singleton]at hx;subst hx
    exact .inr (.inl hi)
 refine⟨⟨?_,?_,?_⟩,qAf h.S hk (λi hi hh=>(h.st i hi).2 (.inl hh)),qAf h.T hk (λi hi hh=>h.tt i hi (.inl hh)),World.ownsRow_nil _ _ _ _,λi hi=>⟨(h.st i hi).1,λhh=>?_⟩,λi hi hh=>?_,λi hi=>(by cases hi),λx hx=>?_⟩
 ·rw[qH5,List.length_append];exact hA
 ·intro x hx
  rcases List.mem_append.1 hx with hx | hx
  ·exact qAf (h.A.nums x hx) hk (λi hi hh=>h.A.apart x hx i hi hh)
  ·rw[List.mem_singleton]at hx;subst hx
   exact qAf h.P hk (λi hi hh=>(h.pd i hi).2.2 (.inl hh))
 ·intro x hx i hi hh
  rcases List.mem_append.1 hx with hx | hx
  ·rcases hat i hh with h1 | h1
   ·exact h.A.apart x hx i hi h1
   ·have:=(h.A.lt i (.inr ⟨x,hx,hi⟩)).2;omega
  ·rw[List.mem_singleton]at hx;subst hx
   rcases hat i hh with h1 | h1
   ·exact(h.pd i hi).2.2 (.inl h1)
   ·have:=(h.P.lt i hi).2;omega
 ·rcases hnew i hh with h1 | h1 | h1
  ·exact(h.st i hi).2 h1
  ·exact(h.pd i h1).1 hi
  ·have:=(h.S.lt i hi).2;omega
 ·rcases hnew i hh with h1 | h1 | h1
  ·exact h.tt i hi h1
  ·exact(h.pd i h1).2.1 hi
  ·have:=(h.T.lt i hi).2;omega
 ·rcases List.mem_append.1 hx with hx | hx
  ·exact h.nb x hx
  ·rw[List.mem_singleton]at hx;subst hx;rfl
end
section
open Go.RowKit
attribute [local go_sem ↓] qAd qAe qBv qC6
attribute [local go_sem] qAi qAj qAc qAb qAm qAn qAg qAh qIj
theorem zEg: (Tryz.prog.info? 22).map (λi=>(i.zero,i.size,i.bytes))=some (some (.slice none 0 0),1,24):=by kernel_rfl
theorem zAr(w:World)(b:Nat)(x y z:Value): Keeps (λi=>i=b) w (((w.setCell ⟨b,0,none⟩ x).setCell ⟨b,1,none⟩ y).setCell ⟨b,2,none⟩ z):=(((Keeps.refl (λi=>i=b) w).setCell (p:=⟨b,0,none⟩) (Or.inl rfl) _).setCell (p:=⟨b,1,none⟩) (Or.inl rfl) _).setCell (p:=⟨b,2,none⟩) (Or.inl rfl) _
theorem RR.keeps{M:Nat->Prop}{w w':World}{base:Nat}{av:Value}{l:List Ans}{sv:Value}{S:List OpM}{tv:Value}{k:Nat}{nv:Value}{nums:List Int}(h:RR w base av l sv S tv k nv nums)(hk:Keeps M w w')(hM:∀i,(qH0 av l i\/sv.ownBlock=some i\/tv.ownBlock=some i\/nv.ownBlock=some i)->¬M i): RR w' base av l sv S tv k nv nums :=
 ⟨h.A.keeps hk (λi hi=>hM i (.inl hi)),qAf h.S hk (λi hi=>hM i (.inr (.inl hi))),qAf h.T hk (λi hi=>hM i (.inr (.inr (.inl hi)))),qAf h.P hk (λi hi=>hM i (.inr (.inr (.inr hi)))),h.st,h.tt,h.pd,h.nb⟩
theorem RR.lt{w:World}{base:Nat}{av:Value}{l:List Ans}{sv:Value}{S:List OpM}{tv:Value}{k:Nat}{nv:Value}{nums:List Int}(h:RR w base av l sv S tv k nv nums)(i:Nat)(hi:qH0 av l i\/sv.ownBlock=some i\/tv.ownBlock=some i): base<=i/\i<w.heap.size:=by
 rcases hi with hi | hi | hi
 ·exact h.A.lt i hi
 ·exact h.S.lt i hi
 ·exact h.T.lt i hi
theorem qEj{w w':World}{row:Option Nat}(hg:w.grownBy w' row): Keeps (λi=>row=some i) w w':=⟨hg.os,hg.tape,hg.output,hg.size,λk hk hn=>hg.block k hk (λh=>hn h.symm)⟩
theorem qMu{gg n cap sz:Nat}{v:Value}(hat:v.ownBlock=some gg\/gg=sz)(i:Nat)(hi:(Value.slice (some ⟨gg,0,none⟩) n cap).ownBlock=some i): v.ownBlock=some i\/sz<=i:=by
 have:gg=i:=by simpa[Value.ownBlock] using hi
 subst this
 rcases hat with h | h
 ·exact .inl h
 ·exact .inr (by omega)
theorem qOv(k:Nat): List.replicate k (Value.slice none 0 0)++[.slice none 0 0]=List.replicate (k+1) (Value.slice none 0 0):=by rw[List.replicate_succ']
end
section
open Go.RowKit
attribute [local go_sem ↓] qAd qAe
attribute [local go_sem] qAi qAj qAc qAb qAm qAn qAg qAh qAk qAo
theorem qVv(n:Int)(e:Nat)(v:Value)(clock ticks:Int)(ps:List (RB×RSer))(o:OpM)(w:World)(h:RWRep w e v clock ticks ps)(hi:RWInv n clock ticks (ps.map (·.2)))(p:RB×RSer)(hf:qB2 ps o.id=some p)(hkd:p.2.c.kind=3)(hw:inB o.a 0 2147483648=false):
  Calls Tryz.prog 53 #[.pointer (some ⟨e,0,none⟩),o.val] w λr w'=>qE2 w (10,[]) r w':=by
 have hmem:p∈ps:=List.mem_of_find?_eq_some hf
 have HM:=hide hmem
 have hip:=hi.sers p.2 (List.mem_map_of_mem hmem)
 have HIP:=hide hip
 have hil:=hip.items
 obtain⟨la0,la1,_,_,_,_⟩:=hip.common
 have hc0:=hi.c0
 have hc1:=hi.c1
 have hl:ps.length<=1000:=by have:=hi.six;rw[List.length_map]at this;omega
 have h1:o.cells[1]?=some (.int .i64 o.id):=rfl
 have HE:=hide h
 have HF:=hide hf
 have HKD:=hide hkd
 clear h hip hmem hi hf hkd
 unfold OpM.val
 go_enter Tryz.func53,Tryz.ntmps53
 go_wp2_with fail
 have hk0:Keeps (λ_=>False) w ((w.alloc (.cells o.cells.toArray 40)).alloc (.cells #[.int .i64 0,.slice none 0 0,.string ⟨#[]⟩] 33)):=((Keeps.refl (λ_=>False) w).alloc _).alloc _
 have HO0:=hide (show Blk ((w.alloc (.cells o.cells.toArray 40)).alloc (.cells #[.int .i64 0,.slice none 0 0,.string ⟨#[]⟩] 33)) w.heap.size o.cells 40 from(Blk.new w o.cells 40).alloc _)
 have HR0:=hide (show Blk ((w.alloc (.cells o.cells.toArray 40)).alloc (.cells #[.int .i64 0,.slice none 0 0,.string ⟨#[]⟩] 33)) (w.heap.size+1) [.int .i64 0,.slice none 0 0,.string qAa] 33 from Blk.newAt (by simp) [_,_,_] 33)
 have HE0:=hide ((uh HE).still hk0)
 have HK0:=hide hk0
 clear hk0
 generalize(w.alloc (.cells o.cells.toArray 40)).alloc (.cells #[.int .i64 0,.slice none 0 0,.string ⟨#[]⟩] 33)=w0 at *
 generalize hob:w.heap.size=ob at *
 have HOB:=hide hob
 clear hob
 refine(qCg e v clock ticks o.id ps w0 (uh HE0) hl).mono ?_
 rintro r w1 ⟨rfl,hw1⟩
 rw[hw1,uh HF]
 clear hw1 w1
 unfold qEh
 have HP0:=hide ((uh HE0).reps p (uh HM))
 go_wp2_with fail
 refine(qBy e p.1.s p.2.c.lag clock w0 ((uh HE0).blk.cell rfl) ((uh HP0).blk.cell rfl) la0 la1 hc0 hc1).mono ?_
 rintro r w1 ⟨rfl,hk1⟩
 have HO1:=hide ((uh HO0).keeps hk1 (λh=>h))
 have HR1:=hide ((uh HR0).keeps hk1 (λh=>h))
 have HP1:=hide ((uh HP0).still hk1)
 have HK1:=hide ((uh HK0).then hk1)
 clear hk1 h1
 have o2:w1.cell? ⟨ob,2,none⟩=some (.int .i64 o.a):=(uh HO1).cell rfl
 have s1:w1.cell? ⟨p.1.s,1,none⟩=some (.int .i64 3):=by
  rw[<-uh HKD];exact(uh HP1).blk.cell rfl
 have s6:w1.cell? ⟨p.1.s,6,none⟩=some (.int .i64 p.2.c.window):=(uh HP1).blk.cell rfl
 generalize hmk:clock-p.2.c.lag=mark at *
 have HMK:=hide hmk
 have hmk0:-100<=mark:=by omega
 have hmk1:mark<=4611686018427387904:=by omega
 clear hmk
 go_wp2_with fail
 go_region_held3 (λw'=>w'.cell? ⟨ob,2,none⟩=some (.int .i64 o.a)/\w'.cell? ⟨p.1.s,6,none⟩=some (.int .i64 p.2.c.window)) (go_keep)
  (first | (go_at_call 77;refine(qAl _ _ _ _).mono ?_;rintro r w9 ⟨rfl,rfl⟩))
 have HO2:=hide ((uh HO1).drew)
 have HR2:=hide ((uh HR1).drew)
 have HP2:=hide ((uh HP1).still ((Keeps.refl (λ_=>False) w1).drew))
 have HK2:=hide ((uh HK1).drew)
 clear o2 s1 s6 HO1 HR1 HP1 HK1
 generalize w1.drew=w2 at *
 have o2:w2.cell? ⟨ob,2,none⟩=some (.int .i64 o.a):=(uh HO2).cell rfl
 go_wp2_with fail
 refine(qAl _ _ _ _).mono ?_
 rintro r w9 ⟨rfl,hw9⟩
 rw[hw9]
 clear hw9 w9
 go_wp2_with fail
 refine(qF3 10 w2).mono ?_
 rintro r w3 ⟨rfl,hk1⟩
 unfold qBu
 have HR1:=hide ((uh HR2).keeps hk1 (λh=>h))
 have HK1:=hide ((uh HK2).then hk1)
 clear hk1
 have r0:w3.cell? ⟨ob+1,0,none⟩=some (.int .i64 0):=(uh HR1).cell rfl
 have r1:w3.cell? ⟨ob+1,1,none⟩=some (.slice none 0 0):=(uh HR1).cell rfl
 have r2:w3.cell? ⟨ob+1,2,none⟩=some (.string qAa):=(uh HR1).cell rfl
 have rf:=(uh HR1).frozen
 go_wp2
 have hbf:=(((uh HR1).setCell 0 (.int .i64 10)).setCell 1 (.slice none 0 0)).setCell 2 (.string qAa)
 have HKF:=hide ((((Keeps.refl (λi=>i=ob+1) w3).setCell (p:=⟨ob+1,0,none⟩) (Or.inl rfl) (.int .i64 10)).setCell (p:=⟨ob+1,1,none⟩) (Or.inl rfl) (.slice none 0 0)).setCell (p:=⟨ob+1,2,none⟩) (Or.inl rfl) (.string qAa))
 have e9:(((w3.setCell ⟨ob+1,0,none⟩ (.int .i64 10)).setCell ⟨ob+1,1,none⟩ (.slice none 0 0)).setCell ⟨ob+1,2,none⟩ (.string ⟨#[]⟩))=(((w3.setCell ⟨ob+1,0,none⟩ (.int .i64 10)).setCell ⟨ob+1,1,none⟩ (.slice none 0 0)).setCell ⟨ob+1,2,none⟩ (.string qAa)):=rfl
 first | rw[e9] | skip
 generalize(((w3.setCell ⟨ob+1,0,none⟩ (.int .i64 10)).setCell ⟨ob+1,1,none⟩ (.slice none 0 0)).setCell ⟨ob+1,2,none⟩ (.string qAa))=w9 at *
 have q0:w9.cell? ⟨ob+1,0,none⟩=some (.int .i64 10):=hbf.cell rfl
 have q1:w9.cell? ⟨ob+1,1,none⟩=some (.slice none 0 0):=hbf.cell rfl
 have q2:w9.cell? ⟨ob+1,2,none⟩=some (.string qAa):=hbf.cell rfl
 refine bodyPost_ret (v:=qBu 10 (.slice none 0 0)) (by simp[results,Tryz.results53,go_sem,q0,q1,q2,qBu]) rfl ?_
 have hob:=uh HOB
 exact⟨_,rfl,World.ownsRow_nil _ _ _ _,(uh HK1).trans (uh HKF) (λi hi hlt=>by omega)⟩
def qLk(s:RWS)(o:OpM): Int×List Int :=
 match qI2 s.xs o.id with
 | none=>(2,[])
 | some y =>
  if y.c.kind=1 then(if inB o.a 1 y.c.window=true then(0,[qV1 (qAq y.c y.events) (s.clock-y.c.lag-o.a)]) else(13,[]))
  else if y.c.kind=2 then(if inB o.a 1 y.c.window=true then(0,qFj y.c (2 ^ y.c.bits.toNat) (qA5 y.items (s.clock-y.c.lag-o.a) (s.clock-y.c.lag))++[7*((2 ^ y.c.bits.toNat:Nat):Int)*((2 ^ y.c.bits.toNat:Nat):Int)*1099511627776/(10*qLo (qFj y.c (2 ^ y.c.bits.toNat) (qA5 y.items (s.clock-y.c.lag-o.a) (s.clock-y.c.lag))))]) else(13,[]))
  else if y.c.kind=3 then(if inB o.a 0 2147483648=true then(0,[qDy y.c (qA5 y.items (qJj y.c (s.clock-y.c.lag)-1) (s.clock-y.c.lag)) o.a y.c.rows.toNat]) else(10,[]))
  else if y.c.kind=5 then(0,qFv y.c (qA5 y.items (-1) (s.clock-y.c.lag)))
  else(0,[(qEl y.c y.items 0 0).1,(qEl y.c y.items 0 0).2,qA3 (qAr y.c (s.clock-y.c.lag))])
def qQs(s:RWS)(o:OpM): Int×List Int:=if o.kind=4 then qLk s o else if o.kind=5 then qLr s o else(qEk s o).2
def qV2: RWS->List OpM->List (Int×List Int)
 | _,[]=>[]
 | s,o::r=>qQs s o::qV2 (goR s o) r
theorem qXg(s:RWS)(l:List OpM)(o:OpM): qV2 s (l++[o])=qV2 s l++[qQs (qEm s (l.filter chg)) o]:=by
 induction l generalizing s with
 | nil=>rfl
 | cons a l ih =>
  simp only[List.cons_append,qV2,ih]
  rw[zBx,<-qSi,<-List.filter_append]
  rfl
theorem qKt(s:RWS)(l:List OpM): (qV2 s l).length=l.length:=by
 induction l generalizing s with
 | nil=>rfl
 | cons a l ih=>simp[qV2,ih]
theorem zBn(s:RWS)(o:OpM)(h:o.kind=4): qQs s o=qLk s o:=by unfold qQs;rw[if_pos h]
theorem zEi(s:RWS)(o:OpM)(h:o.kind=5): qQs s o=qLr s o:=by unfold qQs;rw[if_neg (by omega),if_pos h]
theorem zEs(s:RWS)(o:OpM)(h4:o.kind≠4)(h5:o.kind≠5): qQs s o=(qEk s o).2:=by unfold qQs;rw[if_neg h4,if_neg h5]
structure KInv (clock:Int) (y:RSer):Prop where
 keys:y.c.kind=2\/y.c.kind=3->∀z,z∈y.items->0<=z.k/\z.k<=2147483648
 draws:y.c.kind=5->∀z,z∈y.items->0<=z.d/\z.d<=2147483648
 few:y.c.kind=5->∀q i,(qGy y.c (qA5 y.items (-1) (clock-y.c.lag)) q i).1.length<=100
theorem qUi(base:Nat)(n:Int)(e:Nat)(v:Value)(clock ticks:Int)(ps:List (RB×RSer))(o:OpM)(w:World)(h:RWRep w e v clock ticks ps)(hi:RWInv n clock ticks (ps.map (·.2)))(hn:n<=651562446090)(hk:∀y,y∈ps.map (·.2)->KInv clock y):
  Calls Tryz.prog 53 #[.pointer (some ⟨e,0,none⟩),o.val] w λr w'=>qXo base w (qLk ⟨clock,ticks,ps.map (·.2)⟩ o) r w':=by
 unfold qLk
 rw[qE0]
 have post:∀ {c:Int×List Int} {r:Ending} {w':World},qE2 w c r w'->qXo base w c r w':=fun {c r w'} ⟨nv,h1,h2,h3⟩=>⟨_,_,nv,rfl,h1,h2,h3.mono (λ_ _ h=>h.elim)⟩
 cases hf:qB2 ps o.id with
 | none =>
  exact(qQ3 e v clock ticks ps o w h (by have:=hi.six;simp at this;omega) hf).mono (λ_ _=>post)
 | some p =>
  simp only[Option.map_some]
  have hm:=List.mem_map_of_mem (f:=(·.2)) (List.mem_of_find?_eq_some hf)
  have hki:=hk p.2 hm
  obtain⟨k,hkk,k1,k5,_,_⟩:=qCw (hi.sers p.2 hm).valid
  by_cases e1:p.2.c.kind=1
  ·rw[if_pos e1]
   by_cases hw:inB o.a 1 p.2.c.window=true
   ·rw[if_pos hw];exact(qM5 n e v clock ticks ps o w h hi (by omega) p hf e1 hw).mono (λ_ _=>post)
   ·rw[if_neg hw];exact(qNh n e v clock ticks ps o w h hi p hf e1 (by simpa using hw)).mono (λ_ _=>post)
  ·rw[if_neg e1]
   by_cases e2:p.2.c.kind=2
   ·rw[if_pos e2]
    by_cases hw:inB o.a 1 p.2.c.window=true
    ·rw[if_pos hw];exact(qVp n e v clock ticks ps o w h hi hn p hf e2 hw (hki.keys (.inl e2))).mono (λ_ _=>post)
    ·rw[if_neg hw];exact(qSl n e v clock ticks ps o w h hi p hf e2 (by simpa using hw)).mono (λ_ _=>post)
   ·rw[if_neg e2]
    by_cases e3:p.2.c.kind=3
    ·rw[if_pos e3]
     by_cases hw:inB o.a 0 2147483648=true
     ·rw[if_pos hw];exact(qT2 n e v clock ticks ps o w h hi hn p hf e3 hw (hki.keys (.inr e3))).mono (λ_ _=>post)
     ·rw[if_neg hw];exact(qVv n e v clock ticks ps o w h hi p hf e3 (by simpa using hw)).mono (λ_ _=>post)
    ·rw[if_neg e3]
     by_cases e5:p.2.c.kind=5
     ·rw[if_pos e5];exact(qU0 n e v clock ticks ps o w h hi hn p hf e5 (hki.draws e5) (hki.few e5)).mono (λ_ _=>post)
     ·rw[if_neg e5];exact(qNj n e v clock ticks ps o w h hi (by omega) p hf (by omega)).mono (λ_ _=>post)
end
end Go.Proofs.YtahnliehdjncdaaGreatDoor
