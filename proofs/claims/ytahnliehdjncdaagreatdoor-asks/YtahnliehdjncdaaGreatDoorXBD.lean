import Derived.Test.YtahnliehdjncdaaGreatDoorXBB
import Derived.Test.YtahnliehdjncdaaGreatDoorXBC
set_option maxRecDepth 100000
set_option maxHeartbeats 16000000
namespace Go.Proofs.YtahnliehdjncdaaGreatDoor
section
open Go.RowKit
attribute [local go_sem ↓] qAd qAe
attribute [local go_sem] qAi qAj qAc qAb qAm qAn qAg qAh qAk qAo
theorem qSo(n:Int)(e:Nat)(clock:Int)(b:RB)(y:RSer)(o:OpM)(w:World)(h:RRep w b y)(hi:RInv n y)(hn:n<=1152921504606846976)(hc:w.cell? ⟨e,0,none⟩=some (.int .i64 clock))(c0:0<=clock)(c1:clock<=4611686018427387904)(hK:y.c.kind=2)(ha:inB o.a 0 4611686018427387904=false):
  Calls Tryz.prog 112 #[.pointer (some ⟨e,0,none⟩),.pointer (some ⟨b.s,0,none⟩),o.val] w λr w'=>r=.returned (.int .i64 (qB6 y clock o))/\Keeps (λ_=>False) w w':=by
 have HG:=hide (show qB6 y clock o=5 by unfold qB6;rw[ha];rfl)
 have h1:o.cells[2]?=some (.int .i64 o.a):=rfl
 have hk0:Keeps (λ_=>False) w (w.alloc (.cells o.cells.toArray 40)):=(Keeps.refl (λ_=>False) w).alloc _
 have HO:=hide (show Blk (w.alloc (.cells o.cells.toArray 40)) w.heap.size o.cells 40 from Blk.new w o.cells 40)
 have HR:=hide (h.still hk0)
 have hkind:w.cell? ⟨b.s,1,none⟩=some (.int .i64 2):=by rw[<-hK];exact h.blk.cell rfl
 have hcl0:=hk0.cell hc (λh=>h)
 have HC:=hide hcl0
 have HK:=hide hk0
 have HI:=hide hi
 have HKD:=hide hK
 have hlen:y.items.length<=1152921504606846976:=by have:=hi.items;omega
 obtain⟨la0,la1,sk0,sk1,cp0,cp1⟩:=hi.common
 clear h hi hK hk0 hcl0
 have hout:o.a<0\/(0<=o.a/\4611686018427387904<o.a):=by
  simp[inB]at ha;omega
 have kd:(w.alloc (.cells o.cells.toArray 40)).cell? ⟨b.s,1,none⟩=some (.int .i64 2):=by
  have:=uh HKD
  rw[<-this];exact(uh HR).blk.cell rfl
 clear ha hkind
 unfold OpM.val
 rcases hout with ho | ⟨ho,ho2⟩
 all_goals
  go_enter Tryz.func112,Tryz.ntmps112
  go_wp2_with fail
  refine(qCa b y _ (by exact uh HR) hlen).mono ?_
  rintro r w1 ⟨rfl,hw1⟩
  rw[hw1]
  clear hw1 w1
  go_wp2_with fail
  refine(qBy e b.s y.c.lag clock _ (by exact uh HC) ((uh HR).blk.cell rfl) la0 la1 c0 c1).mono ?_
  rintro r w1 ⟨rfl,hk1⟩
  have o2:w1.cell? ⟨w.heap.size,2,none⟩=some (.int .i64 o.a):=hk1.cell ((uh HO).cell rfl) (λh=>h)
  have HK1:=hide ((uh HK).then hk1)
  clear hk1
  go_wp2
  go_ret
  exact⟨by rw[uh HG];rfl,uh HK1⟩
theorem qTu(n:Int)(e:Nat)(clock:Int)(b:RB)(y:RSer)(o:OpM)(w:World)(h:RRep w b y)(hi:RInv n y)(hn:n<=1152921504606846976)(hc:w.cell? ⟨e,0,none⟩=some (.int .i64 clock))(c0:0<=clock)(c1:clock<=4611686018427387904)(hK:y.c.kind=2)(ha:inB o.a 0 4611686018427387904=true):
  Calls Tryz.prog 112 #[.pointer (some ⟨e,0,none⟩),.pointer (some ⟨b.s,0,none⟩),o.val] w λr w'=>r=.returned (.int .i64 (qB6 y clock o))/\Keeps (λ_=>False) w w':=by
 have HG:=hide (show qB6 y clock o=if o.a<=clock-y.c.lag then 6 else if clock<o.a-y.c.skew then 7 else if (1:Int)=0 then 8 else if (!inB o.b 0 2147483648)=true then 10 else if y.c.cap<=(qA7 y.items).length then 11 else 0 by unfold qB6 qJ7 qJ1;rw[ha,hK];simp)
 have h1:o.cells[2]?=some (.int .i64 o.a):=rfl
 have hk0:Keeps (λ_=>False) w (w.alloc (.cells o.cells.toArray 40)):=(Keeps.refl (λ_=>False) w).alloc _
 have HO:=hide (show Blk (w.alloc (.cells o.cells.toArray 40)) w.heap.size o.cells 40 from Blk.new w o.cells 40)
 have HR:=hide (h.still hk0)
 have hkind:w.cell? ⟨b.s,1,none⟩=some (.int .i64 2):=by rw[<-hK];exact h.blk.cell rfl
 have hcl0:=hk0.cell hc (λh=>h)
 have HC:=hide hcl0
 have HK:=hide hk0
 have HI:=hide hi
 have HKD:=hide hK
 have hlen:y.items.length<=1152921504606846976:=by have:=hi.items;omega
 obtain⟨la0,la1,sk0,sk1,cp0,cp1⟩:=hi.common
 clear h hi hK hk0 hcl0
 obtain⟨a0,a1⟩:=qA9 ha
 have hbs:b.s<(w.alloc (.cells o.cells.toArray 40)).heap.size:=(uh HR).blk.lt
 have hob:w.heap.size<(w.alloc (.cells o.cells.toArray 40)).heap.size:=(uh HO).lt
 have o2:(w.alloc (.cells o.cells.toArray 40)).cell? ⟨w.heap.size,2,none⟩=some (.int .i64 o.a):=(uh HO).cell rfl
 have kd:(w.alloc (.cells o.cells.toArray 40)).cell? ⟨b.s,1,none⟩=some (.int .i64 2):=by
  have:=uh HKD
  rw[<-this];exact(uh HR).blk.cell rfl
 clear ha hkind
 unfold OpM.val
 go_enter Tryz.func112,Tryz.ntmps112
 go_wp2_with fail
 generalize w.alloc (.cells o.cells.toArray 40)=w0 at *
 generalize w.heap.size=ob at *
 have hk1:Keeps (λ_=>False) w0 w0:=Keeps.refl (λ_=>False) w0
 have HO1:=hide ((uh HO).keeps hk1 (λh=>h))
 have HR1:=hide ((uh HR).still hk1)
 have HC1:=hide (hk1.cell (uh HC) (λh=>h))
 have HK1:=hide ((uh HK).then hk1)
 clear hk1 o2 kd hbs hob
 refine(qCa b y w0 (uh HR1) hlen).mono ?_
 rintro r w9 ⟨rfl,hw9⟩
 rw[hw9]
 clear hw9 w9
 go_wp2_with fail
 refine(qBy e b.s y.c.lag clock w0 (uh HC1) ((uh HR1).blk.cell rfl) la0 la1 c0 c1).mono ?_
 rintro r w2 ⟨rfl,hk2⟩
 have o2:w2.cell? ⟨ob,2,none⟩=some (.int .i64 o.a):=hk2.cell ((uh HO1).cell rfl) (λh=>h)
 have o3:w2.cell? ⟨ob,3,none⟩=some (.int .i64 o.b):=hk2.cell ((uh HO1).cell rfl) (λh=>h)
 have o4:w2.cell? ⟨ob,4,none⟩=some (.int .i64 o.c):=hk2.cell ((uh HO1).cell rfl) (λh=>h)
 have s3:w2.cell? ⟨b.s,3,none⟩=some (.int .i64 y.c.skew):=hk2.cell ((uh HR1).blk.cell rfl) (λh=>h)
 have s4:w2.cell? ⟨b.s,4,none⟩=some (.int .i64 y.c.cap):=hk2.cell ((uh HR1).blk.cell rfl) (λh=>h)
 have e0:w2.cell? ⟨e,0,none⟩=some (.int .i64 clock):=hk2.cell (uh HC1) (λh=>h)
 have HK2:=hide ((uh HK1).then hk2)
 have hwl:(qA7 y.items).length<=1152921504606846976:=by have:=qCo y.items;omega
 clear hk2 h1
 generalize(qA7 y.items).length=wl at *
 generalize hmk:clock-y.c.lag=mark at *
 have HM:=hide hmk
 clear hmk
 by_cases hm:o.a<=mark
 ·have HG':=hide (by have:=uh HG;rw[if_pos hm]at this;exact this)
  go_wp2
  go_ret
  exact⟨by rw[uh HG'];rfl,uh HK2⟩
 have HG1:=hide (by have:=uh HG;rw[if_neg hm]at this;exact this)
 clear HG
 by_cases hs:clock<o.a-y.c.skew
 ·have HG':=hide (by have:=uh HG1;rw[if_pos hs]at this;exact this)
  go_wp2_with fail
  go_region
  go_wp2
  go_ret
  exact⟨by rw[uh HG'];rfl,(uh HK2).drew⟩
 have HG2:=hide (by have:=uh HG1;rw[if_neg hs]at this;exact this)
 clear HG1
 have HG3:=hide (by have:=uh HG2;rw[if_neg (show ¬(1:Int)=0 by omega)]at this;exact this)
 clear HG2
 cases hb:inB o.b 0 2147483648
 ·have HG':=hide (by have:=uh HG3;rw[hb,if_pos (show(!false)=true from rfl)]at this;exact this)
  go_wp2_with fail
  go_region
  go_wp2_with (go_at_call 77;refine(qAl _ _ _ _).mono ?_;rintro r w9 ⟨rfl,rfl⟩)
  go_ret
  exact⟨by rw[uh HG'];rfl,(uh HK2).drew⟩
 have HG4:=hide (by have:=uh HG3;rw[hb,if_neg (show ¬(!true)=true by simp)]at this;exact this)
 clear HG3
 have HG5:=HG4
 clear HG4
 by_cases hcp:y.c.cap<=(wl:Int)
 ·have HG':=hide (by have:=uh HG5;rw[if_pos hcp]at this;exact this)
  go_wp2_with fail
  go_region
  go_wp2_with (go_at_call 77;refine(qAl _ _ _ _).mono ?_;rintro r w9 ⟨rfl,rfl⟩)
  go_ret
  exact⟨by rw[uh HG'];rfl,(uh HK2).drew⟩
 ·have HG':=hide (by have:=uh HG5;rw[if_neg hcp]at this;exact this)
  go_wp2_with fail
  go_region
  go_wp2_with (go_at_call 77;refine(qAl _ _ _ _).mono ?_;rintro r w9 ⟨rfl,rfl⟩)
  go_ret
  exact⟨by rw[uh HG'];rfl,(uh HK2).drew⟩
theorem qSj(n:Int)(e:Nat)(clock:Int)(b:RB)(y:RSer)(o:OpM)(w:World)(h:RRep w b y)(hi:RInv n y)(hn:n<=1152921504606846976)(hc:w.cell? ⟨e,0,none⟩=some (.int .i64 clock))(c0:0<=clock)(c1:clock<=4611686018427387904)(hK:y.c.kind=3)(ha:inB o.a 0 4611686018427387904=false):
  Calls Tryz.prog 112 #[.pointer (some ⟨e,0,none⟩),.pointer (some ⟨b.s,0,none⟩),o.val] w λr w'=>r=.returned (.int .i64 (qB6 y clock o))/\Keeps (λ_=>False) w w':=by
 have HG:=hide (show qB6 y clock o=5 by unfold qB6;rw[ha];rfl)
 have h1:o.cells[2]?=some (.int .i64 o.a):=rfl
 have hk0:Keeps (λ_=>False) w (w.alloc (.cells o.cells.toArray 40)):=(Keeps.refl (λ_=>False) w).alloc _
 have HO:=hide (show Blk (w.alloc (.cells o.cells.toArray 40)) w.heap.size o.cells 40 from Blk.new w o.cells 40)
 have HR:=hide (h.still hk0)
 have hkind:w.cell? ⟨b.s,1,none⟩=some (.int .i64 3):=by rw[<-hK];exact h.blk.cell rfl
 have hcl0:=hk0.cell hc (λh=>h)
 have HC:=hide hcl0
 have HK:=hide hk0
 have HI:=hide hi
 have HKD:=hide hK
 have hlen:y.items.length<=1152921504606846976:=by have:=hi.items;omega
 obtain⟨la0,la1,sk0,sk1,cp0,cp1⟩:=hi.common
 clear h hi hK hk0 hcl0
 have hout:o.a<0\/(0<=o.a/\4611686018427387904<o.a):=by
  simp[inB]at ha;omega
 have kd:(w.alloc (.cells o.cells.toArray 40)).cell? ⟨b.s,1,none⟩=some (.int .i64 3):=by
  have:=uh HKD
  rw[<-this];exact(uh HR).blk.cell rfl
 clear ha hkind
 unfold OpM.val
 rcases hout with ho | ⟨ho,ho2⟩
 all_goals
  go_enter Tryz.func112,Tryz.ntmps112
  go_wp2_with fail
  refine(qCa b y _ (by exact uh HR) hlen).mono ?_
  rintro r w1 ⟨rfl,hw1⟩
  rw[hw1]
  clear hw1 w1
  go_wp2_with fail
  refine(qBy e b.s y.c.lag clock _ (by exact uh HC) ((uh HR).blk.cell rfl) la0 la1 c0 c1).mono ?_
  rintro r w1 ⟨rfl,hk1⟩
  have o2:w1.cell? ⟨w.heap.size,2,none⟩=some (.int .i64 o.a):=hk1.cell ((uh HO).cell rfl) (λh=>h)
  have HK1:=hide ((uh HK).then hk1)
  clear hk1
  go_wp2
  go_ret
  exact⟨by rw[uh HG];rfl,uh HK1⟩
theorem qVz(n:Int)(e:Nat)(clock:Int)(b:RB)(y:RSer)(o:OpM)(w:World)(h:RRep w b y)(hi:RInv n y)(hn:n<=1152921504606846976)(hc:w.cell? ⟨e,0,none⟩=some (.int .i64 clock))(c0:0<=clock)(c1:clock<=4611686018427387904)(hK:y.c.kind=3)(ha:inB o.a 0 4611686018427387904=true):
  Calls Tryz.prog 112 #[.pointer (some ⟨e,0,none⟩),.pointer (some ⟨b.s,0,none⟩),o.val] w λr w'=>r=.returned (.int .i64 (qB6 y clock o))/\Keeps (λ_=>False) w w':=by
 have HG:=hide (show qB6 y clock o=if o.a<=clock-y.c.lag then 6 else if clock<o.a-y.c.skew then 7 else if (1:Int)=0 then 8 else if (!inB o.b 0 2147483648)=true then 10 else if y.c.cap<=(qA7 y.items).length then 11 else 0 by unfold qB6 qJ7 qJ1;rw[ha,hK];simp)
 have h1:o.cells[2]?=some (.int .i64 o.a):=rfl
 have hk0:Keeps (λ_=>False) w (w.alloc (.cells o.cells.toArray 40)):=(Keeps.refl (λ_=>False) w).alloc _
 have HO:=hide (show Blk (w.alloc (.cells o.cells.toArray 40)) w.heap.size o.cells 40 from Blk.new w o.cells 40)
 have HR:=hide (h.still hk0)
 have hkind:w.cell? ⟨b.s,1,none⟩=some (.int .i64 3):=by rw[<-hK];exact h.blk.cell rfl
 have hcl0:=hk0.cell hc (λh=>h)
 have HC:=hide hcl0
 have HK:=hide hk0
 have HI:=hide hi
 have HKD:=hide hK
 have hlen:y.items.length<=1152921504606846976:=by have:=hi.items;omega
 obtain⟨la0,la1,sk0,sk1,cp0,cp1⟩:=hi.common
 clear h hi hK hk0 hcl0
 obtain⟨a0,a1⟩:=qA9 ha
 have hbs:b.s<(w.alloc (.cells o.cells.toArray 40)).heap.size:=(uh HR).blk.lt
 have hob:w.heap.size<(w.alloc (.cells o.cells.toArray 40)).heap.size:=(uh HO).lt
 have o2:(w.alloc (.cells o.cells.toArray 40)).cell? ⟨w.heap.size,2,none⟩=some (.int .i64 o.a):=(uh HO).cell rfl
 have kd:(w.alloc (.cells o.cells.toArray 40)).cell? ⟨b.s,1,none⟩=some (.int .i64 3):=by
  have:=uh HKD
  rw[<-this];exact(uh HR).blk.cell rfl
 clear ha hkind
 unfold OpM.val
 go_enter Tryz.func112,Tryz.ntmps112
 go_wp2_with fail
 generalize w.alloc (.cells o.cells.toArray 40)=w0 at *
 generalize w.heap.size=ob at *
 have hk1:Keeps (λ_=>False) w0 w0:=Keeps.refl (λ_=>False) w0
 have HO1:=hide ((uh HO).keeps hk1 (λh=>h))
 have HR1:=hide ((uh HR).still hk1)
 have HC1:=hide (hk1.cell (uh HC) (λh=>h))
 have HK1:=hide ((uh HK).then hk1)
 clear hk1 o2 kd hbs hob
 refine(qCa b y w0 (uh HR1) hlen).mono ?_
 rintro r w9 ⟨rfl,hw9⟩
 rw[hw9]
 clear hw9 w9
 go_wp2_with fail
 refine(qBy e b.s y.c.lag clock w0 (uh HC1) ((uh HR1).blk.cell rfl) la0 la1 c0 c1).mono ?_
 rintro r w2 ⟨rfl,hk2⟩
 have o2:w2.cell? ⟨ob,2,none⟩=some (.int .i64 o.a):=hk2.cell ((uh HO1).cell rfl) (λh=>h)
 have o3:w2.cell? ⟨ob,3,none⟩=some (.int .i64 o.b):=hk2.cell ((uh HO1).cell rfl) (λh=>h)
 have o4:w2.cell? ⟨ob,4,none⟩=some (.int .i64 o.c):=hk2.cell ((uh HO1).cell rfl) (λh=>h)
 have s3:w2.cell? ⟨b.s,3,none⟩=some (.int .i64 y.c.skew):=hk2.cell ((uh HR1).blk.cell rfl) (λh=>h)
 have s4:w2.cell? ⟨b.s,4,none⟩=some (.int .i64 y.c.cap):=hk2.cell ((uh HR1).blk.cell rfl) (λh=>h)
 have e0:w2.cell? ⟨e,0,none⟩=some (.int .i64 clock):=hk2.cell (uh HC1) (λh=>h)
 have HK2:=hide ((uh HK1).then hk2)
 have hwl:(qA7 y.items).length<=1152921504606846976:=by have:=qCo y.items;omega
 clear hk2 h1
 generalize(qA7 y.items).length=wl at *
 generalize hmk:clock-y.c.lag=mark at *
 have HM:=hide hmk
 clear hmk
 by_cases hm:o.a<=mark
 ·have HG':=hide (by have:=uh HG;rw[if_pos hm]at this;exact this)
  go_wp2
  go_ret
  exact⟨by rw[uh HG'];rfl,uh HK2⟩
 have HG1:=hide (by have:=uh HG;rw[if_neg hm]at this;exact this)
 clear HG
 by_cases hs:clock<o.a-y.c.skew
 ·have HG':=hide (by have:=uh HG1;rw[if_pos hs]at this;exact this)
  go_wp2_with fail
  go_region
  go_wp2
  go_ret
  exact⟨by rw[uh HG'];rfl,(uh HK2).drew⟩
 have HG2:=hide (by have:=uh HG1;rw[if_neg hs]at this;exact this)
 clear HG1
 have HG3:=hide (by have:=uh HG2;rw[if_neg (show ¬(1:Int)=0 by omega)]at this;exact this)
 clear HG2
 cases hb:inB o.b 0 2147483648
 ·have HG':=hide (by have:=uh HG3;rw[hb,if_pos (show(!false)=true from rfl)]at this;exact this)
  go_wp2_with fail
  go_region
  go_wp2_with (go_at_call 77;refine(qAl _ _ _ _).mono ?_;rintro r w9 ⟨rfl,rfl⟩)
  go_ret
  exact⟨by rw[uh HG'];rfl,(uh HK2).drew⟩
 have HG4:=hide (by have:=uh HG3;rw[hb,if_neg (show ¬(!true)=true by simp)]at this;exact this)
 clear HG3
 have HG5:=HG4
 clear HG4
 by_cases hcp:y.c.cap<=(wl:Int)
 ·have HG':=hide (by have:=uh HG5;rw[if_pos hcp]at this;exact this)
  go_wp2_with fail
  go_region
  go_wp2_with (go_at_call 77;refine(qAl _ _ _ _).mono ?_;rintro r w9 ⟨rfl,rfl⟩)
  go_ret
  exact⟨by rw[uh HG'];rfl,(uh HK2).drew⟩
 ·have HG':=hide (by have:=uh HG5;rw[if_neg hcp]at this;exact this)
  go_wp2_with fail
  go_region
  go_wp2_with (go_at_call 77;refine(qAl _ _ _ _).mono ?_;rintro r w9 ⟨rfl,rfl⟩)
  go_ret
  exact⟨by rw[uh HG'];rfl,(uh HK2).drew⟩
theorem qRx(n:Int)(e:Nat)(clock:Int)(b:RB)(y:RSer)(o:OpM)(w:World)(h:RRep w b y)(hi:RInv n y)(hn:n<=1152921504606846976)(hc:w.cell? ⟨e,0,none⟩=some (.int .i64 clock))(c0:0<=clock)(c1:clock<=4611686018427387904)(hK:y.c.kind=4)(ha:inB o.a 0 4611686018427387904=false):
  Calls Tryz.prog 112 #[.pointer (some ⟨e,0,none⟩),.pointer (some ⟨b.s,0,none⟩),o.val] w λr w'=>r=.returned (.int .i64 (qB6 y clock o))/\Keeps (λ_=>False) w w':=by
 have HG:=hide (show qB6 y clock o=5 by unfold qB6;rw[ha];rfl)
 have h1:o.cells[2]?=some (.int .i64 o.a):=rfl
 have hk0:Keeps (λ_=>False) w (w.alloc (.cells o.cells.toArray 40)):=(Keeps.refl (λ_=>False) w).alloc _
 have HO:=hide (show Blk (w.alloc (.cells o.cells.toArray 40)) w.heap.size o.cells 40 from Blk.new w o.cells 40)
 have HR:=hide (h.still hk0)
 have hkind:w.cell? ⟨b.s,1,none⟩=some (.int .i64 4):=by rw[<-hK];exact h.blk.cell rfl
 have hcl0:=hk0.cell hc (λh=>h)
 have HC:=hide hcl0
 have HK:=hide hk0
 have HI:=hide hi
 have HKD:=hide hK
 have hlen:y.items.length<=1152921504606846976:=by have:=hi.items;omega
 obtain⟨la0,la1,sk0,sk1,cp0,cp1⟩:=hi.common
 clear h hi hK hk0 hcl0
 have hout:o.a<0\/(0<=o.a/\4611686018427387904<o.a):=by
  simp[inB]at ha;omega
 have kd:(w.alloc (.cells o.cells.toArray 40)).cell? ⟨b.s,1,none⟩=some (.int .i64 4):=by
  have:=uh HKD
  rw[<-this];exact(uh HR).blk.cell rfl
 clear ha hkind
 unfold OpM.val
 rcases hout with ho | ⟨ho,ho2⟩
 all_goals
  go_enter Tryz.func112,Tryz.ntmps112
  go_wp2_with fail
  refine(qCa b y _ (by exact uh HR) hlen).mono ?_
  rintro r w1 ⟨rfl,hw1⟩
  rw[hw1]
  clear hw1 w1
  go_wp2_with fail
  refine(qBy e b.s y.c.lag clock _ (by exact uh HC) ((uh HR).blk.cell rfl) la0 la1 c0 c1).mono ?_
  rintro r w1 ⟨rfl,hk1⟩
  have o2:w1.cell? ⟨w.heap.size,2,none⟩=some (.int .i64 o.a):=hk1.cell ((uh HO).cell rfl) (λh=>h)
  have HK1:=hide ((uh HK).then hk1)
  clear hk1
  go_wp2
  go_ret
  exact⟨by rw[uh HG];rfl,uh HK1⟩
theorem qVo(n:Int)(e:Nat)(clock:Int)(b:RB)(y:RSer)(o:OpM)(w:World)(h:RRep w b y)(hi:RInv n y)(hn:n<=1152921504606846976)(hc:w.cell? ⟨e,0,none⟩=some (.int .i64 clock))(c0:0<=clock)(c1:clock<=4611686018427387904)(hK:y.c.kind=4)(ha:inB o.a 0 4611686018427387904=true):
  Calls Tryz.prog 112 #[.pointer (some ⟨e,0,none⟩),.pointer (some ⟨b.s,0,none⟩),o.val] w λr w'=>r=.returned (.int .i64 (qB6 y clock o))/\Keeps (λ_=>False) w w':=by
 have HG:=hide (show qB6 y clock o=if o.a<=clock-y.c.lag then 6 else if clock<o.a-y.c.skew then 7 else if qA3 (qAr y.c o.a)=0 then 8 else if y.c.cap<=(qA7 y.items).length then 11 else 0 by unfold qB6 qJ7 qJ1;rw[ha,hK];simp)
 have h1:o.cells[2]?=some (.int .i64 o.a):=rfl
 have hk0:Keeps (λ_=>False) w (w.alloc (.cells o.cells.toArray 40)):=(Keeps.refl (λ_=>False) w).alloc _
 have HO:=hide (show Blk (w.alloc (.cells o.cells.toArray 40)) w.heap.size o.cells 40 from Blk.new w o.cells 40)
 have HR:=hide (h.still hk0)
 have hkind:w.cell? ⟨b.s,1,none⟩=some (.int .i64 4):=by rw[<-hK];exact h.blk.cell rfl
 have hcl0:=hk0.cell hc (λh=>h)
 have HC:=hide hcl0
 have HK:=hide hk0
 have HI:=hide hi
 have HKD:=hide hK
 have hlen:y.items.length<=1152921504606846976:=by have:=hi.items;omega
 obtain⟨la0,la1,sk0,sk1,cp0,cp1⟩:=hi.common
 clear h hi hK hk0 hcl0
 obtain⟨a0,a1⟩:=qA9 ha
 have HW:=hide (show y.c.weighs from by
    obtain⟨k,hk,_,_,_,hf⟩:=qCw (uh HI).valid
    have:k=4:=by have:=uh HKD;omega
    subst this
    simp only[qEt,qB4,Bool.and_eq_true]at hf
    obtain⟨f1,f2,f3⟩:=hf
    obtain⟨q1,q2⟩:=qA9 f1
    obtain⟨q3,q4⟩:=qA9 f2
    obtain⟨q5,q6⟩:=qA9 f3
    exact⟨q1,q2,q3,q4,q5,q6⟩)
 have HBG:=hide (qEi (uh HR).blk)
 obtain⟨bg1,bg2⟩:=uh HBG
 have hbs:b.s<(w.alloc (.cells o.cells.toArray 40)).heap.size:=(uh HR).blk.lt
 have hob:w.heap.size<(w.alloc (.cells o.cells.toArray 40)).heap.size:=(uh HO).lt
 have o2:(w.alloc (.cells o.cells.toArray 40)).cell? ⟨w.heap.size,2,none⟩=some (.int .i64 o.a):=(uh HO).cell rfl
 have kd:(w.alloc (.cells o.cells.toArray 40)).cell? ⟨b.s,1,none⟩=some (.int .i64 4):=by
  have:=uh HKD
  rw[<-this];exact(uh HR).blk.cell rfl
 clear ha hkind
 unfold OpM.val
 go_enter Tryz.func112,Tryz.ntmps112
 go_wp2_with fail
 generalize w.alloc (.cells o.cells.toArray 40)=w0 at *
 generalize w.heap.size=ob at *
 go_region_held3 (λw'=>qAv w' b.s 1 20=.agg y.c.cells.toArray/\qA2 w' b.s 1 20=true/\w'.cell? ⟨ob,2,none⟩=some (.int .i64 o.a))
  (first | (simp[*,qAc,qAb];done) | (go_split_ands;exact⟨(qAp hk1 (λh=>h) (by exact hbs)).1.trans (by assumption),(qAp hk1 (λh=>h) (by exact hbs)).2.trans (by assumption),hk1.cell (by assumption) (λh=>h)⟩))
  (first | (go_at_call 109;refine(qD5 y.c o.a _ (uh HW) (by omega) a1).mono ?_;rintro r w1 ⟨rfl,hk1⟩))
 generalize hwt:qA3 (qAr y.c o.a)=wt at *
 have HWT:=hide hwt
 clear hwt bg1 bg2
 have hk1:Keeps (λ_=>False) w0 w1:=(((Keeps.refl (λ_=>False) w0).drew).then hk1)
 go_wp2_with fail
 have HO1:=hide ((uh HO).keeps hk1 (λh=>h))
 have HR1:=hide ((uh HR).still hk1)
 have HC1:=hide (hk1.cell (uh HC) (λh=>h))
 have HK1:=hide ((uh HK).then hk1)
 clear hk1 o2 kd hbs hob
 refine(qCa b y w1 (uh HR1) hlen).mono ?_
 rintro r w9 ⟨rfl,hw9⟩
 rw[hw9]
 clear hw9 w9
 go_wp2_with fail
 refine(qBy e b.s y.c.lag clock w1 (uh HC1) ((uh HR1).blk.cell rfl) la0 la1 c0 c1).mono ?_
 rintro r w2 ⟨rfl,hk2⟩
 have o2:w2.cell? ⟨ob,2,none⟩=some (.int .i64 o.a):=hk2.cell ((uh HO1).cell rfl) (λh=>h)
 have o3:w2.cell? ⟨ob,3,none⟩=some (.int .i64 o.b):=hk2.cell ((uh HO1).cell rfl) (λh=>h)
 have o4:w2.cell? ⟨ob,4,none⟩=some (.int .i64 o.c):=hk2.cell ((uh HO1).cell rfl) (λh=>h)
 have s3:w2.cell? ⟨b.s,3,none⟩=some (.int .i64 y.c.skew):=hk2.cell ((uh HR1).blk.cell rfl) (λh=>h)
 have s4:w2.cell? ⟨b.s,4,none⟩=some (.int .i64 y.c.cap):=hk2.cell ((uh HR1).blk.cell rfl) (λh=>h)
 have e0:w2.cell? ⟨e,0,none⟩=some (.int .i64 clock):=hk2.cell (uh HC1) (λh=>h)
 have HK2:=hide ((uh HK1).then hk2)
 have hwl:(qA7 y.items).length<=1152921504606846976:=by have:=qCo y.items;omega
 clear hk2 h1
 generalize(qA7 y.items).length=wl at *
 generalize hmk:clock-y.c.lag=mark at *
 have HM:=hide hmk
 clear hmk
 by_cases hm:o.a<=mark
 ·have HG':=hide (by have:=uh HG;rw[if_pos hm]at this;exact this)
  go_wp2
  go_ret
  exact⟨by rw[uh HG'];rfl,uh HK2⟩
 have HG1:=hide (by have:=uh HG;rw[if_neg hm]at this;exact this)
 clear HG
 by_cases hs:clock<o.a-y.c.skew
 ·have HG':=hide (by have:=uh HG1;rw[if_pos hs]at this;exact this)
  go_wp2_with fail
  go_region
  go_wp2
  go_ret
  exact⟨by rw[uh HG'];rfl,(uh HK2).drew⟩
 have HG2:=hide (by have:=uh HG1;rw[if_neg hs]at this;exact this)
 clear HG1
 by_cases hz:wt=0
 ·have HG':=hide (by have:=uh HG2;rw[if_pos hz]at this;exact this)
  have hzb:(wt==0)=true:=by simpa using hz
  go_wp2_with fail
  go_region
  go_wp2
  go_ret
  exact⟨by rw[uh HG'];rfl,(uh HK2).drew⟩
 have HG3:=hide (by have:=uh HG2;rw[if_neg hz]at this;exact this)
 have hzb:(wt==0)=false:=by simpa using hz
 clear HG2 hz
 have HG4:=HG3
 clear HG3
 have HG5:=HG4
 clear HG4
 by_cases hcp:y.c.cap<=(wl:Int)
 ·have HG':=hide (by have:=uh HG5;rw[if_pos hcp]at this;exact this)
  go_wp2_with fail
  go_region
  go_wp2
  go_ret
  exact⟨by rw[uh HG'];rfl,(uh HK2).drew⟩
 ·have HG':=hide (by have:=uh HG5;rw[if_neg hcp]at this;exact this)
  go_wp2_with fail
  go_region
  go_wp2
  go_ret
  exact⟨by rw[uh HG'];rfl,(uh HK2).drew⟩
theorem qSy(n:Int)(e:Nat)(clock:Int)(b:RB)(y:RSer)(o:OpM)(w:World)(h:RRep w b y)(hi:RInv n y)(hn:n<=1152921504606846976)(hc:w.cell? ⟨e,0,none⟩=some (.int .i64 clock))(c0:0<=clock)(c1:clock<=4611686018427387904)(hK:y.c.kind=5)(ha:inB o.a 0 4611686018427387904=false):
  Calls Tryz.prog 112 #[.pointer (some ⟨e,0,none⟩),.pointer (some ⟨b.s,0,none⟩),o.val] w λr w'=>r=.returned (.int .i64 (qB6 y clock o))/\Keeps (λ_=>False) w w':=by
 have HG:=hide (show qB6 y clock o=5 by unfold qB6;rw[ha];rfl)
 have h1:o.cells[2]?=some (.int .i64 o.a):=rfl
 have hk0:Keeps (λ_=>False) w (w.alloc (.cells o.cells.toArray 40)):=(Keeps.refl (λ_=>False) w).alloc _
 have HO:=hide (show Blk (w.alloc (.cells o.cells.toArray 40)) w.heap.size o.cells 40 from Blk.new w o.cells 40)
 have HR:=hide (h.still hk0)
 have hkind:w.cell? ⟨b.s,1,none⟩=some (.int .i64 5):=by rw[<-hK];exact h.blk.cell rfl
 have hcl0:=hk0.cell hc (λh=>h)
 have HC:=hide hcl0
 have HK:=hide hk0
 have HI:=hide hi
 have HKD:=hide hK
 have hlen:y.items.length<=1152921504606846976:=by have:=hi.items;omega
 obtain⟨la0,la1,sk0,sk1,cp0,cp1⟩:=hi.common
 clear h hi hK hk0 hcl0
 have hout:o.a<0\/(0<=o.a/\4611686018427387904<o.a):=by
  simp[inB]at ha;omega
 have kd:(w.alloc (.cells o.cells.toArray 40)).cell? ⟨b.s,1,none⟩=some (.int .i64 5):=by
  have:=uh HKD
  rw[<-this];exact(uh HR).blk.cell rfl
 clear ha hkind
 unfold OpM.val
 rcases hout with ho | ⟨ho,ho2⟩
 all_goals
  go_enter Tryz.func112,Tryz.ntmps112
  go_wp2_with fail
  refine(qCa b y _ (by exact uh HR) hlen).mono ?_
  rintro r w1 ⟨rfl,hw1⟩
  rw[hw1]
  clear hw1 w1
  go_wp2_with fail
  refine(qBy e b.s y.c.lag clock _ (by exact uh HC) ((uh HR).blk.cell rfl) la0 la1 c0 c1).mono ?_
  rintro r w1 ⟨rfl,hk1⟩
  have o2:w1.cell? ⟨w.heap.size,2,none⟩=some (.int .i64 o.a):=hk1.cell ((uh HO).cell rfl) (λh=>h)
  have HK1:=hide ((uh HK).then hk1)
  clear hk1
  go_wp2
  go_ret
  exact⟨by rw[uh HG];rfl,uh HK1⟩
theorem qUr(n:Int)(e:Nat)(clock:Int)(b:RB)(y:RSer)(o:OpM)(w:World)(h:RRep w b y)(hi:RInv n y)(hn:n<=1152921504606846976)(hc:w.cell? ⟨e,0,none⟩=some (.int .i64 clock))(c0:0<=clock)(c1:clock<=4611686018427387904)(hK:y.c.kind=5)(ha:inB o.a 0 4611686018427387904=true):
  Calls Tryz.prog 112 #[.pointer (some ⟨e,0,none⟩),.pointer (some ⟨b.s,0,none⟩),o.val] w λr w'=>r=.returned (.int .i64 (qB6 y clock o))/\Keeps (λ_=>False) w w':=by
 have HG:=hide (show qB6 y clock o=if o.a<=clock-y.c.lag then 6 else if clock<o.a-y.c.skew then 7 else if qA3 (qAr y.c o.a)=0 then 8 else if (!inB o.b 0 2147483648)=true then 10 else if (!inB o.c 1 2147483648)=true then 9 else if y.c.cap<=(qA7 y.items).length then 11 else 0 by unfold qB6 qJ7 qJ1;rw[ha,hK];simp)
 have h1:o.cells[2]?=some (.int .i64 o.a):=rfl
 have hk0:Keeps (λ_=>False) w (w.alloc (.cells o.cells.toArray 40)):=(Keeps.refl (λ_=>False) w).alloc _
 have HO:=hide (show Blk (w.alloc (.cells o.cells.toArray 40)) w.heap.size o.cells 40 from Blk.new w o.cells 40)
 have HR:=hide (h.still hk0)
 have hkind:w.cell? ⟨b.s,1,none⟩=some (.int .i64 5):=by rw[<-hK];exact h.blk.cell rfl
 have hcl0:=hk0.cell hc (λh=>h)
 have HC:=hide hcl0
 have HK:=hide hk0
 have HI:=hide hi
 have HKD:=hide hK
 have hlen:y.items.length<=1152921504606846976:=by have:=hi.items;omega
 obtain⟨la0,la1,sk0,sk1,cp0,cp1⟩:=hi.common
 clear h hi hK hk0 hcl0
 obtain⟨a0,a1⟩:=qA9 ha
 have HW:=hide (show y.c.weighs from by
    obtain⟨k,hk,_,_,_,hf⟩:=qCw (uh HI).valid
    have:k=5:=by have:=uh HKD;omega
    subst this
    simp only[qEt,qIl,qB4,Bool.and_eq_true]at hf
    obtain⟨_,f1,f2,f3⟩:=hf
    obtain⟨q1,q2⟩:=qA9 f1
    obtain⟨q3,q4⟩:=qA9 f2
    obtain⟨q5,q6⟩:=qA9 f3
    exact⟨q1,q2,q3,q4,q5,q6⟩)
 have HBG:=hide (qEi (uh HR).blk)
 obtain⟨bg1,bg2⟩:=uh HBG
 have hbs:b.s<(w.alloc (.cells o.cells.toArray 40)).heap.size:=(uh HR).blk.lt
 have hob:w.heap.size<(w.alloc (.cells o.cells.toArray 40)).heap.size:=(uh HO).lt
 have o2:(w.alloc (.cells o.cells.toArray 40)).cell? ⟨w.heap.size,2,none⟩=some (.int .i64 o.a):=(uh HO).cell rfl
 have kd:(w.alloc (.cells o.cells.toArray 40)).cell? ⟨b.s,1,none⟩=some (.int .i64 5):=by
  have:=uh HKD
  rw[<-this];exact(uh HR).blk.cell rfl
 clear ha hkind
 unfold OpM.val
 go_enter Tryz.func112,Tryz.ntmps112
 go_wp2_with fail
 generalize w.alloc (.cells o.cells.toArray 40)=w0 at *
 generalize w.heap.size=ob at *
 go_region_held3 (λw'=>qAv w' b.s 1 20=.agg y.c.cells.toArray/\qA2 w' b.s 1 20=true/\w'.cell? ⟨ob,2,none⟩=some (.int .i64 o.a))
  (first | (simp[*,qAc,qAb];done) | (go_split_ands;exact⟨(qAp hk1 (λh=>h) (by exact hbs)).1.trans (by assumption),(qAp hk1 (λh=>h) (by exact hbs)).2.trans (by assumption),hk1.cell (by assumption) (λh=>h)⟩))
  (first | (go_at_call 109;refine(qD5 y.c o.a _ (uh HW) (by omega) a1).mono ?_;rintro r w1 ⟨rfl,hk1⟩))
 generalize hwt:qA3 (qAr y.c o.a)=wt at *
 have HWT:=hide hwt
 clear hwt bg1 bg2
 have hk1:Keeps (λ_=>False) w0 w1:=(((Keeps.refl (λ_=>False) w0).drew).then hk1)
 go_wp2_with fail
 have HO1:=hide ((uh HO).keeps hk1 (λh=>h))
 have HR1:=hide ((uh HR).still hk1)
 have HC1:=hide (hk1.cell (uh HC) (λh=>h))
 have HK1:=hide ((uh HK).then hk1)
 clear hk1 o2 kd hbs hob
 refine(qCa b y w1 (uh HR1) hlen).mono ?_
 rintro r w9 ⟨rfl,hw9⟩
 rw[hw9]
 clear hw9 w9
 go_wp2_with fail
 refine(qBy e b.s y.c.lag clock w1 (uh HC1) ((uh HR1).blk.cell rfl) la0 la1 c0 c1).mono ?_
 rintro r w2 ⟨rfl,hk2⟩
 have o2:w2.cell? ⟨ob,2,none⟩=some (.int .i64 o.a):=hk2.cell ((uh HO1).cell rfl) (λh=>h)
 have o3:w2.cell? ⟨ob,3,none⟩=some (.int .i64 o.b):=hk2.cell ((uh HO1).cell rfl) (λh=>h)
 have o4:w2.cell? ⟨ob,4,none⟩=some (.int .i64 o.c):=hk2.cell ((uh HO1).cell rfl) (λh=>h)
 have s3:w2.cell? ⟨b.s,3,none⟩=some (.int .i64 y.c.skew):=hk2.cell ((uh HR1).blk.cell rfl) (λh=>h)
 have s4:w2.cell? ⟨b.s,4,none⟩=some (.int .i64 y.c.cap):=hk2.cell ((uh HR1).blk.cell rfl) (λh=>h)
 have e0:w2.cell? ⟨e,0,none⟩=some (.int .i64 clock):=hk2.cell (uh HC1) (λh=>h)
 have HK2:=hide ((uh HK1).then hk2)
 have hwl:(qA7 y.items).length<=1152921504606846976:=by have:=qCo y.items;omega
 clear hk2 h1
 generalize(qA7 y.items).length=wl at *
 generalize hmk:clock-y.c.lag=mark at *
 have HM:=hide hmk
 clear hmk
 by_cases hm:o.a<=mark
 ·have HG':=hide (by have:=uh HG;rw[if_pos hm]at this;exact this)
  go_wp2
  go_ret
  exact⟨by rw[uh HG'];rfl,uh HK2⟩
 have HG1:=hide (by have:=uh HG;rw[if_neg hm]at this;exact this)
 clear HG
 by_cases hs:clock<o.a-y.c.skew
 ·have HG':=hide (by have:=uh HG1;rw[if_pos hs]at this;exact this)
  go_wp2_with fail
  go_region
  go_wp2
  go_ret
  exact⟨by rw[uh HG'];rfl,(uh HK2).drew⟩
 have HG2:=hide (by have:=uh HG1;rw[if_neg hs]at this;exact this)
 clear HG1
 by_cases hz:wt=0
 ·have HG':=hide (by have:=uh HG2;rw[if_pos hz]at this;exact this)
  have hzb:(wt==0)=true:=by simpa using hz
  go_wp2_with fail
  go_region
  go_wp2
  go_ret
  exact⟨by rw[uh HG'];rfl,(uh HK2).drew⟩
 have HG3:=hide (by have:=uh HG2;rw[if_neg hz]at this;exact this)
 have hzb:(wt==0)=false:=by simpa using hz
 clear HG2 hz
 cases hb:inB o.b 0 2147483648
 ·have HG':=hide (by have:=uh HG3;rw[hb,if_pos (show(!false)=true from rfl)]at this;exact this)
  go_wp2_with fail
  go_region
  go_wp2_with (go_at_call 77;refine(qAl _ _ _ _).mono ?_;rintro r w9 ⟨rfl,rfl⟩)
  go_ret
  exact⟨by rw[uh HG'];rfl,(uh HK2).drew⟩
 have HG4:=hide (by have:=uh HG3;rw[hb,if_neg (show ¬(!true)=true by simp)]at this;exact this)
 clear HG3
 cases hd:inB o.c 1 2147483648
 ·have HG':=hide (by have:=uh HG4;rw[hd,if_pos (show(!false)=true from rfl)]at this;exact this)
  go_wp2_with fail
  go_region
  go_wp2_with (go_at_call 77;refine(qAl _ _ _ _).mono ?_;rintro r w9 ⟨rfl,rfl⟩)
  go_ret
  exact⟨by rw[uh HG'];rfl,(uh HK2).drew⟩
 have HG5:=hide (by have:=uh HG4;rw[hd,if_neg (show ¬(!true)=true by simp)]at this;exact this)
 clear HG4
 by_cases hcp:y.c.cap<=(wl:Int)
 ·have HG':=hide (by have:=uh HG5;rw[if_pos hcp]at this;exact this)
  go_wp2_with fail
  go_region
  go_wp2_with (go_at_call 77;refine(qAl _ _ _ _).mono ?_;rintro r w9 ⟨rfl,rfl⟩)
  go_ret
  exact⟨by rw[uh HG'];rfl,(uh HK2).drew⟩
 ·have HG':=hide (by have:=uh HG5;rw[if_neg hcp]at this;exact this)
  go_wp2_with fail
  go_region
  go_wp2_with (go_at_call 77;refine(qAl _ _ _ _).mono ?_;rintro r w9 ⟨rfl,rfl⟩)
  go_ret
  exact⟨by rw[uh HG'];rfl,(uh HK2).drew⟩
end
end Go.Proofs.YtahnliehdjncdaaGreatDoor
