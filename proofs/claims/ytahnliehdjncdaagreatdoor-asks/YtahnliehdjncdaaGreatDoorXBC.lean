import Derived.Test.YtahnliehdjncdaaGreatDoorXBB
set_option maxRecDepth 100000
set_option maxHeartbeats 16000000
namespace Go.Proofs.YtahnliehdjncdaaGreatDoor
section
open Go.RowKit
attribute [local go_sem ↓] qAd qAe
attribute [local go_sem] qAi qAj qAc qAb qAm qAn qAg qAh qAk qAo
theorem qUn(c:Cfg)(r:List Value): c.vals r=c.cells++r:=rfl
theorem qEi{w:World}{b:RB}{y:RSer}(h:Blk w b.s (qDi b y) 119): qAv w b.s 1 20=.agg y.c.cells.toArray/\qA2 w b.s 1 20=true:=by
 have hc:∀j,j<20->w.cell? ⟨b.s,1+j,none⟩=y.c.cells[j]?:=by
  intro j hj
  have h20:j<y.c.cells.length:=hj
  rw[List.getElem?_eq_getElem h20]
  refine h.cell ?_
  rw[Nat.add_comm]
  show(y.c.vals (b.iv::b.ev::y.ref.map (.int .i64 ·)))[j]?=_
  rw[qUn,List.getElem?_append_left h20,List.getElem?_eq_getElem h20]
 refine⟨?_,?_⟩
 ·unfold qAv qBz
  congr 2
  apply List.ext_getElem?
  intro j
  by_cases hj:j<20
  ·rw[List.getElem?_map,List.getElem?_range hj]
   simp only[Option.map_some,hc j hj]
   rw[List.getElem?_eq_getElem (show j<y.c.cells.length from hj)];rfl
  ·rw[List.getElem?_eq_none (by simp;omega),List.getElem?_eq_none (by show y.c.cells.length<=j;show 20<=j;omega)]
 ·unfold qA2
  rw[List.all_eq_true]
  intro j hj
  have hj':j<20:=by simpa using hj
  rw[hc j hj',List.getElem?_eq_getElem (show j<y.c.cells.length from hj')];rfl
theorem qSd(n:Int)(e:Nat)(clock:Int)(b:RB)(y:RSer)(o:OpM)(w:World)(h:RRep w b y)(hi:RInv n y)(hn:n<=1152921504606846976)(hc:w.cell? ⟨e,0,none⟩=some (.int .i64 clock))(c0:0<=clock)(c1:clock<=4611686018427387904)(hK:y.c.kind=1)(ha:inB o.a 0 4611686018427387904=false):
  Calls Tryz.prog 112 #[.pointer (some ⟨e,0,none⟩),.pointer (some ⟨b.s,0,none⟩),o.val] w λr w'=>r=.returned (.int .i64 (qB6 y clock o))/\Keeps (λ_=>False) w w':=by
 have HG:=hide (show qB6 y clock o=5 by unfold qB6;rw[ha];rfl)
 have h1:o.cells[2]?=some (.int .i64 o.a):=rfl
 have hk0:Keeps (λ_=>False) w (w.alloc (.cells o.cells.toArray 40)):=(Keeps.refl (λ_=>False) w).alloc _
 have HO:=hide (show Blk (w.alloc (.cells o.cells.toArray 40)) w.heap.size o.cells 40 from Blk.new w o.cells 40)
 have HR:=hide (h.still hk0)
 have hkind:w.cell? ⟨b.s,1,none⟩=some (.int .i64 1):=by rw[<-hK];exact h.blk.cell rfl
 have hcl0:=hk0.cell hc (λh=>h)
 have HC:=hide hcl0
 have HK:=hide hk0
 have HI:=hide hi
 have HKD:=hide hK
 have hlen:y.items.length<=1152921504606846976:=by have:=hi.items;omega
 obtain⟨la0,la1,sk0,sk1,cp0,cp1⟩:=hi.common
 clear h hi hK hk0 hcl0
 have hout:o.a<0\/(0<=o.a/\4611686018427387904<o.a):=by
  simp[inB]at ha;omega
 have kd:(w.alloc (.cells o.cells.toArray 40)).cell? ⟨b.s,1,none⟩=some (.int .i64 1):=by
  have:=uh HKD
  rw[<-this];exact(uh HR).blk.cell rfl
 clear ha hkind
 unfold OpM.val
 rcases hout with ho | ⟨ho,ho2⟩
 all_goals
  go_enter Tryz.func112,Tryz.ntmps112
  go_wp2_with fail
  refine(qCa b y _ (by exact uh HR) hlen).mono ?_
  rintro r w1 ⟨rfl,hw1⟩
  rw[hw1]
  clear hw1 w1
  go_wp2_with fail
  refine(qBy e b.s y.c.lag clock _ (by exact uh HC) ((uh HR).blk.cell rfl) la0 la1 c0 c1).mono ?_
  rintro r w1 ⟨rfl,hk1⟩
  have o2:w1.cell? ⟨w.heap.size,2,none⟩=some (.int .i64 o.a):=hk1.cell ((uh HO).cell rfl) (λh=>h)
  have HK1:=hide ((uh HK).then hk1)
  clear hk1
  go_wp2
  go_ret
  exact⟨by rw[uh HG];rfl,uh HK1⟩
theorem qVd(n:Int)(e:Nat)(clock:Int)(b:RB)(y:RSer)(o:OpM)(w:World)(h:RRep w b y)(hi:RInv n y)(hn:n<=1152921504606846976)(hc:w.cell? ⟨e,0,none⟩=some (.int .i64 clock))(c0:0<=clock)(c1:clock<=4611686018427387904)(hK:y.c.kind=1)(ha:inB o.a 0 4611686018427387904=true):
  Calls Tryz.prog 112 #[.pointer (some ⟨e,0,none⟩),.pointer (some ⟨b.s,0,none⟩),o.val] w λr w'=>r=.returned (.int .i64 (qB6 y clock o))/\Keeps (λ_=>False) w w':=by
 have HG:=hide (show qB6 y clock o=if o.a<=clock-y.c.lag then 6 else if clock<o.a-y.c.skew then 7 else if (1:Int)=0 then 8 else if y.c.cap<=(qA7 y.items).length then 11 else 0 by unfold qB6 qJ7 qJ1;rw[ha,hK];simp)
 have h1:o.cells[2]?=some (.int .i64 o.a):=rfl
 have hk0:Keeps (λ_=>False) w (w.alloc (.cells o.cells.toArray 40)):=(Keeps.refl (λ_=>False) w).alloc _
 have HO:=hide (show Blk (w.alloc (.cells o.cells.toArray 40)) w.heap.size o.cells 40 from Blk.new w o.cells 40)
 have HR:=hide (h.still hk0)
 have hkind:w.cell? ⟨b.s,1,none⟩=some (.int .i64 1):=by rw[<-hK];exact h.blk.cell rfl
 have hcl0:=hk0.cell hc (λh=>h)
 have HC:=hide hcl0
 have HK:=hide hk0
 have HI:=hide hi
 have HKD:=hide hK
 have hlen:y.items.length<=1152921504606846976:=by have:=hi.items;omega
 obtain⟨la0,la1,sk0,sk1,cp0,cp1⟩:=hi.common
 clear h hi hK hk0 hcl0
 obtain⟨a0,a1⟩:=qA9 ha
 have hbs:b.s<(w.alloc (.cells o.cells.toArray 40)).heap.size:=(uh HR).blk.lt
 have hob:w.heap.size<(w.alloc (.cells o.cells.toArray 40)).heap.size:=(uh HO).lt
 have o2:(w.alloc (.cells o.cells.toArray 40)).cell? ⟨w.heap.size,2,none⟩=some (.int .i64 o.a):=(uh HO).cell rfl
 have kd:(w.alloc (.cells o.cells.toArray 40)).cell? ⟨b.s,1,none⟩=some (.int .i64 1):=by
  have:=uh HKD
  rw[<-this];exact(uh HR).blk.cell rfl
 clear ha hkind
 unfold OpM.val
 go_enter Tryz.func112,Tryz.ntmps112
 go_wp2_with fail
 generalize w.alloc (.cells o.cells.toArray 40)=w0 at *
 generalize w.heap.size=ob at *
 have hk1:Keeps (λ_=>False) w0 w0:=Keeps.refl (λ_=>False) w0
 have HO1:=hide ((uh HO).keeps hk1 (λh=>h))
 have HR1:=hide ((uh HR).still hk1)
 have HC1:=hide (hk1.cell (uh HC) (λh=>h))
 have HK1:=hide ((uh HK).then hk1)
 clear hk1 o2 kd hbs hob
 refine(qCa b y w0 (uh HR1) hlen).mono ?_
 rintro r w9 ⟨rfl,hw9⟩
 rw[hw9]
 clear hw9 w9
 go_wp2_with fail
 refine(qBy e b.s y.c.lag clock w0 (uh HC1) ((uh HR1).blk.cell rfl) la0 la1 c0 c1).mono ?_
 rintro r w2 ⟨rfl,hk2⟩
 have o2:w2.cell? ⟨ob,2,none⟩=some (.int .i64 o.a):=hk2.cell ((uh HO1).cell rfl) (λh=>h)
 have o3:w2.cell? ⟨ob,3,none⟩=some (.int .i64 o.b):=hk2.cell ((uh HO1).cell rfl) (λh=>h)
 have o4:w2.cell? ⟨ob,4,none⟩=some (.int .i64 o.c):=hk2.cell ((uh HO1).cell rfl) (λh=>h)
 have s3:w2.cell? ⟨b.s,3,none⟩=some (.int .i64 y.c.skew):=hk2.cell ((uh HR1).blk.cell rfl) (λh=>h)
 have s4:w2.cell? ⟨b.s,4,none⟩=some (.int .i64 y.c.cap):=hk2.cell ((uh HR1).blk.cell rfl) (λh=>h)
 have e0:w2.cell? ⟨e,0,none⟩=some (.int .i64 clock):=hk2.cell (uh HC1) (λh=>h)
 have HK2:=hide ((uh HK1).then hk2)
 have hwl:(qA7 y.items).length<=1152921504606846976:=by have:=qCo y.items;omega
 clear hk2 h1
 generalize(qA7 y.items).length=wl at *
 generalize hmk:clock-y.c.lag=mark at *
 have HM:=hide hmk
 clear hmk
 by_cases hm:o.a<=mark
 ·have HG':=hide (by have:=uh HG;rw[if_pos hm]at this;exact this)
  go_wp2
  go_ret
  exact⟨by rw[uh HG'];rfl,uh HK2⟩
 have HG1:=hide (by have:=uh HG;rw[if_neg hm]at this;exact this)
 clear HG
 by_cases hs:clock<o.a-y.c.skew
 ·have HG':=hide (by have:=uh HG1;rw[if_pos hs]at this;exact this)
  go_wp2_with fail
  go_region
  go_wp2
  go_ret
  exact⟨by rw[uh HG'];rfl,(uh HK2).drew⟩
 have HG2:=hide (by have:=uh HG1;rw[if_neg hs]at this;exact this)
 clear HG1
 have HG3:=hide (by have:=uh HG2;rw[if_neg (show ¬(1:Int)=0 by omega)]at this;exact this)
 clear HG2
 have HG4:=HG3
 clear HG3
 have HG5:=HG4
 clear HG4
 by_cases hcp:y.c.cap<=(wl:Int)
 ·have HG':=hide (by have:=uh HG5;rw[if_pos hcp]at this;exact this)
  go_wp2_with fail
  go_region
  go_wp2
  go_ret
  exact⟨by rw[uh HG'];rfl,(uh HK2).drew⟩
 ·have HG':=hide (by have:=uh HG5;rw[if_neg hcp]at this;exact this)
  go_wp2_with fail
  go_region
  go_wp2
  go_ret
  exact⟨by rw[uh HG'];rfl,(uh HK2).drew⟩
end
end Go.Proofs.YtahnliehdjncdaaGreatDoor
