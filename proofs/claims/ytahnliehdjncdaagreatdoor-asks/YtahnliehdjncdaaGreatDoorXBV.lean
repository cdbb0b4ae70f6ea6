import Derived.Test.YtahnliehdjncdaaGreatDoorXBU
import Derived.Test.YtahnliehdjncdaaGreatDoorXBP
import Derived.Test.YtahnliehdjncdaaGreatDoorXBD
import Derived.Test.YtahnliehdjncdaaGreatDoorXBC
import Derived.Test.YtahnliehdjncdaaGreatDoorXBB
import Derived.Test.YtahnliehdjncdaaGreatDoorXBE
import Derived.Test.YtahnliehdjncdaaGreatDoorXAW
import Derived.Test.YtahnliehdjncdaaGreatDoorXBM
set_option maxRecDepth 100000
set_option maxHeartbeats 16000000
namespace Go.Proofs.YtahnliehdjncdaaGreatDoor
open Go.RowKit
attribute [local go_sem ↓] qAd qAe
attribute [local go_sem] qAi qAj qAb qAc qAm qAn qAh qAg qAk qAo
theorem qUb (n:Int) (e:Nat) (v:Value) (clock ticks:Int) (ps:List (RB×RSer)) (o:OpM) (w:World) (h:RWRep w e v clock ticks ps) (hi:RWInv n clock ticks (ps.map (·.2))) (p:RB×RSer) (hf:qB2 ps o.id=some p) (hkd:p.2.c.kind=3) (hw:inB o.a 0 2147483648=false) :
  Calls Tryz.prog 53 #[.pointer (some ⟨e,0,none⟩),o.val] w fun r w'=>qEz w (10,[]) r w':=by
 have hmem:p∈ps:=List.mem_of_find?_eq_some hf
 have HM:=hide hmem
 have hip:=hi.sers p.2 (List.mem_map_of_mem hmem)
 have HIP:=hide hip
 have hil:=hip.items
 obtain ⟨la0,la1,_,_,_,_⟩:=hip.common
 have hc0:=hi.c0
 have hc1:=hi.c1
 have hl:ps.length≤1000:=by have:=hi.six;rw [List.length_map] at this;omega
 have h1:o.cells[1]?=some (.int .i64 o.id):=rfl
 have HE:=hide h
 have HF:=hide hf
 have HKD:=hide hkd
 clear h hip hmem hi hf hkd
 unfold OpM.val
 go_enter Tryz.func53,Tryz.ntmps53
 go_wp2_with fail
 have hk0:Keeps (fun _=>False) w ((w.alloc (.cells o.cells.toArray 40)).alloc (.cells #[.int .i64 0,.slice none 0 0,.string ⟨#[]⟩] 33)):=((Keeps.refl (fun _=>False) w).alloc _).alloc _
 have HO0:=hide (show Blk ((w.alloc (.cells o.cells.toArray 40)).alloc (.cells #[.int .i64 0,.slice none 0 0,.string ⟨#[]⟩] 33)) w.heap.size o.cells 40 from (Blk.new w o.cells 40).alloc _)
 have HR0:=hide (show Blk ((w.alloc (.cells o.cells.toArray 40)).alloc (.cells #[.int .i64 0,.slice none 0 0,.string ⟨#[]⟩] 33)) (w.heap.size+1) [.int .i64 0,.slice none 0 0,.string qAa] 33 from Blk.newAt (by simp) [_,_,_] 33)
 have HE0:=hide ((uh HE).still hk0)
 have HK0:=hide hk0
 clear hk0
 generalize (w.alloc (.cells o.cells.toArray 40)).alloc (.cells #[.int .i64 0,.slice none 0 0,.string ⟨#[]⟩] 33)=w0 at *
 generalize hob:w.heap.size=ob at *
 have HOB:=hide hob
 clear hob
 refine (qCb e v clock ticks o.id ps w0 (uh HE0) hl).mono ?_
 rintro r w1 ⟨rfl,hw1⟩
 rw [hw1,uh HF]
 clear hw1 w1
 unfold qEe
 have HP0:=hide ((uh HE0).reps p (uh HM))
 go_wp2_with fail
 refine (qBv e p.1.s p.2.c.lag clock w0 ((uh HE0).blk.cell rfl) ((uh HP0).blk.cell rfl) la0 la1 hc0 hc1).mono ?_
 rintro r w1 ⟨rfl,hk1⟩
 have HO1:=hide ((uh HO0).keeps hk1 (fun h=>h))
 have HR1:=hide ((uh HR0).keeps hk1 (fun h=>h))
 have HP1:=hide ((uh HP0).still hk1)
 have HK1:=hide ((uh HK0).then hk1)
 clear hk1 h1
 have o2:w1.cell? ⟨ob,2,none⟩=some (.int .i64 o.a):=(uh HO1).cell rfl
 have s1:w1.cell? ⟨p.1.s,1,none⟩=some (.int .i64 3):=by
  rw [←uh HKD];exact (uh HP1).blk.cell rfl
 have s6:w1.cell? ⟨p.1.s,6,none⟩=some (.int .i64 p.2.c.window):=(uh HP1).blk.cell rfl
 generalize hmk:clock-p.2.c.lag=mark at *
 have HMK:=hide hmk
 have hmk0:-100≤mark:=by omega
 have hmk1:mark≤4611686018427387904:=by omega
 clear hmk
 go_wp2_with fail
 go_region_held3 (fun w'=>w'.cell? ⟨ob,2,none⟩=some (.int .i64 o.a)∧w'.cell? ⟨p.1.s,6,none⟩=some (.int .i64 p.2.c.window)) (go_keep)
  (first | (go_at_call 77;refine (qAl _ _ _ _).mono ?_;rintro r w9 ⟨rfl,rfl⟩))
 have HO2:=hide ((uh HO1).drew)
 have HR2:=hide ((uh HR1).drew)
 have HP2:=hide ((uh HP1).still ((Keeps.refl (fun _=>False) w1).drew))
 have HK2:=hide ((uh HK1).drew)
 clear o2 s1 s6 HO1 HR1 HP1 HK1
 generalize w1.drew=w2 at *
 have o2:w2.cell? ⟨ob,2,none⟩=some (.int .i64 o.a):=(uh HO2).cell rfl
 go_wp2_with fail
 refine (qAl _ _ _ _).mono ?_
 rintro r w9 ⟨rfl,hw9⟩
 rw [hw9]
 clear hw9 w9
 go_wp2_with fail
 refine (qF0 10 w2).mono ?_
 rintro r w3 ⟨rfl,hk1⟩
 unfold ansV
 have HR1:=hide ((uh HR2).keeps hk1 (fun h=>h))
 have HK1:=hide ((uh HK2).then hk1)
 clear hk1
 have r0:w3.cell? ⟨ob+1,0,none⟩=some (.int .i64 0):=(uh HR1).cell rfl
 have r1:w3.cell? ⟨ob+1,1,none⟩=some (.slice none 0 0):=(uh HR1).cell rfl
 have r2:w3.cell? ⟨ob+1,2,none⟩=some (.string qAa):=(uh HR1).cell rfl
 have rf:=(uh HR1).frozen
 go_wp2
 have hbf:=(((uh HR1).setCell 0 (.int .i64 10)).setCell 1 (.slice none 0 0)).setCell 2 (.string qAa)
 have HKF:=hide ((((Keeps.refl (fun i=>i=ob+1) w3).setCell (p:=⟨ob+1,0,none⟩) (Or.inl rfl) (.int .i64 10)).setCell (p:=⟨ob+1,1,none⟩) (Or.inl rfl) (.slice none 0 0)).setCell (p:=⟨ob+1,2,none⟩) (Or.inl rfl) (.string qAa))
 have e9:(((w3.setCell ⟨ob+1,0,none⟩ (.int .i64 10)).setCell ⟨ob+1,1,none⟩ (.slice none 0 0)).setCell ⟨ob+1,2,none⟩ (.string ⟨#[]⟩))=(((w3.setCell ⟨ob+1,0,none⟩ (.int .i64 10)).setCell ⟨ob+1,1,none⟩ (.slice none 0 0)).setCell ⟨ob+1,2,none⟩ (.string qAa)):=rfl
 first | rw [e9] | skip
 generalize (((w3.setCell ⟨ob+1,0,none⟩ (.int .i64 10)).setCell ⟨ob+1,1,none⟩ (.slice none 0 0)).setCell ⟨ob+1,2,none⟩ (.string qAa))=w9 at *
 have q0:w9.cell? ⟨ob+1,0,none⟩=some (.int .i64 10):=hbf.cell rfl
 have q1:w9.cell? ⟨ob+1,1,none⟩=some (.slice none 0 0):=hbf.cell rfl
 have q2:w9.cell? ⟨ob+1,2,none⟩=some (.string qAa):=hbf.cell rfl
 refine bodyPost_ret (v:=ansV 10 (.slice none 0 0)) (by simp [results,Tryz.results53,go_sem,q0,q1,q2,ansV]) rfl ?_
 have hob:=uh HOB
 exact ⟨_,rfl,World.ownsRow_nil _ _ _ _,(uh HK1).trans (uh HKF) (fun i hi hlt=>by omega)⟩
def qK7 (s:RWS) (o:OpM):Int×List Int :=
 match qIq s.xs o.id with
 | none=>(2,[])
 | some y =>
  if y.c.kind=1 then (if inB o.a 1 y.c.window=true then (0,[estN (qAq y.c y.events) (s.clock-y.c.lag-o.a)]) else (13,[]))
  else if y.c.kind=2 then (if inB o.a 1 y.c.window=true then (0,qFl y.c (2 ^ y.c.bits.toNat) (qA5 y.items (s.clock-y.c.lag-o.a) (s.clock-y.c.lag))++[7*((2 ^ y.c.bits.toNat:Nat):Int)*((2 ^ y.c.bits.toNat:Nat):Int)*1099511627776/(10*sumG (qFl y.c (2 ^ y.c.bits.toNat) (qA5 y.items (s.clock-y.c.lag-o.a) (s.clock-y.c.lag))))]) else (13,[]))
  else if y.c.kind=3 then (if inB o.a 0 2147483648=true then (0,[qD0 y.c (qA5 y.items (qI5 y.c (s.clock-y.c.lag)-1) (s.clock-y.c.lag)) o.a y.c.rows.toNat]) else (10,[]))
  else if y.c.kind=5 then (0,qFk y.c (qA5 y.items (-1) (s.clock-y.c.lag)))
  else (0,[(qEj y.c y.items 0 0).1,(qEj y.c y.items 0 0).2,qA2 (qAr y.c (s.clock-y.c.lag))])
def ansA (s:RWS) (o:OpM):Int×List Int:=if o.kind=4 then qK7 s o else if o.kind=5 then qKz s o else (qEk s o).2
def runA:RWS→List OpM→List (Int×List Int)
 | _,[]=>[]
 | s,o::r=>ansA s o::runA (goR s o) r
theorem qV0 (s:RWS) (l:List OpM) (o:OpM):runA s (l++[o])=runA s l++[ansA (endR s (l.filter chg)) o]:=by
 induction l generalizing s with
 | nil=>rfl
 | cons a l ih =>
  simp only [List.cons_append,runA,ih]
  rw [goR_end,←qQk,←List.filter_append]
  rfl
theorem qKo (s:RWS) (l:List OpM):(runA s l).length=l.length:=by
 induction l generalizing s with
 | nil=>rfl
 | cons a l ih=>simp [runA,ih]
theorem ansA_q (s:RWS) (o:OpM) (h:o.kind=4):ansA s o=qK7 s o:=by unfold ansA;rw [if_pos h]
theorem ansA_s (s:RWS) (o:OpM) (h:o.kind=5):ansA s o=qKz s o:=by unfold ansA;rw [if_neg (by omega),if_pos h]
theorem ansA_e (s:RWS) (o:OpM) (h4:o.kind≠4) (h5:o.kind≠5):ansA s o=(qEk s o).2:=by unfold ansA;rw [if_neg h4,if_neg h5]
structure KInv (clock:Int) (y:RSer):Prop where
 keys:y.c.kind=2∨y.c.kind=3→∀ z,z∈y.items→0≤z.k∧z.k≤2147483648
 draws:y.c.kind=5→∀ z,z∈y.items→0≤z.d∧z.d≤2147483648
 few:y.c.kind=5→∀ q i,(rowD y.c (qA5 y.items (-1) (clock-y.c.lag)) q i).1.length≤100
theorem qTt (base:Nat) (n:Int) (e:Nat) (v:Value) (clock ticks:Int) (ps:List (RB×RSer)) (o:OpM) (w:World) (h:RWRep w e v clock ticks ps) (hi:RWInv n clock ticks (ps.map (·.2))) (hn:n≤651562446090) (hk:∀ y,y∈ps.map (·.2)→KInv clock y) :
  Calls Tryz.prog 53 #[.pointer (some ⟨e,0,none⟩),o.val] w fun r w'=>qVj base w (qK7 ⟨clock,ticks,ps.map (·.2)⟩ o) r w':=by
 unfold qK7
 rw [qEv]
 have post:∀ {c:Int×List Int} {r:Ending} {w':World},qEz w c r w'→qVj base w c r w':=fun {c r w'} ⟨nv,h1,h2,h3⟩=>⟨_,_,nv,rfl,h1,h2,h3.mono (fun _ _ h=>h.elim)⟩
 cases hf:qB2 ps o.id with
 | none =>
  exact (qP5 e v clock ticks ps o w h (by have:=hi.six;simp at this;omega) hf).mono (fun _ _=>post)
 | some p =>
  simp only [Option.map_some]
  have hm:=List.mem_map_of_mem (f:=(·.2)) (List.mem_of_find?_eq_some hf)
  have hki:=hk p.2 hm
  obtain ⟨k,hkk,k1,k5,_,_⟩:=qCr (hi.sers p.2 hm).valid
  by_cases e1:p.2.c.kind=1
  ·rw [if_pos e1]
   by_cases hw:inB o.a 1 p.2.c.window=true
   ·rw [if_pos hw];exact (qMw n e v clock ticks ps o w h hi (by omega) p hf e1 hw).mono (fun _ _=>post)
   ·rw [if_neg hw];exact (qMr n e v clock ticks ps o w h hi p hf e1 (by simpa using hw)).mono (fun _ _=>post)
  ·rw [if_neg e1]
   by_cases e2:p.2.c.kind=2
   ·rw [if_pos e2]
    by_cases hw:inB o.a 1 p.2.c.window=true
    ·rw [if_pos hw];exact (qUu n e v clock ticks ps o w h hi hn p hf e2 hw (hki.keys (.inl e2))).mono (fun _ _=>post)
    ·rw [if_neg hw];exact (qRb n e v clock ticks ps o w h hi p hf e2 (by simpa using hw)).mono (fun _ _=>post)
   ·rw [if_neg e2]
    by_cases e3:p.2.c.kind=3
    ·rw [if_pos e3]
     by_cases hw:inB o.a 0 2147483648=true
     ·rw [if_pos hw];exact (qUm n e v clock ticks ps o w h hi hn p hf e3 hw (hki.keys (.inr e3))).mono (fun _ _=>post)
     ·rw [if_neg hw];exact (qUb n e v clock ticks ps o w h hi p hf e3 (by simpa using hw)).mono (fun _ _=>post)
    ·rw [if_neg e3]
     by_cases e5:p.2.c.kind=5
     ·rw [if_pos e5];exact (qS8 n e v clock ticks ps o w h hi hn p hf e5 (hki.draws e5) (hki.few e5)).mono (fun _ _=>post)
     ·rw [if_neg e5];exact (qMb n e v clock ticks ps o w h hi (by omega) p hf (by omega)).mono (fun _ _=>post)
end Go.Proofs.YtahnliehdjncdaaGreatDoor
namespace Go.Proofs.YtahnliehdjncdaaGreatDoor
open Go.RowKit
attribute [local go_sem ↓] qAd qAe qBs qC7
attribute [local go_sem] qAi qAj qAb qAc qAm qAn qAh qAg qIa
theorem qU3 (v:Value) (ops:List OpM) (w:World) (hs:ScriptW w v ops) (hlen:ops.length≤651562446080) (h67:∀ o,o∈ops→o.kind≠6∧o.kind≠7)
  (hq:∀ SS:List OpM,SS.length≤ops.length→(∀ x,x∈SS→x∈ops∧chg x=true)→∀ y,y∈(endR rs0 SS).xs→KInv (endR rs0 SS).clock y) :
  Calls Tryz.prog 40 #[v] w fun r w'=>∃ v l,r=.returned v∧ARep w' w.heap.size v l∧l.map (fun x=>(x.code,x.nums))=runA rs0 ops∧(∀ x,x∈l→x.bs=qAa)∧Keeps (fun _=>False) w w':=by
 obtain ⟨a,cap,rfl,hsv⟩:=qFn hs
 have HSV:=hide hsv
 have H67:=hide h67
 have HQ:=hide hq
 clear hs hsv h67 hq
 obtain ⟨i0,hi0,hz0,hz1,hz2⟩:=info_parts qU0
 obtain ⟨j0,hj0,hy0,hy1,hy2⟩:=info_parts info22
 generalize hn:ops.length=n at *
 have HN:=hide hn
 clear hn
 go_enter Tryz.func40,Tryz.ntmps40
 go_wp2_with fail
 go_loopw [3,4,5,6] (fun av sv tv i wr=>∃ (k:Nat) (l:List Ans),k≤n∧i=.int .i64 k∧Hid (RR wr w.heap.size av l sv ((ops.take k).filter chg) tv k (.slice none 0 0) [])∧Hid (l.map (fun x=>(x.code,x.nums))=runA rs0 (ops.take k))∧Hid (Keeps (fun _=>False) w wr)) (fun _ _ _ i _=>n-(intOf i).toNat)
 case atStart =>
  refine ⟨0,[],by omega,rfl,⟨⟨World.ownsRow_nil _ _ _ _,fun x hx=>by simp at hx,fun x hx=>by simp at hx⟩,World.ownsRow_nil _ _ _ _,World.ownsRow_nil _ _ _ _,World.ownsRow_nil _ _ _ _,fun i hi=>(by cases hi),fun i hi=>(by cases hi),fun i hi=>(by cases hi),fun x hx=>by simp at hx⟩,rfl,Keeps.refl _ _⟩
 case round =>
  obtain ⟨k,l,hk,rfl,HRR,HMr,HKr⟩:=hrel
  generalize u3=av at *
  generalize u4=sv at *
  generalize u5=tv at *
  by_cases hkn:k<n
  ·obtain ⟨o,ho⟩:∃ o,ops[k]?=some o:=⟨ops[k]'(by rw [uh HN];exact hkn),List.getElem?_eq_getElem _⟩
   have HO:=hide ho
   have hmo:o∈ops:=List.mem_of_getElem? ho
   obtain ⟨n6,n7⟩:=uh H67 o hmo
   obtain ⟨sb,so,ha,hlt,hra⟩:=uh HSV k o ho
   obtain ⟨hv0,hh0⟩:=qG1 hra hlt (uh HKr)
   have hsbl:sb<wr.heap.size:=by have:=(uh HKr).size;omega
   subst ha
   have hst:∀ zs:List Value,zs.length=26→(qD1 40 (.pointer (some ⟨wr.heap.size,0,none⟩)) (.agg o.cells.toArray)).run Tryz.prog (wr.alloc (.cells zs.toArray 40))=.ok .skip (wr.alloc (.cells o.cells.toArray 40)):=fun zs hz=>qFs wr zs o.cells hz rfl (qE8 o)
   have h1c:o.cells[0]?=some (.int .i64 o.kind):=rfl
   have b6:(o.kind==6)=false:=by simpa using n6
   have b7:(o.kind==7)=false:=by simpa using n7
   have hk0:(0:Int)≤(k:Int):=by omega
   have hkn':(k:Int)<(n:Int):=by omega
   have htk:ops.take (k+1)=ops.take k++[o]:=by rw [List.take_add_one,ho];rfl
   have HRN:=hide (show runA rs0 (ops.take (k+1))=runA rs0 (ops.take k)++[ansA (endR rs0 ((ops.take k).filter chg)) o] by rw [htk,qV0])
   have HFN:=hide (show (ops.take (k+1)).filter chg=(ops.take k).filter chg++[o].filter chg by rw [htk,List.filter_append])
   have hSl:((ops.take k).filter chg).length≤k:=by
    have h1:=List.length_filter_le chg (ops.take k)
    rw [List.length_take] at h1
    omega
   have HSG:=hide (show ∀ x,x∈(ops.take k).filter chg→chg x=true from fun x hx=>(List.mem_filter.1 hx).2)
   have HSL:=hide (show ((ops.take k).filter chg).length≤n by
      have h1:=List.length_filter_le chg (ops.take k)
      rw [List.length_take] at h1
      have:=uh HN
      omega)
   have HSM:=hide (show ∀ x,x∈(ops.take k).filter chg→x∈ops from fun x hx=>List.mem_of_mem_take (List.mem_filter.1 hx).1)
   have hlk:l.length=k:=by
    have:=congrArg List.length (uh HMr)
    rw [List.length_map,qKo,List.length_take,uh HN] at this
    omega
   have HLK:=hide hlk
   generalize hSS:(ops.take k).filter chg=SS at *
   have HINV:=hide (show RWInv (k:Int) (endR rs0 SS).clock (endR rs0 SS).ticks (endR rs0 SS).xs from by
      have h1:=qSb SS rinv0 (by omega)
      have h2:=h1.tn
      have hm:∀ x,x∈(endR rs0 SS).xs→RInv (k:Int) x:=fun x hx=>(h1.sers x hx).mono (by omega)
      exact ⟨h1.c0,h1.c1,h1.t0,by omega,h1.six,hm,h1.cnt⟩)
   clear hra htk ho hlk hSS hmo
   -- the two new blocks
   have hkb:Keeps (fun _=>False) wr ((wr.alloc (.cells o.cells.toArray 40)).alloc (.cells #[.int .i64 0,.slice none 0 0,.string ⟨#[]⟩] 33)):=((Keeps.refl (fun _=>False) wr).alloc _).alloc _
   have HOb:=hide (show Blk ((wr.alloc (.cells o.cells.toArray 40)).alloc (.cells #[.int .i64 0,.slice none 0 0,.string ⟨#[]⟩] 33)) wr.heap.size o.cells 40 from (Blk.new wr o.cells 40).alloc _)
   have HAb:=hide (show Blk ((wr.alloc (.cells o.cells.toArray 40)).alloc (.cells #[.int .i64 0,.slice none 0 0,.string ⟨#[]⟩] 33)) (wr.heap.size+1) [.int .i64 0,.slice none 0 0,.string qAa] 33 from Blk.newAt (by simp) [_,_,_] 33)
   have HKb:=hide hkb
   have HRb:=hide ((uh HRR).still hkb)
   have hszb:((wr.alloc (.cells o.cells.toArray 40)).alloc (.cells #[.int .i64 0,.slice none 0 0,.string ⟨#[]⟩] 33)).heap.size=wr.heap.size+2:=by simp
   have HSZB:=hide hszb
   clear hkb hszb
   have hcase:o.kind=4∨o.kind=5∨(o.kind≠4∧o.kind≠5):=by omega
   rcases hcase with hkd | hkd | ⟨hkd4,hkd5⟩
   ·have bk:(o.kind==4)=true:=by simpa using hkd
    have HAN:=hide (show ansA (endR rs0 SS) o=qK7 (endR rs0 SS) o from ansA_q _ _ hkd)
    have HF1:=hide (show [o].filter chg=[] from by simp [chg,hkd])
    have HK4:=hide (show ∀ y,y∈(endR rs0 SS).xs→KInv (endR rs0 SS).clock y from uh HQ SS (uh HSL) (fun x hx=>⟨uh HSM x hx,uh HSG x hx⟩))
    clear hkd
    go_wp2_with fail
    clear hv0 hh0 hst h1c
    generalize (wr.alloc (.cells o.cells.toArray 40)).alloc (.cells #[.int .i64 0,.slice none 0 0,.string ⟨#[]⟩] 33)=wb at *
    generalize hob:wr.heap.size=ob at *
    have HOBB:=hide hob
    clear hob
    have hobl:ob<wb.heap.size:=(uh HOb).lt
    have habl:ob+1<wb.heap.size:=(uh HAb).lt
    obtain ⟨hvb,hhb⟩:=qA4 (uh HOb) 26 rfl
    have HSW:=hide ((qEm (uh HRb).S).keeps ((Keeps.refl (fun _=>False) wb).drew))
    go_region_held3 (fun w'=>qAv w' ob 0 26=.agg o.cells.toArray∧qA3 w' ob 0 26=true)
     (first
        | (go_split_ands;rw [(qAp (b:=ob) (o:=0) (n:=26) (set3 w2 (ob+1) _ _ _) (by omega) hw2b).1,(qAp (b:=ob) (o:=0) (n:=26) (set3 w2 (ob+1) _ _ _) (by omega) hw2b).2];exact ⟨by assumption,by assumption⟩)
        | (go_split_ands;rw [(qAp (b:=ob) (o:=0) (n:=26) hk2 (by omega) (by have:=hk1.size;simp at this;omega)).1,(qAp (b:=ob) (o:=0) (n:=26) hk2 (by omega) (by have:=hk1.size;simp at this;omega)).2];exact ⟨by assumption,by assumption⟩)
        | (go_split_ands;rw [(qAp (b:=ob) (o:=0) (n:=26) hk1 (fun h=>h) (by simp;omega)).1,(qAp (b:=ob) (o:=0) (n:=26) hk1 (fun h=>h) (by simp;omega)).2];first | exact ⟨hvb,hhb⟩ | exact ⟨by assumption,by assumption⟩)
        | (rw [qAb,qAc];exact ⟨hvb,hhb⟩)
        | (go_split_ands;exact ⟨by assumption,by assumption⟩))
     (first
        | (go_at_call 52;refine (qJi sv SS _ (by exact uh HSW) (by omega)).mono ?_;rintro r w1 ⟨e,vv,ps,rfl,hE1,hx1,hk1,hf1⟩)
        | (go_at_call 53;refine (qTt wb.heap.size k e vv _ _ ps o _ hE1 (by rw [hx1];exact uh HINV) (by omega) (by rw [hx1];exact uh HK4)).mono ?_;rintro r w2 ⟨code,nums,nv,hcn,rfl,hn2,hk2⟩;have HCN:=hide hcn;clear hcn;obtain ⟨na,ncap,hnv⟩:=qFg hn2;subst hnv;unfold ansV;have hkb2:Keeps (fun _=>False) wb w2:=(((Keeps.refl (fun _=>False) wb).drew).then hk1).trans hk2 (fun i hi hlt=>by omega);have hw2b:ob<w2.heap.size:=(by have:=hkb2.size;omega);have HA2:=hide ((uh HAb).keeps hkb2 (fun h=>h));have r0:w2.cell? ⟨ob+1,0,none⟩=some (.int .i64 0):=(uh HA2).cell rfl;have r1:w2.cell? ⟨ob+1,1,none⟩=some (.slice none 0 0):=(uh HA2).cell rfl;have r2:w2.cell? ⟨ob+1,2,none⟩=some (.string qAa):=(uh HA2).cell rfl;have rf:=(uh HA2).frozen))
    all_goals
     have hss:(⟨(endR rs0 SS).clock,(endR rs0 SS).ticks,ps.map (·.2)⟩:RWS)=endR rs0 SS:=by rw [hx1]
     have HANS:=hide (show ansA (endR rs0 SS) o=(code,nums) by rw [uh HAN,←hss];exact uh HCN)
     have hw1:wb.heap.size≤w1.heap.size:=hk1.size
     have HP:=hide ((uh HRb).pend (by have:=(uh HKr).size;have:=uh HOBB;omega) hkb2 (qEs hn2 hw1))
     have hks:=set3 w2 (ob+1) (.int .i64 code) (.slice na nums.length ncap) (.string qAa)
     have HL3:=hide (show ∀ i,qHv av l i∨sv.ownBlock=some i∨tv.ownBlock=some i→i<ob from fun i hi=>by rw [←uh HOBB];exact ((uh HRR).lt i hi).2)
     have HR3:=hide ((uh HP).keeps hks (fun i hi hh=>by
          rcases hi with h | h | h | h
          ·have:=uh HL3 i (.inl h);omega
          ·have:=uh HL3 i (.inr (.inl h));omega
          ·have:=uh HL3 i (.inr (.inr h));omega
          ·have:=(hn2.lt i h).1;omega))
     have HA3:=hide ((((uh HA2).setCell 0 (.int .i64 code)).setCell 1 (.slice na nums.length ncap)).setCell 2 (.string qAa))
     have HO3:=hide (((uh HOb).keeps hkb2 (fun h=>h)).keeps hks (fun h=>by omega))
     have HKS:=hide (uh HOBB)
     have HK3:=hide ((((uh HKr).then (uh HKb)).then hkb2).trans hks (fun i hi hlt=>by have:=uh HOBB;have:=(uh HKr).size;omega))
     have hb3:w.heap.size≤w2.heap.size:=(((uh HKr).then (uh HKb)).then hkb2).size
     have e9:(((w2.setCell ⟨ob+1,0,none⟩ (.int .i64 code)).setCell ⟨ob+1,1,none⟩ (.slice na nums.length ncap)).setCell ⟨ob+1,2,none⟩ (.string ⟨#[]⟩))=(((w2.setCell ⟨ob+1,0,none⟩ (.int .i64 code)).setCell ⟨ob+1,1,none⟩ (.slice na nums.length ncap)).setCell ⟨ob+1,2,none⟩ (.string qAa)):=rfl
     first | rw [e9] | skip
     have hb3:w.heap.size≤(((w2.setCell ⟨ob+1,0,none⟩ (.int .i64 code)).setCell ⟨ob+1,1,none⟩ (.slice na nums.length ncap)).setCell ⟨ob+1,2,none⟩ (.string qAa)).heap.size:=Nat.le_trans hb3 hks.size
     have hsz3:w2.heap.size≤(((w2.setCell ⟨ob+1,0,none⟩ (.int .i64 code)).setCell ⟨ob+1,1,none⟩ (.slice na nums.length ncap)).setCell ⟨ob+1,2,none⟩ (.string qAa)).heap.size:=hks.size
     clear e9 hks hn2 hk2 hk1 hE1 hx1 hf1 hss r0 r1 r2 rf hkb2 HP HA2 hvb hhb
     generalize (((w2.setCell ⟨ob+1,0,none⟩ (.int .i64 code)).setCell ⟨ob+1,1,none⟩ (.slice na nums.length ncap)).setCell ⟨ob+1,2,none⟩ (.string qAa))=w3 at *
     have HR4:=HR3
     have HA4:=HA3
     have HL4:=HL3
     have HK4:=HK3
     have hbW:=hb3
     go_wp2_with (at_builtin;first | (refine wpList_append_lies _ rfl _ _ _ rfl w.heap.size 22 j0 _ 1 24 Tryz.underlying68 hj0 hy0 hy1 hy2 rfl (by omega) tv k (List.replicate k (.slice none 0 0)) rfl ((uh HR4).T.alloc _) ⟨w3.heap.size,0,none⟩ 1 1 [.slice none 0 0] rfl rfl (World.news_of_block (cs:=#[.slice none 0 0]) (t:=22) (fr:=(0,0)) (heap_alloc_new w3 _)) (by simp [Value.oneCell']) (by omega) (by unfold maxLen;omega) (by omega) (by have:=hbW;simp;omega) (w3.heap.size+1) (by simp) ?_;intro g5 c5 w5 hown5 hgrow5 hat5 hl5;have hk5:=((Keeps.refl (fun i=>tv.ownBlock=some i) w3).alloc _).then (qEl hgrow5);have HR5:=hide ((uh HR4).saved hk5 (by rw [←qNl];exact hown5) (fun i hi=>by rcases qMt hat5 i hi with h | h;exact .inl h;exact .inr (by omega)));have HA5:=hide ((uh HA4).keeps hk5 (fun h=>by have:=(uh HL4 _ (.inr (.inr h)));omega));have HK5:=hide ((uh HK4).trans hk5 (fun i hi hlt=>by have:=((uh HR4).T.lt i hi).1;have:=uh HKS;have:=(uh HKr).size;omega));have t0:w5.cell? ⟨ob+1,0,none⟩=some (.int .i64 code):=(uh HA5).cell rfl;have t1:w5.cell? ⟨ob+1,1,none⟩=some (.slice na nums.length ncap):=(uh HA5).cell rfl;have t2:w5.cell? ⟨ob+1,2,none⟩=some (.string qAa):=(uh HA5).cell rfl;have hb5:w.heap.size≤w5.heap.size:=(by have:=hk5.size;omega);clear hown5 hgrow5 hat5) | (refine wpList_append_lies _ rfl _ _ _ rfl w.heap.size 33 i0 _ 3 48 Tryz.underlying27 hi0 hz0 hz1 hz2 rfl (by omega) av k (qDh l) rfl (by have:=(uh HR5).A.row;rw [uh HLK] at this;exact this.alloc _) ⟨w5.heap.size,0,none⟩ 1 1 [.int .i64 code,.slice na nums.length ncap,.string qAa] rfl rfl (World.news_of_block (cs:=#[.int .i64 code,.slice na nums.length ncap,.string qAa]) (t:=33) (fr:=(0,0)) (heap_alloc_new w5 _)) (by simp [Value.oneCell']) (by omega) (by unfold maxLen;omega) (by omega) (by simp;omega) (w5.heap.size+1) (by simp) ?_;intro g6 c6 w6 hown6 hgrow6 hat6 hl6))
     go_roundw
     case rel =>
      have hk6:=((Keeps.refl (fun i=>av.ownBlock=some i) w5).alloc (.cells #[.int .i64 code,.slice na nums.length ncap,.string qAa] 33)).then (qEl hgrow6)
      have hR6:=(uh HR5).out (code:=code) hk6 (by rw [uh HLK];exact hown6) (fun i hi=>by
         rcases qMt hat6 i hi with h | h
         ·exact .inl h
         ·exact .inr (by omega))
      refine ⟨k+1,l++[⟨code,.slice na nums.length ncap,nums,qAa⟩],by omega,by go_num,?_,?_,?_⟩
      ·show RR _ _ _ _ _ _ _ _ _ _
       rw [uh HFN,uh HF1]
       rw [List.append_nil];exact hR6
      ·show _=_
       rw [uh HRN,List.map_append,uh HMr,uh HANS];rfl
      ·exact (uh HK5).trans hk6 (fun i hi hlt=>by have:=((uh HR5).A.lt i (.inl hi)).1;have:=uh HKS;have:=(uh HKr).size;omega)
     case measure=>simp [intOf];omega
   ·have bk:(o.kind==5)=true:=by simpa using hkd
    have b4:(o.kind==4)=false:=by simp [hkd]
    have HAN:=hide (show ansA (endR rs0 SS) o=qKz (endR rs0 SS) o from ansA_s _ _ hkd)
    have HF1:=hide (show [o].filter chg=[] from by simp [chg,hkd])
    clear hkd
    go_wp2_with fail
    clear hv0 hh0 hst h1c
    generalize (wr.alloc (.cells o.cells.toArray 40)).alloc (.cells #[.int .i64 0,.slice none 0 0,.string ⟨#[]⟩] 33)=wb at *
    generalize hob:wr.heap.size=ob at *
    have HOBB:=hide hob
    clear hob
    have hobl:ob<wb.heap.size:=(uh HOb).lt
    have habl:ob+1<wb.heap.size:=(uh HAb).lt
    obtain ⟨hvb,hhb⟩:=qA4 (uh HOb) 26 rfl
    have HSW:=hide ((qEm (uh HRb).S).keeps ((Keeps.refl (fun _=>False) wb).drew))
    go_region_held3 (fun w'=>qAv w' ob 0 26=.agg o.cells.toArray∧qA3 w' ob 0 26=true)
     (first
        | (go_split_ands;rw [(qAp (b:=ob) (o:=0) (n:=26) (set3 w2 (ob+1) _ _ _) (by omega) hw2b).1,(qAp (b:=ob) (o:=0) (n:=26) (set3 w2 (ob+1) _ _ _) (by omega) hw2b).2];exact ⟨by assumption,by assumption⟩)
        | (go_split_ands;rw [(qAp (b:=ob) (o:=0) (n:=26) hk2 (by omega) (by have:=hk1.size;simp at this;omega)).1,(qAp (b:=ob) (o:=0) (n:=26) hk2 (by omega) (by have:=hk1.size;simp at this;omega)).2];exact ⟨by assumption,by assumption⟩)
        | (go_split_ands;rw [(qAp (b:=ob) (o:=0) (n:=26) hk1 (fun h=>h) (by simp;omega)).1,(qAp (b:=ob) (o:=0) (n:=26) hk1 (fun h=>h) (by simp;omega)).2];first | exact ⟨hvb,hhb⟩ | exact ⟨by assumption,by assumption⟩)
        | (rw [qAb,qAc];exact ⟨hvb,hhb⟩)
        | (go_split_ands;exact ⟨by assumption,by assumption⟩))
     (first
        | (go_at_call 52;refine (qJi sv SS _ (by exact uh HSW) (by omega)).mono ?_;rintro r w1 ⟨e,vv,ps,rfl,hE1,hx1,hk1,hf1⟩)
        | (go_at_call 54;refine (qW2 wb.heap.size k e vv _ _ ps o _ hE1 (by rw [hx1];exact uh HINV) (by omega)).mono ?_;rintro r w2 ⟨code,nums,nv,hcn,rfl,hn2,hk2⟩;have HCN:=hide hcn;clear hcn;obtain ⟨na,ncap,hnv⟩:=qFg hn2;subst hnv;unfold ansV;have hkb2:Keeps (fun _=>False) wb w2:=(((Keeps.refl (fun _=>False) wb).drew).then hk1).trans hk2 (fun i hi hlt=>by omega);have hw2b:ob<w2.heap.size:=(by have:=hkb2.size;omega);have HA2:=hide ((uh HAb).keeps hkb2 (fun h=>h));have r0:w2.cell? ⟨ob+1,0,none⟩=some (.int .i64 0):=(uh HA2).cell rfl;have r1:w2.cell? ⟨ob+1,1,none⟩=some (.slice none 0 0):=(uh HA2).cell rfl;have r2:w2.cell? ⟨ob+1,2,none⟩=some (.string qAa):=(uh HA2).cell rfl;have rf:=(uh HA2).frozen))
    all_goals
     have hss:(⟨(endR rs0 SS).clock,(endR rs0 SS).ticks,ps.map (·.2)⟩:RWS)=endR rs0 SS:=by rw [hx1]
     have HANS:=hide (show ansA (endR rs0 SS) o=(code,nums) by rw [uh HAN,←hss];exact uh HCN)
     have hw1:wb.heap.size≤w1.heap.size:=hk1.size
     have HP:=hide ((uh HRb).pend (by have:=(uh HKr).size;have:=uh HOBB;omega) hkb2 (qEs hn2 hw1))
     have hks:=set3 w2 (ob+1) (.int .i64 code) (.slice na nums.length ncap) (.string qAa)
     have HL3:=hide (show ∀ i,qHv av l i∨sv.ownBlock=some i∨tv.ownBlock=some i→i<ob from fun i hi=>by rw [←uh HOBB];exact ((uh HRR).lt i hi).2)
     have HR3:=hide ((uh HP).keeps hks (fun i hi hh=>by
          rcases hi with h | h | h | h
          ·have:=uh HL3 i (.inl h);omega
          ·have:=uh HL3 i (.inr (.inl h));omega
          ·have:=uh HL3 i (.inr (.inr h));omega
          ·have:=(hn2.lt i h).1;omega))
     have HA3:=hide ((((uh HA2).setCell 0 (.int .i64 code)).setCell 1 (.slice na nums.length ncap)).setCell 2 (.string qAa))
     have HO3:=hide (((uh HOb).keeps hkb2 (fun h=>h)).keeps hks (fun h=>by omega))
     have HKS:=hide (uh HOBB)
     have HK3:=hide ((((uh HKr).then (uh HKb)).then hkb2).trans hks (fun i hi hlt=>by have:=uh HOBB;have:=(uh HKr).size;omega))
     have hb3:w.heap.size≤w2.heap.size:=(((uh HKr).then (uh HKb)).then hkb2).size
     have e9:(((w2.setCell ⟨ob+1,0,none⟩ (.int .i64 code)).setCell ⟨ob+1,1,none⟩ (.slice na nums.length ncap)).setCell ⟨ob+1,2,none⟩ (.string ⟨#[]⟩))=(((w2.setCell ⟨ob+1,0,none⟩ (.int .i64 code)).setCell ⟨ob+1,1,none⟩ (.slice na nums.length ncap)).setCell ⟨ob+1,2,none⟩ (.string qAa)):=rfl
     first | rw [e9] | skip
     have hb3:w.heap.size≤(((w2.setCell ⟨ob+1,0,none⟩ (.int .i64 code)).setCell ⟨ob+1,1,none⟩ (.slice na nums.length ncap)).setCell ⟨ob+1,2,none⟩ (.string qAa)).heap.size:=Nat.le_trans hb3 hks.size
     have hsz3:w2.heap.size≤(((w2.setCell ⟨ob+1,0,none⟩ (.int .i64 code)).setCell ⟨ob+1,1,none⟩ (.slice na nums.length ncap)).setCell ⟨ob+1,2,none⟩ (.string qAa)).heap.size:=hks.size
     clear e9 hks hn2 hk2 hk1 hE1 hx1 hf1 hss r0 r1 r2 rf hkb2 HP HA2 hvb hhb
     generalize (((w2.setCell ⟨ob+1,0,none⟩ (.int .i64 code)).setCell ⟨ob+1,1,none⟩ (.slice na nums.length ncap)).setCell ⟨ob+1,2,none⟩ (.string qAa))=w3 at *
     have HR4:=HR3
     have HA4:=HA3
     have HL4:=HL3
     have HK4:=HK3
     have hbW:=hb3
     go_wp2_with (at_builtin;first | (refine wpList_append_lies _ rfl _ _ _ rfl w.heap.size 22 j0 _ 1 24 Tryz.underlying68 hj0 hy0 hy1 hy2 rfl (by omega) tv k (List.replicate k (.slice none 0 0)) rfl ((uh HR4).T.alloc _) ⟨w3.heap.size,0,none⟩ 1 1 [.slice none 0 0] rfl rfl (World.news_of_block (cs:=#[.slice none 0 0]) (t:=22) (fr:=(0,0)) (heap_alloc_new w3 _)) (by simp [Value.oneCell']) (by omega) (by unfold maxLen;omega) (by omega) (by have:=hbW;simp;omega) (w3.heap.size+1) (by simp) ?_;intro g5 c5 w5 hown5 hgrow5 hat5 hl5;have hk5:=((Keeps.refl (fun i=>tv.ownBlock=some i) w3).alloc _).then (qEl hgrow5);have HR5:=hide ((uh HR4).saved hk5 (by rw [←qNl];exact hown5) (fun i hi=>by rcases qMt hat5 i hi with h | h;exact .inl h;exact .inr (by omega)));have HA5:=hide ((uh HA4).keeps hk5 (fun h=>by have:=(uh HL4 _ (.inr (.inr h)));omega));have HK5:=hide ((uh HK4).trans hk5 (fun i hi hlt=>by have:=((uh HR4).T.lt i hi).1;have:=uh HKS;have:=(uh HKr).size;omega));have t0:w5.cell? ⟨ob+1,0,none⟩=some (.int .i64 code):=(uh HA5).cell rfl;have t1:w5.cell? ⟨ob+1,1,none⟩=some (.slice na nums.length ncap):=(uh HA5).cell rfl;have t2:w5.cell? ⟨ob+1,2,none⟩=some (.string qAa):=(uh HA5).cell rfl;have hb5:w.heap.size≤w5.heap.size:=(by have:=hk5.size;omega);clear hown5 hgrow5 hat5) | (refine wpList_append_lies _ rfl _ _ _ rfl w.heap.size 33 i0 _ 3 48 Tryz.underlying27 hi0 hz0 hz1 hz2 rfl (by omega) av k (qDh l) rfl (by have:=(uh HR5).A.row;rw [uh HLK] at this;exact this.alloc _) ⟨w5.heap.size,0,none⟩ 1 1 [.int .i64 code,.slice na nums.length ncap,.string qAa] rfl rfl (World.news_of_block (cs:=#[.int .i64 code,.slice na nums.length ncap,.string qAa]) (t:=33) (fr:=(0,0)) (heap_alloc_new w5 _)) (by simp [Value.oneCell']) (by omega) (by unfold maxLen;omega) (by omega) (by simp;omega) (w5.heap.size+1) (by simp) ?_;intro g6 c6 w6 hown6 hgrow6 hat6 hl6))
     go_roundw
     case rel =>
      have hk6:=((Keeps.refl (fun i=>av.ownBlock=some i) w5).alloc (.cells #[.int .i64 code,.slice na nums.length ncap,.string qAa] 33)).then (qEl hgrow6)
      have hR6:=(uh HR5).out (code:=code) hk6 (by rw [uh HLK];exact hown6) (fun i hi=>by
         rcases qMt hat6 i hi with h | h
         ·exact .inl h
         ·exact .inr (by omega))
      refine ⟨k+1,l++[⟨code,.slice na nums.length ncap,nums,qAa⟩],by omega,by go_num,?_,?_,?_⟩
      ·show RR _ _ _ _ _ _ _ _ _ _
       rw [uh HFN,uh HF1]
       rw [List.append_nil];exact hR6
      ·show _=_
       rw [uh HRN,List.map_append,uh HMr,uh HANS];rfl
      ·exact (uh HK5).trans hk6 (fun i hi hlt=>by have:=((uh HR5).A.lt i (.inl hi)).1;have:=uh HKS;have:=(uh HKr).size;omega)
     case measure=>simp [intOf];omega
   ·have b4:(o.kind==4)=false:=by simpa using hkd4
    have b5:(o.kind==5)=false:=by simpa using hkd5
    have HAN:=hide (show ansA (endR rs0 SS) o=(qEk (endR rs0 SS) o).2 from ansA_e _ _ hkd4 hkd5)
    have HF1:=hide (show [o].filter chg=[o] from by simp [chg,hkd4,hkd5])
    go_wp2_with fail
    clear hv0 hh0 hst h1c
    generalize (wr.alloc (.cells o.cells.toArray 40)).alloc (.cells #[.int .i64 0,.slice none 0 0,.string ⟨#[]⟩] 33)=wb at *
    generalize hob:wr.heap.size=ob at *
    have HOBB:=hide hob
    clear hob
    have hobl:ob<wb.heap.size:=(uh HOb).lt
    have habl:ob+1<wb.heap.size:=(uh HAb).lt
    obtain ⟨hvb,hhb⟩:=qA4 (uh HOb) 26 rfl
    have HSW:=hide ((qEm (uh HRb).S).keeps ((Keeps.refl (fun _=>False) wb).drew))
    go_region_held3 (fun w'=>qAv w' ob 0 26=.agg o.cells.toArray∧qA3 w' ob 0 26=true)
     (first
        | (go_split_ands;rw [(qAp (b:=ob) (o:=0) (n:=26) (set3 w2 (ob+1) _ _ _) (by omega) hw2b).1,(qAp (b:=ob) (o:=0) (n:=26) (set3 w2 (ob+1) _ _ _) (by omega) hw2b).2];exact ⟨by assumption,by assumption⟩)
        | (go_split_ands;rw [(qAp (b:=ob) (o:=0) (n:=26) hk2 (by omega) (by have:=hk1.size;simp at this;omega)).1,(qAp (b:=ob) (o:=0) (n:=26) hk2 (by omega) (by have:=hk1.size;simp at this;omega)).2];exact ⟨by assumption,by assumption⟩)
        | (go_split_ands;rw [(qAp (b:=ob) (o:=0) (n:=26) hk1 (fun h=>h) (by simp;omega)).1,(qAp (b:=ob) (o:=0) (n:=26) hk1 (fun h=>h) (by simp;omega)).2];first | exact ⟨hvb,hhb⟩ | exact ⟨by assumption,by assumption⟩)
        | (rw [qAb,qAc];exact ⟨hvb,hhb⟩)
        | (go_split_ands;exact ⟨by assumption,by assumption⟩))
     (first
        | (go_at_call 52;refine (qJi sv SS _ (by exact uh HSW) (by omega)).mono ?_;rintro r w1 ⟨e,vv,ps,rfl,hE1,hx1,hk1,hf1⟩)
        | (go_at_call 55;refine (qYy wb.heap.size k e vv _ _ ps o _ hE1 (by rw [hx1];exact uh HINV) (by omega) (by exact hf1)).mono ?_;rintro r w2 ⟨code,nums,nv,hcn,rfl,hn2,hk2⟩;have HCN:=hide hcn;clear hcn;obtain ⟨na,ncap,hnv⟩:=qFg hn2;subst hnv;unfold ansV;have hkb2:Keeps (fun _=>False) wb w2:=(((Keeps.refl (fun _=>False) wb).drew).then hk1).trans hk2 (fun i hi hlt=>by omega);have hw2b:ob<w2.heap.size:=(by have:=hkb2.size;omega);have HA2:=hide ((uh HAb).keeps hkb2 (fun h=>h));have r0:w2.cell? ⟨ob+1,0,none⟩=some (.int .i64 0):=(uh HA2).cell rfl;have r1:w2.cell? ⟨ob+1,1,none⟩=some (.slice none 0 0):=(uh HA2).cell rfl;have r2:w2.cell? ⟨ob+1,2,none⟩=some (.string qAa):=(uh HA2).cell rfl;have rf:=(uh HA2).frozen))
    all_goals
     have hss:(⟨(endR rs0 SS).clock,(endR rs0 SS).ticks,ps.map (·.2)⟩:RWS)=endR rs0 SS:=by rw [hx1]
     have HANS:=hide (show ansA (endR rs0 SS) o=(code,nums) by rw [uh HAN,←hss];exact uh HCN)
     have hw1:wb.heap.size≤w1.heap.size:=hk1.size
     have HP:=hide ((uh HRb).pend (by have:=(uh HKr).size;have:=uh HOBB;omega) hkb2 (qEs hn2 hw1))
     have hks:=set3 w2 (ob+1) (.int .i64 code) (.slice na nums.length ncap) (.string qAa)
     have HL3:=hide (show ∀ i,qHv av l i∨sv.ownBlock=some i∨tv.ownBlock=some i→i<ob from fun i hi=>by rw [←uh HOBB];exact ((uh HRR).lt i hi).2)
     have HR3:=hide ((uh HP).keeps hks (fun i hi hh=>by
          rcases hi with h | h | h | h
          ·have:=uh HL3 i (.inl h);omega
          ·have:=uh HL3 i (.inr (.inl h));omega
          ·have:=uh HL3 i (.inr (.inr h));omega
          ·have:=(hn2.lt i h).1;omega))
     have HA3:=hide ((((uh HA2).setCell 0 (.int .i64 code)).setCell 1 (.slice na nums.length ncap)).setCell 2 (.string qAa))
     have HO3:=hide (((uh HOb).keeps hkb2 (fun h=>h)).keeps hks (fun h=>by omega))
     have HKS:=hide (uh HOBB)
     have HK3:=hide ((((uh HKr).then (uh HKb)).then hkb2).trans hks (fun i hi hlt=>by have:=uh HOBB;have:=(uh HKr).size;omega))
     have hb3:w.heap.size≤w2.heap.size:=(((uh HKr).then (uh HKb)).then hkb2).size
     have e9:(((w2.setCell ⟨ob+1,0,none⟩ (.int .i64 code)).setCell ⟨ob+1,1,none⟩ (.slice na nums.length ncap)).setCell ⟨ob+1,2,none⟩ (.string ⟨#[]⟩))=(((w2.setCell ⟨ob+1,0,none⟩ (.int .i64 code)).setCell ⟨ob+1,1,none⟩ (.slice na nums.length ncap)).setCell ⟨ob+1,2,none⟩ (.string qAa)):=rfl
     first | rw [e9] | skip
     have hb3:w.heap.size≤(((w2.setCell ⟨ob+1,0,none⟩ (.int .i64 code)).setCell ⟨ob+1,1,none⟩ (.slice na nums.length ncap)).setCell ⟨ob+1,2,none⟩ (.string qAa)).heap.size:=Nat.le_trans hb3 hks.size
     have hsz3:w2.heap.size≤(((w2.setCell ⟨ob+1,0,none⟩ (.int .i64 code)).setCell ⟨ob+1,1,none⟩ (.slice na nums.length ncap)).setCell ⟨ob+1,2,none⟩ (.string qAa)).heap.size:=hks.size
     clear e9 hks hn2 hk2 hk1 hE1 hx1 hf1 hss r0 r1 r2 rf hkb2 HP HA2 hvb hhb
     generalize (((w2.setCell ⟨ob+1,0,none⟩ (.int .i64 code)).setCell ⟨ob+1,1,none⟩ (.slice na nums.length ncap)).setCell ⟨ob+1,2,none⟩ (.string qAa))=w3 at *
     obtain ⟨hv3,hh3⟩:=qA4 (uh HO3) 26 rfl
     go_wp2_with (at_builtin;first | (refine qBg rfl _ _ rfl w.heap.size sv SS rfl (by exact qAf (uh HR3).S ((Keeps.refl (fun _=>False) w3).alloc _) (fun _ _ h=>h)) _ [o] rfl (by exact qDc (Blk.new w3 o.cells 40)) (by simp;omega) (by have:=hb3;simp;omega) ?_;intro ad4 c4 w4 hown4 hk4' hat4;have hk4:=((Keeps.refl (fun i=>sv.ownBlock=some i) w3).alloc _).then hk4';have HR4:=hide ((uh HR3).steps hk4 hown4 (fun i hi=>by rcases hat4 i hi with h | h;exact .inl h;exact .inr (by simp at h;omega)));have HA4:=hide ((uh HA3).keeps hk4 (fun h=>by have:=(uh HL3 _ (.inr (.inl h)));omega));have HL4:=hide (show ∀ i,qHv av l i∨(Value.slice none 0 0).ownBlock=some i∨tv.ownBlock=some i→i<ob from fun i hi=>by rcases hi with h | h | h;exact uh HL3 i (.inl h);cases h;exact uh HL3 i (.inr (.inr h)));have HK4:=hide ((uh HK3).trans hk4 (fun i hi hlt=>by have:=((uh HR3).S.lt i hi).1;have:=uh HKS;have:=(uh HKr).size;omega));have hbW:w.heap.size≤w4.heap.size:=(by have:=hk4.size;omega);clear hown4 hk4' hat4) | (refine wpList_append_lies _ rfl _ _ _ rfl w.heap.size 22 j0 _ 1 24 Tryz.underlying68 hj0 hy0 hy1 hy2 rfl (by omega) tv k (List.replicate k (.slice none 0 0)) rfl ((uh HR4).T.alloc _) ⟨w4.heap.size,0,none⟩ 1 1 [.slice none 0 0] rfl rfl (World.news_of_block (cs:=#[.slice none 0 0]) (t:=22) (fr:=(0,0)) (heap_alloc_new w4 _)) (by simp [Value.oneCell']) (by omega) (by unfold maxLen;omega) (by omega) (by have:=hbW;simp;omega) (w4.heap.size+1) (by simp) ?_;intro g5 c5 w5 hown5 hgrow5 hat5 hl5;have hk5:=((Keeps.refl (fun i=>tv.ownBlock=some i) w4).alloc _).then (qEl hgrow5);have HR5:=hide ((uh HR4).saved hk5 (by rw [←qNl];exact hown5) (fun i hi=>by rcases qMt hat5 i hi with h | h;exact .inl h;exact .inr (by omega)));have HA5:=hide ((uh HA4).keeps hk5 (fun h=>by have:=(uh HL4 _ (.inr (.inr h)));omega));have HK5:=hide ((uh HK4).trans hk5 (fun i hi hlt=>by have:=((uh HR4).T.lt i hi).1;have:=uh HKS;have:=(uh HKr).size;omega));have t0:w5.cell? ⟨ob+1,0,none⟩=some (.int .i64 code):=(uh HA5).cell rfl;have t1:w5.cell? ⟨ob+1,1,none⟩=some (.slice na nums.length ncap):=(uh HA5).cell rfl;have t2:w5.cell? ⟨ob+1,2,none⟩=some (.string qAa):=(uh HA5).cell rfl;have hb5:w.heap.size≤w5.heap.size:=(by have:=hk5.size;omega);clear hown5 hgrow5 hat5) | (refine wpList_append_lies _ rfl _ _ _ rfl w.heap.size 33 i0 _ 3 48 Tryz.underlying27 hi0 hz0 hz1 hz2 rfl (by omega) av k (qDh l) rfl (by have:=(uh HR5).A.row;rw [uh HLK] at this;exact this.alloc _) ⟨w5.heap.size,0,none⟩ 1 1 [.int .i64 code,.slice na nums.length ncap,.string qAa] rfl rfl (World.news_of_block (cs:=#[.int .i64 code,.slice na nums.length ncap,.string qAa]) (t:=33) (fr:=(0,0)) (heap_alloc_new w5 _)) (by simp [Value.oneCell']) (by omega) (by unfold maxLen;omega) (by omega) (by simp;omega) (w5.heap.size+1) (by simp) ?_;intro g6 c6 w6 hown6 hgrow6 hat6 hl6))
     go_roundw
     case rel =>
      have hk6:=((Keeps.refl (fun i=>av.ownBlock=some i) w5).alloc (.cells #[.int .i64 code,.slice na nums.length ncap,.string qAa] 33)).then (qEl hgrow6)
      have hR6:=(uh HR5).out (code:=code) hk6 (by rw [uh HLK];exact hown6) (fun i hi=>by
         rcases qMt hat6 i hi with h | h
         ·exact .inl h
         ·exact .inr (by omega))
      refine ⟨k+1,l++[⟨code,.slice na nums.length ncap,nums,qAa⟩],by omega,by go_num,?_,?_,?_⟩
      ·show RR _ _ _ _ _ _ _ _ _ _
       rw [uh HFN,uh HF1]
       exact hR6
      ·show _=_
       rw [uh HRN,List.map_append,uh HMr,uh HANS];rfl
      ·exact (uh HK5).trans hk6 (fun i hi hlt=>by have:=((uh HR5).A.lt i (.inl hi)).1;have:=uh HKS;have:=(uh HKr).size;omega)
     case measure=>simp [intOf];omega
  ·have hkk:k=n:=by omega
   subst hkk
   go_wp2
   go_ret
   refine ⟨av,l,rfl,(uh HRR).A,?_,(uh HRR).nb,uh HKr⟩
   have:=uh HMr
   rwa [List.take_of_length_le (by rw [uh HN];omega)] at this
end Go.Proofs.YtahnliehdjncdaaGreatDoor
namespace Go.Proofs.YtahnliehdjncdaaGreatDoor
open Go.RowKit
theorem qUi (n:Int) (e:Nat) (v:Value) (clock:Int) (ps:List (SB×Ser)) (o:OpM) (w:World) (h:ERep w e v clock ps) (hi:EInv n clock (ps.map (·.2))) (hn:n≤651562446200) (hT:Tab w) (hT0:¬ EFoot e v ps 2) (h67:o.kind≠6∧o.kind≠7) :
  Calls Tryz.prog 35 #[.pointer (some ⟨e,0,none⟩),o.val] w fun r w' =>
   qLb w e v ps (qB6 ⟨clock,ps.map (·.2)⟩ o).1.clock (qB6 ⟨clock,ps.map (·.2)⟩ o).1.xs (qB6 ⟨clock,ps.map (·.2)⟩ o).2.1 (qB6 ⟨clock,ps.map (·.2)⟩ o).2.2 (qIh ⟨clock,ps.map (·.2)⟩ o) r w':=by
 have hby:qIh ⟨clock,ps.map (·.2)⟩ o=qAa:=by unfold qIh;rw [if_neg h67.1]
 rw [hby]
 have hfind:=qQp ps o.id
 by_cases h1:o.kind=1
 ·have hM:qB6 ⟨clock,ps.map (·.2)⟩ o=qDt ⟨clock,ps.map (·.2)⟩ o:=by unfold qB6;rw [if_pos h1]
  rw [hM]
  refine (step_1 e v clock ps o w h h1 _ _ _ _ (fun w0 h0=>?_)).mono (fun _ _ h=>h.b)
  cases hid:inB o.id 0 99
  ·have:qDt ⟨clock,ps.map (·.2)⟩ o=(⟨clock,ps.map (·.2)⟩,2,[]):=by unfold qDt;rw [if_neg (by rw [hid];simp)]
   rw [this]
   exact qVs n e v clock ps o w0 h0 hi hid
  ·cases hf:qEg ps o.id with
   | some p =>
    have:qDt ⟨clock,ps.map (·.2)⟩ o=(⟨clock,ps.map (·.2)⟩,2,[]):=by unfold qDt;rw [if_neg (by simp only;rw [hfind,hf];simp)]
    rw [this]
    exact qPo n e v clock ps o w0 h0 hi hid p hf
   | none =>
    have hc:(inB o.id 0 99=true∧(qH3 (⟨clock,ps.map (·.2)⟩:WS).xs o.id).isNone=true):=⟨hid,by simp only;rw [hfind,hf];rfl⟩
    cases hv:qA0 o.cfg
    ·have:qDt ⟨clock,ps.map (·.2)⟩ o=(⟨clock,ps.map (·.2)⟩,3,[]):=by unfold qDt;rw [if_pos hc,if_neg (by rw [hv];simp)]
     rw [this]
     exact qNp n e v clock ps o w0 h0 hi hid hf hv
    ·by_cases h6:ps.length<6
     ·have:qDt ⟨clock,ps.map (·.2)⟩ o=(⟨clock,ps.map (·.2)++[qCt o.id o.cfg o.cfg.kind.toNat]⟩,0,[]):=by unfold qDt;rw [if_pos hc,if_pos hv,if_pos (by simpa using h6)]
      rw [this]
      exact qTa n e v clock ps o w0 h0 hi hid hf hv h6
     ·have:qDt ⟨clock,ps.map (·.2)⟩ o=(⟨clock,ps.map (·.2)⟩,4,[]):=by unfold qDt;rw [if_pos hc,if_pos hv,if_neg (by simpa using h6)]
      rw [this]
      have h6':ps.length=6:=by have:=hi.six;rw [List.length_map] at this;omega
      exact qRl n e v clock ps o w0 h0 hi hid hf hv h6'
 by_cases h2:o.kind=2
 ·have hM:qB6 ⟨clock,ps.map (·.2)⟩ o=addM ⟨clock,ps.map (·.2)⟩ o:=by unfold qB6;rw [if_neg h1,if_pos h2]
  rw [hM]
  refine (step_2 e v clock ps o w h h2 _ _ _ _ (fun w0 h0=>?_)).mono (fun _ _ h=>h.b)
  cases hf:qEg ps o.id with
  | none =>
   have:addM ⟨clock,ps.map (·.2)⟩ o=(⟨clock,ps.map (·.2)⟩,2,[]):=by unfold addM;simp only;rw [hfind,hf];rfl
   rw [this]
   exact qZs n e v clock ps o w0 h0 hi hf
  | some p =>
   by_cases hr:refE p.2 clock o.item=0
   ·have:addM ⟨clock,ps.map (·.2)⟩ o=(⟨clock,updS (ps.map (·.2)) o.id (accS p.2 o.item)⟩,0,[p.2.acc+1]):=by unfold addM;simp only;rw [hfind,hf];simp only [Option.map_some];rw [if_pos hr]
    rw [this]
    exact add_yes n e v clock ps o w0 h0 hi p hf hr (by omega)
   ·have:addM ⟨clock,ps.map (·.2)⟩ o=(⟨clock,updS (ps.map (·.2)) o.id (refS p.2 (refE p.2 clock o.item).toNat)⟩,refE p.2 clock o.item,[]):=by unfold addM;simp only;rw [hfind,hf];simp only [Option.map_some];rw [if_neg hr]
    rw [this]
    have hrr:=qGd p.2 clock o.item
    obtain ⟨cd,hcd⟩:=Int.eq_ofNat_of_zero_le hrr.1
    rw [hcd,Int.toNat_natCast]
    exact add_no n e v clock ps o w0 h0 hi p cd hf hcd (by omega) (by omega)
 by_cases h3:o.kind=3
 ·have hM:qB6 ⟨clock,ps.map (·.2)⟩ o=qJ3 ⟨clock,ps.map (·.2)⟩ o:=by unfold qB6;rw [if_neg h1,if_neg h2,if_pos h3]
  rw [hM]
  refine (step_3 e v clock ps o w h h3 _ _ _ _ (fun w0 h0 hk0=>?_)).mono (fun _ _ h=>h.b)
  cases ha:inB o.a 0 4611686018427387904
  ·have:qJ3 ⟨clock,ps.map (·.2)⟩ o=(⟨clock,ps.map (·.2)⟩,5,[]):=by unfold qJ3;rw [if_neg (by rw [ha];simp)]
   rw [this]
   exact qWo n e v clock ps o w0 h0 hi ha
  ·cases hb:inB o.b 0 100
   ·have:qJ3 ⟨clock,ps.map (·.2)⟩ o=(⟨clock,ps.map (·.2)⟩,12,[]):=by unfold qJ3;rw [if_pos ha,if_neg (by rw [hb];simp)]
    rw [this]
    exact qRd n e v clock ps o w0 h0 hi ha hb
   ·have:qJ3 ⟨clock,ps.map (·.2)⟩ o=(⟨maxC clock o.a,(qCg (maxC clock o.a) o.b ((ps.map (·.2)).map (qBj (maxC clock o.a)))).1⟩,0,[(qCg (maxC clock o.a) o.b ((ps.map (·.2)).map (qBj (maxC clock o.a)))).2]):=by unfold qJ3;rw [if_pos ha,if_pos hb]
    rw [this]
    exact qXw n e v clock ps o w0 h0 hi ha hb hn (hT.keeps hk0 (fun h=>h)) hT0
 by_cases h4:o.kind=4
 ·have hM:qB6 ⟨clock,ps.map (·.2)⟩ o=qF9 ⟨clock,ps.map (·.2)⟩ o:=by unfold qB6;rw [if_neg h1,if_neg h2,if_neg h3,if_pos h4]
  rw [hM]
  refine (step_4 e v clock ps o w h h4 _ _ _ _ (fun w0 h0=>?_)).mono (fun _ _ h=>h.b)
  cases hf:qEg ps o.id with
  | none =>
   have:qF9 ⟨clock,ps.map (·.2)⟩ o=(⟨clock,ps.map (·.2)⟩,2,[]):=by unfold qF9;simp only;rw [hfind,hf];rfl
   rw [this]
   exact qS6 n e v clock ps o w0 h0 hi hf
  | some p =>
   have:qF9 ⟨clock,ps.map (·.2)⟩ o=(⟨clock,ps.map (·.2)⟩,qryN p.2.k p.2.c p.2.nt o.a (clock-p.2.c.lag)):=by unfold qF9;simp only;rw [hfind,hf];rfl
   rw [this]
   exact qSw n e v clock ps o w0 h0 hi hn p hf
 by_cases h5:o.kind=5
 ·have hM:qB6 ⟨clock,ps.map (·.2)⟩ o=qHx ⟨clock,ps.map (·.2)⟩ o:=by unfold qB6;rw [if_neg h1,if_neg h2,if_neg h3,if_neg h4,if_pos h5]
  rw [hM]
  refine (step_5 e v clock ps o w h h5 _ _ _ _ (fun w0 h0=>?_)).mono (fun _ _ h=>h.b)
  cases hf:qEg ps o.id with
  | none =>
   have:qHx ⟨clock,ps.map (·.2)⟩ o=(⟨clock,ps.map (·.2)⟩,2,[]):=by unfold qHx;simp only;rw [hfind,hf];rfl
   rw [this]
   exact qZm n e v clock ps o w0 h0 hi hf
  | some p =>
   have:qHx ⟨clock,ps.map (·.2)⟩ o=(⟨clock,ps.map (·.2)⟩,0,qCq p.2):=by unfold qHx;simp only;rw [hfind,hf];rfl
   rw [this]
   exact qXn n e v clock ps o w0 h0 hi p hf
 have hM:qB6 ⟨clock,ps.map (·.2)⟩ o=(⟨clock,ps.map (·.2)⟩,1,[]):=by unfold qB6;rw [if_neg h1,if_neg h2,if_neg h3,if_neg h4,if_neg h5,if_neg h67.1,if_neg h67.2]
 rw [hM]
 exact (step_no e v clock ps o w h (by omega)).mono (fun _ _ h=>h.b)
end Go.Proofs.YtahnliehdjncdaaGreatDoor
namespace Go.Proofs.YtahnliehdjncdaaGreatDoor
open Go.RowKit
theorem qU6 (v:Value) (ops:List OpM) (w:World) (h:ScriptW w v ops) (hlen:ops.length≤651562446090) (hT:Tab w) (hok:∀ o,o∈ops→o.kind≠6∧o.kind≠7) :
  Calls Tryz.prog 19 #[v] w fun r w'=>∃ v l,r=.returned v∧ARep w' w.heap.size v l∧l.map (fun x=>(x.code,x.nums))=runM ws0 ops∧l.map (·.bs)=runB ws0 ops∧Keeps (fun _=>False) w w':=by
 rcases h with ⟨⟨a,c,rfl⟩,rfl⟩ | ⟨sb,so,cap,rfl,h2,h3,h4⟩
 ·exact run_nil a c w
 ·exact run_any sb so cap ops w h3 h4 hlen hT (fun _ o ho=>qIc (hok o (List.mem_of_getElem? ho)).2) (fun i e v clock ps o w ho _ h hi hn hT hT0=>qUi i e v clock ps o w h hi hn hT hT0 (hok o (List.mem_of_getElem? ho)))
end Go.Proofs.YtahnliehdjncdaaGreatDoor
namespace Go.Proofs.YtahnliehdjncdaaGreatDoor
def HB (K:Int):List Bk→Prop
 | []=>True
 | b::l=>K*(b.sz-1)≤sumB l∧HB K l
end Go.Proofs.YtahnliehdjncdaaGreatDoor
namespace Go.Proofs.YtahnliehdjncdaaGreatDoor
theorem qUx (m:Int) (f:Nat):∀ x:Ser,x.l.length<f→HeapL x.l→HeapL (relS f x m).l∧(relS f x m).c=x.c∧(relS f x m).k=x.k∧(relS f x m).id=x.id:=by
 induction f with
 | zero=>intro x h;omega
 | succ f ih =>
  intro x hf hh
  unfold relS
  split
  ·exact ⟨hh,rfl,rfl,rfl⟩
  ·rename_i he
   have hne:x.l≠[]:=fun h=>he (by rw [h];rfl)
   split
   ·exact ⟨hh,rfl,rfl,rfl⟩
   ·obtain ⟨th,tp⟩:=take_heap x.l hh hne
    have hlen:(qC9 x m).l.length=x.l.length-1:=takeL_length _
    have hpos:0<x.l.length:=List.length_pos_iff.2 hne
    obtain ⟨h1,h2,h3,h4⟩:=ih (qC9 x m) (by omega) th
    exact ⟨h1,h2,h3,h4⟩
end Go.Proofs.YtahnliehdjncdaaGreatDoor
namespace Go.Proofs.YtahnliehdjncdaaGreatDoor
theorem qQ7 {c:Int} (xs:List Ser):∀ (b:Int) (z:Ser),z∈(qCg c b xs).1→∃ y,y∈xs∧∃ b',z=swpS c b' y:=by
 induction xs with
 | nil=>intro b z hz;simp [qCg] at hz
 | cons x xs ih =>
  intro b z hz
  simp only [qCg] at hz
  rcases List.mem_cons.1 hz with hz | hz
  ·exact ⟨x,by simp,b,hz⟩
  ·obtain ⟨y,hy,h⟩:=ih _ z hz
   exact ⟨y,by simp [hy],h⟩
theorem qT0 (c:Int) (xs:List Ser):∀ b,(qCg c b xs).1.map (·.id)=xs.map (·.id):=by
 induction xs with
 | nil=>intro b;rfl
 | cons x xs ih=>intro b;simp only [qCg,List.map_cons,ih];rfl
theorem qI3 {xs:List Ser} {id:Int} {x:Ser} (h:qH3 xs id=some x):∃ l1 l2,xs=l1++x::l2∧x.id=id∧∀ y:Ser,updS xs id y=l1++y::l2:=by
 obtain ⟨hp,l1,l2,he,hn⟩:=List.find?_eq_some_iff_append.1 h
 refine ⟨l1,l2,he,by simpa using hp,fun y=>?_⟩
 subst he
 clear h
 induction l1 with
 | nil=>simp [updS];intro h0;exact absurd (by simpa using hp) h0
 | cons a l1 ih =>
  have ha:=hn a (by simp)
  simp only [List.cons_append,updS]
  rw [if_neg (by simpa using ha),ih (fun z hz=>hn z (by simp [hz]))]
theorem qVp {x:Ser} {clock:Int} {y:It} (h:refE x clock y=0):clock-x.c.lag<y.t:=by
 unfold refE at h
 split at h
 ·split at h
  ·omega
  ·omega
 ·omega
end Go.Proofs.YtahnliehdjncdaaGreatDoor
namespace Go.Proofs.YtahnliehdjncdaaGreatDoor
structure OkI (c:Cfg) (k:Nat) (y:It):Prop where
 t0:0≤y.t
 t1:y.t≤4611686018427387904
 fit:qFp c k ⟨y.t,y.k,y.d,0⟩=0
structure NLaw (k:Nat) (P:Cfg→Int→Note→List It→Prop):Prop where
 zero:∀ c m,qA0 c=true→c.kind=k→P c m qRr []
 later:∀ c m m' nt R,qA0 c=true→c.kind=k→m≤m'→P c m nt R→P c m' nt R
 rel:∀ c m nt R y,qA0 c=true→c.kind=k→P c m nt R→(∀ r∈R,OkI c k r∧leP r y∧r.n≠y.n)→OkI c k y→y.t≤m→P c m (relN k c nt y m) (R++[y])
 swp:∀ c m nt R b,qA0 c=true→c.kind=k→P c m nt R→P c m (swpN k c nt m b).1 R
structure GS (P:Cfg→Int→Note→List It→Prop) (clock:Int) (x:Ser) (A:List It):Prop where
 heap:HeapL x.l
 wait:∀ y∈x.l,clock-x.c.lag<y.t
 okA:∀ y∈A,OkI x.c x.k y
 num:∀ (i:Nat) (y:It),A[i]?=some y→y.n=(i:Int)+1
 acc:x.acc=(A.length:Int)
 whole:∃ R,P x.c (clock-x.c.lag) x.nt R∧R.Pairwise leP∧(∀ r∈R,r.t≤clock-x.c.lag)∧(R++x.l).Perm A
theorem qM2 {A:List It} (h:∀ (i:Nat) (y:It),A[i]?=some y→y.n=(i:Int)+1):(A.map (·.n)).Nodup:=by
 refine List.pairwise_iff_getElem.2 (fun i j hi hj hij=>?_)
 rw [List.length_map] at hi hj
 rw [List.getElem_map,List.getElem_map]
 have h1:=h i _ (List.getElem?_eq_getElem hi)
 have h2:=h j _ (List.getElem?_eq_getElem hj)
 omega
theorem HeapL.first_leP {l:List It} (h:HeapL l) {y:It} (hy:y∈l):leP (itAt l 0) y:=by
 obtain ⟨j,hj,rfl⟩:=List.mem_iff_getElem.1 hy
 have:=h.first j hj
 rw [show itAt l j=l[j] by simp [itAt,List.getD_eq_getElem?_getD,List.getElem?_eq_getElem hj]] at this
 exact this
theorem qZh (f:Nat):∀ (x:Ser) (m:Int),(relS f x m).acc=x.acc:=by
 induction f with
 | zero=>intro x m;rfl
 | succ f ih =>
  intro x m
  unfold relS
  split
  ·rfl
  ·split
   ·rfl
   ·exact ih _ _
theorem relS_GS {k:Nat} {P:Cfg→Int→Note→List It→Prop} (hP:NLaw k P) (m:Int) (f:Nat):∀ (x:Ser) (R:List It),x.l.length<f→HeapL x.l→qA0 x.c=true→x.c.kind=k→x.k=k →
  (∀ y∈R++x.l,OkI x.c k y)→((R++x.l).map (·.n)).Nodup→P x.c m x.nt R→R.Pairwise leP→(∀ r∈R,r.t≤m)→(∀ r∈R,∀ y∈x.l,leP r y) →
  ∃ R',P x.c m (relS f x m).nt R'∧R'.Pairwise leP∧(∀ r∈R',r.t≤m)∧(R'++(relS f x m).l).Perm (R++x.l)∧(∀ y∈(relS f x m).l,m<y.t):=by
 induction f with
 | zero=>intro x R h;omega
 | succ f ih =>
  intro x R hf hh hv hck hk hok hnd hp hs hr hx
  unfold relS
  split
  ·rename_i he
   have hnil:x.l=[]:=List.isEmpty_iff.1 he
   exact ⟨R,hp,hs,hr,List.Perm.refl _,by rw [hnil];simp⟩
  ·rename_i he
   have hne:x.l≠[]:=fun h=>he (by rw [h];rfl)
   split
   ·rename_i hm
    refine ⟨R,hp,hs,hr,List.Perm.refl _,fun y hy=>?_⟩
    have:=hh.first_mem hy
    omega
   ·rename_i hm
    obtain ⟨th,tp⟩:=take_heap x.l hh hne
    have hlen:(qC9 x m).l.length=x.l.length-1:=takeL_length _
    have hpos:0<x.l.length:=List.length_pos_iff.2 hne
    have hperm:((R++[itAt x.l 0])++takeL x.l).Perm (R++x.l):=by
     rw [List.append_assoc];exact List.Perm.append_left R tp
    have hy0:itAt x.l 0∈x.l:=tp.mem_iff.1 (by simp)
    have hnd2:(((R++[itAt x.l 0])++takeL x.l).map (·.n)).Nodup:=(hperm.map (·.n)).nodup_iff.2 hnd
    have hfirst:∀ y∈takeL x.l,leP (itAt x.l 0) y:=fun y hy=>hh.first_leP (tp.mem_iff.1 (by simp [hy]))
    have hnew:=hP.rel x.c m x.nt R (itAt x.l 0) hv hck hp (fun r hrm=>⟨hok r (by simp [hrm]),hx r hrm _ hy0,fun e=>by
         have h1:(((R++[itAt x.l 0])).map (·.n)).Nodup:=by
          rw [List.map_append] at hnd2
          exact (List.nodup_append.1 hnd2).1
         rw [List.map_append] at h1
         exact (List.nodup_append.1 h1).2.2 r.n (List.mem_map_of_mem hrm) (itAt x.l 0).n (by simp) e⟩) (hok _ (by simp [hy0])) (by omega)
    obtain ⟨R',p1,p2,p3,p4,p5⟩:=ih (qC9 x m) (R++[itAt x.l 0]) (by omega) th hv hck hk
     (fun y hy=>hok y (hperm.mem_iff.1 hy)) hnd2 (by
        show P x.c m (relN x.k x.c x.nt (itAt x.l 0) m) _
        rw [hk];exact hnew)
     (List.pairwise_append.2 ⟨hs,by simp,fun a ha b hb=>by rw [List.mem_singleton] at hb;rw [hb];exact hx a ha _ hy0⟩)
     (fun r hrm=>by
        rcases List.mem_append.1 hrm with h | h
        ·exact hr r h
        ·rw [List.mem_singleton] at h;rw [h];omega)
     (fun r hrm y hy=>by
        rcases List.mem_append.1 hrm with h | h
        ·exact hx r h y (tp.mem_iff.1 (by simp [show y∈takeL x.l from hy]))
        ·rw [List.mem_singleton] at h;rw [h];exact hfirst y hy)
    exact ⟨R',p1,p2,p3,p4.trans hperm,p5⟩
theorem tick_GS {k:Nat} {P:Cfg→Int→Note→List It→Prop} (hP:NLaw k P) {clock nc:Int} {x:Ser} {A:List It} (h:GS P clock x A) (hk:x.k=k) (hck:x.c.kind=k) (hv:qA0 x.c=true) (hcn:clock≤nc):GS P nc (qBj nc x) A:=by
 obtain ⟨R,hw,hs,hr,hp⟩:=h.whole
 have hkk:=qUx (nc-x.c.lag) (x.l.length+1) x (by omega) h.heap
 have hacc:(relS (x.l.length+1) x (nc-x.c.lag)).acc=x.acc:=qZh _ _ _
 obtain ⟨R',p1,p2,p3,p4,p5⟩:=relS_GS hP (nc-x.c.lag) (x.l.length+1) x R (by omega) h.heap hv hck hk
  (fun y hy=>by rw [←hk];exact h.okA y (hp.mem_iff.1 hy)) ((hp.map (·.n)).nodup_iff.2 (qM2 h.num)) (hP.later _ _ _ _ _ hv hck (by omega) hw) hs (fun r hrm=>by have:=hr r hrm;omega)
  (fun r hrm y hy=>.inl (by have h1:=hr r hrm;have h2:=h.wait y hy;omega))
 unfold qBj
 refine ⟨hkk.1,fun y hy=>?_,fun y hy=>?_,h.num,?_,R',?_,p2,fun r hrm=>?_,p4.trans hp⟩
 ·rw [hkk.2.1];exact p5 y hy
 ·rw [hkk.2.1,hkk.2.2.1];exact h.okA y hy
 ·rw [hacc];exact h.acc
 ·rw [hkk.2.1];exact p1
 ·rw [hkk.2.1];exact p3 r hrm
theorem qYq {k:Nat} {P:Cfg→Int→Note→List It→Prop} (hP:NLaw k P) {nc b:Int} {x:Ser} {A:List It} (h:GS P nc x A) (hk:x.k=k) (hck:x.c.kind=k) (hv:qA0 x.c=true):GS P nc (swpS nc b x) A:=by
 obtain ⟨R,hw,hs,hr,hp⟩:=h.whole
 refine ⟨h.heap,h.wait,h.okA,h.num,h.acc,R,?_,hs,hr,hp⟩
 show P x.c (nc-x.c.lag) (swpN x.k x.c x.nt (nc-x.c.lag) b).1 R
 rw [hk];exact hP.swp _ _ _ _ _ hv hck hw
theorem add_GS {P:Cfg→Int→Note→List It→Prop} {clock:Int} {x:Ser} {A:List It} (h:GS P clock x A) (y:It) (hy:clock-x.c.lag<y.t) (hok:OkI x.c x.k (numbered y (x.acc+1))):GS P clock (accS x y) (A++[numbered y (x.acc+1)]):=by
 obtain ⟨R,hw,hs,hr,hp⟩:=h.whole
 obtain ⟨h1,h2⟩:=put_heap x.l (numbered y (x.acc+1)) h.heap
 refine ⟨h1,fun z hz=>?_,fun z hz=>?_,fun i z hz=>?_,?_,R,hw,hs,hr,?_⟩
 ·rcases List.mem_cons.1 (h2.mem_iff.1 hz) with e | e
  ·rw [e];exact hy
  ·exact h.wait z e
 ·rcases List.mem_append.1 hz with e | e
  ·exact h.okA z e
  ·rw [List.mem_singleton] at e;rw [e];exact hok
 ·by_cases hi:i<A.length
  ·rw [List.getElem?_append_left hi] at hz;exact h.num i z hz
  ·rw [List.getElem?_append_right (by omega)] at hz
   have hi2:i-A.length=0:=by
    have:=(List.getElem?_eq_some_iff.1 hz).1
    simp at this;omega
   rw [hi2] at hz
   simp at hz
   rw [←hz]
   show x.acc+1=_
   rw [h.acc];omega
 ·show x.acc+1=_
  rw [h.acc,List.length_append];simp
 ·refine (List.Perm.append_left R h2).trans (List.perm_middle.trans ?_)
  exact (List.Perm.cons _ hp).trans (List.perm_append_singleton _ _).symm
theorem new_GS {k:Nat} {P:Cfg→Int→Note→List It→Prop} (hP:NLaw k P) (clock id:Int) (c:Cfg) (hv:qA0 c=true) (hck:c.kind=k) (j:Nat):GS P clock (qCt id c j) [] :=
 ⟨fun i _ hi=>by simp [qCt] at hi,fun t ht=>by simp [qCt] at ht,fun y hy=>by simp at hy,fun i y hy=>by simp at hy,rfl,[],hP.zero _ _ hv hck,List.Pairwise.nil,fun r hr=>by simp at hr,List.Perm.refl _⟩
def acci (s:WS) (o:OpM) (id:Int):List It:=if o.kind=2∧o.id=id∧(qB6 s o).2.1=0 then [numbered o.item ((qB6 s o).2.2.headD 0)] else []
structure GW (k:Nat) (P:Cfg→Int→Note→List It→Prop) (s:WS) (A:Int→List It):Prop where
 ids:(s.xs.map (·.id)).Nodup
 none:∀ id,id ∉ s.xs.map (·.id)→A id=[]
 cnt:∀ x,x∈s.xs→x.k=k→GS P s.clock x (A x.id)
theorem qDv {s:WS} {o:OpM} (h:o.kind≠2∨(qB6 s o).2.1≠0) (id:Int):acci s o id=[]:=by
 unfold acci
 rw [if_neg]
 rintro ⟨h1,_,h3⟩
 rcases h with h | h
 ·exact h h1
 ·exact h h3
theorem upd_GW {k:Nat} {P:Cfg→Int→Note→List It→Prop} {s:WS} {A B:Int→List It} (h:GW k P s A) {id:Int} {x y:Ser} (hf:qH3 s.xs id=some x) (hid:y.id=x.id) (hb:∀ i,i≠id→B i=A i) (hk:y.k=x.k) (hy:x.k=k→GS P s.clock x (A x.id)→GS P s.clock y (B id)):GW k P ⟨s.clock,updS s.xs id y⟩ B:=by
 obtain ⟨l1,l2,he,hx,hu⟩:=qI3 hf
 have hm:(updS s.xs id y).map (·.id)=s.xs.map (·.id):=by
  rw [hu,he];simp [hid]
 have hxm:x∈s.xs:=by rw [he];simp
 refine ⟨by show ((updS s.xs id y).map _).Nodup;rw [hm];exact h.ids,fun i hi=>?_,fun z hz hzk=>?_⟩
 ·have hi':i ∉ s.xs.map (·.id):=by rw [←hm];exact hi
  have hne:i≠id:=fun h0=>hi' (by rw [h0,←hx];exact List.mem_map_of_mem hxm)
  rw [hb i hne];exact h.none i hi'
 ·have hz':z∈l1++y::l2:=by rw [←hu];exact hz
  have hnd:=h.ids
  rw [he,List.map_append,List.map_cons] at hnd
  obtain ⟨_,n2,n3⟩:=List.nodup_append.1 hnd
  have n4:=(List.nodup_cons.1 n2).1
  rcases List.mem_append.1 hz' with hz1 | hz1
  ·have hne:z.id≠id:=fun h0=>n3 z.id (List.mem_map_of_mem hz1) x.id (by simp) (by rw [h0,hx])
   show GS P s.clock z (B z.id)
   rw [hb _ hne];exact h.cnt z (by rw [he];simp [hz1]) hzk
  ·rcases List.mem_cons.1 hz1 with hz1 | hz1
   ·subst hz1
    show GS P s.clock z (B z.id)
    rw [hid,hx]
    exact hy (by rw [←hk];exact hzk) (h.cnt x hxm (by rw [←hk];exact hzk))
   ·have hne:z.id≠id:=fun h0=>n4 (by rw [hx,←h0];exact List.mem_map_of_mem hz1)
    show GS P s.clock z (B z.id)
    rw [hb _ hne];exact h.cnt z (by rw [he];simp [hz1]) hzk
theorem qQj {k:Nat} {P:Cfg→Int→Note→List It→Prop} (hP:NLaw k P) {n:Int} {s:WS} {A:Int→List It} (hi:EInv n s.clock s.xs) (h:GW k P s A) (o:OpM) (h7:o.kind≠7):GW k P (qB6 s o).1 (fun id=>A id++acci s o id):=by
 by_cases h1:o.kind=1
 ·have ha:=qDv (s:=s) (o:=o) (.inl (by omega))
  simp only [ha,List.append_nil]
  unfold qB6
  rw [if_pos h1]
  unfold qDt
  split
  ·rename_i hc
   split
   ·rename_i hv
    split
    ·have hnew:o.id ∉ s.xs.map (·.id):=fun hm=>by
      obtain ⟨x,hx,hxi⟩:=List.mem_map.1 hm
      have:=hc.2
      unfold qH3 at this
      rw [Option.isNone_iff_eq_none,List.find?_eq_none] at this
      exact this x hx (by simpa using hxi)
     refine ⟨?_,fun id hid=>?_,fun x hx hk=>?_⟩
     ·show ((s.xs++[qCt o.id o.cfg o.cfg.kind.toNat]).map (·.id)).Nodup
      rw [List.map_append]
      refine List.nodup_append.2 ⟨h.ids,by simp,fun a ha b hb=>?_⟩
      simp [qCt] at hb
      subst hb
      exact fun h0=>hnew (by rw [←h0];exact ha)
     ·exact h.none id (fun h0=>hid (by show id∈(s.xs++[qCt o.id o.cfg o.cfg.kind.toNat]).map (·.id);rw [List.map_append];exact List.mem_append.2 (.inl h0)))
     ·rcases List.mem_append.1 hx with hx | hx
      ·exact h.cnt x hx hk
      ·rw [List.mem_singleton] at hx;subst hx
       show GS P s.clock _ (A o.id)
       have hkd:=(qMf (n:=0) o.id o.cfg hv (by omega)).kind
       have hkk:(qCt o.id o.cfg o.cfg.kind.toNat).k=k:=hk
       rw [hkk] at hkd
       rw [h.none o.id hnew];exact new_GS hP _ _ _ hv hkd _
    ·exact h
   ·exact h
  ·exact h
 by_cases h2:o.kind=2
 ·have hs:qB6 s o=addM s o:=by unfold qB6;rw [if_neg h1,if_pos h2]
  cases hf:qH3 s.xs o.id with
  | none =>
   have e:addM s o=(s,2,[]):=by unfold addM;rw [hf]
   have ha:=qDv (s:=s) (o:=o) (.inr (by rw [hs,e];simp))
   simp only [ha,List.append_nil]
   rw [hs,e];exact h
  | some x =>
   by_cases hr:refE x s.clock o.item=0
   ·have e:addM s o=(⟨s.clock,updS s.xs o.id (accS x o.item)⟩,0,[x.acc+1]):=by unfold addM;rw [hf];simp only;rw [if_pos hr]
    have he2:=e
    rw [hs,e]
    refine upd_GW h hf rfl (fun i hne=>?_) rfl (fun _ hb=>?_)
    ·show A i++acci s o i=A i
     have:acci s o i=[]:=by unfold acci;rw [if_neg (fun hh=>hne hh.2.1.symm)]
     rw [this,List.append_nil]
    ·show GS P s.clock (accS x o.item) (A o.id++acci s o o.id)
     have:acci s o o.id=[numbered o.item (x.acc+1)]:=by unfold acci;rw [if_pos ⟨h2,rfl,by rw [hs,e]⟩,hs,e];rfl
     rw [this]
     obtain ⟨_,_,_,hx,_⟩:=qI3 hf
     rw [hx] at hb
     obtain ⟨z1,z2,_,_,_,z6,_⟩:=qP1 hr
     exact add_GS hb o.item (qVp hr) ⟨z1,z2,z6⟩
   ·have e:addM s o=(⟨s.clock,updS s.xs o.id (refS x (refE x s.clock o.item).toNat)⟩,refE x s.clock o.item,[]):=by unfold addM;rw [hf];simp only;rw [if_neg hr]
    have ha:=qDv (s:=s) (o:=o) (.inr (by rw [hs,e];exact hr))
    simp only [ha,List.append_nil]
    rw [hs,e]
    refine upd_GW h hf rfl (fun i _=>rfl) rfl (fun _ hb=>?_)
    obtain ⟨_,_,_,hx,_⟩:=qI3 hf
    rw [hx] at hb
    exact ⟨hb.heap,hb.wait,hb.okA,hb.num,hb.acc,hb.whole⟩
 have ha:=qDv (s:=s) (o:=o) (.inl h2)
 simp only [ha,List.append_nil]
 unfold qB6
 rw [if_neg h1,if_neg h2]
 split
 ·unfold qJ3
  split
  ·split
   ·have hcn:s.clock≤maxC s.clock o.a:=by unfold maxC;split <;> omega
    have hids:((qCg (maxC s.clock o.a) o.b (s.xs.map (qBj (maxC s.clock o.a)))).1.map (·.id))=s.xs.map (·.id):=by
     rw [qT0,List.map_map]
     refine List.map_congr_left fun x _=>?_
     exact (qIn _ _ _).2.2
    refine ⟨by show List.Nodup _;rw [hids];exact h.ids,fun id hid=>h.none id (by rw [←hids];exact hid),fun z hz hk=>?_⟩
    obtain ⟨y,hy,b',rfl⟩:=qQ7 _ _ _ hz
    obtain ⟨x,hx,rfl⟩:=List.mem_map.1 hy
    have htk:(qBj (maxC s.clock o.a) x).k=x.k:=(qIn _ _ _).1
    have htc:(qBj (maxC s.clock o.a) x).c=x.c:=(qIn _ _ _).2.1
    have hkx:x.k=k:=by rw [←htk];exact hk
    have hv:=hi.sers x hx
    have hck:x.c.kind=k:=by rw [hv.kind,hkx]
    have hid:(swpS (maxC s.clock o.a) b' (qBj (maxC s.clock o.a) x)).id=x.id:=(qIn _ _ _).2.2
    rw [hid]
    exact qYq hP (tick_GS hP (h.cnt x hx hkx) hkx hck hv.valid hcn) (htk.trans hkx) (by rw [htc];exact hck) (by rw [htc];exact hv.valid)
   ·exact h
  ·exact h
 ·split
  ·unfold qF9;split <;> exact h
  ·split
   ·unfold qHx;split <;> exact h
   ·split <;> exact h
end Go.Proofs.YtahnliehdjncdaaGreatDoor
namespace Go.Proofs.YtahnliehdjncdaaGreatDoor
def celA (cs:List Int) (j pl:Nat):Int:=cs.getD (j*16+pl) 0
def cntI (f:It→Bool) (R:List It):Int:=((R.filter f).length:Int)
theorem qVl (f:It→Bool) (R:List It) (y:It):cntI f (R++[y])=cntI f R+if f y=true then 1 else 0:=by
 unfold cntI
 rw [List.filter_append,List.length_append]
 by_cases h:f y=true
 ·rw [if_pos h,List.filter_cons_of_pos h];simp
 ·rw [if_neg h,List.filter_cons_of_neg h];simp
theorem qPj {f:It→Bool} {R:List It} (h:∀ r∈R,f r=false):cntI f R=0:=by
 unfold cntI
 rw [List.filter_eq_nil_iff.2 (fun r hr=>by rw [h r hr];simp)];rfl
theorem qVg {f:It→Bool} {R:List It} (h:cntI f R=0):∀ r∈R,f r=false:=by
 intro r hr
 unfold cntI at h
 have:R.filter f=[]:=List.eq_nil_of_length_eq_zero (by omega)
 have:=List.filter_eq_nil_iff.1 this r hr
 simpa using this
theorem qTi {f g:It→Bool} {R:List It} (h:∀ r∈R,f r=g r):cntI f R=cntI g R:=by
 unfold cntI;rw [List.filter_congr h]
theorem cntI_or {f g e:It→Bool} {R:List It} (h:∀ r∈R,e r=(f r||g r)) (hd:∀ r∈R,¬ (f r=true∧g r=true)):cntI e R=cntI f R+cntI g R:=by
 induction R with
 | nil=>rfl
 | cons r R ih =>
  have ih:=ih (fun a ha=>h a (by simp [ha])) (fun a ha=>hd a (by simp [ha]))
  have h1:=h r (by simp)
  have h2:=hd r (by simp)
  unfold cntI at *
  rw [List.filter_cons,List.filter_cons,List.filter_cons]
  cases hf:f r <;> cases hg:g r <;> simp_all <;> omega
def pnoO (c:Cfg) (r:It):Int:=r.t/qA8 c
def qPd (c:Cfg) (j pl:Nat) (r:It):Bool:=decide (qBt c r.k j=(pl:Int))
def cnt1 (c:Cfg) (R:List It) (no:Int) (j pl:Nat):Int:=cntI (fun r=>decide (pnoO c r=no)&&qPd c j pl r) R
structure OG (c:Cfg) (m:Int) (o:Pa.Pn) (cl:List Pa.Pn) (R:List It):Prop where
 asc:cl.Pairwise (fun a b=>a.no<b.no)
 lt:∀ p∈cl,p.no<o.no
 ex:∀ p,p∈cl∨p=o→∀ (j pl:Nat),(j:Int)<c.rows→pl<16→celA p.cs j pl=cnt1 c R p.no j pl
 inn:∀ r∈R,(∃ p,(p∈cl∨p=o)∧p.no=pnoO c r)∨(pnoO c r+1)*qA8 c-1≤m-c.window
 top:∀ r∈R,pnoO c r≤o.no
 cur:o.no=0∨∃ r∈R,pnoO c r=o.no
theorem qF8 (j pl:Nat):celA zeros48 j pl=0:=by
 unfold celA zeros48
 rw [List.getD_eq_getElem?_getD,List.getElem?_replicate]
 split <;> rfl
theorem OG.zero (c:Cfg) (m:Int):OG c m Pa.pn0 [] []:=by
 refine ⟨List.Pairwise.nil,fun p hp=>by simp at hp,fun p hp j pl _ _=>?_,fun r hr=>by simp at hr,fun r hr=>by simp at hr,.inl rfl⟩
 rcases hp with hp | hp
 ·simp at hp
 ·rw [hp];exact qF8 j pl
theorem OG.later {c:Cfg} {m m':Int} {o:Pa.Pn} {cl:List Pa.Pn} {R:List It} (h:OG c m o cl R) (hm:m≤m'):OG c m' o cl R :=
 ⟨h.asc,h.lt,h.ex,fun r hr=>(h.inn r hr).imp id (fun h=>by omega),h.top,h.cur⟩
theorem celA_up (cs:List Int) (hl:cs.length=48) (j pl a b:Nat) (hpl:pl<16) (ha:a<3) (hb:b<16):celA (upAt cs (a*16+b)) j pl=celA cs j pl+if j=a∧pl=b then 1 else 0:=by
 unfold celA upAt
 rw [List.getD_eq_getElem?_getD,List.getElem?_set]
 by_cases h:j=a∧pl=b
 ·rw [if_pos h,h.1,h.2,if_pos rfl,if_pos (by omega)];rfl
 ·rw [if_neg h,if_neg (by omega),Int.add_zero,List.getD_eq_getElem?_getD]
theorem qV7 (c:Cfg) (hc:c.rowed) (key:Int) (cs:List Int) (hl:cs.length=48) (j pl:Nat) (hpl:pl<16):∀ n:Nat,n≤3→celA (qH7 c key n cs) j pl=celA cs j pl+if j<n∧qBt c key j=(pl:Int) then 1 else 0:=by
 intro n
 induction n with
 | zero=>intro _;simp [qH7]
 | succ n ih =>
  intro hn
  have hb:=qG2 c hc key n
  rw [show qH7 c key (n+1) cs=upAt (qH7 c key n cs) (n*16+(qBt c key n).toNat) from rfl,celA_up _ (by rw [qFv,hl]) j pl n _ hpl (by omega) (by omega),ih (by omega)]
  by_cases h1:j=n
  ·subst h1
   rw [if_neg (by omega)]
   by_cases h2:qBt c key j=(pl:Int)
   ·rw [if_pos ⟨rfl,by omega⟩,if_pos ⟨by omega,h2⟩];omega
   ·rw [if_neg (fun h=>h2 (by omega)),if_neg (fun h=>h2 h.2)];omega
  ·have e1:(if j=n∧pl=(qBt c key n).toNat then (1:Int) else 0)=0:=if_neg (fun h=>h1 h.1)
   rw [e1]
   by_cases h2:j<n∧qBt c key j=(pl:Int)
   ·rw [if_pos h2,if_pos ⟨by omega,h2.2⟩];omega
   ·rw [if_neg h2,if_neg (fun h=>h2 ⟨by omega,h.2⟩)];omega
theorem qJc (c:Cfg) (t:Int):∀ l:List Pa.Pn,∀ p∈l,p∈l.drop (qEx c l t)∨qGk c p≤t
 | [],p,hp=>by simp at hp
 | q::l,p,hp=>by
  unfold qEx
  rw [List.takeWhile_cons]
  split
  ·rename_i hq
   rw [List.length_cons,List.drop_succ_cons]
   rcases List.mem_cons.1 hp with e | e
   ·right;rw [e];simpa using hq
   ·exact qJc c t l p e
  ·left;rw [List.length_nil,List.drop_zero];exact hp
theorem OG.rel {c:Cfg} {m:Int} {o:Pa.Pn} {cl:List Pa.Pn} {R:List It} (h:OG c m o cl R) (hL:1≤qA8 c) (hrw:c.rowed) (hr1:1≤c.rows) (hr3:c.rows≤3) (y:It) (y0:0≤y.t) (hy:∀ r∈R,r.t≤y.t) :
  OG c m (relO c o cl y m).1 (relO c o cl y m).2 (R++[y]):=by
 obtain ⟨n,hn⟩:∃ n,n=pnoO c y:=⟨_,rfl⟩
 have hn0:0≤n:=by rw [hn];exact Int.ediv_nonneg y0 (by omega)
 have hle:∀ r∈R,pnoO c r≤n:=fun r hr=>by rw [hn];exact Int.ediv_le_ediv (by omega) (hy r hr)
 have hon:o.no≤n:=by
  rcases h.cur with h0 | ⟨r,hr,h0⟩
  ·omega
  ·rw [←h0];exact hle r hr
 -- behind the turn
 have ht:∃ o2 l2,qE2 o cl n=(o2,l2)∧o2.no=n∧l2.Pairwise (fun a b=>a.no<b.no)∧(∀ p∈l2,p.no<n) ∧
   (∀ p,p∈l2∨p=o2→∀ (j pl:Nat),(j:Int)<c.rows→pl<16→celA p.cs j pl=cnt1 c R p.no j pl)∧(∀ r∈R,(∃ p,(p∈l2∨p=o2)∧p.no=pnoO c r)∨(pnoO c r+1)*qA8 c-1≤m-c.window):=by
  unfold qE2
  by_cases h1:o.no=n
  ·rw [if_pos h1]
   exact ⟨o,cl,rfl,h1,h.asc,fun p hp=>by rw [←h1];exact h.lt p hp,h.ex,h.inn⟩
  ·rw [if_neg h1]
   have hnew:∀ j pl,cnt1 c R n j pl=0:=fun j pl=>qPj (fun r hr=>by
      have h2:=h.top r hr
      rw [decide_eq_false (by omega)];rfl)
   by_cases h2:o.cs=zeros48
   ·rw [if_pos h2]
    refine ⟨newP n,cl,rfl,rfl,h.asc,fun p hp=>by have:=h.lt p hp;omega,fun p hp j pl hj hpl=>?_,fun r hr=>?_⟩
    ·rcases hp with hp | hp
     ·exact h.ex p (.inl hp) j pl hj hpl
     ·rw [hp];exact (qF8 j pl).trans (hnew j pl).symm
    ·rcases h.inn r hr with ⟨p,hp,hpn⟩ | h3
     ·rcases hp with hp | hp
      ·exact .inl ⟨p,.inl hp,hpn⟩
      ·exfalso
       have hb:=qG2 c hrw r.k 0
       have h3:=h.ex o (.inr rfl) 0 (qBt c r.k 0).toNat (by omega) (by omega)
       rw [h2,qF8] at h3
       have h4:=qVg h3.symm r hr
       rw [hp] at hpn
       rw [decide_eq_true hpn.symm] at h4
       unfold qPd at h4
       rw [decide_eq_true (by omega)] at h4
       simp at h4
     ·exact .inr h3
   ·rw [if_neg h2]
    refine ⟨newP n,cl++[o],rfl,rfl,?_,fun p hp=>?_,fun p hp j pl hj hpl=>?_,fun r hr=>?_⟩
    ·exact List.pairwise_append.2 ⟨h.asc,by simp,fun a ha b hb=>by rw [List.mem_singleton] at hb;rw [hb];exact h.lt a ha⟩
    ·rcases List.mem_append.1 hp with hp | hp
     ·have:=h.lt p hp;omega
     ·rw [List.mem_singleton] at hp;rw [hp];omega
    ·rcases hp with hp | hp
     ·rcases List.mem_append.1 hp with hp | hp
      ·exact h.ex p (.inl hp) j pl hj hpl
      ·rw [List.mem_singleton] at hp;exact h.ex p (.inr hp) j pl hj hpl
     ·rw [hp];exact (qF8 j pl).trans (hnew j pl).symm
    ·rcases h.inn r hr with ⟨p,hp,hpn⟩ | h3
     ·refine .inl ⟨p,.inl ?_,hpn⟩
      rcases hp with hp | hp
      ·simp [hp]
      ·simp [hp]
     ·exact .inr h3
 obtain ⟨o2,l2,e,e1,e2,e3,e4,e5⟩:=ht
 have er:relO c o cl y m=(qL1 c y.k c.rows.toNat o2,l2.drop (qEx c l2 (m-c.window))):=by
  unfold relO
  show (qL1 c y.k c.rows.toNat (qE2 o cl (y.t/qA8 c)).1,_)=_
  rw [show y.t/qA8 c=n from hn.symm,e]
 rw [er]
 have hsub:∀ p,p∈l2.drop (qEx c l2 (m-c.window))→p∈l2:=fun p hp=>List.mem_of_mem_drop hp
 have hbn:(qL1 c y.k c.rows.toNat o2).no=n:=e1
 refine ⟨e2.sublist (List.drop_sublist _ _),fun p hp=>?_,fun p hp j pl hj hpl=>?_,fun r hr=>?_,fun r hr=>?_,.inr ⟨y,by simp,by rw [hbn,hn]⟩⟩
 ·show p.no<(qL1 c y.k c.rows.toNat o2).no
  rw [hbn];exact e3 p (hsub p hp)
 ·unfold cnt1
  rw [qVl]
  rcases hp with hp | hp
  ·have hne:pnoO c y≠p.no:=by have:=e3 p (hsub p hp);omega
   rw [decide_eq_false hne,if_neg (by simp)]
   rw [e4 p (.inl (hsub p hp)) j pl hj hpl];unfold cnt1;omega
  ·subst hp
   show celA (qH7 c y.k c.rows.toNat o2.cs) j pl=_
   rw [qV7 c hrw y.k o2.cs o2.len j pl hpl _ (by omega),e4 o2 (.inr rfl) j pl hj hpl]
   unfold cnt1
   rw [show (qL1 c y.k c.rows.toNat o2).no=o2.no from rfl,decide_eq_true (show pnoO c y=o2.no by omega)]
   unfold qPd
   by_cases h1:qBt c y.k j=(pl:Int)
   ·rw [if_pos ⟨by omega,h1⟩,if_pos (by simp [h1])]
   ·rw [if_neg (fun h=>h1 h.2),if_neg (by simp [h1])]
 ·rcases List.mem_append.1 hr with hr | hr
  ·rcases e5 r hr with ⟨p,hp,hpn⟩ | h3
   ·rcases hp with hp | hp
    ·rcases qJc c (m-c.window) l2 p hp with h3 | h3
     ·exact .inl ⟨p,.inl h3,hpn⟩
     ·right;rw [←hpn];exact h3
    ·exact .inl ⟨_,.inr rfl,by rw [hbn,←e1,←hpn,hp]⟩
   ·exact .inr h3
  ·rw [List.mem_singleton] at hr
   exact .inl ⟨_,.inr rfl,by rw [hbn,hn,hr]⟩
 ·rw [hbn]
  rcases List.mem_append.1 hr with hr | hr
  ·exact hle r hr
  ·rw [List.mem_singleton] at hr;rw [hr,hn];exact Int.le_refl _
def PO (c:Cfg) (m:Int) (nt:Note) (R:List It):Prop:=OG c m nt.op nt.cl R
theorem PO_law:NLaw 3 PO where
 zero:=fun c m _ _=>OG.zero c m
 later:=fun c m m' nt R _ _ hm h=>OG.later h hm
 rel:=fun c m nt R y hv hk h hr hy _=>by
  obtain ⟨_,hrw,hL,_,_⟩:=qD4 (k:=3) hv hk rfl
  exact OG.rel h hL hrw hrw.r0 hrw.r1 y hy.t0 (fun r hrm=>by have:=(hr r hrm).2.1;unfold leP at this;omega)
 swp:=fun c m nt R b _ _ h=>h
theorem qVy (a b:List Int) (ha:a.length=48) (hb:b.length=48) (j pl:Nat) (hj:j<3) (hpl:pl<16):celA (List.zipWith (·+·) a b) j pl=celA a j pl+celA b j pl:=by
 unfold celA
 have h1:j*16+pl<a.length:=by omega
 have h2:j*16+pl<b.length:=by omega
 have h3:j*16+pl<(List.zipWith (·+·) a b).length:=by rw [List.length_zipWith];omega
 simp [List.getD_eq_getElem?_getD,List.getElem?_eq_getElem h1,List.getElem?_eq_getElem h2,List.getElem?_eq_getElem h3]
theorem cel_sum {c:Cfg} {R:List It} {j pl:Nat} (hj:(j:Int)<c.rows) (hr3:c.rows≤3) (hpl:pl<16):∀ (l:List Pa.Pn),l.Pairwise (fun a b=>a.no<b.no)→(∀ p∈l,celA p.cs j pl=cnt1 c R p.no j pl)→∀ a:List Int,a.length=48 →
  celA (l.foldl qH6 a) j pl=celA a j pl+cntI (fun r=>decide (pnoO c r∈l.map (·.no))&&qPd c j pl r) R:=by
 intro l
 induction l with
 | nil=>intro _ _ a _;simp [qPj]
 | cons p l ih =>
  intro hp he a ha
  have hp2:=List.pairwise_cons.1 hp
  rw [List.foldl_cons,ih hp2.2 (fun q hq=>he q (by simp [hq])) _ (qG7 ha)]
  unfold qH6
  rw [qVy _ _ ha p.len j pl (by omega) hpl,he p (by simp),Int.add_assoc]
  congr 1
  refine (cntI_or (fun r _=>?_) (fun r _ hh=>?_)).symm
  ·cases qPd c j pl r <;> simp
   try by_cases h1:pnoO c r=p.no <;> simp [h1]
  ·have h1:pnoO c r=p.no:=by have:=hh.1;simp at this;exact this.1
   have h2:=hh.2
   simp only [Bool.and_eq_true,decide_eq_true_eq,List.mem_map] at h2
   obtain ⟨⟨q,hq,hqn⟩,_⟩:=h2
   have:=hp2.1 q hq
   omega
theorem OG.counted {c:Cfg} {m:Int} {o:Pa.Pn} {cl:List Pa.Pn} {R:List It} (h:OG c m o cl R) (hL:1≤qA8 c) (hr3:c.rows≤3) (T:Int) (hT:m-c.window≤T) (j pl:Nat) (hj:(j:Int)<c.rows) (hpl:pl<16) :
  celA (qCu c o cl T) j pl=cntI (fun r=>decide (T<(pnoO c r+1)*qA8 c-1)&&qPd c j pl r) R:=by
 obtain ⟨l,hl⟩:∃ l,l=cl.drop (qEx c cl T)++(if T<qGk c o then [o] else []):=⟨_,rfl⟩
 have e:qCu c o cl T=l.foldl qH6 zeros48:=by
  unfold qCu sumP
  rw [hl]
  by_cases h1:T<qGk c o
  ·rw [if_pos h1,if_pos h1,List.foldl_append];rfl
  ·rw [if_neg h1,if_neg h1,List.append_nil]
 have hmem:∀ p,p∈l→p∈cl∨p=o:=fun p hp=>by
  rw [hl] at hp
  rcases List.mem_append.1 hp with hp | hp
  ·exact .inl (List.mem_of_mem_drop hp)
  ·split at hp
   ·rw [List.mem_singleton] at hp;exact .inr hp
   ·simp at hp
 have hpw:l.Pairwise (fun a b=>a.no<b.no):=by
  rw [hl]
  refine List.pairwise_append.2 ⟨h.asc.sublist (List.drop_sublist _ _),by split <;> simp,fun a ha b hb=>?_⟩
  split at hb
  ·rw [List.mem_singleton] at hb;rw [hb];exact h.lt a (List.mem_of_mem_drop ha)
  ·simp at hb
 have hlast:∀ p,p∈l→T<qGk c p:=fun p hp=>by
  rw [hl] at hp
  rcases List.mem_append.1 hp with hp | hp
  ·exact qJh c (by omega) T cl h.asc p hp
  ·split at hp
   ·rename_i h1;rw [List.mem_singleton] at hp;rw [hp];exact h1
   ·simp at hp
 have hin:∀ p,p∈cl∨p=o→T<qGk c p→p∈l:=fun p hp h1=>by
  rw [hl]
  rcases hp with hp | hp
  ·rcases qJc c T cl p hp with h2 | h2
   ·exact List.mem_append.2 (.inl h2)
   ·omega
  ·rw [hp] at h1;rw [if_pos h1,hp];simp
 rw [e,cel_sum hj hr3 hpl l hpw (fun p hp=>h.ex p (hmem p hp) j pl hj hpl) _ qBb,qF8,Int.zero_add]
 refine qTi (fun r hr=>?_)
 congr 1
 refine decide_eq_decide.2 ⟨fun h1=>?_,fun h1=>?_⟩
 ·obtain ⟨p,hp,hpn⟩:=List.mem_map.1 h1
  rw [←hpn];exact hlast p hp
 ·rcases h.inn r hr with ⟨p,hp,hpn⟩ | h2
  ·exact List.mem_map.2 ⟨p,hin p hp (by unfold qGk;rw [hpn];exact h1),hpn⟩
  ·omega
end Go.Proofs.YtahnliehdjncdaaGreatDoor
namespace Go.Proofs.YtahnliehdjncdaaGreatDoor
theorem qWi {R L A:List It} {fr mk:Int} (hp:(R++L).Perm A) (hR:∀ r∈R,r.t≤mk) (hL:∀ y∈L,mk<y.t):(A.filter (fun y=>decide (fr<y.t∧y.t≤mk))).Perm (R.filter (fun y=>decide (fr<y.t))):=by
 refine (hp.filter _).symm.trans ?_
 rw [List.filter_append]
 have h1:L.filter (fun y=>decide (fr<y.t∧y.t≤mk))=[]:=List.filter_eq_nil_iff.2 (fun y hy=>by have:=hL y hy;simp;omega)
 have h2:R.filter (fun y=>decide (fr<y.t∧y.t≤mk))=R.filter (fun y=>decide (fr<y.t)):=List.filter_congr (fun y hy=>by have:=hR y hy;simp;omega)
 rw [h1,h2,List.append_nil]
end Go.Proofs.YtahnliehdjncdaaGreatDoor
namespace Go.Proofs.YtahnliehdjncdaaGreatDoor
def isM (v:Int) (p:Int→Prop):Prop:=(v=0∧∀ k,¬ p k)∨(p v∧∀ k,p k→k≤v)
theorem isM.to {v:Int} {p q:Int→Prop} (h:isM v p) (h1:∀ k,p k→q k) (h2:∀ k,q k→∃ k',p k'∧k≤k'):isM v q:=by
 rcases h with ⟨h,hn⟩ | ⟨h,hm⟩
 ·left
  refine ⟨h,fun k hk=>?_⟩
  obtain ⟨k',hp,_⟩:=h2 k hk
  exact hn k' hp
 ·right
  refine ⟨h1 v h,fun k hk=>?_⟩
  obtain ⟨k',hp,hle⟩:=h2 k hk
  have:=hm k' hp
  omega
def rkI (c:Cfg) (n:Nat) (r:It):Int:=qEt (qC1 c.s00 c.s01 r.k/n)
def hasK (c:Cfg) (n:Nat) (R:List It) (T:Int) (j:Nat) (k:Int):Prop:=∃ r∈R,T<r.t∧regI c n r.k=j∧rkI c n r=k
def qQb (l:List Bk):Prop:=l.Pairwise (fun a b=>a.sz<b.sz∧b.t<a.t)
theorem qMg (l:List Bk) (T:Int):(∀ b∈l.take (Mk.pastN l T),b.sz≤T)∧(qQb l→∀ b∈l.drop (Mk.pastN l T),T<b.sz):=by
 induction l with
 | nil=>exact ⟨fun b hb=>by simp at hb,fun _ b hb=>by simp at hb⟩
 | cons a l ih =>
  unfold Mk.pastN at *
  rw [List.takeWhile_cons]
  split
  ·rename_i ha
   have ha':a.sz≤T:=by simpa using ha
   rw [List.length_cons,List.take_succ_cons,List.drop_succ_cons]
   refine ⟨fun b hb=>?_,fun hs=>ih.2 (List.pairwise_cons.1 hs).2⟩
   rcases List.mem_cons.1 hb with e | e
   ·rw [e];exact ha'
   ·exact ih.1 b e
  ·rename_i ha
   have ha':T<a.sz:=by simpa using ha
   refine ⟨fun b hb=>by simp at hb,fun hs b hb=>?_⟩
   rw [List.length_nil,List.drop_zero] at hb
   rcases List.mem_cons.1 hb with e | e
   ·rw [e];exact ha'
   ·have:=(List.pairwise_cons.1 hs).1 b e;omega
theorem qR5 (l:List Bk) (hs:qQb l) (T:Int):isM (qFr l T) (fun k=>∃ b∈l,T<b.sz∧b.t=k):=by
 obtain ⟨h1,h2⟩:=qMg l T
 have h2:=h2 hs
 unfold qFr
 have hle:=Mk.pastN_le l T
 by_cases h:Mk.pastN l T=l.length
 ·rw [if_pos h]
  left
  refine ⟨rfl,fun k hk=>?_⟩
  obtain ⟨b,hb,hT,_⟩:=hk
  rw [h,List.take_length] at h1
  have:=h1 b hb
  omega
 ·rw [if_neg h]
  right
  have hlt:Mk.pastN l T<l.length:=by omega
  have hd:l.drop (Mk.pastN l T)=bkAt l (Mk.pastN l T)::l.drop (Mk.pastN l T+1):=by
   rw [List.drop_eq_getElem_cons hlt]
   congr 1
   simp [bkAt,List.getD_eq_getElem?_getD,List.getElem?_eq_getElem hlt]
  have hm:bkAt l (Mk.pastN l T)∈l.drop (Mk.pastN l T):=by rw [hd];simp
  refine ⟨⟨_,List.mem_of_mem_drop hm,h2 _ hm,rfl⟩,fun k hk=>?_⟩
  obtain ⟨b,hb,hT,rfl⟩:=hk
  have hb':b∈l.drop (Mk.pastN l T):=by
   rw [←List.take_append_drop (Mk.pastN l T) l] at hb
   rcases List.mem_append.1 hb with e | e
   ·have:=h1 b e;omega
   ·exact e
  have hs2:qQb (l.drop (Mk.pastN l T)):=List.Pairwise.sublist (List.drop_sublist _ _) hs
  rw [hd] at hs2 hb'
  rcases List.mem_cons.1 hb' with e | e
  ·rw [e];exact Int.le_refl _
  ·have:=(List.pairwise_cons.1 hs2).1 b e;omega
theorem qSl (r:Int) (l:List Bk):∀ b∈l,b∈qCc r l∨b.t≤r:=by
 intro b hb
 unfold qCc
 have hb':b∈l.reverse:=List.mem_reverse.2 hb
 rw [←List.takeWhile_append_dropWhile (p:=fun b:Bk=>decide (b.t≤r)) (l:=l.reverse)] at hb'
 rcases List.mem_append.1 hb' with e | e
 ·right
  have:∀ (l:List Bk),b∈l.takeWhile (fun b:Bk=>decide (b.t≤r))→b.t≤r:=by
   intro l
   induction l with
   | nil=>intro h;simp at h
   | cons a l ih =>
    intro h
    rw [List.takeWhile_cons] at h
    split at h
    ·rename_i ha
     rcases List.mem_cons.1 h with e | e
     ·rw [e];simpa using ha
     ·exact ih e
    ·simp at h
  exact this _ e
 ·exact .inl (List.mem_reverse.2 e)
theorem qI2 (r:Int) (l:List Bk) (h:0<(qCc r l).length):r<(bkAt (qCc r l) ((qCc r l).length-1)).t:=by
 by_cases hl:0<l.length
 ·by_cases hb:(bkAt l (l.length-1)).t≤r
  ·have e:=qMn hl hb
   rw [e] at h ⊢
   have:(l.take (l.length-1)).length<l.length:=by rw [List.length_take];omega
   exact qI2 r (l.take (l.length-1)) h
  ·rw [qMv hl hb];omega
 ·have:l=[]:=List.eq_nil_of_length_eq_zero (by omega)
  rw [this] at h;simp [qXj] at h
termination_by l.length
theorem qZf {l:List Bk} {x:Bk} (hle:∀ b∈l,b.sz≤x.sz) (b:Bk) (hb:b∈l∨b=x):∃ b'∈qGt l x,b.t≤b'.t∧b.sz≤b'.sz:=by
 unfold qGt
 by_cases h:0<(qCc x.t l).length∧(bkAt (qCc x.t l) ((qCc x.t l).length-1)).sz=x.sz
 ·rw [if_pos h]
  have hm:bkAt (qCc x.t l) ((qCc x.t l).length-1)∈qCc x.t l:=by
   have h1:(qCc x.t l).length-1<(qCc x.t l).length:=by omega
   simp [bkAt,List.getD_eq_getElem?_getD,List.getElem?_eq_getElem h1]
  have hlast:=qI2 x.t l h.1
  rcases hb with hb | hb
  ·rcases qSl x.t l b hb with e | e
   ·exact ⟨b,e,Int.le_refl _,Int.le_refl _⟩
   ·exact ⟨_,hm,by omega,by rw [h.2];exact hle b hb⟩
  ·exact ⟨_,hm,by rw [hb];omega,by rw [hb,h.2];exact Int.le_refl _⟩
 ·rw [if_neg h]
  rcases hb with hb | hb
  ·rcases qSl x.t l b hb with e | e
   ·exact ⟨b,by simp [e],Int.le_refl _,Int.le_refl _⟩
   ·exact ⟨x,by simp,e,hle b hb⟩
  ·exact ⟨x,by simp,by rw [hb];exact Int.le_refl _,by rw [hb];exact Int.le_refl _⟩
theorem qQc {l:List Bk} {x:Bk} (hs:qQb l) (hle:∀ b∈l,b.sz≤x.sz):qQb (qGt l x):=by
 obtain ⟨k,hk,_⟩:=qKl x.t l
 have hs2:qQb (qCc x.t l):=by rw [hk];exact List.Pairwise.sublist (List.take_sublist _ _) hs
 have hsub:∀ b∈qCc x.t l,b∈l:=fun b hb=>by rw [hk] at hb;exact List.mem_of_mem_take hb
 unfold qGt
 by_cases h:0<(qCc x.t l).length∧(bkAt (qCc x.t l) ((qCc x.t l).length-1)).sz=x.sz
 ·rw [if_pos h];exact hs2
 ·rw [if_neg h]
  refine List.pairwise_append.2 ⟨hs2,by simp,fun a ha b hb=>?_⟩
  rw [List.mem_singleton] at hb
  subst hb
  have hpos:0<(qCc b.t l).length:=List.length_pos_of_mem ha
  have hlast:=qI2 b.t l hpos
  have hne:(bkAt (qCc b.t l) ((qCc b.t l).length-1)).sz≠b.sz:=fun e=>h ⟨hpos,e⟩
  have hm:bkAt (qCc b.t l) ((qCc b.t l).length-1)∈qCc b.t l:=by
   have h1:(qCc b.t l).length-1<(qCc b.t l).length:=by omega
   simp [bkAt,List.getD_eq_getElem?_getD,List.getElem?_eq_getElem h1]
  have hlz:=hle _ (hsub _ hm)
  have hsp:=qHj (qCc b.t l) hpos
  generalize bkAt (qCc b.t l) ((qCc b.t l).length-1)=z at *
  generalize (qCc b.t l).take ((qCc b.t l).length-1)=fr at *
  rw [hsp] at ha hs2
  rcases List.mem_append.1 ha with e | e
  ·have:=(List.pairwise_append.1 hs2).2.2 a e z (by simp);omega
  ·rw [List.mem_singleton] at e;rw [e];omega
structure DG (c:Cfg) (n:Nat) (m:Int) (ls:Nat→List Bk) (R:List It):Prop where
 srt:∀ j,qQb (ls j)
 src:∀ j,∀ b∈ls j,∃ r∈R,r.t=b.sz∧regI c n r.k=j∧rkI c n r=b.t
 ex:∀ j T,m-c.window≤T→isM (qFr (ls j) T) (hasK c n R T j)
theorem DG.rel {c:Cfg} {n:Nat} {m:Int} {ls:Nat→List Bk} {R:List It} (h:DG c n m ls R) (y:It) (hy:∀ r∈R,r.t≤y.t):DG c n m (relD c n ls y m) (R++[y]):=by
 have hsub:∀ j T k,hasK c n R T j k→hasK c n (R++[y]) T j k:=fun j T k ⟨r,hr,h1⟩=>⟨r,by simp [hr],h1⟩
 have hl1:∀ b∈(ls (regI c n y.k)).drop (Mk.pastN (ls (regI c n y.k)) (m-c.window)),b.sz≤y.t:=fun b hb=>by
  obtain ⟨r,hr,h1,_⟩:=h.src _ b (List.mem_of_mem_drop hb)
  rw [←h1];exact hy r hr
 have hs1:qQb ((ls (regI c n y.k)).drop (Mk.pastN (ls (regI c n y.k)) (m-c.window))):=List.Pairwise.sublist (List.drop_sublist _ _) (h.srt _)
 refine ⟨fun j=>?_,fun j b hb=>?_,fun j T hT=>?_⟩
 ·unfold relD
  split
  ·rename_i hj
   rw [hj]
   exact qQc hs1 hl1
  ·exact h.srt j
 ·unfold relD at hb
  split at hb
  ·rename_i hj
   rcases qKj hb with e | e
   ·obtain ⟨r,hr,h1⟩:=h.src j b (List.mem_of_mem_drop e)
    exact ⟨r,by simp [hr],h1⟩
   ·rw [e];exact ⟨y,by simp,rfl,hj.symm,rfl⟩
  ·obtain ⟨r,hr,h1⟩:=h.src j b hb
   exact ⟨r,by simp [hr],h1⟩
 ·by_cases hj:j=regI c n y.k
  ·subst hj
   have e:relD c n ls y m (regI c n y.k)=qGt ((ls (regI c n y.k)).drop (Mk.pastN (ls (regI c n y.k)) (m-c.window))) ⟨y.t,rkI c n y⟩:=by unfold relD;rw [if_pos rfl];rfl
   rw [e]
   refine (qR5 _ (qQc hs1 hl1) T).to (fun k ⟨b,hb,hbT,hbk⟩=>?_) (fun k ⟨r,hr,hrT,hrj,hrk⟩=>?_)
   ·rcases qKj hb with e2 | e2
    ·obtain ⟨r,hr,h1,h2,h3⟩:=h.src _ b (List.mem_of_mem_drop e2)
     exact ⟨r,by simp [hr],by rw [h1];exact hbT,h2,h3.trans hbk⟩
    ·subst e2;exact ⟨y,by simp,hbT,rfl,hbk⟩
   ·have key:∃ b,(b∈(ls (regI c n y.k)).drop (Mk.pastN (ls (regI c n y.k)) (m-c.window))∨b=⟨y.t,rkI c n y⟩)∧T<b.sz∧k≤b.t:=by
     rcases List.mem_append.1 hr with hr | hr
     ·have hk0:=(qKa (qC1 c.s00 c.s01 r.k/n)).1
      have hk1:1≤k:=by rw [←hrk];exact hk0
      have hold:hasK c n R T (regI c n y.k) k:=⟨r,hr,hrT,hrj,hrk⟩
      have hv:k≤qFr (ls (regI c n y.k)) T:=by
       rcases h.ex (regI c n y.k) T hT with ⟨_,hn⟩ | ⟨_,hm⟩
       ·exact absurd hold (hn k)
       ·exact hm k hold
      rcases qR5 (ls (regI c n y.k)) (h.srt _) T with ⟨h0,_⟩ | ⟨⟨b,hb,hbT,hbk⟩,_⟩
      ·omega
      ·refine ⟨b,.inl ?_,hbT,by omega⟩
       rw [←List.take_append_drop (Mk.pastN (ls (regI c n y.k)) (m-c.window)) (ls (regI c n y.k))] at hb
       rcases List.mem_append.1 hb with e2 | e2
       ·have:=(qMg (ls (regI c n y.k)) (m-c.window)).1 b e2;omega
       ·exact e2
     ·rw [List.mem_singleton] at hr
      subst hr
      exact ⟨_,.inr rfl,hrT,by show k≤rkI c n r;omega⟩
    obtain ⟨b,hb,hbT,hbk⟩:=key
    obtain ⟨b',hb',h1,h2⟩:=qZf hl1 b hb
    exact ⟨b'.t,⟨b',hb',by omega,rfl⟩,by omega⟩
  ·have e:relD c n ls y m j=ls j:=by unfold relD;rw [if_neg hj]
   rw [e]
   refine (h.ex j T hT).to (fun k hk=>hsub _ _ _ hk) (fun k ⟨r,hr,hrT,hrj,hrk⟩=>⟨k,⟨r,?_,hrT,hrj,hrk⟩,Int.le_refl _⟩)
   rcases List.mem_append.1 hr with hr | hr
   ·exact hr
   ·rw [List.mem_singleton] at hr;rw [hr] at hrj;exact absurd hrj.symm hj
def PD (c:Cfg) (m:Int) (nt:Note) (R:List It):Prop:=DG c (regN c) m nt.rg R
theorem PD_law:NLaw 2 PD where
 zero:=fun c m _ _=>⟨fun j=>List.Pairwise.nil,fun j b hb=>by simp [qRr] at hb,fun j T _=>.inl ⟨rfl,fun k hk=>by obtain ⟨r,hr,_⟩:=hk;simp at hr⟩⟩
 later:=fun c m m' nt R _ _ hm h=>⟨h.srt,h.src,fun j T hT=>h.ex j T (by omega)⟩
 rel:=fun c m nt R y hv hk h hr hy _=>DG.rel h y (fun r hrm=>by have:=(hr r hrm).2.1;unfold leP at this;omega)
 swp:=fun c m nt R b _ _ h=>h
end Go.Proofs.YtahnliehdjncdaaGreatDoor
namespace Go.Proofs.YtahnliehdjncdaaGreatDoor.Dr
open Go.Proofs.YtahnliehdjncdaaGreatDoor
def dv (a:It):Int:=a.v%18446744073709551616
def dd (a:It):Int:=a.d%18446744073709551616
def dpos (a:It):Prop:=0<dd a
def leT (a b:It):Prop:=dv a*dd b<dv b*dd a∨(dv a*dd b=dv b*dd a∧b.n≤a.n)
theorem leT.refl (a:It):leT a a:=.inr ⟨rfl,Int.le_refl _⟩
theorem dd0 (a:It):0≤dd a:=by unfold dd;omega
theorem qZd {a b c d e f:Int} (hd:0<d) (hb:0≤b) (hf:0≤f) (h1:a*d≤c*b) (h2:c*f≤e*d):a*f≤e*b∧((a*d<c*b∧0<f)∨(c*f<e*d∧0<b)→a*f<e*b):=by
 have k1:a*d*f≤c*b*f:=Int.mul_le_mul_of_nonneg_right h1 hf
 have k2:c*f*b≤e*d*b:=Int.mul_le_mul_of_nonneg_right h2 hb
 have e1:a*d*f=a*f*d:=by rw [Int.mul_right_comm]
 have e2:c*b*f=c*f*b:=by rw [Int.mul_right_comm]
 have e3:e*d*b=e*b*d:=by rw [Int.mul_right_comm]
 refine ⟨Int.le_of_mul_le_mul_right (by omega:a*f*d≤e*b*d) hd,fun h=>?_⟩
 refine Int.lt_of_mul_lt_mul_right (a:=d) ?_ (by omega)
 rcases h with ⟨h,hp⟩ | ⟨h,hp⟩
 ·have:a*d*f<c*b*f:=Int.mul_lt_mul_of_pos_right h hp
  omega
 ·have:c*f*b<e*d*b:=Int.mul_lt_mul_of_pos_right h hp
  omega
theorem leT.trans {a b c:It} (hb:dpos b) (ha:dpos a) (hc:dpos c) (h:leT a b) (k:leT b c):leT a c:=by
 unfold leT dpos at *
 have ha0:=dd0 a
 have hc0:=dd0 c
 have h1:dv a*dd b≤dv b*dd a:=by omega
 have h2:dv b*dd c≤dv c*dd b:=by omega
 obtain ⟨k1,k2⟩:=qZd hb ha0 hc0 h1 h2
 rcases h with h | ⟨h,hn⟩
 ·left;exact k2 (.inl ⟨h,hc⟩)
 ·rcases k with k | ⟨k,kn⟩
  ·left;exact k2 (.inr ⟨k,ha⟩)
  ·by_cases he:dv a*dd c=dv c*dd a
   ·right;exact ⟨he,by omega⟩
   ·left;omega
theorem ahead_leT {a b:It} (h:qCm a b=true):leT a b:=by
 unfold qCm aheadT at h;unfold leT dv dd
 split at h
 ·rename_i he;simp at h;right;exact ⟨he.symm,by omega⟩
 ·simp at h;left;exact h
theorem not_ahead_leT {a b:It} (h:qCm a b=false):leT b a:=by
 unfold qCm aheadT at h;unfold leT dv dd
 split at h
 ·rename_i he;simp at h;right;exact ⟨he,by omega⟩
 ·rename_i he;simp at h;left;omega
structure HeapT (l:List It):Prop where
 ok:∀ j,j<l.length→dpos (itAt l j)
 up:∀ i,0<i→i<l.length→leT (itAt l ((i-1)/2)) (itAt l i)
theorem qWd {l:List It} {i j:Nat} (h:∀ t,t<l.length→dpos (itAt l t)) (hi:i<l.length) (hj:j<l.length):∀ t,t<(qDp l i j).length→dpos (itAt (qDp l i j) t):=by
 intro t ht
 rw [qAw] at ht
 rw [qBy l i j t hi hj]
 split
 ·exact h i hi
 ·split
  ·exact h j hj
  ·exact h t ht
structure RiseAt (l:List It) (i:Nat):Prop where
 ok:∀ j,j<l.length→dpos (itAt l j)
 up:∀ j,0<j→j<l.length→j≠i→leT (itAt l ((j-1)/2)) (itAt l j)
 over:∀ c,0<i→c<l.length→0<c→(c-1)/2=i→leT (itAt l ((i-1)/2)) (itAt l c)
theorem qJg (f:Nat):∀ (l:List It) (i:Nat),i<l.length→i<f→RiseAt l i→HeapT (riseL f l i):=by
 induction f with
 | zero=>intro l i _ h;omega
 | succ f ih =>
  intro l i hl hf h
  unfold riseL
  split
  ·rename_i h0
   refine ⟨h.ok,fun j hj hjl=>?_⟩
   exact h.up j hj hjl (by omega)
  ·rename_i h0
   split
   ·rename_i ha
    have hle:=ahead_leT ha
    have hp:(i-1)/2<i:=by omega
    generalize hpp:(i-1)/2=p at *
    refine ih _ p (by rw [qAw];omega) (by omega) ⟨qWd h.ok hl (by omega),?_,?_⟩
    ·intro j hj hjl hjp
     rw [qAw] at hjl
     rw [qBy l i p _ hl (by omega),qBy l i p j hl (by omega)]
     rw [if_neg hjp]
     by_cases hji:j=i
     ·subst hji
      rw [if_pos hpp,if_pos rfl];exact hle
     ·rw [if_neg hji]
      by_cases h1:(j-1)/2=p
      ·rw [if_pos h1]
       have:=h.up j hj hjl hji
       rw [h1] at this
       exact leT.trans (h.ok p (by omega)) (h.ok i hl) (h.ok j hjl) hle this
      ·rw [if_neg h1]
       by_cases h2:(j-1)/2=i
       ·rw [if_pos h2]
        have:=h.over j (by omega) hjl hj h2
        rw [hpp] at this
        exact this
       ·rw [if_neg h2]
        exact h.up j hj hjl hji
    ·intro c hp0 hcl hc0 hcp
     rw [qAw] at hcl
     rw [qBy l i p _ hl (by omega),qBy l i p c hl (by omega)]
     rw [if_neg (show (p-1)/2≠p by omega),if_neg (show (p-1)/2≠i by omega),if_neg (show c≠p by omega)]
     have hpp':=h.up p hp0 (by omega) (by omega)
     by_cases hci:c=i
     ·rw [if_pos hci];exact hpp'
     ·rw [if_neg hci]
      have:=h.up c hc0 hcl hci
      rw [hcp] at this
      exact leT.trans (h.ok p (by omega)) (h.ok _ (by omega)) (h.ok c hcl) hpp' this
   ·rename_i ha
    have hle:=not_ahead_leT (by simpa using ha)
    refine ⟨h.ok,fun j hj hjl=>?_⟩
    by_cases hji:j=i
    ·subst hji;exact hle
    ·exact h.up j hj hjl hji
structure SinkAt (l:List It) (i:Nat):Prop where
 ok:∀ j,j<l.length→dpos (itAt l j)
 up:∀ j,0<j→j<l.length→(j-1)/2≠i→leT (itAt l ((j-1)/2)) (itAt l j)
 over:∀ c,0<i→c<l.length→0<c→(c-1)/2=i→leT (itAt l ((i-1)/2)) (itAt l c)
theorem qGx (l:List It) (i c:Nat) (h:qB1 l i=c):0<c∧(c-1)/2=i∧∀ d,d<l.length→0<d→(d-1)/2=i→leT (itAt l c) (itAt l d):=by
 unfold qB1 at h
 split at h
 ·split at h
  ·split at h
   ·rename_i h1 h2 h3
    have hc:c=2*i+2:=by omega
    subst hc
    refine ⟨by omega,by omega,fun d hd h0 hp=>?_⟩
    have:d=2*i+1∨d=2*i+2:=by omega
    rcases this with rfl | rfl
    ·exact ahead_leT h3
    ·exact leT.refl _
   ·rename_i h1 h2 h3
    have hc:c=2*i+1:=by omega
    subst hc
    refine ⟨by omega,by omega,fun d hd h0 hp=>?_⟩
    have:d=2*i+1∨d=2*i+2:=by omega
    rcases this with rfl | rfl
    ·exact leT.refl _
    ·exact not_ahead_leT (by simpa using h3)
  ·rename_i h1 h2
   have hc:c=2*i+1:=by omega
   subst hc
   refine ⟨by omega,by omega,fun d hd h0 hp=>?_⟩
   have:d=2*i+1:=by omega
   subst this
   exact leT.refl _
 ·omega
theorem qId (l:List It) (i:Nat) (h:qB1 l i<0):∀ d,d<l.length→0<d→(d-1)/2≠i:=by
 intro d hd h0 hp
 unfold qB1 at h
 split at h
 ·split at h
  ·split at h <;> omega
  ·omega
 ·omega
theorem qI8 (f:Nat):∀ (l:List It) (i:Nat),i<l.length→l.length≤f+i→SinkAt l i→HeapT (qDn f l i):=by
 induction f with
 | zero=>intro l i _ h;omega
 | succ f ih =>
  intro l i hl hf h
  unfold qDn
  split
  ·rename_i h0
   refine ⟨h.ok,fun j hj hjl=>?_⟩
   exact h.up j hj hjl (qId l i h0 j hjl hj)
  ·rename_i h0
   rcases qDl l i with hc | ⟨c,hc,hic,hcl⟩
   ·omega
   ·rw [hc,Int.toNat_natCast]
    obtain ⟨hc0,hcp,hcm⟩:=qGx l i c hc
    split
    ·rename_i ha
     have hle:=ahead_leT ha
     refine ih _ c (by rw [qAw];omega) (by rw [qAw];omega) ⟨qWd h.ok hl hcl,?_,?_⟩
     ·intro j hj hjl hjp
      rw [qAw] at hjl
      rw [qBy l i c _ hl hcl,qBy l i c j hl hcl,if_neg hjp]
      by_cases hjc:j=c
      ·subst hjc
       rw [if_pos hcp,if_pos rfl];exact hle
      ·rw [if_neg hjc]
       by_cases hji:j=i
       ·subst hji
        rw [if_neg (show (j-1)/2≠j by omega),if_pos rfl]
        exact h.over c hj hcl hc0 hcp
       ·rw [if_neg hji]
        by_cases h2:(j-1)/2=i
        ·rw [if_pos h2];exact hcm j hjl hj h2
        ·rw [if_neg h2];exact h.up j hj hjl h2
     ·intro d hc' hdl hd0 hdp
      rw [qAw] at hdl
      rw [qBy l i c _ hl hcl,qBy l i c d hl hcl]
      rw [if_neg (show (c-1)/2≠c by omega),if_pos hcp,if_neg (show d≠c by omega),if_neg (show d≠i by omega)]
      have:=h.up d hd0 hdl (by omega)
      rw [hdp] at this
      exact this
    ·rename_i ha
     have hle:=not_ahead_leT (by simpa using ha)
     refine ⟨h.ok,fun j hj hjl=>?_⟩
     by_cases h2:(j-1)/2=i
     ·rw [h2];exact leT.trans (h.ok c hcl) (h.ok i hl) (h.ok j hjl) hle (hcm j hjl hj h2)
     ·exact h.up j hj hjl h2
theorem HeapT.first {l:List It} (h:HeapT l) (j:Nat) (hj:j<l.length):leT (itAt l 0) (itAt l j):=by
 induction j using Nat.strongRecOn with
 | _ j ih =>
  by_cases h0:j=0
  ·subst h0;exact leT.refl _
  ·exact leT.trans (h.ok ((j-1)/2) (by omega)) (h.ok 0 (by omega)) (h.ok j hj) (ih ((j-1)/2) (by omega) (by omega)) (h.up j (by omega) hj)
theorem itAt_get (l:List It) (j:Nat) (hj:j<l.length):itAt l j=l[j]:=by
 unfold itAt;rw [List.getD_eq_getElem?_getD,List.getElem?_eq_getElem hj];rfl
theorem qGe (l:List It) (i j:Nat) (hi:i<l.length) (hj:j<l.length):(qDp l i j).Perm l:=by
 unfold qDp
 rw [itAt_get l i hi,itAt_get l j hj]
 exact List.set_set_perm hi hj
theorem qI7 (f:Nat):∀ (l:List It) (i:Nat),i<l.length→(riseL f l i).Perm l:=by
 induction f with
 | zero=>intro l i _;exact List.Perm.refl _
 | succ f ih =>
  intro l i hl
  unfold riseL
  split
  ·exact List.Perm.refl _
  ·split
   ·exact (ih _ _ (by rw [qAw];omega)).trans (qGe l _ _ hl (by omega))
   ·exact List.Perm.refl _
theorem qJj (f:Nat):∀ (l:List It) (i:Nat),i<l.length→(qDn f l i).Perm l:=by
 induction f with
 | zero=>intro l i _;exact List.Perm.refl _
 | succ f ih =>
  intro l i hl
  unfold qDn
  split
  ·exact List.Perm.refl _
  ·rename_i h0
   rcases qDl l i with hc | ⟨c,hc,hic,hcl⟩
   ·omega
   ·rw [hc,Int.toNat_natCast]
    split
    ·exact (ih _ _ (by rw [qAw];omega)).trans (qGe l _ _ hl hcl)
    ·exact List.Perm.refl _
theorem put_heap (l:List It) (x:It) (h:HeapT l) (hx:dpos x):HeapT (riseL (l.length+1) (l++[x]) l.length)∧(riseL (l.length+1) (l++[x]) l.length).Perm (x::l):=by
 have hat:∀ j,j<l.length→itAt (l++[x]) j=itAt l j:=by
  intro j hj
  unfold itAt
  rw [List.getD_eq_getElem?_getD,List.getD_eq_getElem?_getD,List.getElem?_append_left hj]
 refine ⟨qJg _ _ _ (by simp) (by omega) ⟨?_,?_,?_⟩,(qI7 _ _ _ (by simp)).trans (List.perm_append_singleton x l)⟩
 ·intro j hj
  rw [List.length_append,List.length_singleton] at hj
  by_cases hjl:j<l.length
  ·rw [hat j hjl];exact h.ok j hjl
  ·have:j=l.length:=by omega
   subst this
   rw [itAt_get _ _ (by simp)]
   simpa using hx
 ·intro j hj hjl hne
  rw [List.length_append,List.length_singleton] at hjl
  rw [hat _ (by omega),hat j (by omega)]
  exact h.up j hj (by omega)
 ·intro c h0 hcl hc0 hcp
  rw [List.length_append,List.length_singleton] at hcl
  omega
theorem take_heap (l:List It) (h:HeapT l) (hl:l≠[]):HeapT (takeL l)∧(itAt l 0::takeL l).Perm l:=by
 have hpos:0<l.length:=List.length_pos_iff.2 hl
 unfold takeL
 by_cases h1:l.length=1
 ·obtain ⟨a,rfl⟩:=List.length_eq_one_iff.1 h1
  refine ⟨?_,?_⟩
  ·have hn:(qDn [a].length (([a].set 0 (itAt [a] ([a].length-1))).take ([a].length-1)) 0).length=0:=rfl
   exact ⟨fun i hi=>by omega,fun i _ hi=>by omega⟩
  ·exact List.Perm.refl _
 ·obtain ⟨a,m,rfl⟩:∃ a m,l=a::m:=by cases l with | nil=>exact absurd rfl hl | cons a m=>exact ⟨a,m,rfl⟩
  obtain ⟨m',z,rfl⟩:∃ m' z,m=m'++[z]:=by
   refine ⟨m.dropLast,m.getLast (by intro e;subst e;simp at h1),?_⟩
   rw [List.dropLast_concat_getLast]
  have hz:itAt (a::(m'++[z])) ((a::(m'++[z])).length-1)=z:=by
   rw [itAt_get _ _ (by simp)]
   simp
  have he:((a::(m'++[z])).set 0 (itAt (a::(m'++[z])) ((a::(m'++[z])).length-1))).take ((a::(m'++[z])).length-1)=z::m':=by
   rw [hz];simp
  rw [he]
  have hat:∀ j,0<j→j<(z::m').length→itAt (z::m') j=itAt (a::(m'++[z])) j:=by
   intro j h0 hj
   simp only [List.length_cons] at hj
   rw [itAt_get _ _ (by simpa using hj),itAt_get _ _ (by simp;omega)]
   obtain ⟨j,rfl⟩:∃ k,j=k+1:=⟨j-1,by omega⟩
   simp only [List.getElem_cons_succ]
   rw [List.getElem_append_left (by omega)]
  refine ⟨qI8 _ _ 0 (by simp) (by simp) ⟨?_,?_,?_⟩,?_⟩
  ·intro j hj
   by_cases h0:j=0
   ·subst h0
    have:=h.ok ((a::(m'++[z])).length-1) (by simp)
    rw [hz] at this
    exact this
   ·rw [hat j (by omega) hj];exact h.ok j (by simp at hj ⊢;omega)
  ·intro j hj hjl hne
   rw [hat _ (by omega) (by omega),hat j hj hjl]
   exact h.up j hj (by simp at hjl ⊢;omega)
  ·intro c h0;omega
  ·refine (List.Perm.cons _ (qJj _ _ 0 (by simp))).trans ?_
   show (a::z::m').Perm (a::(m'++[z]))
   exact List.Perm.cons a (List.perm_append_singleton z m').symm
end Go.Proofs.YtahnliehdjncdaaGreatDoor.Dr
namespace Go.Proofs.YtahnliehdjncdaaGreatDoor
theorem Dr.HeapT.okm {l:List Dr.It} (h:Dr.HeapT l) {y:Dr.It} (hy:y∈l):Dr.dpos y:=by
 obtain ⟨j,hj,rfl⟩:=List.mem_iff_getElem.1 hy
 have:=h.ok j hj
 rw [Dr.itAt_get l j hj] at this
 exact this
theorem Dr.HeapT.firstm {l:List Dr.It} (h:Dr.HeapT l) {y:Dr.It} (hy:y∈l):Dr.leT (Dr.itAt l 0) y:=by
 obtain ⟨j,hj,rfl⟩:=List.mem_iff_getElem.1 hy
 have:=h.first j hj
 rw [Dr.itAt_get l j hj] at this
 exact this
theorem Dr.allL_spec (f:Nat):∀ l:List Dr.It,l.length<f→Dr.HeapT l→(Dr.allL f l).Perm l∧(Dr.allL f l).Pairwise Dr.leT:=by
 induction f with
 | zero=>intro l h;omega
 | succ f ih =>
  intro l hl hh
  unfold Dr.allL
  by_cases h0:l.length=0
  ·rw [if_pos h0,List.eq_nil_of_length_eq_zero h0]
   exact ⟨List.Perm.refl _,List.Pairwise.nil⟩
  ·rw [if_neg h0]
   have hne:l≠[]:=fun e=>h0 (by rw [e];rfl)
   obtain ⟨h1,h2⟩:=Dr.take_heap l hh hne
   have h3:=Dr.takeL_length l
   obtain ⟨p,q⟩:=ih (Dr.takeL l) (by omega) h1
   refine ⟨(List.Perm.cons _ p).trans h2,List.pairwise_cons.2 ⟨fun y hy=>?_,q⟩⟩
   exact hh.firstm (h2.mem_iff.1 (by simp [p.mem_iff.1 hy]))
structure TG (c:Cfg) (tk:List Dr.It) (R:List It):Prop where
 heap:Dr.HeapT tk
 len:(tk.length:Int)≤c.size+1
 ex:∃ D:List Dr.It,(tk++D).Perm (R.map (tick c))∧(∀ d∈D,Dr.dpos d∧∀ y∈tk,Dr.leT d y)∧(D≠[]→(tk.length:Int)=c.size+1)
theorem TG.rel {c:Cfg} {tk:List Dr.It} {R:List It} (h:TG c tk R) (hs:1≤c.size) (y:It) (hy:Dr.dpos (tick c y)):TG c (relT c tk y) (R++[y]):=by
 obtain ⟨D,hp,hD,hDl⟩:=h.ex
 obtain ⟨hh,hpm⟩:=Dr.put_heap tk (tick c y) h.heap hy
 have hlen:(Dr.riseL (tk.length+1) (tk++[tick c y]) tk.length).length=tk.length+1:=by rw [hpm.length_eq];rfl
 unfold relT
 generalize Dr.riseL (tk.length+1) (tk++[tick c y]) tk.length=l1 at *
 have hl0:=h.len
 have hR:(R++[y]).map (tick c)=R.map (tick c)++[tick c y]:=by simp
 have hall:(tick c y::(tk++D)).Perm ((R++[y]).map (tick c)):=by
  rw [hR];exact (List.Perm.cons _ hp).trans (List.perm_append_singleton _ _).symm
 by_cases hgt:c.size+1<((tk.length+1:Nat):Int)
 ·rw [if_pos hgt]
  have hne:l1≠[]:=fun e=>by rw [e] at hlen;simp at hlen
  obtain ⟨t1,t2⟩:=Dr.take_heap l1 hh hne
  have t3:=Dr.takeL_length l1
  have hz:=fun {x:Dr.It} (hx:x∈l1)=>hh.firstm hx
  have hzm:Dr.itAt l1 0∈l1:=t2.mem_iff.1 (by simp)
  have hzp:=hh.okm hzm
  refine ⟨t1,by omega,Dr.itAt l1 0::D,?_,fun d hd=>?_,fun _=>by omega⟩
  ·refine List.Perm.trans ?_ hall
   refine List.perm_middle.trans ?_
   rw [←List.cons_append]
   exact (t2.trans hpm).append_right D
  ·rcases List.mem_cons.1 hd with e | e
   ·rw [e];exact ⟨hzp,fun x hx=>hz (t2.mem_iff.1 (by simp [hx]))⟩
   ·refine ⟨(hD d e).1,fun x hx=>?_⟩
    rcases List.mem_cons.1 (hpm.mem_iff.1 hzm) with ez | ez
    ·-- the new one goes out at once
     have:(Dr.takeL l1).Perm tk:=by
      have h1:=t2.trans hpm
      rw [ez] at h1
      exact (List.perm_cons _).1 h1
     exact (hD d e).2 x (this.mem_iff.1 hx)
    ·have hxl:x∈l1:=t2.mem_iff.1 (by simp [hx])
     exact Dr.leT.trans hzp (hD d e).1 (hh.okm hxl) ((hD d e).2 _ ez) (hz hxl)
 ·rw [if_neg hgt]
  refine ⟨hh,by omega,D,?_,fun d hd=>?_,fun hne=>?_⟩
  ·refine List.Perm.trans ?_ hall
   rw [←List.cons_append]
   exact hpm.append_right D
  ·have:=hDl (List.ne_nil_of_mem hd)
   omega
  ·have:=hDl hne
   omega
theorem qOn {c:Cfg} {y:It} (h:OkI c 5 y):1≤y.d∧y.d≤2147483648:=by
 have:=h.fit
 unfold qFp qJr at this
 simp only at this
 revert this
 repeat' split
 all_goals intro this
 all_goals first | omega | (simp_all [inB];done) | (simp_all [inB];omega)
theorem qYp {c:Cfg} {y:It} (h:OkI c 5 y):Dr.dpos (tick c y):=by
 have:=qOn h
 unfold Dr.dpos Dr.dd tick
 show 0<y.d%18446744073709551616
 omega
def PT (c:Cfg) (_:Int) (nt:Note) (R:List It):Prop:=TG c nt.tk R
theorem PT_law:NLaw 5 PT where
 zero:=fun c m hv hk=>⟨⟨fun j hj=>by simp [qRr] at hj,fun i _ hi=>by simp [qRr] at hi⟩,by have:=qC6 (k:=5) hv hk rfl;show ((0:Nat):Int)≤_;omega,[],List.Perm.refl _,fun d hd=>by simp at hd,fun h=>absurd rfl h⟩
 later:=fun c m m' nt R _ _ hm h=>h
 rel:=fun c m nt R y hv hk h hr hy _=>TG.rel h (qC6 (k:=5) hv hk rfl).1 y (qYp hy)
 swp:=fun c m nt R b _ _ h=>h
end Go.Proofs.YtahnliehdjncdaaGreatDoor
