import Derived.Test.YtahnliehdjncdaaGreatDoorXAY
import Derived.Laws.BytesArg
import Derived.Lib.SlBytesConst
import Derived.Test.YtahnliehdjncdaaGreatDoorXAA
import Derived.Test.YtahnliehdjncdaaGreatDoorXAP
import Derived.Test.YtahnliehdjncdaaGreatDoorXAV
import Derived.Deep.DrawnRows
import Derived.Test.YtahnliehdjncdaaGreatDoorXAD
set_option maxRecDepth 100000
set_option maxHeartbeats 16000000
namespace Go.Proofs.YtahnliehdjncdaaGreatDoor
open Go.RowKit
attribute [local go_sem ↓] qAd qAe
attribute [local go_sem] qAi qAj qAb qAc qAm qAn qAh qAg qAk qAo
theorem qIn (f:Nat) (x:Ser) (m:Int):(relS f x m).k=x.k∧(relS f x m).c=x.c∧(relS f x m).id=x.id:=by
 induction f generalizing x with
 | zero=>exact ⟨rfl,rfl,rfl⟩
 | succ f ih =>
  unfold relS
  split
  ·exact ⟨rfl,rfl,rfl⟩
  ·split
   ·exact ⟨rfl,rfl,rfl⟩
   ·exact ih (qC9 x m)
theorem qSi {n:Int} (f:Nat) {x:Ser} (h:SInv n x) (m:Int):SInv n (relS f x m):=by
 induction f generalizing x with
 | zero=>exact h
 | succ f ih =>
  unfold relS
  split
  ·exact h
  ·split
   ·exact h
   ·rename_i h1 h2
    exact ih (qMm h (by intro e;rw [e] at h1;exact h1 rfl) m h2)
theorem qWh (f:Nat) (x:Ser) (m:Int):(relS f x m).last=x.last∨(relS f x m).last≤m:=by
 induction f generalizing x with
 | zero=>exact .inl rfl
 | succ f ih =>
  unfold relS
  split
  ·exact .inl rfl
  ·split
   ·exact .inl rfl
   ·rename_i h1 h2
    rcases ih (qC9 x m) with h | h
    ·refine .inr ?_
     rw [h]
     show (itAt x.l 0).t≤m
     omega
    ·exact .inr h
def maxC (c a:Int):Int:=if c<a then a else c
theorem qS0 (f:Ser→Ser) (xs:List Ser) (l1 l2:List (SB×Ser)) (p:SB×Ser) (k:Nat) (hk:l1.length=k) (hx:k<xs.length) (h:(l1++p::l2).map (·.2)=(xs.take k).map f++xs.drop k) (b':SB) :
  (l1++(b',f p.2)::l2).map (·.2)=(xs.take (k+1)).map f++xs.drop (k+1):=by
 have hl:(l1.map (·.2)).length=((xs.take k).map f).length:=by simp;omega
 rw [List.map_append] at h
 obtain ⟨h1,h2⟩:=List.append_inj h hl
 rw [List.drop_eq_getElem_cons hx,List.map_cons] at h2
 injection h2 with h3 h4
 rw [List.map_append,List.map_cons,h1,h4]
 simp only
 rw [h3,List.take_succ_eq_append_getElem hx]
 simp only [List.map_append,List.map_cons,List.map_nil,List.append_assoc,List.singleton_append]
def qBj (clock:Int) (x:Ser):Ser:=relS (x.l.length+1) x (clock-x.c.lag)
theorem qWo (n:Int) (e:Nat) (v:Value) (clock:Int) (ps:List (SB×Ser)) (o:OpM) (w:World) (h:ERep w e v clock ps) (hi:EInv n clock (ps.map (·.2))) (hf:inB o.a 0 4611686018427387904=false) :
  Calls Tryz.prog 44 #[.pointer (some ⟨e,0,none⟩),o.val] w fun r w'=>StepPost w e v ps clock (ps.map (·.2)) 5 [] r w':=by
 have h1:o.cells[2]?=some (.int .i64 o.a):=rfl
 have h1':o.cells[3]?=some (.int .i64 o.b):=rfl
 have HE:=hide h
 have HI:=hide hi
 have hl:ps.length≤1000:=by have:=hi.six;rw [List.length_map] at this;omega
 clear h hi
 unfold OpM.val
 go_enter Tryz.func44,Tryz.ntmps44
 go_wp2_with fail
 have hk0:Keeps (fun _=>False) w ((w.alloc (.cells o.cells.toArray 40)).alloc (.cells #[.int .i64 0,.slice none 0 0,.string ⟨#[]⟩] 33)):=((Keeps.refl (fun _=>False) w).alloc _).alloc _
 have HO0:=hide (show Blk ((w.alloc (.cells o.cells.toArray 40)).alloc (.cells #[.int .i64 0,.slice none 0 0,.string ⟨#[]⟩] 33)) w.heap.size o.cells 40 from (Blk.new w o.cells 40).alloc _)
 have HR0:=hide (show Blk ((w.alloc (.cells o.cells.toArray 40)).alloc (.cells #[.int .i64 0,.slice none 0 0,.string ⟨#[]⟩] 33)) (w.heap.size+1) [.int .i64 0,.slice none 0 0,.string qAa] 33 from Blk.newAt (by simp) [_,_,_] 33)
 have HE0:=hide ((uh HE).still hk0)
 have HK0:=hide hk0
 clear hk0
 generalize (w.alloc (.cells o.cells.toArray 40)).alloc (.cells #[.int .i64 0,.slice none 0 0,.string ⟨#[]⟩] 33)=w0 at *
 have HLT:=hide (show ∀ i,EFoot e v ps i→i<w.heap.size from (uh HE).lt)
 generalize hob:w.heap.size=ob at *
 have HOB:=hide hob
 clear hob
 have hsz0:ob+1<w0.heap.size:=(uh HR0).lt
 refine (qHi _ w0).mono ?_
 rintro r w1 ⟨rfl,hw1⟩
 rw [hw1,hf]
 clear hw1 w1
 go_wp2_with fail
 refine (qGv 5 w0).mono ?_
 rintro r w1 ⟨rfl,hk1⟩
 unfold ansV
 have HR1:=hide ((uh HR0).keeps hk1 (fun h=>h))
 have HK1:=hide ((uh HK0).then hk1)
 clear hk1
 have r0:w1.cell? ⟨ob+1,0,none⟩=some (.int .i64 0):=(uh HR1).cell rfl
 have r1:w1.cell? ⟨ob+1,1,none⟩=some (.slice none 0 0):=(uh HR1).cell rfl
 have r2:w1.cell? ⟨ob+1,2,none⟩=some (.string qAa):=(uh HR1).cell rfl
 have rf:=(uh HR1).frozen
 go_wp2
 have hbf:=(((uh HR1).setCell 0 (.int .i64 5)).setCell 1 (.slice none 0 0)).setCell 2 (.string qAa)
 have HKF:=hide ((((Keeps.refl (fun i=>i=ob+1) w1).setCell (p:=⟨ob+1,0,none⟩) (Or.inl rfl) (.int .i64 5)).setCell (p:=⟨ob+1,1,none⟩) (Or.inl rfl) (.slice none 0 0)).setCell (p:=⟨ob+1,2,none⟩) (Or.inl rfl) (.string qAa))
 have e9:(((w1.setCell ⟨ob+1,0,none⟩ (.int .i64 5)).setCell ⟨ob+1,1,none⟩ (.slice none 0 0)).setCell ⟨ob+1,2,none⟩ (.string ⟨#[]⟩))=(((w1.setCell ⟨ob+1,0,none⟩ (.int .i64 5)).setCell ⟨ob+1,1,none⟩ (.slice none 0 0)).setCell ⟨ob+1,2,none⟩ (.string qAa)):=rfl
 first | rw [e9] | skip
 generalize (((w1.setCell ⟨ob+1,0,none⟩ (.int .i64 5)).setCell ⟨ob+1,1,none⟩ (.slice none 0 0)).setCell ⟨ob+1,2,none⟩ (.string qAa))=w9 at *
 have q0:w9.cell? ⟨ob+1,0,none⟩=some (.int .i64 5):=hbf.cell rfl
 have q1:w9.cell? ⟨ob+1,1,none⟩=some (.slice none 0 0):=hbf.cell rfl
 have q2:w9.cell? ⟨ob+1,2,none⟩=some (.string qAa):=hbf.cell rfl
 refine bodyPost_ret (v:=ansV 5 (.slice none 0 0)) (by simp [results,Tryz.results44,go_sem,q0,q1,q2,ansV]) rfl ?_
 have hkf:=uh HKF
 have hob:=uh HOB
 have hkk:Keeps (fun _=>False) w w9:=(uh HK1).trans hkf (fun i hi hlt=>by omega)
 exact qCi (uh HE) hkk (World.ownsRow_nil _ _ _ _)
theorem qRd (n:Int) (e:Nat) (v:Value) (clock:Int) (ps:List (SB×Ser)) (o:OpM) (w:World) (h:ERep w e v clock ps) (hi:EInv n clock (ps.map (·.2))) (hf:inB o.a 0 4611686018427387904=true) (hf2:inB o.b 0 100=false) :
  Calls Tryz.prog 44 #[.pointer (some ⟨e,0,none⟩),o.val] w fun r w'=>StepPost w e v ps clock (ps.map (·.2)) 12 [] r w':=by
 have h1:o.cells[2]?=some (.int .i64 o.a):=rfl
 have h1':o.cells[3]?=some (.int .i64 o.b):=rfl
 have HE:=hide h
 have HI:=hide hi
 have hl:ps.length≤1000:=by have:=hi.six;rw [List.length_map] at this;omega
 clear h hi
 unfold OpM.val
 go_enter Tryz.func44,Tryz.ntmps44
 go_wp2_with fail
 have hk0:Keeps (fun _=>False) w ((w.alloc (.cells o.cells.toArray 40)).alloc (.cells #[.int .i64 0,.slice none 0 0,.string ⟨#[]⟩] 33)):=((Keeps.refl (fun _=>False) w).alloc _).alloc _
 have HO0:=hide (show Blk ((w.alloc (.cells o.cells.toArray 40)).alloc (.cells #[.int .i64 0,.slice none 0 0,.string ⟨#[]⟩] 33)) w.heap.size o.cells 40 from (Blk.new w o.cells 40).alloc _)
 have HR0:=hide (show Blk ((w.alloc (.cells o.cells.toArray 40)).alloc (.cells #[.int .i64 0,.slice none 0 0,.string ⟨#[]⟩] 33)) (w.heap.size+1) [.int .i64 0,.slice none 0 0,.string qAa] 33 from Blk.newAt (by simp) [_,_,_] 33)
 have HE0:=hide ((uh HE).still hk0)
 have HK0:=hide hk0
 clear hk0
 generalize (w.alloc (.cells o.cells.toArray 40)).alloc (.cells #[.int .i64 0,.slice none 0 0,.string ⟨#[]⟩] 33)=w0 at *
 have HLT:=hide (show ∀ i,EFoot e v ps i→i<w.heap.size from (uh HE).lt)
 generalize hob:w.heap.size=ob at *
 have HOB:=hide hob
 clear hob
 have hsz0:ob+1<w0.heap.size:=(uh HR0).lt
 refine (qHi _ w0).mono ?_
 rintro r w1 ⟨rfl,hw1⟩
 rw [hw1,hf]
 clear hw1 w1
 have hob3:w0.cell? ⟨ob,3,none⟩=some (.int .i64 o.b):=(uh HO0).cell rfl
 go_wp2_with fail
 refine (qAs _ _ _ w0).mono ?_
 rintro r w1 ⟨rfl,hw1⟩
 rw [hw1,hf2]
 clear hw1 w1
 go_wp2_with fail
 refine (qGv 12 w0).mono ?_
 rintro r w1 ⟨rfl,hk1⟩
 unfold ansV
 have HR1:=hide ((uh HR0).keeps hk1 (fun h=>h))
 have HK1:=hide ((uh HK0).then hk1)
 clear hk1
 have r0:w1.cell? ⟨ob+1,0,none⟩=some (.int .i64 0):=(uh HR1).cell rfl
 have r1:w1.cell? ⟨ob+1,1,none⟩=some (.slice none 0 0):=(uh HR1).cell rfl
 have r2:w1.cell? ⟨ob+1,2,none⟩=some (.string qAa):=(uh HR1).cell rfl
 have rf:=(uh HR1).frozen
 go_wp2
 have hbf:=(((uh HR1).setCell 0 (.int .i64 12)).setCell 1 (.slice none 0 0)).setCell 2 (.string qAa)
 have HKF:=hide ((((Keeps.refl (fun i=>i=ob+1) w1).setCell (p:=⟨ob+1,0,none⟩) (Or.inl rfl) (.int .i64 12)).setCell (p:=⟨ob+1,1,none⟩) (Or.inl rfl) (.slice none 0 0)).setCell (p:=⟨ob+1,2,none⟩) (Or.inl rfl) (.string qAa))
 have e9:(((w1.setCell ⟨ob+1,0,none⟩ (.int .i64 12)).setCell ⟨ob+1,1,none⟩ (.slice none 0 0)).setCell ⟨ob+1,2,none⟩ (.string ⟨#[]⟩))=(((w1.setCell ⟨ob+1,0,none⟩ (.int .i64 12)).setCell ⟨ob+1,1,none⟩ (.slice none 0 0)).setCell ⟨ob+1,2,none⟩ (.string qAa)):=rfl
 first | rw [e9] | skip
 generalize (((w1.setCell ⟨ob+1,0,none⟩ (.int .i64 12)).setCell ⟨ob+1,1,none⟩ (.slice none 0 0)).setCell ⟨ob+1,2,none⟩ (.string qAa))=w9 at *
 have q0:w9.cell? ⟨ob+1,0,none⟩=some (.int .i64 12):=hbf.cell rfl
 have q1:w9.cell? ⟨ob+1,1,none⟩=some (.slice none 0 0):=hbf.cell rfl
 have q2:w9.cell? ⟨ob+1,2,none⟩=some (.string qAa):=hbf.cell rfl
 refine bodyPost_ret (v:=ansV 12 (.slice none 0 0)) (by simp [results,Tryz.results44,go_sem,q0,q1,q2,ansV]) rfl ?_
 have hkf:=uh HKF
 have hob:=uh HOB
 have hkk:Keeps (fun _=>False) w w9:=(uh HK1).trans hkf (fun i hi hlt=>by omega)
 exact qCi (uh HE) hkk (World.ownsRow_nil _ _ _ _)
theorem qXw (n:Int) (e:Nat) (v:Value) (clock:Int) (ps:List (SB×Ser)) (o:OpM) (w:World) (h:ERep w e v clock ps) (hi:EInv n clock (ps.map (·.2))) (hf:inB o.a 0 4611686018427387904=true) (hf2:inB o.b 0 100=true) (hn:n≤651562446200) (hT:Tab w) (hT0:¬ EFoot e v ps 2) :
  Calls Tryz.prog 44 #[.pointer (some ⟨e,0,none⟩),o.val] w fun r w'=>StepPost w e v ps (maxC clock o.a) (qCg (maxC clock o.a) o.b ((ps.map (·.2)).map (qBj (maxC clock o.a)))).1 0 [(qCg (maxC clock o.a) o.b ((ps.map (·.2)).map (qBj (maxC clock o.a)))).2] r w':=by
 have h1:o.cells[2]?=some (.int .i64 o.a):=rfl
 have h1':o.cells[3]?=some (.int .i64 o.b):=rfl
 have HE:=hide h
 have HI:=hide hi
 have HTW:=hide hT
 have HTZ:=hide hT0
 clear hT hT0
 have hl:ps.length≤1000:=by have:=hi.six;rw [List.length_map] at this;omega
 clear h hi
 unfold OpM.val
 go_enter Tryz.func44,Tryz.ntmps44
 go_wp2_with fail
 have hk0:Keeps (fun _=>False) w ((w.alloc (.cells o.cells.toArray 40)).alloc (.cells #[.int .i64 0,.slice none 0 0,.string ⟨#[]⟩] 33)):=((Keeps.refl (fun _=>False) w).alloc _).alloc _
 have HO0:=hide (show Blk ((w.alloc (.cells o.cells.toArray 40)).alloc (.cells #[.int .i64 0,.slice none 0 0,.string ⟨#[]⟩] 33)) w.heap.size o.cells 40 from (Blk.new w o.cells 40).alloc _)
 have HR0:=hide (show Blk ((w.alloc (.cells o.cells.toArray 40)).alloc (.cells #[.int .i64 0,.slice none 0 0,.string ⟨#[]⟩] 33)) (w.heap.size+1) [.int .i64 0,.slice none 0 0,.string qAa] 33 from Blk.newAt (by simp) [_,_,_] 33)
 have HE0:=hide ((uh HE).still hk0)
 have HK0:=hide hk0
 clear hk0
 generalize (w.alloc (.cells o.cells.toArray 40)).alloc (.cells #[.int .i64 0,.slice none 0 0,.string ⟨#[]⟩] 33)=w0 at *
 have HLT:=hide (show ∀ i,EFoot e v ps i→i<w.heap.size from (uh HE).lt)
 generalize hob:w.heap.size=ob at *
 have HOB:=hide hob
 clear hob
 have hsz0:ob+1<w0.heap.size:=(uh HR0).lt
 refine (qHi _ w0).mono ?_
 rintro r w1 ⟨rfl,hw1⟩
 rw [hw1,hf]
 clear hw1 w1
 have hob3:w0.cell? ⟨ob,3,none⟩=some (.int .i64 o.b):=(uh HO0).cell rfl
 have hob2:w0.cell? ⟨ob,2,none⟩=some (.int .i64 o.a):=(uh HO0).cell rfl
 have hce:w0.cell? ⟨e,0,none⟩=some (.int .i64 clock):=(uh HE0).blk.cell rfl
 have hfe:=(uh HE0).blk.frozen
 go_wp2_with fail
 refine (qAs _ _ _ w0).mono ?_
 rintro r w1 ⟨rfl,hw1⟩
 rw [hw1,hf2]
 clear hw1 w1
 go_wp2_with fail
 go_region
 have HNC:=hide (show maxC clock o.a=if clock<o.a then o.a else clock from rfl)
 rw [←uh HNC]
 clear HNC
 obtain ⟨ha0,ha1⟩:=qBa hf
 have hnc:0≤maxC clock o.a∧maxC clock o.a≤4611686018427387904:=by
  have h1:=(uh HI).c0
  have h2:=(uh HI).c1
  unfold maxC
  split <;> omega
 obtain ⟨nc0,nc1⟩:=hnc
 generalize hncd:maxC clock o.a=nc at *
 have HNC:=hide hncd
 clear hncd
 have hk1:Keeps (fun i=>i=e) w0 (w0.setCell ⟨e,0,none⟩ (.int .i64 nc)).drew:=((Keeps.refl (fun i=>i=e) w0).setCell (p:=⟨e,0,none⟩) (Or.inl rfl) _).drew
 have hE0:=uh HE0
 have HE1:=hide (show ERep (w0.setCell ⟨e,0,none⟩ (.int .i64 nc)).drew e v nc ps from
    ⟨(hE0.blk.setCell 0 (.int .i64 nc)).drew,qAf hE0.row hk1 (fun i hi h=>hE0.ev (by rw [←h];exact hi)),fun q hq=>(hE0.reps q hq).keeps hk1 (fun i hi h=>(hE0.ef q hq i hi).1 h),hE0.apart,hE0.ev,hE0.ef⟩)
 have hlte:e<ob:=uh HLT e (.inl rfl)
 have HR1:=hide ((uh HR0).keeps hk1 (fun h=>by omega))
 have HO1:=hide ((uh HO0).keeps hk1 (fun h=>by omega))
 have HK1:=hide (((uh HK0).mono (M':=EFoot e v ps) (fun _ _ h=>h.elim)).trans hk1 (fun i hi _=>.inl hi))
 clear hE0 hk1 HE0 HR0 HK0 HO0 hob3 hob2 hce hfe
 generalize (w0.setCell ⟨e,0,none⟩ (.int .i64 nc)).drew=w1 at *
 have HQ:=hide (show ∃ (qs:List (SB×Ser)),True from ⟨ps,trivial⟩)
 have hc1:w1.cell? ⟨e,1,none⟩=some v:=(uh HE1).blk.cell rfl
 have hlv:∃ a cap,v=.slice a ps.length cap∧∀ g,a=some g→g=⟨g.block,0,none⟩:=by
  rcases (uh HE1).row.2 with ⟨h1,h2⟩ | ⟨g,cap,cur,h1,_⟩
  ·exact ⟨none,0,by rw [h1,h2],fun g hg=>by cases hg⟩
  ·exact ⟨some ⟨g,0,none⟩,cap,h1,fun g' hg=>by cases hg;rfl⟩
 obtain ⟨va,vcap,hv,hva⟩:=hlv
 generalize hm:ps.length=m at *
 have HM:=hide hm
 have HVA:=hide hva
 have HXL:=hide (show (ps.map (·.2)).length=m by rw [List.length_map];exact hm)
 clear hm hva HQ
 subst hv
 go_wp2_with fail
 go_loopw [32] (fun i wr=>∃ (k:Nat) (qs:List (SB×Ser)),k≤m∧i=.int .i64 k∧Hid (ERep wr e (.slice va m vcap) nc qs)∧Hid (qs.map (·.2)=((ps.map (·.2)).take k).map (qBj nc)++(ps.map (·.2)).drop k)∧Hid (Keeps (EFoot e (.slice va m vcap) ps) w wr)∧Hid (∀ i,EFoot e (.slice va m vcap) qs i→EFoot e (.slice va m vcap) ps i∨ob+1<i)∧Hid (∀ x,x∈qs.map (·.2)→SInv n x)∧Hid (Blk wr (ob+1) [.int .i64 0,.slice none 0 0,.string qAa] 33)∧Hid (Blk wr ob o.cells 40)) (fun i _=>m-(intOf i).toNat)
 case atStart=>exact ⟨0,ps,by omega,rfl,HE1,rfl,HK1,fun i hi=>.inl hi,(uh HI).sers,HR1,HO1⟩
 case round =>
  obtain ⟨k,qs,hk,rfl,HEr,HX,HKr,HFr,HSr,HRr,HOr⟩:=hrel
  clear hc1
  have hql:qs.length=m:=by
   have h1:=congrArg List.length (uh HX)
   have h2:=uh HXL
   rw [List.length_append,List.length_map,List.length_map,List.length_take,List.length_drop,h2] at h1
   omega
  have HQL:=hide hql
  clear hql
  by_cases hlt:k<m
  ·obtain ⟨l1,q,l2,hqs,hl1⟩:=qSd qs k (by rw [uh HQL];exact hlt)
   have HQS:=hide hqs
   have HL1:=hide hl1
   have hqm:q∈qs:=by rw [hqs];simp
   have HQM:=hide hqm
   have HSq:=hide ((uh HEr).reps q hqm)
   have HIq:=hide (uh HSr q.2 (List.mem_map_of_mem hqm))
   obtain ⟨la0,la1,_,_,_,_⟩:=(uh HIq).common
   obtain ⟨g,hg⟩:∃ g,va=some ⟨g,0,none⟩:=by
    rcases (uh HEr).row.2 with ⟨h1,_⟩ | ⟨g,cap,cur,h1,_⟩
    ·have hm0:m=0:=by injection h1
     omega
    ·injection h1 with h2 _ _
     exact ⟨g,h2⟩
   subst hg
   have hck:wr.cell? ⟨g,k,none⟩=some (.pointer (some ⟨q.1.s,0,none⟩)):=by
    have hrow:=(uh HEr).row
    rw [uh HQL] at hrow
    refine row_at hrow k _ ?_
    unfold ptrs
    rw [hqs,List.map_append,List.getElem?_append_right (by simp [hl1])]
    simp [hl1]
   clear hqs hl1 hqm
   have hce:wr.cell? ⟨e,0,none⟩=some (.int .i64 nc):=(uh HEr).blk.cell rfl
   have hc2:wr.cell? ⟨q.1.s,2,none⟩=some (.int .i64 q.2.c.lag):=(uh HSq).blk.cell rfl
   have hk0:(0:Int)≤(k:Int):=by omega
   have hkm:(k:Int)<(m:Int):=by omega
   go_wp2_with fail
   refine (qSe q.1.s q.2.c.lag nc wr hc2 la0 la1 nc0 nc1).mono ?_
   rintro r w2 ⟨rfl,hw2⟩
   rw [hw2]
   clear hw2 w2
   go_wp2_with fail
   refine (qQu n q.1 q.2 (nc-q.2.c.lag) wr (uh HSq) (uh HIq) hn ((uh HTW).keeps (uh HKr) (uh HTZ)) (fun h=>by
        rcases uh HFr 2 (.inr (.inr ⟨q,uh HQM,h⟩)) with h1 | h1
        ·exact uh HTZ h1
        ·omega) (by omega) (by omega)).mono ?_
   rintro r w2 ⟨rfl,b',hs2,hn2,hk2⟩
   have HS2:=hide hs2
   have HN2:=hide hn2
   have HK2:=hide hk2
   clear hs2 hn2 hk2 hck hce hc2
   go_wp2
   go_roundw
   case rel =>
    have hEr:=uh HEr
    have hFr:=uh HFr
    have hKr:=uh HKr
    have hX:=uh HX
    have hSr:=uh HSr
    have hQS:=uh HQS
    subst hQS
    have hrk:=qIn (q.2.l.length+1) q.2 (nc-q.2.c.lag)
    have hE2:ERep w2 e (.slice (some ⟨g,0,none⟩) m vcap) nc (l1++(b',qBj nc q.2)::l2):=hEr.one (uh HK2) (uh HS2) hrk.1 (uh HN2)
    have hszr:ob+1<wr.heap.size:=(uh HRr).lt
    have hqf:∀ i,q.1.foot q.2.k i→EFoot e (.slice (some ⟨g,0,none⟩) m vcap) ps i∨ob+1<i:=fun i hi=>hFr i (.inr (.inr ⟨q,by simp,hi⟩))
    refine ⟨k+1,l1++(b',qBj nc q.2)::l2,by omega,by go_num,hE2,qS0 (qBj nc) _ l1 l2 q k (uh HL1) (by rw [uh HXL];exact hlt) hX b',?_,?_,?_,?_,?_⟩
    ·refine hKr.trans (uh HK2) (fun i hi hlti=>?_)
     rcases hqf i hi with h | h
     ·exact h
     ·have:=uh HOB;omega
    ·intro i hi
     rcases EFoot.one (w:=wr) (x':=qBj nc q.2) hrk.1 (uh HN2) i hi with h | h
     ·exact hFr i h
     ·exact .inr (by omega)
    ·intro x hx
     rw [List.map_append,List.map_cons] at hx
     rcases List.mem_append.1 hx with hx | hx
     ·exact hSr x (by rw [List.map_append];exact List.mem_append.2 (.inl hx))
     ·rcases List.mem_cons.1 hx with hx | hx
      ·subst hx;exact qSi _ (uh HIq) _
      ·exact hSr x (by rw [List.map_append,List.map_cons];exact List.mem_append.2 (.inr (List.mem_cons.2 (.inr hx))))
    ·refine (uh HRr).keeps (uh HK2) (fun h=>?_)
     rcases hqf _ h with h1 | h1
     ·have:=uh HLT _ h1;omega
     ·omega
    ·refine (uh HOr).keeps (uh HK2) (fun h=>?_)
     rcases hqf _ h with h1 | h1
     ·have:=uh HLT _ h1;omega
     ·omega
   case measure=>simp [intOf];omega
  ·have HKM:=hide (show k=m by omega)
   have hob3:wr.cell? ⟨ob,3,none⟩=some (.int .i64 o.b):=(uh HOr).cell rfl
   obtain ⟨b0,b1⟩:=qBa hf2
   go_wp2_with fail
   refine (qWp n e _ nc o.b qs wr (uh HEr) (uh HSr) (by have h1:=uh HQL;have h2:=(uh HI).six;have h3:=uh HXL;omega) (by omega) nc0 nc1 b0 b1).mono ?_
   rintro r w2 ⟨rfl,qs',hE2,hX2,hK2,hF2,hS2⟩
   have HE2:=hide hE2
   have HX2:=hide hX2
   have HK2:=hide hK2
   have HF2:=hide hF2
   have HNF:=hide (show ¬ EFoot e (.slice va m vcap) qs (ob+1) from fun h=>by
      rcases uh HFr _ h with h1 | h1
      ·have:=uh HLT _ h1;omega
      ·omega)
   have HR2:=hide ((uh HRr).keeps hK2 (uh HNF))
   have HSZ:=hide hK2.size
   have HLR:=hide (uh HRr).lt
   clear hE2 hX2 hK2 hF2 hS2 hob3
   generalize hsl:(qCg nc o.b (qs.map (·.2))).2=left at *
   have HSL:=hide hsl
   clear hsl
   have r0:w2.cell? ⟨ob+1,0,none⟩=some (.int .i64 0):=(uh HR2).cell rfl
   have r1:w2.cell? ⟨ob+1,1,none⟩=some (.slice none 0 0):=(uh HR2).cell rfl
   have r2:w2.cell? ⟨ob+1,2,none⟩=some (.string qAa):=(uh HR2).cell rfl
   have rf:=(uh HR2).frozen
   have hszr:ob+1<w2.heap.size:=(uh HR2).lt
   have hrn:ob+1≠w2.heap.size:=by omega
   go_wp2
   have hbf:=((((uh HR2).setCell 0 (.int .i64 0)).setCell 1 (.slice (some ⟨w2.heap.size,0,none⟩) 1 1)).setCell 2 (.string qAa)).alloc (.cells #[.int .i64 left] 3)
   have hkF:Keeps (fun i=>i=ob+1) w2 ((((w2.setCell ⟨ob+1,0,none⟩ (.int .i64 0)).setCell ⟨ob+1,1,none⟩ (.slice (some ⟨w2.heap.size,0,none⟩) 1 1)).setCell ⟨ob+1,2,none⟩ (.string qAa)).alloc (.cells #[.int .i64 left] 3)) :=
    ((((Keeps.refl (fun i=>i=ob+1) w2).setCell (p:=⟨ob+1,0,none⟩) (Or.inl rfl) _).setCell (p:=⟨ob+1,1,none⟩) (Or.inl rfl) _).setCell (p:=⟨ob+1,2,none⟩) (Or.inl rfl) _).alloc _
   have hbn:Blk ((((w2.setCell ⟨ob+1,0,none⟩ (.int .i64 0)).setCell ⟨ob+1,1,none⟩ (.slice (some ⟨w2.heap.size,0,none⟩) 1 1)).setCell ⟨ob+1,2,none⟩ (.string qAa)).alloc (.cells #[.int .i64 left] 3)) w2.heap.size [.int .i64 left] 3:=Blk.newAt (by simp) [_] 3
   have e9:((((w2.setCell ⟨ob+1,0,none⟩ (.int .i64 0)).setCell ⟨ob+1,1,none⟩ (.slice (some ⟨w2.heap.size,0,none⟩) 1 1)).setCell ⟨ob+1,2,none⟩ (.string ⟨#[]⟩)).alloc (.cells #[.int .i64 left] 3))=((((w2.setCell ⟨ob+1,0,none⟩ (.int .i64 0)).setCell ⟨ob+1,1,none⟩ (.slice (some ⟨w2.heap.size,0,none⟩) 1 1)).setCell ⟨ob+1,2,none⟩ (.string qAa)).alloc (.cells #[.int .i64 left] 3)):=rfl
   rw [e9]
   clear e9
   generalize ((((w2.setCell ⟨ob+1,0,none⟩ (.int .i64 0)).setCell ⟨ob+1,1,none⟩ (.slice (some ⟨w2.heap.size,0,none⟩) 1 1)).setCell ⟨ob+1,2,none⟩ (.string qAa)).alloc (.cells #[.int .i64 left] 3))=w9 at *
   have q0:w9.cell? ⟨ob+1,0,none⟩=some (.int .i64 0):=hbf.cell rfl
   have q1:w9.cell? ⟨ob+1,1,none⟩=some (.slice (some ⟨w2.heap.size,0,none⟩) 1 1):=hbf.cell rfl
   have q2:w9.cell? ⟨ob+1,2,none⟩=some (.string qAa):=hbf.cell rfl
   refine bodyPost_ret (v:=ansV 0 (.slice (some ⟨w2.heap.size,0,none⟩) 1 1)) (by simp [results,Tryz.results44,go_sem,q0,q1,q2,ansV]) rfl ?_
   have hob:=uh HOB
   have hE2:=uh HE2
   have hFr:=uh HFr
   have hLT:=uh HLT
   have hX:=uh HX
   have hXL:=uh HXL
   have hkm:=uh HKM
   have hsz:=uh HSZ
   rw [List.take_of_length_le (by omega),List.drop_eq_nil_of_le (by omega),List.append_nil] at hX
   have hX2:=uh HX2
   have hSL:=uh HSL
   rw [hX] at hX2 hSL
   rw [uh HNC,hSL,←hX2]
   have hFF:∀ i,EFoot e (.slice va m vcap) qs' i→EFoot e (.slice va m vcap) ps i∨ob+1<i:=fun i hi=>hFr i (uh HF2 i hi)
   refine ⟨.slice (some ⟨w2.heap.size,0,none⟩) 1 1,.slice va m vcap,qs',rfl,hE2.keeps hkF (fun i hi h=>?_),rfl,⟨rfl,.inr ⟨w2.heap.size,1,_,rfl,by omega,hbn,by simp,by unfold maxLen;omega,rfl,rfl⟩⟩,?_,?_,?_⟩
   ·rcases hFF i hi with h1 | h1
    ·have:=hLT i h1;omega
    ·omega
   ·refine ((uh HKr).trans (uh HK2) (fun i hi hlt=>?_)).trans hkF (fun i hi hlt=>by omega)
    rcases hFr i hi with h1 | h1
    ·exact h1
    ·omega
   ·intro i hi
    rcases hFF i hi with h1 | h1
    ·exact .inl h1
    ·exact .inr (by omega)
   ·intro i hi hf
    have h1:w2.heap.size=i:=by simpa [Value.ownBlock] using hi
    have h2:=hE2.lt i hf
    omega
end Go.Proofs.YtahnliehdjncdaaGreatDoor
namespace Go.Proofs.YtahnliehdjncdaaGreatDoor
open Go.RowKit
attribute [local go_sem ↓] qAd qAe
attribute [local go_sem] qAi qAj qAb qAc qAm qAn qAh qAg qAk qAo
theorem qCr {c:Cfg} (h:qA0 c=true):∃ k:Nat,c.kind=k∧1≤k∧k≤5∧qA1 c=true∧qEo c k=true:=by
 simp only [qA0,Bool.and_eq_true] at h
 obtain ⟨h1,h2,h3⟩:=h
 obtain ⟨a,b⟩:=qBa h1
 refine ⟨c.kind.toNat,by omega,by omega,by omega,h2,h3⟩
theorem qS3 (c:Cfg) (w:World) (h:qA0 c=false) :
  Calls Tryz.prog 60 #[c.val] w fun e w'=>e=.returned (.tuple #[.agg #[.nilFunc,.nilFunc,.nilFunc,.nilFunc,.nilFunc,.nilFunc],.bool false])∧Keeps (fun _=>False) w w':=by
 cases h1:inB c.kind 1 5
 ·exact qRv c w h1
 ·obtain ⟨a,b⟩:=qBa h1
  have hk:c.kind=(c.kind.toNat:Int):=by omega
  cases h2:qA1 c
  ·exact qRx c c.kind.toNat w hk (by omega) (by omega) h2
  ·cases h3:qEo c c.kind.toNat
   ·exact qQ5 c c.kind.toNat w hk (by omega) (by omega) h2 h3
   ·simp [qA0,h1,h2,h3] at h
theorem qVs (n:Int) (e:Nat) (v:Value) (clock:Int) (ps:List (SB×Ser)) (o:OpM) (w:World) (h:ERep w e v clock ps) (hi:EInv n clock (ps.map (·.2))) (hid:inB o.id 0 99=false) :
  Calls Tryz.prog 42 #[.pointer (some ⟨e,0,none⟩),o.val] w fun r w'=>StepPost w e v ps clock (ps.map (·.2)) 2 [] r w':=by
 have h1:o.cells[1]?=some (.int .i64 o.id):=rfl
 have HE:=hide h
 have HI:=hide hi
 have hl:ps.length≤1000:=by have:=hi.six;rw [List.length_map] at this;omega
 clear h hi
 unfold OpM.val
 go_enter Tryz.func42,Tryz.ntmps42
 go_wp2_with fail
 have hk0:Keeps (fun _=>False) w ((w.alloc (.cells o.cells.toArray 40)).alloc (.cells #[.int .i64 0,.slice none 0 0,.string ⟨#[]⟩] 33)):=((Keeps.refl (fun _=>False) w).alloc _).alloc _
 have HO0:=hide (show Blk ((w.alloc (.cells o.cells.toArray 40)).alloc (.cells #[.int .i64 0,.slice none 0 0,.string ⟨#[]⟩] 33)) w.heap.size o.cells 40 from (Blk.new w o.cells 40).alloc _)
 have HR0:=hide (show Blk ((w.alloc (.cells o.cells.toArray 40)).alloc (.cells #[.int .i64 0,.slice none 0 0,.string ⟨#[]⟩] 33)) (w.heap.size+1) [.int .i64 0,.slice none 0 0,.string qAa] 33 from Blk.newAt (by simp) [_,_,_] 33)
 have HE0:=hide ((uh HE).still hk0)
 have HK0:=hide hk0
 clear hk0
 generalize (w.alloc (.cells o.cells.toArray 40)).alloc (.cells #[.int .i64 0,.slice none 0 0,.string ⟨#[]⟩] 33)=w0 at *
 have HLT:=hide (show ∀ i,EFoot e v ps i→i<w.heap.size from (uh HE).lt)
 generalize hob:w.heap.size=ob at *
 have HOB:=hide hob
 clear hob
 have hsz0:ob+1<w0.heap.size:=(uh HR0).lt
 refine (qAs _ _ _ w0).mono ?_
 rintro r w1 ⟨rfl,hw1⟩
 rw [hw1,hid]
 clear hw1 w1
 go_wp2_with fail
 refine (qGv 2 w0).mono ?_
 rintro r w1 ⟨rfl,hk1⟩
 unfold ansV
 have HR1:=hide ((uh HR0).keeps hk1 (fun h=>h))
 have HK1:=hide ((uh HK0).then hk1)
 clear hk1
 have r0:w1.cell? ⟨ob+1,0,none⟩=some (.int .i64 0):=(uh HR1).cell rfl
 have r1:w1.cell? ⟨ob+1,1,none⟩=some (.slice none 0 0):=(uh HR1).cell rfl
 have r2:w1.cell? ⟨ob+1,2,none⟩=some (.string qAa):=(uh HR1).cell rfl
 have rf:=(uh HR1).frozen
 go_wp2
 have hbf:=(((uh HR1).setCell 0 (.int .i64 2)).setCell 1 (.slice none 0 0)).setCell 2 (.string qAa)
 have HKF:=hide ((((Keeps.refl (fun i=>i=ob+1) w1).setCell (p:=⟨ob+1,0,none⟩) (Or.inl rfl) (.int .i64 2)).setCell (p:=⟨ob+1,1,none⟩) (Or.inl rfl) (.slice none 0 0)).setCell (p:=⟨ob+1,2,none⟩) (Or.inl rfl) (.string qAa))
 have e9:(((w1.setCell ⟨ob+1,0,none⟩ (.int .i64 2)).setCell ⟨ob+1,1,none⟩ (.slice none 0 0)).setCell ⟨ob+1,2,none⟩ (.string ⟨#[]⟩))=(((w1.setCell ⟨ob+1,0,none⟩ (.int .i64 2)).setCell ⟨ob+1,1,none⟩ (.slice none 0 0)).setCell ⟨ob+1,2,none⟩ (.string qAa)):=rfl
 first | rw [e9] | skip
 generalize (((w1.setCell ⟨ob+1,0,none⟩ (.int .i64 2)).setCell ⟨ob+1,1,none⟩ (.slice none 0 0)).setCell ⟨ob+1,2,none⟩ (.string qAa))=w9 at *
 have q0:w9.cell? ⟨ob+1,0,none⟩=some (.int .i64 2):=hbf.cell rfl
 have q1:w9.cell? ⟨ob+1,1,none⟩=some (.slice none 0 0):=hbf.cell rfl
 have q2:w9.cell? ⟨ob+1,2,none⟩=some (.string qAa):=hbf.cell rfl
 refine bodyPost_ret (v:=ansV 2 (.slice none 0 0)) (by simp [results,Tryz.results42,go_sem,q0,q1,q2,ansV]) rfl ?_
 have hkf:=uh HKF
 have hob:=uh HOB
 have hkk:Keeps (fun _=>False) w w9:=(uh HK1).trans hkf (fun i hi hlt=>by omega)
 exact qCi (uh HE) hkk (World.ownsRow_nil _ _ _ _)
theorem qPo (n:Int) (e:Nat) (v:Value) (clock:Int) (ps:List (SB×Ser)) (o:OpM) (w:World) (h:ERep w e v clock ps) (hi:EInv n clock (ps.map (·.2))) (hid:inB o.id 0 99=true) (p:SB×Ser) (hf:qEg ps o.id=some p) :
  Calls Tryz.prog 42 #[.pointer (some ⟨e,0,none⟩),o.val] w fun r w'=>StepPost w e v ps clock (ps.map (·.2)) 2 [] r w':=by
 have h1:o.cells[1]?=some (.int .i64 o.id):=rfl
 have HE:=hide h
 have HI:=hide hi
 have hl:ps.length≤1000:=by have:=hi.six;rw [List.length_map] at this;omega
 have HF:=hide hf
 clear h hi hf
 unfold OpM.val
 go_enter Tryz.func42,Tryz.ntmps42
 go_wp2_with fail
 have hk0:Keeps (fun _=>False) w ((w.alloc (.cells o.cells.toArray 40)).alloc (.cells #[.int .i64 0,.slice none 0 0,.string ⟨#[]⟩] 33)):=((Keeps.refl (fun _=>False) w).alloc _).alloc _
 have HO0:=hide (show Blk ((w.alloc (.cells o.cells.toArray 40)).alloc (.cells #[.int .i64 0,.slice none 0 0,.string ⟨#[]⟩] 33)) w.heap.size o.cells 40 from (Blk.new w o.cells 40).alloc _)
 have HR0:=hide (show Blk ((w.alloc (.cells o.cells.toArray 40)).alloc (.cells #[.int .i64 0,.slice none 0 0,.string ⟨#[]⟩] 33)) (w.heap.size+1) [.int .i64 0,.slice none 0 0,.string qAa] 33 from Blk.newAt (by simp) [_,_,_] 33)
 have HE0:=hide ((uh HE).still hk0)
 have HK0:=hide hk0
 clear hk0
 generalize (w.alloc (.cells o.cells.toArray 40)).alloc (.cells #[.int .i64 0,.slice none 0 0,.string ⟨#[]⟩] 33)=w0 at *
 have HLT:=hide (show ∀ i,EFoot e v ps i→i<w.heap.size from (uh HE).lt)
 generalize hob:w.heap.size=ob at *
 have HOB:=hide hob
 clear hob
 have hsz0:ob+1<w0.heap.size:=(uh HR0).lt
 refine (qAs _ _ _ w0).mono ?_
 rintro r w1 ⟨rfl,hw1⟩
 rw [hw1,hid]
 clear hw1 w1
 have hoi:w0.cell? ⟨ob,1,none⟩=some (.int .i64 o.id):=(uh HO0).cell rfl
 go_wp2_with fail
 refine (qEb e v clock o.id ps w0 (uh HE0) hl).mono ?_
 rintro r w1 ⟨rfl,hw1⟩
 rw [hw1,uh HF]
 clear hw1 w1
 unfold qJ4
 go_wp2_with fail
 refine (qGv 2 w0).mono ?_
 rintro r w1 ⟨rfl,hk1⟩
 unfold ansV
 have HR1:=hide ((uh HR0).keeps hk1 (fun h=>h))
 have HK1:=hide ((uh HK0).then hk1)
 clear hk1
 have r0:w1.cell? ⟨ob+1,0,none⟩=some (.int .i64 0):=(uh HR1).cell rfl
 have r1:w1.cell? ⟨ob+1,1,none⟩=some (.slice none 0 0):=(uh HR1).cell rfl
 have r2:w1.cell? ⟨ob+1,2,none⟩=some (.string qAa):=(uh HR1).cell rfl
 have rf:=(uh HR1).frozen
 go_wp2
 have hbf:=(((uh HR1).setCell 0 (.int .i64 2)).setCell 1 (.slice none 0 0)).setCell 2 (.string qAa)
 have HKF:=hide ((((Keeps.refl (fun i=>i=ob+1) w1).setCell (p:=⟨ob+1,0,none⟩) (Or.inl rfl) (.int .i64 2)).setCell (p:=⟨ob+1,1,none⟩) (Or.inl rfl) (.slice none 0 0)).setCell (p:=⟨ob+1,2,none⟩) (Or.inl rfl) (.string qAa))
 have e9:(((w1.setCell ⟨ob+1,0,none⟩ (.int .i64 2)).setCell ⟨ob+1,1,none⟩ (.slice none 0 0)).setCell ⟨ob+1,2,none⟩ (.string ⟨#[]⟩))=(((w1.setCell ⟨ob+1,0,none⟩ (.int .i64 2)).setCell ⟨ob+1,1,none⟩ (.slice none 0 0)).setCell ⟨ob+1,2,none⟩ (.string qAa)):=rfl
 first | rw [e9] | skip
 generalize (((w1.setCell ⟨ob+1,0,none⟩ (.int .i64 2)).setCell ⟨ob+1,1,none⟩ (.slice none 0 0)).setCell ⟨ob+1,2,none⟩ (.string qAa))=w9 at *
 have q0:w9.cell? ⟨ob+1,0,none⟩=some (.int .i64 2):=hbf.cell rfl
 have q1:w9.cell? ⟨ob+1,1,none⟩=some (.slice none 0 0):=hbf.cell rfl
 have q2:w9.cell? ⟨ob+1,2,none⟩=some (.string qAa):=hbf.cell rfl
 refine bodyPost_ret (v:=ansV 2 (.slice none 0 0)) (by simp [results,Tryz.results42,go_sem,q0,q1,q2,ansV]) rfl ?_
 have hkf:=uh HKF
 have hob:=uh HOB
 have hkk:Keeps (fun _=>False) w w9:=(uh HK1).trans hkf (fun i hi hlt=>by omega)
 exact qCi (uh HE) hkk (World.ownsRow_nil _ _ _ _)
theorem qNp (n:Int) (e:Nat) (v:Value) (clock:Int) (ps:List (SB×Ser)) (o:OpM) (w:World) (h:ERep w e v clock ps) (hi:EInv n clock (ps.map (·.2))) (hid:inB o.id 0 99=true) (hf:qEg ps o.id=none) (hv:qA0 o.cfg=false) :
  Calls Tryz.prog 42 #[.pointer (some ⟨e,0,none⟩),o.val] w fun r w'=>StepPost w e v ps clock (ps.map (·.2)) 3 [] r w':=by
 have h1:o.cells[1]?=some (.int .i64 o.id):=rfl
 have HE:=hide h
 have HI:=hide hi
 have hl:ps.length≤1000:=by have:=hi.six;rw [List.length_map] at this;omega
 have HF:=hide hf
 clear h hi hf
 unfold OpM.val
 go_enter Tryz.func42,Tryz.ntmps42
 go_wp2_with fail
 have hk0:Keeps (fun _=>False) w ((w.alloc (.cells o.cells.toArray 40)).alloc (.cells #[.int .i64 0,.slice none 0 0,.string ⟨#[]⟩] 33)):=((Keeps.refl (fun _=>False) w).alloc _).alloc _
 have HO0:=hide (show Blk ((w.alloc (.cells o.cells.toArray 40)).alloc (.cells #[.int .i64 0,.slice none 0 0,.string ⟨#[]⟩] 33)) w.heap.size o.cells 40 from (Blk.new w o.cells 40).alloc _)
 have HR0:=hide (show Blk ((w.alloc (.cells o.cells.toArray 40)).alloc (.cells #[.int .i64 0,.slice none 0 0,.string ⟨#[]⟩] 33)) (w.heap.size+1) [.int .i64 0,.slice none 0 0,.string qAa] 33 from Blk.newAt (by simp) [_,_,_] 33)
 have HE0:=hide ((uh HE).still hk0)
 have HK0:=hide hk0
 clear hk0
 generalize (w.alloc (.cells o.cells.toArray 40)).alloc (.cells #[.int .i64 0,.slice none 0 0,.string ⟨#[]⟩] 33)=w0 at *
 have HLT:=hide (show ∀ i,EFoot e v ps i→i<w.heap.size from (uh HE).lt)
 generalize hob:w.heap.size=ob at *
 have HOB:=hide hob
 clear hob
 have hsz0:ob+1<w0.heap.size:=(uh HR0).lt
 refine (qAs _ _ _ w0).mono ?_
 rintro r w1 ⟨rfl,hw1⟩
 rw [hw1,hid]
 clear hw1 w1
 have hoi:w0.cell? ⟨ob,1,none⟩=some (.int .i64 o.id):=(uh HO0).cell rfl
 go_wp2_with fail
 refine (qEb e v clock o.id ps w0 (uh HE0) hl).mono ?_
 rintro r w1 ⟨rfl,hw1⟩
 rw [hw1,uh HF]
 clear hw1 w1
 unfold qJ4
 obtain ⟨hv0,hh0⟩:=qBe (uh HO0) 5 20 o.cfg.cells rfl rfl
 go_wp2_with fail
 refine (qS3 o.cfg w0 hv).mono ?_
 rintro r w1 ⟨rfl,hk1⟩
 have hka:Keeps (fun _=>False) w0 (w1.alloc (.cells #[.nilFunc,.nilFunc,.nilFunc,.nilFunc,.nilFunc,.nilFunc] 82)):=hk1.alloc _
 have HRa:=hide ((uh HR0).keeps hka (fun h=>h))
 have HKa:=hide ((uh HK0).then hka)
 clear hk1 hka hv0 hh0 hoi
 go_wp2_with fail
 refine (qGv 3 (w1.alloc (.cells #[.nilFunc,.nilFunc,.nilFunc,.nilFunc,.nilFunc,.nilFunc] 82))).mono ?_
 rintro r w2 ⟨rfl,hk1⟩
 unfold ansV
 have HR1:=hide ((uh HRa).keeps hk1 (fun h=>h))
 have HK1:=hide ((uh HKa).then hk1)
 clear hk1
 have r0:w2.cell? ⟨ob+1,0,none⟩=some (.int .i64 0):=(uh HR1).cell rfl
 have r1:w2.cell? ⟨ob+1,1,none⟩=some (.slice none 0 0):=(uh HR1).cell rfl
 have r2:w2.cell? ⟨ob+1,2,none⟩=some (.string qAa):=(uh HR1).cell rfl
 have rf:=(uh HR1).frozen
 go_wp2
 have hbf:=(((uh HR1).setCell 0 (.int .i64 3)).setCell 1 (.slice none 0 0)).setCell 2 (.string qAa)
 have HKF:=hide ((((Keeps.refl (fun i=>i=ob+1) w2).setCell (p:=⟨ob+1,0,none⟩) (Or.inl rfl) (.int .i64 3)).setCell (p:=⟨ob+1,1,none⟩) (Or.inl rfl) (.slice none 0 0)).setCell (p:=⟨ob+1,2,none⟩) (Or.inl rfl) (.string qAa))
 have e9:(((w2.setCell ⟨ob+1,0,none⟩ (.int .i64 3)).setCell ⟨ob+1,1,none⟩ (.slice none 0 0)).setCell ⟨ob+1,2,none⟩ (.string ⟨#[]⟩))=(((w2.setCell ⟨ob+1,0,none⟩ (.int .i64 3)).setCell ⟨ob+1,1,none⟩ (.slice none 0 0)).setCell ⟨ob+1,2,none⟩ (.string qAa)):=rfl
 first | rw [e9] | skip
 generalize (((w2.setCell ⟨ob+1,0,none⟩ (.int .i64 3)).setCell ⟨ob+1,1,none⟩ (.slice none 0 0)).setCell ⟨ob+1,2,none⟩ (.string qAa))=w9 at *
 have q0:w9.cell? ⟨ob+1,0,none⟩=some (.int .i64 3):=hbf.cell rfl
 have q1:w9.cell? ⟨ob+1,1,none⟩=some (.slice none 0 0):=hbf.cell rfl
 have q2:w9.cell? ⟨ob+1,2,none⟩=some (.string qAa):=hbf.cell rfl
 refine bodyPost_ret (v:=ansV 3 (.slice none 0 0)) (by simp [results,Tryz.results42,go_sem,q0,q1,q2,ansV]) rfl ?_
 have hkf:=uh HKF
 have hob:=uh HOB
 have hkk:Keeps (fun _=>False) w w9:=(uh HK1).trans hkf (fun i hi hlt=>by omega)
 exact qCi (uh HE) hkk (World.ownsRow_nil _ _ _ _)
theorem qRl (n:Int) (e:Nat) (v:Value) (clock:Int) (ps:List (SB×Ser)) (o:OpM) (w:World) (h:ERep w e v clock ps) (hi:EInv n clock (ps.map (·.2))) (hid:inB o.id 0 99=true) (hf:qEg ps o.id=none) (hv:qA0 o.cfg=true) (h6:ps.length=6) :
  Calls Tryz.prog 42 #[.pointer (some ⟨e,0,none⟩),o.val] w fun r w'=>StepPost w e v ps clock (ps.map (·.2)) 4 [] r w':=by
 obtain ⟨k,hk,hk1,hk5,hcm,hft⟩:=qCr hv
 have HKD:=hide hk
 clear hk
 have h1:o.cells[1]?=some (.int .i64 o.id):=rfl
 have HE:=hide h
 have HI:=hide hi
 have hl:ps.length≤1000:=by have:=hi.six;rw [List.length_map] at this;omega
 have HF:=hide hf
 clear h hi hf
 unfold OpM.val
 go_enter Tryz.func42,Tryz.ntmps42
 go_wp2_with fail
 have hk0:Keeps (fun _=>False) w ((w.alloc (.cells o.cells.toArray 40)).alloc (.cells #[.int .i64 0,.slice none 0 0,.string ⟨#[]⟩] 33)):=((Keeps.refl (fun _=>False) w).alloc _).alloc _
 have HO0:=hide (show Blk ((w.alloc (.cells o.cells.toArray 40)).alloc (.cells #[.int .i64 0,.slice none 0 0,.string ⟨#[]⟩] 33)) w.heap.size o.cells 40 from (Blk.new w o.cells 40).alloc _)
 have HR0:=hide (show Blk ((w.alloc (.cells o.cells.toArray 40)).alloc (.cells #[.int .i64 0,.slice none 0 0,.string ⟨#[]⟩] 33)) (w.heap.size+1) [.int .i64 0,.slice none 0 0,.string qAa] 33 from Blk.newAt (by simp) [_,_,_] 33)
 have HE0:=hide ((uh HE).still hk0)
 have HK0:=hide hk0
 clear hk0
 generalize (w.alloc (.cells o.cells.toArray 40)).alloc (.cells #[.int .i64 0,.slice none 0 0,.string ⟨#[]⟩] 33)=w0 at *
 have HLT:=hide (show ∀ i,EFoot e v ps i→i<w.heap.size from (uh HE).lt)
 generalize hob:w.heap.size=ob at *
 have HOB:=hide hob
 clear hob
 have hsz0:ob+1<w0.heap.size:=(uh HR0).lt
 refine (qAs _ _ _ w0).mono ?_
 rintro r w1 ⟨rfl,hw1⟩
 rw [hw1,hid]
 clear hw1 w1
 have hoi:w0.cell? ⟨ob,1,none⟩=some (.int .i64 o.id):=(uh HO0).cell rfl
 go_wp2_with fail
 refine (qEb e v clock o.id ps w0 (uh HE0) hl).mono ?_
 rintro r w1 ⟨rfl,hw1⟩
 rw [hw1,uh HF]
 clear hw1 w1
 unfold qJ4
 obtain ⟨hv0,hh0⟩:=qBe (uh HO0) 5 20 o.cfg.cells rfl rfl
 go_wp2_with fail
 refine (qK8 o.cfg k w0 (uh HKD) hk1 hk5 hcm hft).mono ?_
 rintro r w1 ⟨rfl,hw1⟩
 unfold qBr fn
 have hlv:∃ a cap,v=.slice a 6 cap:=by
  rcases (uh HE0).row.2 with ⟨h1,h2⟩ | ⟨g,cap,cur,h1,_⟩
  ·omega
  ·exact ⟨some ⟨g,0,none⟩,cap,by rw [h1,h6]⟩
 obtain ⟨va,vcap,hvv⟩:=hlv
 have hka:Keeps (fun _=>False) w0 (w1.alloc (.cells #[.func (.func (qDa k)) #[] #[],.func (.func (qB8 k)) #[] #[],.func (.func (qCd k)) #[] #[],.func (.func (qBd k)) #[] #[],.func (.func (qCe k)) #[] #[],.func (.func (qB4 k)) #[] #[]] 82)):=hw1.alloc _
 have HRa:=hide ((uh HR0).keeps hka (fun h=>h))
 have HKa:=hide ((uh HK0).then hka)
 have hc1:w1.cell? ⟨e,1,none⟩=some (.slice va 6 vcap):=by rw [←hvv];exact ((uh HE0).still hw1).blk.cell rfl
 have hle:e<w1.heap.size:=((uh HE0).still hw1).blk.lt
 clear hw1 hka hv0 hh0 hoi hvv
 go_wp2_with fail
 generalize w1.alloc (.cells #[.func (.func (qDa k)) #[] #[],.func (.func (qB8 k)) #[] #[],.func (.func (qCd k)) #[] #[],.func (.func (qBd k)) #[] #[],.func (.func (qCe k)) #[] #[],.func (.func (qB4 k)) #[] #[]] 82)=wa at *
 refine (qGv 4 wa).mono ?_
 rintro r w2 ⟨rfl,hk1⟩
 unfold ansV
 have HR1:=hide ((uh HRa).keeps hk1 (fun h=>h))
 have HK1:=hide ((uh HKa).then hk1)
 clear hk1
 have r0:w2.cell? ⟨ob+1,0,none⟩=some (.int .i64 0):=(uh HR1).cell rfl
 have r1:w2.cell? ⟨ob+1,1,none⟩=some (.slice none 0 0):=(uh HR1).cell rfl
 have r2:w2.cell? ⟨ob+1,2,none⟩=some (.string qAa):=(uh HR1).cell rfl
 have rf:=(uh HR1).frozen
 go_wp2
 have hbf:=(((uh HR1).setCell 0 (.int .i64 4)).setCell 1 (.slice none 0 0)).setCell 2 (.string qAa)
 have HKF:=hide ((((Keeps.refl (fun i=>i=ob+1) w2).setCell (p:=⟨ob+1,0,none⟩) (Or.inl rfl) (.int .i64 4)).setCell (p:=⟨ob+1,1,none⟩) (Or.inl rfl) (.slice none 0 0)).setCell (p:=⟨ob+1,2,none⟩) (Or.inl rfl) (.string qAa))
 have e9:(((w2.setCell ⟨ob+1,0,none⟩ (.int .i64 4)).setCell ⟨ob+1,1,none⟩ (.slice none 0 0)).setCell ⟨ob+1,2,none⟩ (.string ⟨#[]⟩))=(((w2.setCell ⟨ob+1,0,none⟩ (.int .i64 4)).setCell ⟨ob+1,1,none⟩ (.slice none 0 0)).setCell ⟨ob+1,2,none⟩ (.string qAa)):=rfl
 first | rw [e9] | skip
 generalize (((w2.setCell ⟨ob+1,0,none⟩ (.int .i64 4)).setCell ⟨ob+1,1,none⟩ (.slice none 0 0)).setCell ⟨ob+1,2,none⟩ (.string qAa))=w9 at *
 have q0:w9.cell? ⟨ob+1,0,none⟩=some (.int .i64 4):=hbf.cell rfl
 have q1:w9.cell? ⟨ob+1,1,none⟩=some (.slice none 0 0):=hbf.cell rfl
 have q2:w9.cell? ⟨ob+1,2,none⟩=some (.string qAa):=hbf.cell rfl
 refine bodyPost_ret (v:=ansV 4 (.slice none 0 0)) (by simp [results,Tryz.results42,go_sem,q0,q1,q2,ansV]) rfl ?_
 have hkf:=uh HKF
 have hob:=uh HOB
 have hkk:Keeps (fun _=>False) w w9:=(uh HK1).trans hkf (fun i hi hlt=>by omega)
 exact qCi (uh HE) hkk (World.ownsRow_nil _ _ _ _)
end Go.Proofs.YtahnliehdjncdaaGreatDoor
namespace Go.Proofs.YtahnliehdjncdaaGreatDoor
open Go.RowKit
def formB:List Nat:=[115,107,101,116,99,104,32,49]
end Go.Proofs.YtahnliehdjncdaaGreatDoor
namespace Go.Proofs.YtahnliehdjncdaaGreatDoor
open Go.RowKit
def sumH (l:List Nat):Int:=l.foldl (fun a (b:Nat)=>qC1 1000003000007 b a) 1
def strB (l:List Nat):ByteArray:=strOfNums (l.map fun (n:Nat)=>(n:Int))
end Go.Proofs.YtahnliehdjncdaaGreatDoor
namespace Go.Proofs.YtahnliehdjncdaaGreatDoor
open Go.RowKit
attribute [local go_sem ↓] qAd qAe
attribute [local go_sem] qAi qAj qAb qAc qAm qAn qAk qAo
def Cfg.nums (c:Cfg):List Int:=[c.kind,c.lag,c.skew,c.cap,c.k,c.window,c.bits,c.rows,c.width,c.panes,c.size,c.degree,c.half,c.mark,c.s00,c.s01,c.s10,c.s11,c.s20,c.s21]
def Cfg.num (c:Cfg) (o:Nat):Int:=c.nums.getD o 0
def namedL:Nat→List Nat | 1=>[4,5] | 2=>[6,5] | 3=>[7,8,9,5] | 4=>[11,12,13] | _=>[11,12,13,10]
def appP (t:TypeId) (x y:Value):Sem Next:=do pure (.value (←Builtin.append_ #[142,142] t #[x,y]))
theorem qKy (ρ:Operand→Value) (dst:Option Tmp) (x y:Operand) (ty:TypeId) (pos:String) (after:Array Edge) (guard:Option (Nat×Bool)) :
  execOp ρ { dst,op:=.call { callee:=.builtin .append,args:=#[x,y],argTypes:=#[142,142] },type:=ty,pos,after,guard }=appP ty (ρ x) (ρ y):=by
 rw [BigFrame.execOp_builtin,BigFrame.builtin_append]
 simp [appP]
attribute [local go_sem ↓ 2000] qKy
attribute [local go_sem ↓] Go.wp_at_zero Go.wp_at_succ
end Go.Proofs.YtahnliehdjncdaaGreatDoor
namespace Go.Proofs.YtahnliehdjncdaaGreatDoor
open Go.RowKit
attribute [local go_sem ↓] qAd qAe
attribute [local go_sem] qAi qAj qAb qAc qAm qAn qAk qAo
def askedL:Nat→List Nat | 1=>[0] | 2=>[0,1] | 3=>[0,1] | 4=>[0] | _=>[0,1,2]
def pairsN (k:Nat) (c:Cfg):Int:=match k with | 2=>1 | 3=>c.rows | _=>0
def seedsL (n:Nat):List Nat:=(List.range (2*n)).map (14+·)
attribute [local go_sem ↓ 2000] qKy
attribute [local go_sem ↓] Go.wp_at_zero Go.wp_at_succ
end Go.Proofs.YtahnliehdjncdaaGreatDoor
