import Derived.Test.YtahnliehdjncdaaGreatDoorXBW
import Derived.Test.YtahnliehdjncdaaGreatDoorXBV
set_option maxRecDepth 100000
set_option maxHeartbeats 16000000
namespace Go.Proofs.YtahnliehdjncdaaGreatDoor
open Go.RowKit
attribute [local go_sem ↓] qAd qAe qBs qC7
attribute [local go_sem] qAi qAj qAb qAc qAm qAn qAh qAg qIa
theorem qMy {o:OpM} (h:okA o):o.kind≠6∧o.kind≠7:=by unfold okA at h;omega
theorem qYt (ops:List OpM) (o:OpM) (h:o∈ops.filter (qDw 4 1 5)):okA o:=by
 have h2:=(List.mem_filter.1 h).2
 unfold qDw at h2
 simp only [Bool.and_eq_true,decide_eq_true_eq] at h2
 exact h2.1
theorem qOk (base:Nat) (ops:List OpM) (vr vt va:Value) (l1:List Ans) (w:World) (hr:ScriptW w vr ops) (ht:ScriptW w vt ops) (ha:ARep w base va l1) (hm:l1.map (fun x=>(x.code,x.nums))=runM ws0 ops) (hbs:∀ x,x∈l1→x.bs=qAa) (hlen:ops.length≤651562446080) (hok:∀ o,o∈ops→okA o) :
  Calls Tryz.prog 34 #[vr,vt,va] w fun r w'=>r=.returned (.bool true)∧Keeps (fun _=>False) w w':=by
 have hl1:l1.length=ops.length:=by rw [qMi hm,qK1]
 obtain ⟨ar,cr,rfl,hrv⟩:=qFn hr
 obtain ⟨aa,ca,rfl⟩:=qC2 ha.row
 have HRV:=hide hrv
 have HT:=hide ht
 have HA:=hide ha
 have HM:=hide hm
 have HOK:=hide hok
 have hq:∀ SS:List OpM,SS.length≤ops.length→(∀ x,x∈SS→x∈ops∧chg x=true)→∀ y,y∈(endR rs0 SS).xs→KInv (endR rs0 SS).clock y:=fun SS hl hm y hy=>by
  obtain ⟨s',n',A',hk⟩:=end_KW SS ws0 rs0 0 _ kw0 (fun o ho=>by
     obtain ⟨h1,h2⟩:=hm o ho
     refine ⟨hok o h1,?_⟩
     unfold chg at h2
     simp at h2
     exact h2) (by omega) (by omega)
  exact hk.kinv y hy
 have HQ:=hide hq
 have HSAME:=hide (qVo ops ws0 rs0 0 _ kw0 hok (by omega) (by omega))
 have HOR:=hide (show OkRun ops from fun o ho=>(qMy (hok o ho)).2)
 have HBS:=hide hbs
 clear hbs
 clear hr hrv ht ha hm hok hq
 rw [hl1]
 have HL1:=hide hl1
 clear hl1
 go_enter Tryz.func34,Tryz.ntmps34
 go_wp2_with fail
 refine (qU3 vt ops w (uh HT) hlen (fun o ho=>qMy (uh HOK o ho)) (uh HQ)).mono ?_
 rintro r w1 ⟨vb,l2,rfl,hb,hm2,hbs2,hk1⟩
 have HBS2:=hide hbs2
 clear hbs2
 have hl2:l2.length=ops.length:=by rw [qMi hm2,qKo]
 obtain ⟨ab,cb,rfl⟩:=qC2 hb.row
 rw [hl2]
 have HB:=hide hb
 have HM2:=hide hm2
 have HL2:=hide hl2
 have HA1:=hide ((uh HA).keeps hk1 (fun _ _ h=>h))
 have HK1:=hide hk1
 clear hb hm2 hl2 hk1
 generalize hn:ops.length=n at *
 have HN:=hide hn
 have hnn:((n:Int)!=(n:Int))=false:=by simp
 clear hn
 go_wp2_with fail
 go_loopw [8] (fun i wr=>∃ k:Nat,k≤n∧i=.int .i64 k∧Hid (Keeps (fun _=>False) w1 wr)) (fun i _=>n-(intOf i).toNat)
 case atStart=>exact ⟨0,by omega,rfl,Keeps.refl _ _⟩
 case round =>
  obtain ⟨k,hk,rfl,HKr⟩:=hrel
  by_cases hkn:k<n
  ·obtain ⟨o,ho⟩:∃ o,ops[k]?=some o:=⟨ops[k]'(by rw [uh HN];exact hkn),List.getElem?_eq_getElem _⟩
   obtain ⟨x,hx⟩:∃ x,l1[k]?=some x:=⟨l1[k]'(by rw [uh HL1];exact hkn),List.getElem?_eq_getElem _⟩
   obtain ⟨y,hy⟩:∃ y,l2[k]?=some y:=⟨l2[k]'(by rw [uh HL2];exact hkn),List.getElem?_eq_getElem _⟩
   have hxy:(x.code,x.nums)=(y.code,y.nums):=by
    have h1:(l1.map (fun x=>(x.code,x.nums)))[k]?=some (x.code,x.nums):=by rw [List.getElem?_map,hx];rfl
    have h2:(l2.map (fun x=>(x.code,x.nums)))[k]?=some (y.code,y.nums):=by rw [List.getElem?_map,hy];rfl
    rw [uh HM,uh HSAME] at h1
    rw [uh HM2] at h2
    rw [h1] at h2
    injection h2
   have hx9:x.nums.length≤1000:=by
    have h1:(x.code,x.nums)∈runM ws0 ops:=by
     rw [←uh HM]
     exact List.mem_map.2 ⟨x,List.mem_of_getElem? hx,rfl⟩
    have:=qS9 ops (uh HOR) _ h1
    simp only at this
    omega
   have hxr:=(uh HA1).keeps (uh HKr) (fun _ _ h=>h)
   have hyr:=(uh HB).keeps (uh HKr) (fun _ _ h=>h)
   have HNX:=hide (hxr.nums x (List.mem_of_getElem? hx))
   have HNY:=hide (hyr.nums y (List.mem_of_getElem? hy))
   obtain ⟨ga,rfl,x0,x1,x2⟩:=qOx (by rw [uh HL1] at hxr;exact hxr) k x hx
   obtain ⟨gb,rfl,y0,y1,y2⟩:=qOx (by rw [uh HL2] at hyr;exact hyr) k y hy
   rw [uh HBS x (List.mem_of_getElem? hx)] at x2
   rw [uh HBS2 y (List.mem_of_getElem? hy)] at y2
   injection hxy with hcode hnums
   rw [←hcode] at y0
   rw [←hnums] at HNY
   obtain ⟨sb,so,ha,hlt,hra⟩:=uh HRV k o ho
   obtain ⟨hv0,hh0⟩:=qG1 hra hlt ((uh HK1).then (uh HKr))
   subst ha
   have hsbl:sb<wr.heap.size:=by have h1:=(uh HK1).size;have h2:=(uh HKr).size;omega
   have h6:=(qMy (uh HOK o (List.mem_of_getElem? ho))).1
   have hk0:(0:Int)≤(k:Int):=by omega
   have hkn':(k:Int)<(n:Int):=by omega
   clear hx hy ho hra hcode hnums hxr hyr
   go_wp2_with fail
   go_region_held3 (fun w'=>(qAv w' sb (so+k*26) 26=.agg o.cells.toArray∧qA3 w' sb (so+k*26) 26=true)∧(w'.cell? ⟨ga,k*3,none⟩=some (.int .i64 x.code)∧w'.cell? ⟨ga,k*3+1,none⟩=some x.nv∧w'.cell? ⟨ga,k*3+2,none⟩=some (.string qAa))∧(w'.cell? ⟨gb,k*3,none⟩=some (.int .i64 x.code)∧w'.cell? ⟨gb,k*3+1,none⟩=some y.nv∧w'.cell? ⟨gb,k*3+2,none⟩=some (.string qAa)))
    (first
       | (rw [(qAp (b:=sb) (o:=so+k*26) (n:=26) hk9 (fun h=>h) (by simp;omega)).1,(qAp (b:=sb) (o:=so+k*26) (n:=26) hk9 (fun h=>h) (by simp;omega)).2,qAb,qAc];exact ⟨⟨hv0,hh0⟩,⟨hk9.cell x0 (fun h=>h),hk9.cell x1 (fun h=>h),hk9.cell x2 (fun h=>h)⟩,⟨hk9.cell y0 (fun h=>h),hk9.cell y1 (fun h=>h),hk9.cell y2 (fun h=>h)⟩⟩)
       | (rw [qAb,qAc];exact ⟨⟨hv0,hh0⟩,⟨x0,x1,x2⟩,⟨y0,y1,y2⟩⟩)
       | exact ⟨⟨hv0,hh0⟩,⟨x0,x1,x2⟩,⟨y0,y1,y2⟩⟩)
    (first | (go_at_call 41;refine (qWz base w.heap.size o x.code x.nv y.nv x.nums _ (by exact uh HNX) (by exact uh HNY) hx9 h6).mono ?_;rintro r w9 ⟨rfl,hk9⟩))
   have HK9:=hide ((uh HKr).then (((Keeps.refl (fun _=>False) wr).drew).then hk9))
   clear hk9 hv0 hh0 x0 x1 x2 y0 y1 y2
   go_wp2
   go_roundw
   case rel=>exact ⟨k+1,by omega,by go_num,HK9⟩
   case measure=>simp [intOf];omega
  ·have hkk:k=n:=by omega
   subst hkk
   go_wp2
   go_ret
   exact ⟨rfl,(uh HK1).then (uh HKr)⟩
theorem qWn (v:Value) (ops:List OpM) (w:World) (hs:ScriptW w v ops) (hlen:ops.length≤651562446080) (hok:∀ o,o∈ops→okA o) (hT:Tab w) :
  Calls Tryz.prog 15 #[v] w fun r w'=>r=.returned (.bool true)∧Keeps (fun _=>False) w w':=by
 have HS:=hide hs
 have HOK:=hide hok
 have HTT:=hide hT
 clear hs hok hT
 go_enter Tryz.func15,Tryz.ntmps15
 go_wp2_with fail
 refine (qTm v ops w (uh HS) hlen (fun o ho=>(qMy (uh HOK o ho)).2)).mono ?_
 rintro r w1 ⟨v1,v2,rfl,h1,h2,hk1⟩
 have H1:=hide (qEm h1)
 have H2:=hide (qEm h2)
 have HK1:=hide hk1
 clear h1 h2 hk1
 go_wp2_with fail
 refine (qU6 v1 ops w1 (uh H1) (by omega) ((uh HTT).keeps (uh HK1) (fun h=>h)) (fun o ho=>qMy (uh HOK o ho))).mono ?_
 rintro r w2 ⟨va,l1,rfl,ha,hm,hbb,hk2⟩
 have HBS:=hide (bs_no hbb (fun o ho=>(qMy (uh HOK o ho)).1))
 clear hbb
 have HA:=hide ha
 have HM:=hide hm
 have HK2:=hide hk2
 clear ha hm hk2
 go_wp2_with fail
 refine (qOk w1.heap.size ops v1 v2 va l1 w2 ((uh H1).keeps (uh HK2)) ((uh H2).keeps (uh HK2)) (uh HA) (uh HM) (uh HBS) hlen (uh HOK)).mono ?_
 rintro r w3 ⟨rfl,hk3⟩
 go_wp2
 go_ret
 exact ⟨rfl,((uh HK1).then (uh HK2)).then hk3⟩
theorem qYu (v:Value) (ops:List OpM) (w:World) (hs:ScriptW w v ops) (hlen:ops.length≤651562446080) (hT:Tab w) :
  Calls Tryz.prog 10 #[v] w fun r w'=>r=.returned (.bool true)∧Keeps (fun _=>False) w w':=by
 have HTT:=hide hT
 clear hT
 go_enter Tryz.func10,Tryz.ntmps10
 go_wp2_with fail
 refine (qYj v ops 4 1 5 w hs hlen).mono ?_
 rintro r w1 ⟨v1,rfl,h1,hk1⟩
 have HS:=hide (qEm h1)
 have HK1:=hide hk1
 clear h1 hk1
 go_wp2_with fail
 refine (qWn v1 _ w1 (uh HS) (by have:=List.length_filter_le (qDw 4 1 5) ops;omega) (fun o ho=>qYt ops o ho) ((uh HTT).keeps (uh HK1) (fun h=>h))).mono ?_
 rintro r w2 ⟨rfl,hk2⟩
 go_wp2
 go_ret
 exact ⟨rfl,(uh HK1).then hk2⟩
end Go.Proofs.YtahnliehdjncdaaGreatDoor
