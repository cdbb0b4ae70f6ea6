import Derived.Test.YtahnliehdjncdaaGreatDoorXBD
import Derived.Test.YtahnliehdjncdaaGreatDoorXBH
set_option maxRecDepth 100000
set_option maxHeartbeats 16000000
namespace Go.Proofs.YtahnliehdjncdaaGreatDoor
section
open Go.RowKit
attribute [local go_sem ↓] qAd qAe
attribute [local go_sem] qAh qAl qAb qAc qAm qAn qAi qAj
theorem qFb{w w0 w1 w9:World}{e ob:Nat}{v:Value}{ps:List (SB×Ser)}{clock':Int}{xs':List Ser}{code:Int}{nums:List Int}{nv v':Value}{ps':List (SB×Ser)}(hk0:Keeps (λ_=>False) w w0)(hob:w.heap.size=ob)(hlt:∀i,EFoot e v ps i->i<ob)(hsz:ob+1<w0.heap.size)(hE:ERep w1 e v' clock' ps')(hx:ps'.map (·.2)=xs')(hn:w1.ownsRow w0.heap.size 3 1 nv nums.length (ints nums))(hk:Keeps (EFoot e v ps) w0 w1)(hf:∀i,EFoot e v' ps' i->EFoot e v ps i\/w0.heap.size<=i)(hd:∀i,nv.ownBlock=some i->¬EFoot e v' ps' i)(hkf:Keeps (λi=>i=ob+1) w1 w9):
  StepPost w e v ps clock' xs' code nums (.returned (qCj code nv)) w9:=by
 have hs:=hk0.size
 refine⟨nv,v',ps',rfl,hE.keeps hkf (λi hi h=>?_),hx,qBe (qH5 hn hs) hkf (λi hi h=>?_),?_,λi hi=>?_,hd⟩
 ·rcases hf i hi with h1 | h1
  ·have:=hlt i h1;omega
  ·omega
 ·have:=(hn.lt i hi).1;omega
 ·exact((hk0.mono (M':=EFoot e v ps) (λ_ _ h=>h.elim)).then (hk.mono (λ_ _ h=>h))).trans hkf (λi hi hlt=>by omega)
 ·rcases hf i hi with h1 | h1
  ·exact .inl h1
  ·exact .inr (by omega)
theorem qE2{w:World}{base:Nat}{nv:Value}{n:Nat}{xs:List Value}(h:w.ownsRow base 3 1 nv n xs): ∃a cap,nv=.slice a n cap:=by
 rcases h.2 with ⟨h1,h2⟩ | ⟨g,cap,cur,h1,_⟩
 ·exact⟨none,0,by rw[h1,h2]⟩
 ·exact⟨some ⟨g,0,none⟩,cap,h1⟩
theorem zD6(e:Nat)(v:Value)(clock:Int)(ps:List (SB×Ser))(o:OpM)(w:World)(h:ERep w e v clock ps)(hkind:o.kind=1)(clock':Int)(xs':List Ser)(code:Int)(nums:List Int)(hc:∀w0,ERep w0 e v clock ps->Calls Tryz.prog 42 #[.pointer (some ⟨e,0,none⟩),o.val] w0 λr w'=>StepPost w0 e v ps clock' xs' code nums r w'):
  Calls Tryz.prog 35 #[.pointer (some ⟨e,0,none⟩),o.val] w λr w'=>StepPost w e v ps clock' xs' code nums r w':=by
 have h0:o.cells[0]?=some (.int .i64 o.kind):=rfl
 have hv0:qAq (w.alloc (.cells o.cells.toArray 40)) w.heap.size 0 26=.agg o.cells.toArray:=qAg w o.cells 40 26 rfl
 have hh0:qAw (w.alloc (.cells o.cells.toArray 40)) w.heap.size 0 26=true:=qC4 w o.cells 40 26 rfl
 have hn1:(o.kind==1)=true:=by simp[hkind]
 have HE:=hide h
 have HC:=hide hc
 clear h hc hkind
 unfold OpM.val
 go_enter Tryz.func35,Tryz.ntmps35
 go_wp2_with fail
 have hk0:Keeps (λ_=>False) w ((w.alloc (.cells o.cells.toArray 40)).alloc (.cells #[.int .i64 0,.slice none 0 0,.string ⟨#[]⟩] 33)):=((Keeps.refl (λ_=>False) w).alloc _).alloc _
 have HO0:=hide (show Blk ((w.alloc (.cells o.cells.toArray 40)).alloc (.cells #[.int .i64 0,.slice none 0 0,.string ⟨#[]⟩] 33)) w.heap.size o.cells 40 from(Blk.new w o.cells 40).alloc _)
 have HR0:=hide (show Blk ((w.alloc (.cells o.cells.toArray 40)).alloc (.cells #[.int .i64 0,.slice none 0 0,.string ⟨#[]⟩] 33)) (w.heap.size+1) [.int .i64 0,.slice none 0 0,.string qAa] 33 from Blk.newAt (by simp) [_,_,_] 33)
 have HE0:=hide ((uh HE).still hk0)
 have HK0:=hide hk0
 clear hk0
 generalize(w.alloc (.cells o.cells.toArray 40)).alloc (.cells #[.int .i64 0,.slice none 0 0,.string ⟨#[]⟩] 33)=w0 at *
 have HLT:=hide (show ∀i,EFoot e v ps i->i<w.heap.size from(uh HE).lt)
 generalize hob:w.heap.size=ob at *
 have HOB:=hide hob
 clear hob
 have hsz0:ob+1<w0.heap.size:=(uh HR0).lt
 refine(uh HC w0 (uh HE0)).mono ?_
 rintro r w1 ⟨nv,v',ps',rfl,hE1,hx1,hn1,hk1,hf1,hd1⟩
 obtain⟨na,ncap,hnv⟩:=qE2 hn1
 subst hnv
 unfold qCj
 have HR1:=hide ((uh HR0).keeps hk1 (λh=>by have:=uh HLT _ h;omega))
 have HW:=hide (show ∀w9,Keeps (λi=>i=ob+1) w1 w9->StepPost w e v ps clock' xs' code nums (.returned (qCj code (.slice na nums.length ncap))) w9 from λw9 hkf=>qFb (uh HK0) (uh HOB) (uh HLT) hsz0 hE1 hx1 hn1 hk1 hf1 hd1 hkf)
 clear hE1 hx1 hn1 hk1 hf1 hd1
 have r0:w1.cell? ⟨ob+1,0,none⟩=some (.int .i64 0):=(uh HR1).cell rfl
 have r1:w1.cell? ⟨ob+1,1,none⟩=some (.slice none 0 0):=(uh HR1).cell rfl
 have r2:w1.cell? ⟨ob+1,2,none⟩=some (.string qAa):=(uh HR1).cell rfl
 have rf:=(uh HR1).frozen
 go_wp2
 have hbf:=(((uh HR1).setCell 0 (.int .i64 code)).setCell 1 (.slice na nums.length ncap)).setCell 2 (.string qAa)
 have HKF:=hide ((((Keeps.refl (λi=>i=ob+1) w1).setCell (p:=⟨ob+1,0,none⟩) (Or.inl rfl) (.int .i64 code)).setCell (p:=⟨ob+1,1,none⟩) (Or.inl rfl) (.slice na nums.length ncap)).setCell (p:=⟨ob+1,2,none⟩) (Or.inl rfl) (.string qAa))
 have e9:(((w1.setCell ⟨ob+1,0,none⟩ (.int .i64 code)).setCell ⟨ob+1,1,none⟩ (.slice na nums.length ncap)).setCell ⟨ob+1,2,none⟩ (.string ⟨#[]⟩))=(((w1.setCell ⟨ob+1,0,none⟩ (.int .i64 code)).setCell ⟨ob+1,1,none⟩ (.slice na nums.length ncap)).setCell ⟨ob+1,2,none⟩ (.string qAa)):=rfl
 first | rw[e9] | skip
 generalize(((w1.setCell ⟨ob+1,0,none⟩ (.int .i64 code)).setCell ⟨ob+1,1,none⟩ (.slice na nums.length ncap)).setCell ⟨ob+1,2,none⟩ (.string qAa))=w9 at *
 have q0:w9.cell? ⟨ob+1,0,none⟩=some (.int .i64 code):=hbf.cell rfl
 have q1:w9.cell? ⟨ob+1,1,none⟩=some (.slice na nums.length ncap):=hbf.cell rfl
 have q2:w9.cell? ⟨ob+1,2,none⟩=some (.string qAa):=hbf.cell rfl
 refine bodyPost_ret (v:=qCj code (.slice na nums.length ncap)) (by simp[results,Tryz.results35,go_sem,q0,q1,q2,qCj]) rfl ?_
 have hkf:=uh HKF
 exact uh HW w9 hkf
theorem zD3(e:Nat)(v:Value)(clock:Int)(ps:List (SB×Ser))(o:OpM)(w:World)(h:ERep w e v clock ps)(hkind:o.kind=2)(clock':Int)(xs':List Ser)(code:Int)(nums:List Int)(hc:∀w0,ERep w0 e v clock ps->Calls Tryz.prog 43 #[.pointer (some ⟨e,0,none⟩),o.val] w0 λr w'=>StepPost w0 e v ps clock' xs' code nums r w'):
  Calls Tryz.prog 35 #[.pointer (some ⟨e,0,none⟩),o.val] w λr w'=>StepPost w e v ps clock' xs' code nums r w':=by
 have h0:o.cells[0]?=some (.int .i64 o.kind):=rfl
 have hv0:qAq (w.alloc (.cells o.cells.toArray 40)) w.heap.size 0 26=.agg o.cells.toArray:=qAg w o.cells 40 26 rfl
 have hh0:qAw (w.alloc (.cells o.cells.toArray 40)) w.heap.size 0 26=true:=qC4 w o.cells 40 26 rfl
 have hn1:(o.kind==1)=false:=by simp[hkind]
 have hn2:(o.kind==2)=true:=by simp[hkind]
 have HE:=hide h
 have HC:=hide hc
 clear h hc hkind
 unfold OpM.val
 go_enter Tryz.func35,Tryz.ntmps35
 go_wp2_with fail
 have hk0:Keeps (λ_=>False) w ((w.alloc (.cells o.cells.toArray 40)).alloc (.cells #[.int .i64 0,.slice none 0 0,.string ⟨#[]⟩] 33)):=((Keeps.refl (λ_=>False) w).alloc _).alloc _
 have HO0:=hide (show Blk ((w.alloc (.cells o.cells.toArray 40)).alloc (.cells #[.int .i64 0,.slice none 0 0,.string ⟨#[]⟩] 33)) w.heap.size o.cells 40 from(Blk.new w o.cells 40).alloc _)
 have HR0:=hide (show Blk ((w.alloc (.cells o.cells.toArray 40)).alloc (.cells #[.int .i64 0,.slice none 0 0,.string ⟨#[]⟩] 33)) (w.heap.size+1) [.int .i64 0,.slice none 0 0,.string qAa] 33 from Blk.newAt (by simp) [_,_,_] 33)
 have HE0:=hide ((uh HE).still hk0)
 have HK0:=hide hk0
 clear hk0
 generalize(w.alloc (.cells o.cells.toArray 40)).alloc (.cells #[.int .i64 0,.slice none 0 0,.string ⟨#[]⟩] 33)=w0 at *
 have HLT:=hide (show ∀i,EFoot e v ps i->i<w.heap.size from(uh HE).lt)
 generalize hob:w.heap.size=ob at *
 have HOB:=hide hob
 clear hob
 have hsz0:ob+1<w0.heap.size:=(uh HR0).lt
 refine(uh HC w0 (uh HE0)).mono ?_
 rintro r w1 ⟨nv,v',ps',rfl,hE1,hx1,hn1,hk1,hf1,hd1⟩
 obtain⟨na,ncap,hnv⟩:=qE2 hn1
 subst hnv
 unfold qCj
 have HR1:=hide ((uh HR0).keeps hk1 (λh=>by have:=uh HLT _ h;omega))
 have HW:=hide (show ∀w9,Keeps (λi=>i=ob+1) w1 w9->StepPost w e v ps clock' xs' code nums (.returned (qCj code (.slice na nums.length ncap))) w9 from λw9 hkf=>qFb (uh HK0) (uh HOB) (uh HLT) hsz0 hE1 hx1 hn1 hk1 hf1 hd1 hkf)
 clear hE1 hx1 hn1 hk1 hf1 hd1
 have r0:w1.cell? ⟨ob+1,0,none⟩=some (.int .i64 0):=(uh HR1).cell rfl
 have r1:w1.cell? ⟨ob+1,1,none⟩=some (.slice none 0 0):=(uh HR1).cell rfl
 have r2:w1.cell? ⟨ob+1,2,none⟩=some (.string qAa):=(uh HR1).cell rfl
 have rf:=(uh HR1).frozen
 go_wp2
 have hbf:=(((uh HR1).setCell 0 (.int .i64 code)).setCell 1 (.slice na nums.length ncap)).setCell 2 (.string qAa)
 have HKF:=hide ((((Keeps.refl (λi=>i=ob+1) w1).setCell (p:=⟨ob+1,0,none⟩) (Or.inl rfl) (.int .i64 code)).setCell (p:=⟨ob+1,1,none⟩) (Or.inl rfl) (.slice na nums.length ncap)).setCell (p:=⟨ob+1,2,none⟩) (Or.inl rfl) (.string qAa))
 have e9:(((w1.setCell ⟨ob+1,0,none⟩ (.int .i64 code)).setCell ⟨ob+1,1,none⟩ (.slice na nums.length ncap)).setCell ⟨ob+1,2,none⟩ (.string ⟨#[]⟩))=(((w1.setCell ⟨ob+1,0,none⟩ (.int .i64 code)).setCell ⟨ob+1,1,none⟩ (.slice na nums.length ncap)).setCell ⟨ob+1,2,none⟩ (.string qAa)):=rfl
 first | rw[e9] | skip
 generalize(((w1.setCell ⟨ob+1,0,none⟩ (.int .i64 code)).setCell ⟨ob+1,1,none⟩ (.slice na nums.length ncap)).setCell ⟨ob+1,2,none⟩ (.string qAa))=w9 at *
 have q0:w9.cell? ⟨ob+1,0,none⟩=some (.int .i64 code):=hbf.cell rfl
 have q1:w9.cell? ⟨ob+1,1,none⟩=some (.slice na nums.length ncap):=hbf.cell rfl
 have q2:w9.cell? ⟨ob+1,2,none⟩=some (.string qAa):=hbf.cell rfl
 refine bodyPost_ret (v:=qCj code (.slice na nums.length ncap)) (by simp[results,Tryz.results35,go_sem,q0,q1,q2,qCj]) rfl ?_
 have hkf:=uh HKF
 exact uh HW w9 hkf
theorem zEk(e:Nat)(v:Value)(clock:Int)(ps:List (SB×Ser))(o:OpM)(w:World)(h:ERep w e v clock ps)(hkind:o.kind=3)(clock':Int)(xs':List Ser)(code:Int)(nums:List Int)(hc:∀w0,ERep w0 e v clock ps->Keeps (λ_=>False) w w0->Calls Tryz.prog 44 #[.pointer (some ⟨e,0,none⟩),o.val] w0 λr w'=>StepPost w0 e v ps clock' xs' code nums r w'):
  Calls Tryz.prog 35 #[.pointer (some ⟨e,0,none⟩),o.val] w λr w'=>StepPost w e v ps clock' xs' code nums r w':=by
 have h0:o.cells[0]?=some (.int .i64 o.kind):=rfl
 have hv0:qAq (w.alloc (.cells o.cells.toArray 40)) w.heap.size 0 26=.agg o.cells.toArray:=qAg w o.cells 40 26 rfl
 have hh0:qAw (w.alloc (.cells o.cells.toArray 40)) w.heap.size 0 26=true:=qC4 w o.cells 40 26 rfl
 have hn1:(o.kind==1)=false:=by simp[hkind]
 have hn2:(o.kind==2)=false:=by simp[hkind]
 have hn3:(o.kind==3)=true:=by simp[hkind]
 have HE:=hide h
 have HC:=hide hc
 clear h hc hkind
 unfold OpM.val
 go_enter Tryz.func35,Tryz.ntmps35
 go_wp2_with fail
 have hk0:Keeps (λ_=>False) w ((w.alloc (.cells o.cells.toArray 40)).alloc (.cells #[.int .i64 0,.slice none 0 0,.string ⟨#[]⟩] 33)):=((Keeps.refl (λ_=>False) w).alloc _).alloc _
 have HO0:=hide (show Blk ((w.alloc (.cells o.cells.toArray 40)).alloc (.cells #[.int .i64 0,.slice none 0 0,.string ⟨#[]⟩] 33)) w.heap.size o.cells 40 from(Blk.new w o.cells 40).alloc _)
 have HR0:=hide (show Blk ((w.alloc (.cells o.cells.toArray 40)).alloc (.cells #[.int .i64 0,.slice none 0 0,.string ⟨#[]⟩] 33)) (w.heap.size+1) [.int .i64 0,.slice none 0 0,.string qAa] 33 from Blk.newAt (by simp) [_,_,_] 33)
 have HE0:=hide ((uh HE).still hk0)
 have HK0:=hide hk0
 clear hk0
 generalize(w.alloc (.cells o.cells.toArray 40)).alloc (.cells #[.int .i64 0,.slice none 0 0,.string ⟨#[]⟩] 33)=w0 at *
 have HLT:=hide (show ∀i,EFoot e v ps i->i<w.heap.size from(uh HE).lt)
 generalize hob:w.heap.size=ob at *
 have HOB:=hide hob
 clear hob
 have hsz0:ob+1<w0.heap.size:=(uh HR0).lt
 refine(uh HC w0 (uh HE0) (uh HK0)).mono ?_
 rintro r w1 ⟨nv,v',ps',rfl,hE1,hx1,hn1,hk1,hf1,hd1⟩
 obtain⟨na,ncap,hnv⟩:=qE2 hn1
 subst hnv
 unfold qCj
 have HR1:=hide ((uh HR0).keeps hk1 (λh=>by have:=uh HLT _ h;omega))
 have HW:=hide (show ∀w9,Keeps (λi=>i=ob+1) w1 w9->StepPost w e v ps clock' xs' code nums (.returned (qCj code (.slice na nums.length ncap))) w9 from λw9 hkf=>qFb (uh HK0) (uh HOB) (uh HLT) hsz0 hE1 hx1 hn1 hk1 hf1 hd1 hkf)
 clear hE1 hx1 hn1 hk1 hf1 hd1
 have r0:w1.cell? ⟨ob+1,0,none⟩=some (.int .i64 0):=(uh HR1).cell rfl
 have r1:w1.cell? ⟨ob+1,1,none⟩=some (.slice none 0 0):=(uh HR1).cell rfl
 have r2:w1.cell? ⟨ob+1,2,none⟩=some (.string qAa):=(uh HR1).cell rfl
 have rf:=(uh HR1).frozen
 go_wp2
 have hbf:=(((uh HR1).setCell 0 (.int .i64 code)).setCell 1 (.slice na nums.length ncap)).setCell 2 (.string qAa)
 have HKF:=hide ((((Keeps.refl (λi=>i=ob+1) w1).setCell (p:=⟨ob+1,0,none⟩) (Or.inl rfl) (.int .i64 code)).setCell (p:=⟨ob+1,1,none⟩) (Or.inl rfl) (.slice na nums.length ncap)).setCell (p:=⟨ob+1,2,none⟩) (Or.inl rfl) (.string qAa))
 have e9:(((w1.setCell ⟨ob+1,0,none⟩ (.int .i64 code)).setCell ⟨ob+1,1,none⟩ (.slice na nums.length ncap)).setCell ⟨ob+1,2,none⟩ (.string ⟨#[]⟩))=(((w1.setCell ⟨ob+1,0,none⟩ (.int .i64 code)).setCell ⟨ob+1,1,none⟩ (.slice na nums.length ncap)).setCell ⟨ob+1,2,none⟩ (.string qAa)):=rfl
 first | rw[e9] | skip
 generalize(((w1.setCell ⟨ob+1,0,none⟩ (.int .i64 code)).setCell ⟨ob+1,1,none⟩ (.slice na nums.length ncap)).setCell ⟨ob+1,2,none⟩ (.string qAa))=w9 at *
 have q0:w9.cell? ⟨ob+1,0,none⟩=some (.int .i64 code):=hbf.cell rfl
 have q1:w9.cell? ⟨ob+1,1,none⟩=some (.slice na nums.length ncap):=hbf.cell rfl
 have q2:w9.cell? ⟨ob+1,2,none⟩=some (.string qAa):=hbf.cell rfl
 refine bodyPost_ret (v:=qCj code (.slice na nums.length ncap)) (by simp[results,Tryz.results35,go_sem,q0,q1,q2,qCj]) rfl ?_
 have hkf:=uh HKF
 exact uh HW w9 hkf
theorem zEi(e:Nat)(v:Value)(clock:Int)(ps:List (SB×Ser))(o:OpM)(w:World)(h:ERep w e v clock ps)(hkind:o.kind=4)(clock':Int)(xs':List Ser)(code:Int)(nums:List Int)(hc:∀w0,ERep w0 e v clock ps->Calls Tryz.prog 45 #[.pointer (some ⟨e,0,none⟩),o.val] w0 λr w'=>StepPost w0 e v ps clock' xs' code nums r w'):
  Calls Tryz.prog 35 #[.pointer (some ⟨e,0,none⟩),o.val] w λr w'=>StepPost w e v ps clock' xs' code nums r w':=by
 have h0:o.cells[0]?=some (.int .i64 o.kind):=rfl
 have hv0:qAq (w.alloc (.cells o.cells.toArray 40)) w.heap.size 0 26=.agg o.cells.toArray:=qAg w o.cells 40 26 rfl
 have hh0:qAw (w.alloc (.cells o.cells.toArray 40)) w.heap.size 0 26=true:=qC4 w o.cells 40 26 rfl
 have hn1:(o.kind==1)=false:=by simp[hkind]
 have hn2:(o.kind==2)=false:=by simp[hkind]
 have hn3:(o.kind==3)=false:=by simp[hkind]
 have hn4:(o.kind==4)=true:=by simp[hkind]
 have HE:=hide h
 have HC:=hide hc
 clear h hc hkind
 unfold OpM.val
 go_enter Tryz.func35,Tryz.ntmps35
 go_wp2_with fail
 have hk0:Keeps (λ_=>False) w ((w.alloc (.cells o.cells.toArray 40)).alloc (.cells #[.int .i64 0,.slice none 0 0,.string ⟨#[]⟩] 33)):=((Keeps.refl (λ_=>False) w).alloc _).alloc _
 have HO0:=hide (show Blk ((w.alloc (.cells o.cells.toArray 40)).alloc (.cells #[.int .i64 0,.slice none 0 0,.string ⟨#[]⟩] 33)) w.heap.size o.cells 40 from(Blk.new w o.cells 40).alloc _)
 have HR0:=hide (show Blk ((w.alloc (.cells o.cells.toArray 40)).alloc (.cells #[.int .i64 0,.slice none 0 0,.string ⟨#[]⟩] 33)) (w.heap.size+1) [.int .i64 0,.slice none 0 0,.string qAa] 33 from Blk.newAt (by simp) [_,_,_] 33)
 have HE0:=hide ((uh HE).still hk0)
 have HK0:=hide hk0
 clear hk0
 generalize(w.alloc (.cells o.cells.toArray 40)).alloc (.cells #[.int .i64 0,.slice none 0 0,.string ⟨#[]⟩] 33)=w0 at *
 have HLT:=hide (show ∀i,EFoot e v ps i->i<w.heap.size from(uh HE).lt)
 generalize hob:w.heap.size=ob at *
 have HOB:=hide hob
 clear hob
 have hsz0:ob+1<w0.heap.size:=(uh HR0).lt
 refine(uh HC w0 (uh HE0)).mono ?_
 rintro r w1 ⟨nv,v',ps',rfl,hE1,hx1,hn1,hk1,hf1,hd1⟩
 obtain⟨na,ncap,hnv⟩:=qE2 hn1
 subst hnv
 unfold qCj
 have HR1:=hide ((uh HR0).keeps hk1 (λh=>by have:=uh HLT _ h;omega))
 have HW:=hide (show ∀w9,Keeps (λi=>i=ob+1) w1 w9->StepPost w e v ps clock' xs' code nums (.returned (qCj code (.slice na nums.length ncap))) w9 from λw9 hkf=>qFb (uh HK0) (uh HOB) (uh HLT) hsz0 hE1 hx1 hn1 hk1 hf1 hd1 hkf)
 clear hE1 hx1 hn1 hk1 hf1 hd1
 have r0:w1.cell? ⟨ob+1,0,none⟩=some (.int .i64 0):=(uh HR1).cell rfl
 have r1:w1.cell? ⟨ob+1,1,none⟩=some (.slice none 0 0):=(uh HR1).cell rfl
 have r2:w1.cell? ⟨ob+1,2,none⟩=some (.string qAa):=(uh HR1).cell rfl
 have rf:=(uh HR1).frozen
 go_wp2
 have hbf:=(((uh HR1).setCell 0 (.int .i64 code)).setCell 1 (.slice na nums.length ncap)).setCell 2 (.string qAa)
 have HKF:=hide ((((Keeps.refl (λi=>i=ob+1) w1).setCell (p:=⟨ob+1,0,none⟩) (Or.inl rfl) (.int .i64 code)).setCell (p:=⟨ob+1,1,none⟩) (Or.inl rfl) (.slice na nums.length ncap)).setCell (p:=⟨ob+1,2,none⟩) (Or.inl rfl) (.string qAa))
 have e9:(((w1.setCell ⟨ob+1,0,none⟩ (.int .i64 code)).setCell ⟨ob+1,1,none⟩ (.slice na nums.length ncap)).setCell ⟨ob+1,2,none⟩ (.string ⟨#[]⟩))=(((w1.setCell ⟨ob+1,0,none⟩ (.int .i64 code)).setCell ⟨ob+1,1,none⟩ (.slice na nums.length ncap)).setCell ⟨ob+1,2,none⟩ (.string qAa)):=rfl
 first | rw[e9] | skip
 generalize(((w1.setCell ⟨ob+1,0,none⟩ (.int .i64 code)).setCell ⟨ob+1,1,none⟩ (.slice na nums.length ncap)).setCell ⟨ob+1,2,none⟩ (.string qAa))=w9 at *
 have q0:w9.cell? ⟨ob+1,0,none⟩=some (.int .i64 code):=hbf.cell rfl
 have q1:w9.cell? ⟨ob+1,1,none⟩=some (.slice na nums.length ncap):=hbf.cell rfl
 have q2:w9.cell? ⟨ob+1,2,none⟩=some (.string qAa):=hbf.cell rfl
 refine bodyPost_ret (v:=qCj code (.slice na nums.length ncap)) (by simp[results,Tryz.results35,go_sem,q0,q1,q2,qCj]) rfl ?_
 have hkf:=uh HKF
 exact uh HW w9 hkf
theorem zEq(e:Nat)(v:Value)(clock:Int)(ps:List (SB×Ser))(o:OpM)(w:World)(h:ERep w e v clock ps)(hkind:o.kind=5)(clock':Int)(xs':List Ser)(code:Int)(nums:List Int)(hc:∀w0,ERep w0 e v clock ps->Calls Tryz.prog 46 #[.pointer (some ⟨e,0,none⟩),o.val] w0 λr w'=>StepPost w0 e v ps clock' xs' code nums r w'):
  Calls Tryz.prog 35 #[.pointer (some ⟨e,0,none⟩),o.val] w λr w'=>StepPost w e v ps clock' xs' code nums r w':=by
 have h0:o.cells[0]?=some (.int .i64 o.kind):=rfl
 have hv0:qAq (w.alloc (.cells o.cells.toArray 40)) w.heap.size 0 26=.agg o.cells.toArray:=qAg w o.cells 40 26 rfl
 have hh0:qAw (w.alloc (.cells o.cells.toArray 40)) w.heap.size 0 26=true:=qC4 w o.cells 40 26 rfl
 have hn1:(o.kind==1)=false:=by simp[hkind]
 have hn2:(o.kind==2)=false:=by simp[hkind]
 have hn3:(o.kind==3)=false:=by simp[hkind]
 have hn4:(o.kind==4)=false:=by simp[hkind]
 have hn5:(o.kind==5)=true:=by simp[hkind]
 have HE:=hide h
 have HC:=hide hc
 clear h hc hkind
 unfold OpM.val
 go_enter Tryz.func35,Tryz.ntmps35
 go_wp2_with fail
 have hk0:Keeps (λ_=>False) w ((w.alloc (.cells o.cells.toArray 40)).alloc (.cells #[.int .i64 0,.slice none 0 0,.string ⟨#[]⟩] 33)):=((Keeps.refl (λ_=>False) w).alloc _).alloc _
 have HO0:=hide (show Blk ((w.alloc (.cells o.cells.toArray 40)).alloc (.cells #[.int .i64 0,.slice none 0 0,.string ⟨#[]⟩] 33)) w.heap.size o.cells 40 from(Blk.new w o.cells 40).alloc _)
 have HR0:=hide (show Blk ((w.alloc (.cells o.cells.toArray 40)).alloc (.cells #[.int .i64 0,.slice none 0 0,.string ⟨#[]⟩] 33)) (w.heap.size+1) [.int .i64 0,.slice none 0 0,.string qAa] 33 from Blk.newAt (by simp) [_,_,_] 33)
 have HE0:=hide ((uh HE).still hk0)
 have HK0:=hide hk0
 clear hk0
 generalize(w.alloc (.cells o.cells.toArray 40)).alloc (.cells #[.int .i64 0,.slice none 0 0,.string ⟨#[]⟩] 33)=w0 at *
 have HLT:=hide (show ∀i,EFoot e v ps i->i<w.heap.size from(uh HE).lt)
 generalize hob:w.heap.size=ob at *
 have HOB:=hide hob
 clear hob
 have hsz0:ob+1<w0.heap.size:=(uh HR0).lt
 refine(uh HC w0 (uh HE0)).mono ?_
 rintro r w1 ⟨nv,v',ps',rfl,hE1,hx1,hn1,hk1,hf1,hd1⟩
 obtain⟨na,ncap,hnv⟩:=qE2 hn1
 subst hnv
 unfold qCj
 have HR1:=hide ((uh HR0).keeps hk1 (λh=>by have:=uh HLT _ h;omega))
 have HW:=hide (show ∀w9,Keeps (λi=>i=ob+1) w1 w9->StepPost w e v ps clock' xs' code nums (.returned (qCj code (.slice na nums.length ncap))) w9 from λw9 hkf=>qFb (uh HK0) (uh HOB) (uh HLT) hsz0 hE1 hx1 hn1 hk1 hf1 hd1 hkf)
 clear hE1 hx1 hn1 hk1 hf1 hd1
 have r0:w1.cell? ⟨ob+1,0,none⟩=some (.int .i64 0):=(uh HR1).cell rfl
 have r1:w1.cell? ⟨ob+1,1,none⟩=some (.slice none 0 0):=(uh HR1).cell rfl
 have r2:w1.cell? ⟨ob+1,2,none⟩=some (.string qAa):=(uh HR1).cell rfl
 have rf:=(uh HR1).frozen
 go_wp2
 have hbf:=(((uh HR1).setCell 0 (.int .i64 code)).setCell 1 (.slice na nums.length ncap)).setCell 2 (.string qAa)
 have HKF:=hide ((((Keeps.refl (λi=>i=ob+1) w1).setCell (p:=⟨ob+1,0,none⟩) (Or.inl rfl) (.int .i64 code)).setCell (p:=⟨ob+1,1,none⟩) (Or.inl rfl) (.slice na nums.length ncap)).setCell (p:=⟨ob+1,2,none⟩) (Or.inl rfl) (.string qAa))
 have e9:(((w1.setCell ⟨ob+1,0,none⟩ (.int .i64 code)).setCell ⟨ob+1,1,none⟩ (.slice na nums.length ncap)).setCell ⟨ob+1,2,none⟩ (.string ⟨#[]⟩))=(((w1.setCell ⟨ob+1,0,none⟩ (.int .i64 code)).setCell ⟨ob+1,1,none⟩ (.slice na nums.length ncap)).setCell ⟨ob+1,2,none⟩ (.string qAa)):=rfl
 first | rw[e9] | skip
 generalize(((w1.setCell ⟨ob+1,0,none⟩ (.int .i64 code)).setCell ⟨ob+1,1,none⟩ (.slice na nums.length ncap)).setCell ⟨ob+1,2,none⟩ (.string qAa))=w9 at *
 have q0:w9.cell? ⟨ob+1,0,none⟩=some (.int .i64 code):=hbf.cell rfl
 have q1:w9.cell? ⟨ob+1,1,none⟩=some (.slice na nums.length ncap):=hbf.cell rfl
 have q2:w9.cell? ⟨ob+1,2,none⟩=some (.string qAa):=hbf.cell rfl
 refine bodyPost_ret (v:=qCj code (.slice na nums.length ncap)) (by simp[results,Tryz.results35,go_sem,q0,q1,q2,qCj]) rfl ?_
 have hkf:=uh HKF
 exact uh HW w9 hkf
theorem zDf(e:Nat)(v:Value)(clock:Int)(ps:List (SB×Ser))(o:OpM)(w:World)(h:ERep w e v clock ps)(hkind:o.kind<1\/7<o.kind):
  Calls Tryz.prog 35 #[.pointer (some ⟨e,0,none⟩),o.val] w λr w'=>StepPost w e v ps clock (ps.map (·.2)) 1 [] r w':=by
 have h0:o.cells[0]?=some (.int .i64 o.kind):=rfl
 have hn1:(o.kind==1)=false:=by simp;omega
 have hn2:(o.kind==2)=false:=by simp;omega
 have hn3:(o.kind==3)=false:=by simp;omega
 have hn4:(o.kind==4)=false:=by simp;omega
 have hn5:(o.kind==5)=false:=by simp;omega
 have hn6:(o.kind==6)=false:=by simp;omega
 have hn7:(o.kind==7)=false:=by simp;omega
 have HE:=hide h
 clear h hkind
 unfold OpM.val
 go_enter Tryz.func35,Tryz.ntmps35
 go_wp2_with fail
 have hk0:Keeps (λ_=>False) w ((w.alloc (.cells o.cells.toArray 40)).alloc (.cells #[.int .i64 0,.slice none 0 0,.string ⟨#[]⟩] 33)):=((Keeps.refl (λ_=>False) w).alloc _).alloc _
 have HO0:=hide (show Blk ((w.alloc (.cells o.cells.toArray 40)).alloc (.cells #[.int .i64 0,.slice none 0 0,.string ⟨#[]⟩] 33)) w.heap.size o.cells 40 from(Blk.new w o.cells 40).alloc _)
 have HR0:=hide (show Blk ((w.alloc (.cells o.cells.toArray 40)).alloc (.cells #[.int .i64 0,.slice none 0 0,.string ⟨#[]⟩] 33)) (w.heap.size+1) [.int .i64 0,.slice none 0 0,.string qAa] 33 from Blk.newAt (by simp) [_,_,_] 33)
 have HE0:=hide ((uh HE).still hk0)
 have HK0:=hide hk0
 clear hk0
 generalize(w.alloc (.cells o.cells.toArray 40)).alloc (.cells #[.int .i64 0,.slice none 0 0,.string ⟨#[]⟩] 33)=w0 at *
 have HLT:=hide (show ∀i,EFoot e v ps i->i<w.heap.size from(uh HE).lt)
 generalize hob:w.heap.size=ob at *
 have HOB:=hide hob
 clear hob
 have hsz0:ob+1<w0.heap.size:=(uh HR0).lt
 refine(qE7 1 w0).mono ?_
 rintro r w1 ⟨rfl,hk1⟩
 unfold qCj
 have HR1:=hide ((uh HR0).keeps hk1 (λh=>h))
 have HK1:=hide ((uh HK0).then hk1)
 clear hk1
 have r0:w1.cell? ⟨ob+1,0,none⟩=some (.int .i64 0):=(uh HR1).cell rfl
 have r1:w1.cell? ⟨ob+1,1,none⟩=some (.slice none 0 0):=(uh HR1).cell rfl
 have r2:w1.cell? ⟨ob+1,2,none⟩=some (.string qAa):=(uh HR1).cell rfl
 have rf:=(uh HR1).frozen
 go_wp2
 have hbf:=(((uh HR1).setCell 0 (.int .i64 1)).setCell 1 (.slice none 0 0)).setCell 2 (.string qAa)
 have HKF:=hide ((((Keeps.refl (λi=>i=ob+1) w1).setCell (p:=⟨ob+1,0,none⟩) (Or.inl rfl) (.int .i64 1)).setCell (p:=⟨ob+1,1,none⟩) (Or.inl rfl) (.slice none 0 0)).setCell (p:=⟨ob+1,2,none⟩) (Or.inl rfl) (.string qAa))
 have e9:(((w1.setCell ⟨ob+1,0,none⟩ (.int .i64 1)).setCell ⟨ob+1,1,none⟩ (.slice none 0 0)).setCell ⟨ob+1,2,none⟩ (.string ⟨#[]⟩))=(((w1.setCell ⟨ob+1,0,none⟩ (.int .i64 1)).setCell ⟨ob+1,1,none⟩ (.slice none 0 0)).setCell ⟨ob+1,2,none⟩ (.string qAa)):=rfl
 first | rw[e9] | skip
 generalize(((w1.setCell ⟨ob+1,0,none⟩ (.int .i64 1)).setCell ⟨ob+1,1,none⟩ (.slice none 0 0)).setCell ⟨ob+1,2,none⟩ (.string qAa))=w9 at *
 have q0:w9.cell? ⟨ob+1,0,none⟩=some (.int .i64 1):=hbf.cell rfl
 have q1:w9.cell? ⟨ob+1,1,none⟩=some (.slice none 0 0):=hbf.cell rfl
 have q2:w9.cell? ⟨ob+1,2,none⟩=some (.string qAa):=hbf.cell rfl
 refine bodyPost_ret (v:=qCj 1 (.slice none 0 0)) (by simp[results,Tryz.results35,go_sem,q0,q1,q2,qCj]) rfl ?_
 have hkf:=uh HKF
 have hob:=uh HOB
 have hkk:Keeps (λ_=>False) w w9:=(uh HK1).trans hkf (λi hi hlt=>by omega)
 exact qBv (uh HE) hkk (World.ownsRow_nil _ _ _ _)
end
section
open Go.RowKit
attribute [local go_sem ↓] qAd qAe qDe
attribute [local go_sem] qAh qAl qAb qAc qAm qAn qAi qAj
structure Ans where
 code:Int
 nv:Value
 nums:List Int
 bs:ByteArray
def Ans.cells(x:Ans): List Value:=[.int .i64 x.code,x.nv,.string x.bs]
def qDp(l:List Ans): List Value:=l.flatMap Ans.cells
structure ARep (w:World) (base:Nat) (v:Value) (l:List Ans):Prop where
 row:w.ownsRow base 33 3 v l.length (qDp l)
 nums:∀x,x∈l->w.ownsRow base 3 1 x.nv x.nums.length (ints x.nums)
 apart:∀x,x∈l->∀i,x.nv.ownBlock=some i->v.ownBlock≠some i
def qUr(v:Value)(l:List Ans)(i:Nat): Prop:=v.ownBlock=some i\/∃x,x∈l/\x.nv.ownBlock=some i
theorem ARep.keeps{M:Nat->Prop}{w w':World}{base:Nat}{v:Value}{l:List Ans}(h:ARep w base v l)(hk:Keeps M w w')(hn:∀i,qUr v l i->¬M i): ARep w' base v l :=
 ⟨qBe h.row hk (λi hi=>hn i (.inl hi)),λx hx=>qBe (h.nums x hx) hk (λi hi=>hn i (.inr ⟨x,hx,hi⟩)),h.apart⟩
theorem ARep.lt{w:World}{base:Nat}{v:Value}{l:List Ans}(h:ARep w base v l)(i:Nat)(hi:qUr v l i): base<=i/\i<w.heap.size:=by
 rcases hi with hi | ⟨x,hx,hi⟩
 ·exact h.row.lt i hi
 ·exact(h.nums x hx).lt i hi
def qUq: WS->List OpM->List (Int×List Int)
 | _,[]=>[]
 | s,o::r=>(qCd s o).2::qUq (qCd s o).1 r
def qJf: WS->List OpM->WS
 | s,[]=>s
 | s,o::r=>qJf (qCd s o).1 r
theorem qXy(s:WS)(l:List OpM)(o:OpM): qJf s (l++[o])=(qCd (qJf s l) o).1:=by
 induction l generalizing s with
 | nil=>rfl
 | cons a l ih=>exact ih _
theorem qYo(s:WS)(l:List OpM)(o:OpM): qUq s (l++[o])=qUq s l++[(qCd (qJf s l) o).2]:=by
 induction l generalizing s with
 | nil=>rfl
 | cons a l ih=>simp only[List.cons_append,qUq,qJf,ih]
theorem qSb(s:WS)(l:List OpM): (qUq s l).length=l.length:=by
 induction l generalizing s with
 | nil=>rfl
 | cons a l ih=>simp[qUq,ih]
theorem zAr{n:Int}{s:WS}(l:List OpM)(h:EInv n s.clock s.xs)(hn:0<=n)(hL:∀(i:Nat) o,l[i]?=some o->qOq (n+i+1) o): EInv (n+l.length) (qJf s l).clock (qJf s l).xs:=by
 induction l generalizing s n with
 | nil=>simpa[qJf] using h
 | cons a l ih =>
  have:=ih (qQs a h hn (by have:=hL 0 a rfl;simpa using this)) (by omega) (λi o ho=>by
     have:=hL (i+1) o (by simpa using ho)
     rw[show n+1+(i:Int)+1=n+((i+1:Nat):Int)+1 by omega]
     exact this)
  rw[List.length_cons,show n+((l.length+1:Nat):Int)=n+1+(l.length:Int) by omega]
  exact this
def qYz: WS->List OpM->List ByteArray
 | _,[]=>[]
 | s,o::r=>qD3 s o::qYz (qCd s o).1 r
theorem qWn(s:WS)(l:List OpM)(o:OpM): qYz s (l++[o])=qYz s l++[qD3 (qJf s l) o]:=by
 induction l generalizing s with
 | nil=>rfl
 | cons a l ih=>simp only[List.cons_append,qYz,qJf,ih]
def ws0: WS:=⟨0,[]⟩
theorem inv0: EInv 0 ws0.clock ws0.xs:=⟨by simp[ws0],by simp[ws0],by simp[ws0],λx hx=>by simp[ws0]at hx,λx hx=>by simp[ws0]at hx⟩
def ScriptAt(w:World)(sb so:Nat)(ops:List OpM): Prop:=∀i o,ops[i]?=some o->w.rangeAt sb (so+i*26) o.cells
theorem qYd: (Tryz.prog.info? 33).map (λi=>(i.zero,i.size,i.bytes))=some (some (.agg #[.int .i64 0,.slice none 0 0,.string ⟨#[]⟩]),3,48):=by kernel_rfl
theorem qL1(o:OpM): o.cells.toArray.all (·.oneCell')=true:=by simp[OpM.cells,Cfg.vals,Value.oneCell']
theorem qLc(a b:List Ans): qDp (a++b)=qDp a++qDp b:=by simp[qDp]
theorem qQb{w wr w2 w3:World}{P O:Obj}{e:Nat}{v v' av av':Value}{clock':Int}{ps ps':List (SB×Ser)}{l:List Ans}{code:Int}{nv:Value}{nums:List Int}{bs:ByteArray}{gg cap':Nat}(hKr:Keeps (λ_=>False) w wr)(hA:ARep wr w.heap.size av l)(hL:∀i,EFoot e v ps i->w.heap.size<=i)(hD:∀i,qUr av l i->¬EFoot e v ps i)(hE2:ERep w2 e v' clock' ps')(hn2:w2.ownsRow (wr.alloc P).heap.size 3 1 nv nums.length (ints nums))(hk2:Keeps (EFoot e v ps) (wr.alloc P) w2)(hf2:∀i,EFoot e v' ps' i->EFoot e v ps i\/(wr.alloc P).heap.size<=i)(hd2:∀i,nv.ownBlock=some i->¬EFoot e v' ps' i)(hav:av'=.slice (some ⟨gg,0,none⟩) (l.length+1) cap')(hown:w3.ownsRow w.heap.size 33 3 av' (l.length+1) (qDp l++[.int .i64 code,nv,.string bs]))(hgrow:(w2.alloc O).grownBy w3 av.ownBlock)(hat:av.ownBlock=some gg\/gg=w2.heap.size+1):
  ERep w3 e v' clock' ps'/\ARep w3 w.heap.size av' (l++[⟨code,nv,nums,bs⟩])/\Keeps (λ_=>False) w w3/\(∀i,EFoot e v' ps' i->w.heap.size<=i)/\(∀i,qUr av' (l++[⟨code,nv,nums,bs⟩]) i->¬EFoot e v' ps' i):=by
 rw[World.size_alloc]at hn2 hf2
 have hsr:=hKr.size
 have hs2:wr.heap.size+1<=w2.heap.size:=by have:=hk2.size;rwa [World.size_alloc]at this
 have hnb:av'.ownBlock=some gg:=by rw[hav];rfl
 have hkg:Keeps (λi=>av.ownBlock=some i) (w2.alloc O) w3:=⟨hgrow.os,hgrow.tape,hgrow.output,hgrow.size,λk hk hn=>hgrow.block k hk (λh=>hn h.symm)⟩
 have hka:Keeps (λi=>av.ownBlock=some i) w2 w3:=((Keeps.refl (λi=>av.ownBlock=some i) w2).alloc O).then hkg
 have hkr2:Keeps (EFoot e v ps) wr w2:=((Keeps.refl (EFoot e v ps) wr).alloc P).then hk2
 have hAlt:=hA.lt
 have hE2lt:=hE2.lt
 have hnlt:∀i,nv.ownBlock=some i->wr.heap.size+1<=i/\i<w2.heap.size:=λi hi=>hn2.lt i hi
 have hA2:ARep w2 w.heap.size av l:=hA.keeps hkr2 (λi hi=>hD i hi)
 have hav2:∀i,av.ownBlock=some i->¬EFoot e v' ps' i:=λi hi hf=>by
  rcases hf2 i hf with h | h
  ·exact hD i (.inl hi) h
  ·have:=(hAlt i (.inl hi)).2;omega
 refine⟨hE2.keeps hka (λi hi h=>hav2 i h hi),⟨?_,?_,?_⟩,?_,?_,?_⟩
 ·rw[qLc,List.length_append];exact hown
 ·intro x hx
  rcases List.mem_append.1 hx with hx | hx
  ·exact qBe (hA2.nums x hx) hka (λi hi h=>hA.apart x hx i hi h)
  ·rw[List.mem_singleton]at hx;subst hx
   exact qBe (qH5 hn2 (by omega)) hka (λi hi h=>by have h1:=hnlt i hi;have h2:=(hAlt i (.inl h)).2;omega)
 ·intro x hx i hi h
  rw[hnb]at h;injection h with h
  rcases List.mem_append.1 hx with hx | hx
  ·rcases hat with h2 | h2
   ·exact hA.apart x hx i hi (by rw[h2,h])
   ·have:=(hAlt i (.inr ⟨x,hx,hi⟩)).2;omega
  ·rw[List.mem_singleton]at hx;subst hx
   have h1:=hnlt i hi
   rcases hat with h2 | h2
   ·have:=(hAlt gg (.inl h2)).2;omega
   ·omega
 ·refine((hKr.trans (M':=EFoot e v ps) hkr2 (λi hi hlt=>by have:=hL i hi;omega)).trans hka (λi hi hlt=>by have:=(hAlt i (.inl hi)).1;omega))
 ·intro i hi
  rcases hf2 i hi with h | h
  ·exact hL i h
  ·omega
 ·intro i hi hf
  rcases hi with hi | ⟨x,hx,hi⟩
  ·rw[hnb]at hi;injection hi with hi
   rcases hat with h2 | h2
   ·exact hav2 i (by rw[h2,hi]) hf
   ·have:=hE2lt i hf;omega
  ·rcases List.mem_append.1 hx with hx | hx
   ·rcases hf2 i hf with h | h
    ·exact hD i (.inr ⟨x,hx,hi⟩) h
    ·have:=(hAlt i (.inr ⟨x,hx,hi⟩)).2;omega
   ·rw[List.mem_singleton]at hx;subst hx
    exact hd2 i hi hf
theorem zB8(sb so cap:Nat)(ops:List OpM)(w:World)(hsc:ScriptAt w sb so ops)(hlt:sb<w.heap.size)(hlen:ops.length<=651562446090)(hT:Tab w)(hL:∀(i:Nat) o,ops[i]?=some o->qOq (i+1) o)(hstep:∀(i:Nat) (e:Nat) (v:Value) (clock:Int) (ps:List (SB×Ser)) (o:OpM) (w:World),ops[i]?=some o->(⟨clock,ps.map (·.2)⟩:WS)=qJf ws0 (ops.take i)->ERep w e v clock ps->EInv i clock (ps.map (·.2))->(i:Int)<=651562446200->Tab w->¬EFoot e v ps 2 ->
     Calls Tryz.prog 35 #[.pointer (some ⟨e,0,none⟩),o.val] w λr w'=>qFk w e v ps (qCd ⟨clock,ps.map (·.2)⟩ o).1.clock (qCd ⟨clock,ps.map (·.2)⟩ o).1.xs (qCd ⟨clock,ps.map (·.2)⟩ o).2.1 (qCd ⟨clock,ps.map (·.2)⟩ o).2.2 (qD3 ⟨clock,ps.map (·.2)⟩ o) r w'):
  Calls Tryz.prog 19 #[.slice (some ⟨sb,so,none⟩) ops.length cap] w λr w'=>∃v l,r=.returned v/\ARep w' w.heap.size v l/\l.map (λx=>(x.code,x.nums))=qUq ws0 ops/\l.map (·.bs)=qYz ws0 ops/\Keeps (λ_=>False) w w':=by
 have HSC:=hide hsc
 have HST:=hide hstep
 have HTW:=hide hT
 have HLO:=hide hL
 have hw0:=hT.lt
 clear hsc hstep hT hL
 obtain⟨i0,hi0,hz0,hz1,hz2⟩:=info_parts qYd
 go_enter Tryz.func19,Tryz.ntmps19
 generalize hn:ops.length=n at *
 have HN:=hide hn
 clear hn
 go_wp2_with (at_make;refine wpList_make_own _ rfl _ _ _ rfl w.heap.size 33 i0 _ 3 Tryz.underlying27 hi0 hz0 hz1 _ _ _ n rfl rfl rfl (by rw[hz2];omega) (by unfold maxLen;omega) (by simp) ?_;intro w1 ho1 hg1)
 rw[World.size_alloc]at ho1
 have hkw1:Keeps (λ_=>False) w w1:=((Keeps.refl (λ_=>False) w).alloc _).grown hg1 (λk hk=>by cases hk)
 have hbe:Blk w1 w.heap.size [.int .i64 0,.slice none 0 0] 56:=by
  unfold Blk
  rw[hg1.block w.heap.size (by simp) (by simp)]
  exact Blk.new w [.int .i64 0,.slice none 0 0] 56
 have HE1:=hide (show ERep w1 w.heap.size (.slice none 0 0) 0 [] from⟨hbe,World.ownsRow_nil _ _ _ _,λp hp=>by simp at hp,List.Pairwise.nil,by simp[Value.ownBlock],λp hp=>by simp at hp⟩)
 have HA1:=hide (show ARep w1 w.heap.size (.slice (some ⟨w.heap.size+1,0,none⟩) 0 n) [] from⟨ho1,λx hx=>by simp at hx,λx hx=>by simp at hx⟩)
 have HK1:=hide hkw1
 clear hg1 ho1 hkw1 hbe
 generalize hen:w.heap.size=e at *
 have HEN:=hide hen
 clear hen
 go_loopw [4,12] (λav i wr=>∃(k:Nat) (v:Value) (ps:List (SB×Ser)) (l:List Ans),k<=n/\i=.int .i64 k/\Hid (ERep wr e v (qJf ws0 (ops.take k)).clock ps)/\Hid (ps.map (·.2)=(qJf ws0 (ops.take k)).xs)/\Hid (ARep wr w.heap.size av l)/\Hid (l.map (λx=>(x.code,x.nums))=qUq ws0 (ops.take k))/\Hid (l.map (·.bs)=qYz ws0 (ops.take k))/\Hid (Keeps (λ_=>False) w wr)/\Hid (∀i,EFoot e v ps i->w.heap.size<=i)/\Hid (∀i,qUr av l i->¬EFoot e v ps i)) (λ_ i _=>n-(intOf i).toNat)
 case atStart =>
  have hen:=uh HEN
  refine⟨0,.slice none 0 0,[],[],by omega,rfl,HE1,rfl,by show ARep _ _ _ _;rw[hen];exact uh HA1,rfl,rfl,HK1,λi hi=>?_,λi hi hf=>?_⟩
  ·rcases hi with hi | hi | ⟨p,hp,_⟩
   ·omega
   ·simp[Value.ownBlock]at hi
   ·simp at hp
  ·have hie:i=e:=by
    rcases hf with hf | hf | ⟨p,hp,_⟩
    ·exact hf
    ·simp[Value.ownBlock]at hf
    ·simp at hp
   rcases hi with hi | ⟨x,hx,_⟩
   ·have:e+1=i:=by simpa[Value.ownBlock] using hi
    omega
   ·simp at hx
 case round =>
  obtain⟨k,v,ps,l,hk,rfl,HEr,HXr,HAr,HMr,HBr,HKr,HLr,HDr⟩:=hrel
  generalize u4=av at *
  by_cases hkn:k<n
  ·obtain⟨o,ho⟩:∃o,ops[k]?=some o:=⟨ops[k]'(by rw[uh HN];exact hkn),List.getElem?_eq_getElem _⟩
   have HO:=hide ho
   have hsb:=qAo (uh HSC k o ho)
   have hkp:=qBb (o:=so+k*26) (n:=26) (uh HKr) (λh=>h) (by rw[uh HEN];exact hlt)
   have hv0:qAq wr sb (so+k*26) 26=.agg o.cells.toArray:=by
    rw[hkp.1];unfold qAq
    have:=hsb.1
    rw[show o.cells.length=26 from rfl]at this
    rw[this]
   have hh0:qAw wr sb (so+k*26) 26=true:=by rw[hkp.2];exact hsb.2
   have hst:∀zs:List Value,zs.length=26->(qC7 40 (.pointer (some ⟨wr.heap.size,0,none⟩)) (.agg o.cells.toArray)).run Tryz.prog (wr.alloc (.cells zs.toArray 40))=.ok .skip (wr.alloc (.cells o.cells.toArray 40)):=λzs hz=>qKz wr zs o.cells hz rfl (qL1 o)
   have hv1:qAq (wr.alloc (.cells o.cells.toArray 40)) wr.heap.size 0 26=.agg o.cells.toArray:=qAg wr o.cells 40 26 rfl
   have hh1:qAw (wr.alloc (.cells o.cells.toArray 40)) wr.heap.size 0 26=true:=qC4 wr o.cells 40 26 rfl
   have hk0:(0:Int)<=(k:Int):=by omega
   have hkn':(k:Int)<(n:Int):=by omega
   clear ho hsb hkp
   go_wp2_with fail
   have hkl:(ops.take k).length=k:=by rw[List.length_take,uh HN];omega
   have hinv:EInv (k:Int) (qJf ws0 (ops.take k)).clock (ps.map (·.2)):=by
    have:=zAr (ops.take k) inv0 (by omega) (λi o ho=>by
       have h1:=uh HLO i o (by rw[List.getElem?_take]at ho;split at ho;exact ho;cases ho)
       rw[show(0:Int)+(i:Int)+1=(i:Int)+1 by omega]
       exact h1)
    rw[hkl]at this
    rw[uh HXr]
    simpa using this
   have hws:(⟨(qJf ws0 (ops.take k)).clock,ps.map (·.2)⟩:WS)=qJf ws0 (ops.take k):=by rw[uh HXr]
   have hst2:=uh HST k e v (qJf ws0 (ops.take k)).clock ps o (wr.alloc (.cells o.cells.toArray 40)) (uh HO) hws ((uh HEr).still ((Keeps.refl (λ_=>False) wr).alloc _)) hinv (by omega) (((uh HTW).keeps (uh HKr) (λh=>h)).keeps ((Keeps.refl (λ_=>False) wr).alloc _) (λh=>h)) (λh=>by have h1:=uh HLr 2 h;have h2:=uh HEN;omega)
   rw[hws]at hst2
   refine hst2.mono ?_
   clear hst2 hinv hws
   have htk:ops.take (k+1)=ops.take k++[o]:=by
    have ho:=uh HO
    rw[List.take_add_one,ho];rfl
   have HSN:=hide (show qJf ws0 (ops.take (k+1))=(qCd (qJf ws0 (ops.take k)) o).1 by rw[htk,qXy])
   have HRN:=hide (show qUq ws0 (ops.take (k+1))=qUq ws0 (ops.take k)++[(qCd (qJf ws0 (ops.take k)) o).2] by rw[htk,qYo])
   have HBN:=hide (show qYz ws0 (ops.take (k+1))=qYz ws0 (ops.take k)++[qD3 (qJf ws0 (ops.take k)) o] by rw[htk,qWn])
   clear htk hv0 hh0 hst hv1 hh1
   generalize hbm:qD3 (qJf ws0 (ops.take k)) o=bm at *
   generalize hsm:qCd (qJf ws0 (ops.take k)) o=sm at *
   obtain⟨s',code,nums⟩:=sm
   rintro r w2 ⟨nv,v',ps',rfl,hE2,hx2,hn2,hk2,hf2,hd2⟩
   obtain⟨na,ncap,hnv⟩:=qE2 hn2
   subst hnv
   unfold zEw
   have hlk:l.length=k:=by
    have:=congrArg List.length (uh HMr)
    rw[List.length_map,qSb,hkl]at this
    exact this
   have HLK:=hide hlk
   have HOW:=hide (show w2.ownsRow w.heap.size 33 3 av k (qDp l) by
      have h1:=(uh HAr).row
      rw[hlk]at h1
      exact qBe h1 (((Keeps.refl (EFoot e v ps) wr).alloc _).then hk2) (λi hi=>uh HDr i (.inl hi)))
   have HE2:=hide hE2
   have HX2:=hide hx2
   have HN2:=hide hn2
   have HK2:=hide hk2
   have HF2:=hide hf2
   have HD2:=hide hd2
   have hb2:w.heap.size<=w2.heap.size:=by have h1:=(uh HKr).size;have h2:=hk2.size;rw[World.size_alloc]at h2;omega
   clear hE2 hx2 hn2 hk2 hf2 hd2 hlk hkl hsm hbm
   go_wp2_with (at_builtin;refine wpList_append_lies _ rfl _ _ _ rfl w.heap.size 33 i0 _ 3 48 Tryz.underlying27 hi0 hz0 hz1 hz2 rfl (by omega) av k (qDp l) rfl ((uh HOW).alloc _) ⟨w2.heap.size,0,none⟩ 1 1 [.int .i64 code,.slice na nums.length ncap,.string bm] rfl rfl (World.news_of_block (cs:=#[.int .i64 code,.slice na nums.length ncap,.string bm]) (t:=33) (fr:=(0,0)) (heap_alloc_new w2 _)) (by simp[Value.oneCell']) (by omega) (by unfold maxLen;omega) (by omega) (by simp;omega) (w2.heap.size+1) (by simp) ?_;intro gg cap' w3 hown3 hgrow hat hl3)
   go_roundw
   case rel =>
    have hlk:=uh HLK
    have hrr:=qQb (code:=code) (bs:=bm) (av':=.slice (some ⟨gg,0,none⟩) (k+1) cap') (uh HKr) (uh HAr) (uh HLr) (uh HDr) (uh HE2) (uh HN2) (uh HK2) (uh HF2) (uh HD2) (by rw[hlk]) (by rw[hlk];exact hown3) hgrow hat
    obtain⟨g1,g2,g3,g4,g5⟩:=hrr
    have hsn:=uh HSN
    have hrn:=uh HRN
    have hbn:=uh HBN
    refine⟨k+1,v',ps',l++[(⟨code,.slice na nums.length ncap,nums,bm⟩:Ans)],by omega,by go_num,?_,?_,hide g2,?_,?_,hide g3,hide g4,hide g5⟩
    ·show ERep _ _ _ _ _;rw[hsn];exact g1
    ·show _=_;rw[hsn];exact uh HX2
    ·show _=_;rw[hrn,List.map_append,uh HMr];rfl
    ·show _=_;rw[hbn,List.map_append,uh HBr];rfl
   case measure=>simp[intOf];omega
  ·have hkk:k=n:=by omega
   subst hkk
   go_wp2
   go_ret
   refine⟨av,l,rfl,uh HAr,?_,?_,uh HKr⟩
   ·have:=uh HMr
    rwa [List.take_of_length_le (by rw[uh HN];omega)]at this
   ·have:=uh HBr
    rwa [List.take_of_length_le (by rw[uh HN];omega)]at this
end
section
open Go.RowKit
theorem qF1{w:World}{base:Nat}{v:Value}{l:List Int}(h:w.ownsRow base 3 1 v l.length (ints l)): (l=[]/\∃a c,v=.slice a 0 c)\/∃g c,v=.slice (some ⟨g,0,none⟩) l.length c/\∀i,i<l.length->w.cell? ⟨g,i,none⟩=some (.int .i64 (l.getD i 0)):=by
 rcases h.2 with ⟨h1,h2⟩ | ⟨g,cap,cur,h1,_,h3,h4,h5,h6,h7⟩
 ·exact .inl ⟨List.length_eq_zero_iff.1 h2,none,0,h1⟩
 ·refine .inr ⟨g,cap,h1,λi hi=>?_⟩
  have hc:cur[i]?=(ints l)[i]?:=by
   rw[<-h7,List.getElem?_take,if_pos (by omega)];simp
  have:cur[i]?=some (.int .i64 (l.getD i 0)):=by
   rw[hc];unfold ints;rw[List.getElem?_map,List.getElem?_eq_getElem hi,List.getD_eq_getElem?_getD,List.getElem?_eq_getElem hi];rfl
  simp[World.cell?,h3,this]
theorem qW2(b1 b2:Nat)(v1 v2:Value)(l:List Int)(w:World)(h1:w.ownsRow b1 3 1 v1 l.length (ints l))(h2:w.ownsRow b2 3 1 v2 l.length (ints l))(hl:l.length<=1000):
  Calls Tryz.prog 23 #[v1,v2] w λe w'=>e=.returned (.bool true)/\Keeps (λ_=>False) w w':=by
 rcases qF1 h1 with ⟨rfl,a1,c1,rfl⟩ | ⟨g1,c1,rfl,hc1⟩
 ·rcases qF1 h2 with ⟨_,a2,c2,rfl⟩ | ⟨g2,c2,rfl,hc2⟩
  all_goals
   clear h1 h2
   go_enter Tryz.func23,Tryz.ntmps23
   go_wp2
   go_loopw [5] (λi wr=>i=.int .i64 0/\wr=w) (λ_ _=>0)
   case atStart=>exact⟨rfl,rfl⟩
   case round =>
    obtain⟨rfl,rfl⟩:=hrel
    go_wp2
    go_ret
    exact⟨rfl,Keeps.refl _ _⟩
 ·rcases qF1 h2 with ⟨h0,a2,c2,rfl⟩ | ⟨g2,c2,rfl,hc2⟩
  ·subst h0
   clear h1 h2 hc1
   go_enter Tryz.func23,Tryz.ntmps23
   go_wp2
   go_loopw [5] (λi wr=>i=.int .i64 0/\wr=w) (λ_ _=>0)
   case atStart=>exact⟨rfl,rfl⟩
   case round =>
    obtain⟨rfl,rfl⟩:=hrel
    go_wp2
    go_ret
    exact⟨rfl,Keeps.refl _ _⟩
  ·have HC1:=hide hc1
   have HC2:=hide hc2
   clear h1 h2 hc1 hc2
   generalize hn:l.length=n at *
   clear hn
   go_enter Tryz.func23,Tryz.ntmps23
   go_wp2
   go_loopw [5] (λi wr=>∃k:Nat,k<=n/\i=.int .i64 k/\Hid (Keeps (λ_=>False) w wr)) (λi _=>n-(intOf i).toNat)
   case atStart=>exact⟨0,by omega,rfl,Keeps.refl _ _⟩
   case round =>
    obtain⟨k,hk,rfl,HK⟩:=hrel
    by_cases hlt:k<n
    ·have x1:wr.cell? ⟨g1,k,none⟩=some (.int .i64 (l.getD k 0)):=(uh HK).cell (uh HC1 k hlt) (λh=>h)
     have x2:wr.cell? ⟨g2,k,none⟩=some (.int .i64 (l.getD k 0)):=(uh HK).cell (uh HC2 k hlt) (λh=>h)
     generalize l.getD k 0=y at *
     have hk0:(0:Int)<=(k:Int):=by omega
     have hkn:(k:Int)<(n:Int):=by omega
     have hne:(y !=y)=false:=by simp
     go_wp2
     go_quiet (fail)
     go_wp2
     go_roundw
     case rel=>exact⟨k+1,by omega,by go_num,hide ((uh HK).then (Keeps.drewN _ _ _))⟩
     case measure=>simp[intOf];omega
    ·go_wp2
     go_ret
     exact⟨rfl,uh HK⟩
theorem qZz(c n:Int)(w:World)(hn:1<=n)(hn':n<=4611686018427387904)(c0:-9223372036854775808<=c)(c1:c<=9223372036854775807):
  Calls Tryz.prog 18 #[.int .i64 c,.int .i64 n] w λe w'=>∃k:Nat,(k:Int)<n/\e=.returned (.int .i64 k)/\w'=w:=by
 by_cases h:c<0
 ·obtain⟨k,hk⟩:∃k:Nat,(k:Int)=(-(c+1))%n:=⟨((-(c+1))%n).toNat,Int.toNat_of_nonneg (Int.emod_nonneg _ (by omega))⟩
  have hlt:=Int.emod_lt_of_pos (-(c+1)) (show 0<n by omega)
  have HK:=hide hk
  clear hk
  go_enter Tryz.func18,Tryz.ntmps18
  go_wp2
  go_ret
  exact⟨k,by rw[uh HK];exact hlt,qA6 ((Int.neg_tmod (c+1) n).symm.trans ((Int.tmod_eq_emod_of_nonneg (by omega)).trans (uh HK).symm)),rfl⟩
 ·obtain⟨k,hk⟩:∃k:Nat,(k:Int)=c%n:=⟨(c%n).toNat,Int.toNat_of_nonneg (Int.emod_nonneg _ (by omega))⟩
  have hlt:=Int.emod_lt_of_pos c (show 0<n by omega)
  have HK:=hide hk
  clear hk
  go_enter Tryz.func18,Tryz.ntmps18
  go_wp2
  go_ret
  exact⟨k,by rw[uh HK];exact hlt,qA6 (uh HK).symm,rfl⟩
theorem qVp{wa w2 w3:World}{O:Obj}{e:Nat}{v nv:Value}{clock:Int}{ps:List (SB×Ser)}{b2:SB}{x:Ser}{gg m cap':Nat}(hE:ERep wa e v clock ps)(hm:ps.length=m)(hnv:nv=.slice (some ⟨gg,0,none⟩) (m+1) cap')(hs2:SRep w2 b2 x)(hft:∀i,b2.foot x.k i->wa.heap.size<=i)(hk2:Keeps (λ_=>False) wa w2)(hown:w3.ownsRow 0 73 1 nv (m+1) (ptrs ps++[.pointer (some ⟨b2.s,0,none⟩)]))(hgrow:(w2.alloc O).grownBy w3 v.ownBlock)(hat:v.ownBlock=some gg\/gg=w2.heap.size+1):
  ERep (w3.setCell ⟨e,1,none⟩ nv) e nv clock (ps++[(b2,x)])/\Keeps (EFoot e v ps) wa (w3.setCell ⟨e,1,none⟩ nv)/\(∀i,EFoot e nv (ps++[(b2,x)]) i->EFoot e v ps i\/wa.heap.size<=i):=by
 have hsz:=hk2.size
 have hnb:nv.ownBlock=some gg:=by rw[hnv];rfl
 have hk3:Keeps (λi=>v.ownBlock=some i) wa w3:=((hk2.mono (M':=λi=>v.ownBlock=some i) (λ_ _ h=>h.elim)).alloc O).grown hgrow (λk hk=>Or.inl hk)
 have hk4:Keeps (λi=>i=e) w3 (w3.setCell ⟨e,1,none⟩ nv):=(Keeps.refl (λi=>i=e) w3).setCell (p:=⟨e,1,none⟩) (Or.inl rfl) _
 have hele:=hE.blk.lt
 have hge:gg≠e:=by
  rcases hat with h | h
  ·intro he;exact hE.ev (by rw[h,he])
  ·omega
 have hrowlt:∀i,v.ownBlock=some i->i<wa.heap.size:=λi hi=>hE.lt i (.inr (.inl hi))
 have hsnew:SRep w3 b2 x:=(hs2.still ((Keeps.refl (λ_=>False) w2).alloc O)).keeps (M:=λi=>v.ownBlock=some i) ⟨hgrow.os,hgrow.tape,hgrow.output,hgrow.size,λk hk hn=>hgrow.block k hk (λh=>hn h.symm)⟩ (λi hi h=>by have h1:=hft i hi;have h2:=hrowlt i h;omega)
 refine⟨⟨?_,?_,?_,?_,?_,?_⟩,?_,?_⟩
 ·exact(hE.blk.keeps hk3 (λh=>hE.ev h)).setCell 1 nv
 ·have:=qBe hown hk4 (λi hi h=>by rw[hnb]at hi;injection hi with hi;omega)
  rw[qKq,List.length_append,hm]
  exact this
 ·intro p hp
  rcases List.mem_append.1 hp with hp | hp
  ·exact((hE.reps p hp).keeps hk3 (λi hi h=>(hE.ef p hp i hi).2 h)).keeps hk4 (λi hi h=>(hE.ef p hp i hi).1 h)
  ·rw[List.mem_singleton]at hp;subst hp
   exact hsnew.keeps hk4 (λi hi h=>by have:=hft i hi;omega)
 ·refine List.pairwise_append.2 ⟨hE.apart,List.pairwise_singleton _ _,?_⟩
  intro p hp q hq i hi hqi
  rw[List.mem_singleton]at hq;subst hq
  have h1:=(hE.reps p hp).lt i hi
  have h2:=hft i hqi
  omega
 ·rw[hnb];intro h;injection h with h;exact hge h
 ·intro p hp i hi
  rw[hnb]
  rcases List.mem_append.1 hp with hp | hp
  ·refine⟨(hE.ef p hp i hi).1,λh=>?_⟩
   injection h with h
   have h1:=(hE.reps p hp).lt i hi
   rcases hat with h2 | h2
   ·exact(hE.ef p hp i hi).2 (by rw[h2,h])
   ·omega
  ·rw[List.mem_singleton]at hp;subst hp
   have h1:=hft i hi
   have h2:=hs2.lt i hi
   refine⟨by omega,λh=>?_⟩
   injection h with h
   rcases hat with h3 | h3
   ·have:=hrowlt gg h3;omega
   ·omega
 ·exact(hk3.mono (M':=EFoot e v ps) (λi _ h=>.inr (.inl h))).trans hk4 (λi hi _=>.inl hi)
 ·intro i hi
  rcases hi with hi | hi | ⟨p,hp,hi⟩
  ·exact .inl (.inl hi)
  ·rw[hnb]at hi;injection hi with hi
   rcases hat with h | h
   ·exact .inl (.inr (.inl (by rw[h,hi])))
   ·exact .inr (by omega)
  ·rcases List.mem_append.1 hp with hp | hp
   ·exact .inl (.inr (.inr ⟨p,hp,hi⟩))
   ·rw[List.mem_singleton]at hp;subst hp
    exact .inr (hft i hi)
end
end Go.Proofs.YtahnliehdjncdaaGreatDoor
