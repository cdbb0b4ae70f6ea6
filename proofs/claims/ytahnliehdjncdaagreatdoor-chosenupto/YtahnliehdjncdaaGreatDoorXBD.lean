import Derived.Test.YtahnliehdjncdaaGreatDoorXBC
set_option maxRecDepth 100000
set_option maxHeartbeats 16000000
namespace Go.Proofs.YtahnliehdjncdaaGreatDoor
section
open Go.RowKit
attribute [local go_sem ↓] qAd qAe
attribute [local go_sem] qAh qAi qAb qAc qAp qAo qAk qAj qAf qAl
theorem qHf{c:Cfg}(h:qA4 c=true): ∃k:Nat,c.kind=k/\1<=k/\k<=5/\qEb c=true/\qEx c k=true:=by
 simp only[qA4,Bool.and_eq_true]at h
 obtain⟨h1,h2,h3⟩:=h
 obtain⟨a,b⟩:=qDp h1
 refine⟨c.kind.toNat,by omega,by omega,by omega,h2,h3⟩
theorem qSg(c:Cfg)(w:World)(h:qA4 c=false):
  Calls Tryz.prog 60 #[c.val] w λe w'=>e=.returned (.tuple #[.agg #[.nilFunc,.nilFunc,.nilFunc,.nilFunc,.nilFunc,.nilFunc],.bool false])/\Keeps (λ_=>False) w w':=by
 cases h1:inB c.kind 1 5
 ·exact qP4 c w h1
 ·obtain⟨a,b⟩:=qDp h1
  have hk:c.kind=(c.kind.toNat:Int):=by omega
  cases h2:qEb c
  ·exact qQj c c.kind.toNat w hk (by omega) (by omega) h2
  ·cases h3:qEx c c.kind.toNat
   ·exact qQz c c.kind.toNat w hk (by omega) (by omega) h2 h3
   ·simp[qA4,h1,h2,h3]at h
theorem qTy(n:Int)(e:Nat)(v:Value)(clock:Int)(ps:List (SB×Ser))(o:OpM)(w:World)(h:ERep w e v clock ps)(hi:EInv n clock (ps.map (·.2)))(hid:inB o.id 0 99=false):
  Calls Tryz.prog 42 #[.pointer (some ⟨e,0,none⟩),o.val] w λr w'=>StepPost w e v ps clock (ps.map (·.2)) 2 [] r w':=by
 have h1:o.cells[1]?=some (.int .i64 o.id):=rfl
 have HE:=hide h
 have HI:=hide hi
 have hl:ps.length<=1000:=by have:=hi.six;rw[List.length_map]at this;omega
 clear h hi
 unfold OpM.val
 go_enter Tryz.func42,Tryz.ntmps42
 go_wp2_with fail
 have hk0:Keeps (λ_=>False) w ((w.alloc (.cells o.cells.toArray 40)).alloc (.cells #[.int .i64 0,.slice none 0 0,.string ⟨#[]⟩] 33)):=((Keeps.refl (λ_=>False) w).alloc _).alloc _
 have HO0:=hide (show Blk ((w.alloc (.cells o.cells.toArray 40)).alloc (.cells #[.int .i64 0,.slice none 0 0,.string ⟨#[]⟩] 33)) w.heap.size o.cells 40 from(Blk.new w o.cells 40).alloc _)
 have HR0:=hide (show Blk ((w.alloc (.cells o.cells.toArray 40)).alloc (.cells #[.int .i64 0,.slice none 0 0,.string ⟨#[]⟩] 33)) (w.heap.size+1) [.int .i64 0,.slice none 0 0,.string qAa] 33 from Blk.newAt (by simp) [_,_,_] 33)
 have HE0:=hide ((uh HE).still hk0)
 have HK0:=hide hk0
 clear hk0
 generalize(w.alloc (.cells o.cells.toArray 40)).alloc (.cells #[.int .i64 0,.slice none 0 0,.string ⟨#[]⟩] 33)=w0 at *
 have HLT:=hide (show ∀i,EFoot e v ps i->i<w.heap.size from(uh HE).lt)
 generalize hob:w.heap.size=ob at *
 have HOB:=hide hob
 clear hob
 have hsz0:ob+1<w0.heap.size:=(uh HR0).lt
 refine(qAg _ _ _ w0).mono ?_
 rintro r w1 ⟨rfl,hw1⟩
 rw[hw1,hid]
 clear hw1 w1
 go_wp2_with fail
 refine(qF1 2 w0).mono ?_
 rintro r w1 ⟨rfl,hk1⟩
 unfold qCs
 have HR1:=hide ((uh HR0).keeps hk1 (λh=>h))
 have HK1:=hide ((uh HK0).then hk1)
 clear hk1
 have r0:w1.cell? ⟨ob+1,0,none⟩=some (.int .i64 0):=(uh HR1).cell rfl
 have r1:w1.cell? ⟨ob+1,1,none⟩=some (.slice none 0 0):=(uh HR1).cell rfl
 have r2:w1.cell? ⟨ob+1,2,none⟩=some (.string qAa):=(uh HR1).cell rfl
 have rf:=(uh HR1).frozen
 go_wp2
 have hbf:=(((uh HR1).setCell 0 (.int .i64 2)).setCell 1 (.slice none 0 0)).setCell 2 (.string qAa)
 have HKF:=hide ((((Keeps.refl (λi=>i=ob+1) w1).setCell (p:=⟨ob+1,0,none⟩) (Or.inl rfl) (.int .i64 2)).setCell (p:=⟨ob+1,1,none⟩) (Or.inl rfl) (.slice none 0 0)).setCell (p:=⟨ob+1,2,none⟩) (Or.inl rfl) (.string qAa))
 have e9:(((w1.setCell ⟨ob+1,0,none⟩ (.int .i64 2)).setCell ⟨ob+1,1,none⟩ (.slice none 0 0)).setCell ⟨ob+1,2,none⟩ (.string ⟨#[]⟩))=(((w1.setCell ⟨ob+1,0,none⟩ (.int .i64 2)).setCell ⟨ob+1,1,none⟩ (.slice none 0 0)).setCell ⟨ob+1,2,none⟩ (.string qAa)):=rfl
 first | rw[e9] | skip
 generalize(((w1.setCell ⟨ob+1,0,none⟩ (.int .i64 2)).setCell ⟨ob+1,1,none⟩ (.slice none 0 0)).setCell ⟨ob+1,2,none⟩ (.string qAa))=w9 at *
 have q0:w9.cell? ⟨ob+1,0,none⟩=some (.int .i64 2):=hbf.cell rfl
 have q1:w9.cell? ⟨ob+1,1,none⟩=some (.slice none 0 0):=hbf.cell rfl
 have q2:w9.cell? ⟨ob+1,2,none⟩=some (.string qAa):=hbf.cell rfl
 refine bodyPost_ret (v:=qCs 2 (.slice none 0 0)) (by simp[results,Tryz.results42,go_sem,q0,q1,q2,qCs]) rfl ?_
 have hkf:=uh HKF
 have hob:=uh HOB
 have hkk:Keeps (λ_=>False) w w9:=(uh HK1).trans hkf (λi hi hlt=>by omega)
 exact qBx (uh HE) hkk (World.ownsRow_nil _ _ _ _)
theorem qOi(n:Int)(e:Nat)(v:Value)(clock:Int)(ps:List (SB×Ser))(o:OpM)(w:World)(h:ERep w e v clock ps)(hi:EInv n clock (ps.map (·.2)))(hid:inB o.id 0 99=true)(p:SB×Ser)(hf:qD0 ps o.id=some p):
  Calls Tryz.prog 42 #[.pointer (some ⟨e,0,none⟩),o.val] w λr w'=>StepPost w e v ps clock (ps.map (·.2)) 2 [] r w':=by
 have h1:o.cells[1]?=some (.int .i64 o.id):=rfl
 have HE:=hide h
 have HI:=hide hi
 have hl:ps.length<=1000:=by have:=hi.six;rw[List.length_map]at this;omega
 have HF:=hide hf
 clear h hi hf
 unfold OpM.val
 go_enter Tryz.func42,Tryz.ntmps42
 go_wp2_with fail
 have hk0:Keeps (λ_=>False) w ((w.alloc (.cells o.cells.toArray 40)).alloc (.cells #[.int .i64 0,.slice none 0 0,.string ⟨#[]⟩] 33)):=((Keeps.refl (λ_=>False) w).alloc _).alloc _
 have HO0:=hide (show Blk ((w.alloc (.cells o.cells.toArray 40)).alloc (.cells #[.int .i64 0,.slice none 0 0,.string ⟨#[]⟩] 33)) w.heap.size o.cells 40 from(Blk.new w o.cells 40).alloc _)
 have HR0:=hide (show Blk ((w.alloc (.cells o.cells.toArray 40)).alloc (.cells #[.int .i64 0,.slice none 0 0,.string ⟨#[]⟩] 33)) (w.heap.size+1) [.int .i64 0,.slice none 0 0,.string qAa] 33 from Blk.newAt (by simp) [_,_,_] 33)
 have HE0:=hide ((uh HE).still hk0)
 have HK0:=hide hk0
 clear hk0
 generalize(w.alloc (.cells o.cells.toArray 40)).alloc (.cells #[.int .i64 0,.slice none 0 0,.string ⟨#[]⟩] 33)=w0 at *
 have HLT:=hide (show ∀i,EFoot e v ps i->i<w.heap.size from(uh HE).lt)
 generalize hob:w.heap.size=ob at *
 have HOB:=hide hob
 clear hob
 have hsz0:ob+1<w0.heap.size:=(uh HR0).lt
 refine(qAg _ _ _ w0).mono ?_
 rintro r w1 ⟨rfl,hw1⟩
 rw[hw1,hid]
 clear hw1 w1
 have hoi:w0.cell? ⟨ob,1,none⟩=some (.int .i64 o.id):=(uh HO0).cell rfl
 go_wp2_with fail
 refine(qDn e v clock o.id ps w0 (uh HE0) hl).mono ?_
 rintro r w1 ⟨rfl,hw1⟩
 rw[hw1,uh HF]
 clear hw1 w1
 unfold qI6
 go_wp2_with fail
 refine(qF1 2 w0).mono ?_
 rintro r w1 ⟨rfl,hk1⟩
 unfold qCs
 have HR1:=hide ((uh HR0).keeps hk1 (λh=>h))
 have HK1:=hide ((uh HK0).then hk1)
 clear hk1
 have r0:w1.cell? ⟨ob+1,0,none⟩=some (.int .i64 0):=(uh HR1).cell rfl
 have r1:w1.cell? ⟨ob+1,1,none⟩=some (.slice none 0 0):=(uh HR1).cell rfl
 have r2:w1.cell? ⟨ob+1,2,none⟩=some (.string qAa):=(uh HR1).cell rfl
 have rf:=(uh HR1).frozen
 go_wp2
 have hbf:=(((uh HR1).setCell 0 (.int .i64 2)).setCell 1 (.slice none 0 0)).setCell 2 (.string qAa)
 have HKF:=hide ((((Keeps.refl (λi=>i=ob+1) w1).setCell (p:=⟨ob+1,0,none⟩) (Or.inl rfl) (.int .i64 2)).setCell (p:=⟨ob+1,1,none⟩) (Or.inl rfl) (.slice none 0 0)).setCell (p:=⟨ob+1,2,none⟩) (Or.inl rfl) (.string qAa))
 have e9:(((w1.setCell ⟨ob+1,0,none⟩ (.int .i64 2)).setCell ⟨ob+1,1,none⟩ (.slice none 0 0)).setCell ⟨ob+1,2,none⟩ (.string ⟨#[]⟩))=(((w1.setCell ⟨ob+1,0,none⟩ (.int .i64 2)).setCell ⟨ob+1,1,none⟩ (.slice none 0 0)).setCell ⟨ob+1,2,none⟩ (.string qAa)):=rfl
 first | rw[e9] | skip
 generalize(((w1.setCell ⟨ob+1,0,none⟩ (.int .i64 2)).setCell ⟨ob+1,1,none⟩ (.slice none 0 0)).setCell ⟨ob+1,2,none⟩ (.string qAa))=w9 at *
 have q0:w9.cell? ⟨ob+1,0,none⟩=some (.int .i64 2):=hbf.cell rfl
 have q1:w9.cell? ⟨ob+1,1,none⟩=some (.slice none 0 0):=hbf.cell rfl
 have q2:w9.cell? ⟨ob+1,2,none⟩=some (.string qAa):=hbf.cell rfl
 refine bodyPost_ret (v:=qCs 2 (.slice none 0 0)) (by simp[results,Tryz.results42,go_sem,q0,q1,q2,qCs]) rfl ?_
 have hkf:=uh HKF
 have hob:=uh HOB
 have hkk:Keeps (λ_=>False) w w9:=(uh HK1).trans hkf (λi hi hlt=>by omega)
 exact qBx (uh HE) hkk (World.ownsRow_nil _ _ _ _)
theorem qNp(n:Int)(e:Nat)(v:Value)(clock:Int)(ps:List (SB×Ser))(o:OpM)(w:World)(h:ERep w e v clock ps)(hi:EInv n clock (ps.map (·.2)))(hid:inB o.id 0 99=true)(hf:qD0 ps o.id=none)(hv:qA4 o.cfg=false):
  Calls Tryz.prog 42 #[.pointer (some ⟨e,0,none⟩),o.val] w λr w'=>StepPost w e v ps clock (ps.map (·.2)) 3 [] r w':=by
 have h1:o.cells[1]?=some (.int .i64 o.id):=rfl
 have HE:=hide h
 have HI:=hide hi
 have hl:ps.length<=1000:=by have:=hi.six;rw[List.length_map]at this;omega
 have HF:=hide hf
 clear h hi hf
 unfold OpM.val
 go_enter Tryz.func42,Tryz.ntmps42
 go_wp2_with fail
 have hk0:Keeps (λ_=>False) w ((w.alloc (.cells o.cells.toArray 40)).alloc (.cells #[.int .i64 0,.slice none 0 0,.string ⟨#[]⟩] 33)):=((Keeps.refl (λ_=>False) w).alloc _).alloc _
 have HO0:=hide (show Blk ((w.alloc (.cells o.cells.toArray 40)).alloc (.cells #[.int .i64 0,.slice none 0 0,.string ⟨#[]⟩] 33)) w.heap.size o.cells 40 from(Blk.new w o.cells 40).alloc _)
 have HR0:=hide (show Blk ((w.alloc (.cells o.cells.toArray 40)).alloc (.cells #[.int .i64 0,.slice none 0 0,.string ⟨#[]⟩] 33)) (w.heap.size+1) [.int .i64 0,.slice none 0 0,.string qAa] 33 from Blk.newAt (by simp) [_,_,_] 33)
 have HE0:=hide ((uh HE).still hk0)
 have HK0:=hide hk0
 clear hk0
 generalize(w.alloc (.cells o.cells.toArray 40)).alloc (.cells #[.int .i64 0,.slice none 0 0,.string ⟨#[]⟩] 33)=w0 at *
 have HLT:=hide (show ∀i,EFoot e v ps i->i<w.heap.size from(uh HE).lt)
 generalize hob:w.heap.size=ob at *
 have HOB:=hide hob
 clear hob
 have hsz0:ob+1<w0.heap.size:=(uh HR0).lt
 refine(qAg _ _ _ w0).mono ?_
 rintro r w1 ⟨rfl,hw1⟩
 rw[hw1,hid]
 clear hw1 w1
 have hoi:w0.cell? ⟨ob,1,none⟩=some (.int .i64 o.id):=(uh HO0).cell rfl
 go_wp2_with fail
 refine(qDn e v clock o.id ps w0 (uh HE0) hl).mono ?_
 rintro r w1 ⟨rfl,hw1⟩
 rw[hw1,uh HF]
 clear hw1 w1
 unfold qI6
 obtain⟨hv0,hh0⟩:=qA0 (uh HO0) 5 20 o.cfg.cells rfl rfl
 go_wp2_with fail
 refine(qSg o.cfg w0 hv).mono ?_
 rintro r w1 ⟨rfl,hk1⟩
 have hka:Keeps (λ_=>False) w0 (w1.alloc (.cells #[.nilFunc,.nilFunc,.nilFunc,.nilFunc,.nilFunc,.nilFunc] 82)):=hk1.alloc _
 have HRa:=hide ((uh HR0).keeps hka (λh=>h))
 have HKa:=hide ((uh HK0).then hka)
 clear hk1 hka hv0 hh0 hoi
 go_wp2_with fail
 refine(qF1 3 (w1.alloc (.cells #[.nilFunc,.nilFunc,.nilFunc,.nilFunc,.nilFunc,.nilFunc] 82))).mono ?_
 rintro r w2 ⟨rfl,hk1⟩
 unfold qCs
 have HR1:=hide ((uh HRa).keeps hk1 (λh=>h))
 have HK1:=hide ((uh HKa).then hk1)
 clear hk1
 have r0:w2.cell? ⟨ob+1,0,none⟩=some (.int .i64 0):=(uh HR1).cell rfl
 have r1:w2.cell? ⟨ob+1,1,none⟩=some (.slice none 0 0):=(uh HR1).cell rfl
 have r2:w2.cell? ⟨ob+1,2,none⟩=some (.string qAa):=(uh HR1).cell rfl
 have rf:=(uh HR1).frozen
 go_wp2
 have hbf:=(((uh HR1).setCell 0 (.int .i64 3)).setCell 1 (.slice none 0 0)).setCell 2 (.string qAa)
 have HKF:=hide ((((Keeps.refl (λi=>i=ob+1) w2).setCell (p:=⟨ob+1,0,none⟩) (Or.inl rfl) (.int .i64 3)).setCell (p:=⟨ob+1,1,none⟩) (Or.inl rfl) (.slice none 0 0)).setCell (p:=⟨ob+1,2,none⟩) (Or.inl rfl) (.string qAa))
 have e9:(((w2.setCell ⟨ob+1,0,none⟩ (.int .i64 3)).setCell ⟨ob+1,1,none⟩ (.slice none 0 0)).setCell ⟨ob+1,2,none⟩ (.string ⟨#[]⟩))=(((w2.setCell ⟨ob+1,0,none⟩ (.int .i64 3)).setCell ⟨ob+1,1,none⟩ (.slice none 0 0)).setCell ⟨ob+1,2,none⟩ (.string qAa)):=rfl
 first | rw[e9] | skip
 generalize(((w2.setCell ⟨ob+1,0,none⟩ (.int .i64 3)).setCell ⟨ob+1,1,none⟩ (.slice none 0 0)).setCell ⟨ob+1,2,none⟩ (.string qAa))=w9 at *
 have q0:w9.cell? ⟨ob+1,0,none⟩=some (.int .i64 3):=hbf.cell rfl
 have q1:w9.cell? ⟨ob+1,1,none⟩=some (.slice none 0 0):=hbf.cell rfl
 have q2:w9.cell? ⟨ob+1,2,none⟩=some (.string qAa):=hbf.cell rfl
 refine bodyPost_ret (v:=qCs 3 (.slice none 0 0)) (by simp[results,Tryz.results42,go_sem,q0,q1,q2,qCs]) rfl ?_
 have hkf:=uh HKF
 have hob:=uh HOB
 have hkk:Keeps (λ_=>False) w w9:=(uh HK1).trans hkf (λi hi hlt=>by omega)
 exact qBx (uh HE) hkk (World.ownsRow_nil _ _ _ _)
theorem qQb(n:Int)(e:Nat)(v:Value)(clock:Int)(ps:List (SB×Ser))(o:OpM)(w:World)(h:ERep w e v clock ps)(hi:EInv n clock (ps.map (·.2)))(hid:inB o.id 0 99=true)(hf:qD0 ps o.id=none)(hv:qA4 o.cfg=true)(h6:ps.length=6):
  Calls Tryz.prog 42 #[.pointer (some ⟨e,0,none⟩),o.val] w λr w'=>StepPost w e v ps clock (ps.map (·.2)) 4 [] r w':=by
 obtain⟨k,hk,hk1,hk5,hcm,hft⟩:=qHf hv
 have HKD:=hide hk
 clear hk
 have h1:o.cells[1]?=some (.int .i64 o.id):=rfl
 have HE:=hide h
 have HI:=hide hi
 have hl:ps.length<=1000:=by have:=hi.six;rw[List.length_map]at this;omega
 have HF:=hide hf
 clear h hi hf
 unfold OpM.val
 go_enter Tryz.func42,Tryz.ntmps42
 go_wp2_with fail
 have hk0:Keeps (λ_=>False) w ((w.alloc (.cells o.cells.toArray 40)).alloc (.cells #[.int .i64 0,.slice none 0 0,.string ⟨#[]⟩] 33)):=((Keeps.refl (λ_=>False) w).alloc _).alloc _
 have HO0:=hide (show Blk ((w.alloc (.cells o.cells.toArray 40)).alloc (.cells #[.int .i64 0,.slice none 0 0,.string ⟨#[]⟩] 33)) w.heap.size o.cells 40 from(Blk.new w o.cells 40).alloc _)
 have HR0:=hide (show Blk ((w.alloc (.cells o.cells.toArray 40)).alloc (.cells #[.int .i64 0,.slice none 0 0,.string ⟨#[]⟩] 33)) (w.heap.size+1) [.int .i64 0,.slice none 0 0,.string qAa] 33 from Blk.newAt (by simp) [_,_,_] 33)
 have HE0:=hide ((uh HE).still hk0)
 have HK0:=hide hk0
 clear hk0
 generalize(w.alloc (.cells o.cells.toArray 40)).alloc (.cells #[.int .i64 0,.slice none 0 0,.string ⟨#[]⟩] 33)=w0 at *
 have HLT:=hide (show ∀i,EFoot e v ps i->i<w.heap.size from(uh HE).lt)
 generalize hob:w.heap.size=ob at *
 have HOB:=hide hob
 clear hob
 have hsz0:ob+1<w0.heap.size:=(uh HR0).lt
 refine(qAg _ _ _ w0).mono ?_
 rintro r w1 ⟨rfl,hw1⟩
 rw[hw1,hid]
 clear hw1 w1
 have hoi:w0.cell? ⟨ob,1,none⟩=some (.int .i64 o.id):=(uh HO0).cell rfl
 go_wp2_with fail
 refine(qDn e v clock o.id ps w0 (uh HE0) hl).mono ?_
 rintro r w1 ⟨rfl,hw1⟩
 rw[hw1,uh HF]
 clear hw1 w1
 unfold qI6
 obtain⟨hv0,hh0⟩:=qA0 (uh HO0) 5 20 o.cfg.cells rfl rfl
 go_wp2_with fail
 refine(qKa o.cfg k w0 (uh HKD) hk1 hk5 hcm hft).mono ?_
 rintro r w1 ⟨rfl,hw1⟩
 unfold qA6 fn
 have hlv:∃a cap,v=.slice a 6 cap:=by
  rcases(uh HE0).row.2 with ⟨h1,h2⟩ | ⟨g,cap,cur,h1,_⟩
  ·omega
  ·exact⟨some ⟨g,0,none⟩,cap,by rw[h1,h6]⟩
 obtain⟨va,vcap,hvv⟩:=hlv
 have hka:Keeps (λ_=>False) w0 (w1.alloc (.cells #[.func (.func (qCb k)) #[] #[],.func (.func (qBe k)) #[] #[],.func (.func (qBf k)) #[] #[],.func (.func (qAz k)) #[] #[],.func (.func (qBd k)) #[] #[],.func (.func (qBk k)) #[] #[]] 82)):=hw1.alloc _
 have HRa:=hide ((uh HR0).keeps hka (λh=>h))
 have HKa:=hide ((uh HK0).then hka)
 have hc1:w1.cell? ⟨e,1,none⟩=some (.slice va 6 vcap):=by rw[<-hvv];exact((uh HE0).still hw1).blk.cell rfl
 have hle:e<w1.heap.size:=((uh HE0).still hw1).blk.lt
 clear hw1 hka hv0 hh0 hoi hvv
 go_wp2_with fail
 generalize w1.alloc (.cells #[.func (.func (qCb k)) #[] #[],.func (.func (qBe k)) #[] #[],.func (.func (qBf k)) #[] #[],.func (.func (qAz k)) #[] #[],.func (.func (qBd k)) #[] #[],.func (.func (qBk k)) #[] #[]] 82)=wa at *
 refine(qF1 4 wa).mono ?_
 rintro r w2 ⟨rfl,hk1⟩
 unfold qCs
 have HR1:=hide ((uh HRa).keeps hk1 (λh=>h))
 have HK1:=hide ((uh HKa).then hk1)
 clear hk1
 have r0:w2.cell? ⟨ob+1,0,none⟩=some (.int .i64 0):=(uh HR1).cell rfl
 have r1:w2.cell? ⟨ob+1,1,none⟩=some (.slice none 0 0):=(uh HR1).cell rfl
 have r2:w2.cell? ⟨ob+1,2,none⟩=some (.string qAa):=(uh HR1).cell rfl
 have rf:=(uh HR1).frozen
 go_wp2
 have hbf:=(((uh HR1).setCell 0 (.int .i64 4)).setCell 1 (.slice none 0 0)).setCell 2 (.string qAa)
 have HKF:=hide ((((Keeps.refl (λi=>i=ob+1) w2).setCell (p:=⟨ob+1,0,none⟩) (Or.inl rfl) (.int .i64 4)).setCell (p:=⟨ob+1,1,none⟩) (Or.inl rfl) (.slice none 0 0)).setCell (p:=⟨ob+1,2,none⟩) (Or.inl rfl) (.string qAa))
 have e9:(((w2.setCell ⟨ob+1,0,none⟩ (.int .i64 4)).setCell ⟨ob+1,1,none⟩ (.slice none 0 0)).setCell ⟨ob+1,2,none⟩ (.string ⟨#[]⟩))=(((w2.setCell ⟨ob+1,0,none⟩ (.int .i64 4)).setCell ⟨ob+1,1,none⟩ (.slice none 0 0)).setCell ⟨ob+1,2,none⟩ (.string qAa)):=rfl
 first | rw[e9] | skip
 generalize(((w2.setCell ⟨ob+1,0,none⟩ (.int .i64 4)).setCell ⟨ob+1,1,none⟩ (.slice none 0 0)).setCell ⟨ob+1,2,none⟩ (.string qAa))=w9 at *
 have q0:w9.cell? ⟨ob+1,0,none⟩=some (.int .i64 4):=hbf.cell rfl
 have q1:w9.cell? ⟨ob+1,1,none⟩=some (.slice none 0 0):=hbf.cell rfl
 have q2:w9.cell? ⟨ob+1,2,none⟩=some (.string qAa):=hbf.cell rfl
 refine bodyPost_ret (v:=qCs 4 (.slice none 0 0)) (by simp[results,Tryz.results42,go_sem,q0,q1,q2,qCs]) rfl ?_
 have hkf:=uh HKF
 have hob:=uh HOB
 have hkk:Keeps (λ_=>False) w w9:=(uh HK1).trans hkf (λi hi hlt=>by omega)
 exact qBx (uh HE) hkk (World.ownsRow_nil _ _ _ _)
end
end Go.Proofs.YtahnliehdjncdaaGreatDoor
