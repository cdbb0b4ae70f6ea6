import Derived.Test.YtahnliehdjncdaaGreatDoorXBA
import Derived.Test.YtahnliehdjncdaaGreatDoorXAQ
set_option maxRecDepth 100000
set_option maxHeartbeats 16000000
namespace Go.Proofs.YtahnliehdjncdaaGreatDoor
section
open Go.RowKit
attribute [local go_sem ↓] qAd qAe
attribute [local go_sem] qAf qAl qAc qAb qAn qAm qAi qAj qAg qAk
theorem qFx{c:Cfg}(h:qBg c=true): ∃k:Nat,c.kind=k/\1<=k/\k<=5/\qD9 c=true/\qE7 c k=true:=by
 simp only[qBg,Bool.and_eq_true]at h
 obtain⟨h1,h2,h3⟩:=h
 obtain⟨a,b⟩:=qCi h1
 refine⟨c.kind.toNat,by omega,by omega,by omega,h2,h3⟩
theorem qMt(c:Cfg)(w:World)(h:qBg c=false):
  Calls Tryz.prog 60 #[c.val] w λe w'=>e=.returned (.tuple #[.agg #[.nilFunc,.nilFunc,.nilFunc,.nilFunc,.nilFunc,.nilFunc],.bool false])/\Keeps (λ_=>False) w w':=by
 cases h1:inB c.kind 1 5
 ·exact qS9 c w h1
 ·obtain⟨a,b⟩:=qCi h1
  have hk:c.kind=(c.kind.toNat:Int):=by omega
  cases h2:qD9 c
  ·exact qRu c c.kind.toNat w hk (by omega) (by omega) h2
  ·cases h3:qE7 c c.kind.toNat
   ·exact qTv c c.kind.toNat w hk (by omega) (by omega) h2 h3
   ·simp[qBg,h1,h2,h3]at h
theorem qZv(n:Int)(e:Nat)(v:Value)(clock:Int)(ps:List (SB×Ser))(o:OpM)(w:World)(h:ERep w e v clock ps)(hi:EInv n clock (ps.map (·.2)))(hid:inB o.id 0 99=false):
  Calls Tryz.prog 42 #[.pointer (some ⟨e,0,none⟩),o.val] w λr w'=>StepPost w e v ps clock (ps.map (·.2)) 2 [] r w':=by
 have h1:o.cells[1]?=some (.int .i64 o.id):=rfl
 have HE:=hide h
 have HI:=hide hi
 have hl:ps.length<=1000:=by have:=hi.six;rw[List.length_map]at this;omega
 clear h hi
 unfold OpM.val
 go_enter Tryz.func42,Tryz.ntmps42
 go_wp2_with fail
 have hk0:Keeps (λ_=>False) w ((w.alloc (.cells o.cells.toArray 40)).alloc (.cells #[.int .i64 0,.slice none 0 0,.string ⟨#[]⟩] 33)):=((Keeps.refl (λ_=>False) w).alloc _).alloc _
 have HO0:=hide (show Blk ((w.alloc (.cells o.cells.toArray 40)).alloc (.cells #[.int .i64 0,.slice none 0 0,.string ⟨#[]⟩] 33)) w.heap.size o.cells 40 from(Blk.new w o.cells 40).alloc _)
 have HR0:=hide (show Blk ((w.alloc (.cells o.cells.toArray 40)).alloc (.cells #[.int .i64 0,.slice none 0 0,.string ⟨#[]⟩] 33)) (w.heap.size+1) [.int .i64 0,.slice none 0 0,.string qAa] 33 from Blk.newAt (by simp) [_,_,_] 33)
 have HE0:=hide ((uh HE).still hk0)
 have HK0:=hide hk0
 clear hk0
 generalize(w.alloc (.cells o.cells.toArray 40)).alloc (.cells #[.int .i64 0,.slice none 0 0,.string ⟨#[]⟩] 33)=w0 at *
 have HLT:=hide (show ∀i,EFoot e v ps i->i<w.heap.size from(uh HE).lt)
 generalize hob:w.heap.size=ob at *
 have HOB:=hide hob
 clear hob
 have hsz0:ob+1<w0.heap.size:=(uh HR0).lt
 refine(qAh _ _ _ w0).mono ?_
 rintro r w1 ⟨rfl,hw1⟩
 rw[hw1,hid]
 clear hw1 w1
 go_wp2_with fail
 refine(qFp 2 w0).mono ?_
 rintro r w1 ⟨rfl,hk1⟩
 unfold qCl
 have HR1:=hide ((uh HR0).keeps hk1 (λh=>h))
 have HK1:=hide ((uh HK0).then hk1)
 clear hk1
 have r0:w1.cell? ⟨ob+1,0,none⟩=some (.int .i64 0):=(uh HR1).cell rfl
 have r1:w1.cell? ⟨ob+1,1,none⟩=some (.slice none 0 0):=(uh HR1).cell rfl
 have r2:w1.cell? ⟨ob+1,2,none⟩=some (.string qAa):=(uh HR1).cell rfl
 have rf:=(uh HR1).frozen
 go_wp2
 have hbf:=(((uh HR1).setCell 0 (.int .i64 2)).setCell 1 (.slice none 0 0)).setCell 2 (.string qAa)
 have HKF:=hide ((((Keeps.refl (λi=>i=ob+1) w1).setCell (p:=⟨ob+1,0,none⟩) (Or.inl rfl) (.int .i64 2)).setCell (p:=⟨ob+1,1,none⟩) (Or.inl rfl) (.slice none 0 0)).setCell (p:=⟨ob+1,2,none⟩) (Or.inl rfl) (.string qAa))
 have e9:(((w1.setCell ⟨ob+1,0,none⟩ (.int .i64 2)).setCell ⟨ob+1,1,none⟩ (.slice none 0 0)).setCell ⟨ob+1,2,none⟩ (.string ⟨#[]⟩))=(((w1.setCell ⟨ob+1,0,none⟩ (.int .i64 2)).setCell ⟨ob+1,1,none⟩ (.slice none 0 0)).setCell ⟨ob+1,2,none⟩ (.string qAa)):=rfl
 first | rw[e9] | skip
 generalize(((w1.setCell ⟨ob+1,0,none⟩ (.int .i64 2)).setCell ⟨ob+1,1,none⟩ (.slice none 0 0)).setCell ⟨ob+1,2,none⟩ (.string qAa))=w9 at *
 have q0:w9.cell? ⟨ob+1,0,none⟩=some (.int .i64 2):=hbf.cell rfl
 have q1:w9.cell? ⟨ob+1,1,none⟩=some (.slice none 0 0):=hbf.cell rfl
 have q2:w9.cell? ⟨ob+1,2,none⟩=some (.string qAa):=hbf.cell rfl
 refine bodyPost_ret (v:=qCl 2 (.slice none 0 0)) (by simp[results,Tryz.results42,go_sem,q0,q1,q2,qCl]) rfl ?_
 have hkf:=uh HKF
 have hob:=uh HOB
 have hkk:Keeps (λ_=>False) w w9:=(uh HK1).trans hkf (λi hi hlt=>by omega)
 exact qBx (uh HE) hkk (World.ownsRow_nil _ _ _ _)
theorem qPy(n:Int)(e:Nat)(v:Value)(clock:Int)(ps:List (SB×Ser))(o:OpM)(w:World)(h:ERep w e v clock ps)(hi:EInv n clock (ps.map (·.2)))(hid:inB o.id 0 99=true)(p:SB×Ser)(hf:qDo ps o.id=some p):
  Calls Tryz.prog 42 #[.pointer (some ⟨e,0,none⟩),o.val] w λr w'=>StepPost w e v ps clock (ps.map (·.2)) 2 [] r w':=by
 have h1:o.cells[1]?=some (.int .i64 o.id):=rfl
 have HE:=hide h
 have HI:=hide hi
 have hl:ps.length<=1000:=by have:=hi.six;rw[List.length_map]at this;omega
 have HF:=hide hf
 clear h hi hf
 unfold OpM.val
 go_enter Tryz.func42,Tryz.ntmps42
 go_wp2_with fail
 have hk0:Keeps (λ_=>False) w ((w.alloc (.cells o.cells.toArray 40)).alloc (.cells #[.int .i64 0,.slice none 0 0,.string ⟨#[]⟩] 33)):=((Keeps.refl (λ_=>False) w).alloc _).alloc _
 have HO0:=hide (show Blk ((w.alloc (.cells o.cells.toArray 40)).alloc (.cells #[.int .i64 0,.slice none 0 0,.string ⟨#[]⟩] 33)) w.heap.size o.cells 40 from(Blk.new w o.cells 40).alloc _)
 have HR0:=hide (show Blk ((w.alloc (.cells o.cells.toArray 40)).alloc (.cells #[.int .i64 0,.slice none 0 0,.string ⟨#[]⟩] 33)) (w.heap.size+1) [.int .i64 0,.slice none 0 0,.string qAa] 33 from Blk.newAt (by simp) [_,_,_] 33)
 have HE0:=hide ((uh HE).still hk0)
 have HK0:=hide hk0
 clear hk0
 generalize(w.alloc (.cells o.cells.toArray 40)).alloc (.cells #[.int .i64 0,.slice none 0 0,.string ⟨#[]⟩] 33)=w0 at *
 have HLT:=hide (show ∀i,EFoot e v ps i->i<w.heap.size from(uh HE).lt)
 generalize hob:w.heap.size=ob at *
 have HOB:=hide hob
 clear hob
 have hsz0:ob+1<w0.heap.size:=(uh HR0).lt
 refine(qAh _ _ _ w0).mono ?_
 rintro r w1 ⟨rfl,hw1⟩
 rw[hw1,hid]
 clear hw1 w1
 have hoi:w0.cell? ⟨ob,1,none⟩=some (.int .i64 o.id):=(uh HO0).cell rfl
 go_wp2_with fail
 refine(qDm e v clock o.id ps w0 (uh HE0) hl).mono ?_
 rintro r w1 ⟨rfl,hw1⟩
 rw[hw1,uh HF]
 clear hw1 w1
 unfold qH4
 go_wp2_with fail
 refine(qFp 2 w0).mono ?_
 rintro r w1 ⟨rfl,hk1⟩
 unfold qCl
 have HR1:=hide ((uh HR0).keeps hk1 (λh=>h))
 have HK1:=hide ((uh HK0).then hk1)
 clear hk1
 have r0:w1.cell? ⟨ob+1,0,none⟩=some (.int .i64 0):=(uh HR1).cell rfl
 have r1:w1.cell? ⟨ob+1,1,none⟩=some (.slice none 0 0):=(uh HR1).cell rfl
 have r2:w1.cell? ⟨ob+1,2,none⟩=some (.string qAa):=(uh HR1).cell rfl
 have rf:=(uh HR1).frozen
 go_wp2
 have hbf:=(((uh HR1).setCell 0 (.int .i64 2)).setCell 1 (.slice none 0 0)).setCell 2 (.string qAa)
 have HKF:=hide ((((Keeps.refl (λi=>i=ob+1) w1).setCell (p:=⟨ob+1,0,none⟩) (Or.inl rfl) (.int .i64 2)).setCell (p:=⟨ob+1,1,none⟩) (Or.inl rfl) (.slice none 0 0)).setCell (p:=⟨ob+1,2,none⟩) (Or.inl rfl) (.string qAa))
 have e9:(((w1.setCell ⟨ob+1,0,none⟩ (.int .i64 2)).setCell ⟨ob+1,1,none⟩ (.slice none 0 0)).setCell ⟨ob+1,2,none⟩ (.string ⟨#[]⟩))=(((w1.setCell ⟨ob+1,0,none⟩ (.int .i64 2)).setCell ⟨ob+1,1,none⟩ (.slice none 0 0)).setCell ⟨ob+1,2,none⟩ (.string qAa)):=rfl
 first | rw[e9] | skip
 generalize(((w1.setCell ⟨ob+1,0,none⟩ (.int .i64 2)).setCell ⟨ob+1,1,none⟩ (.slice none 0 0)).setCell ⟨ob+1,2,none⟩ (.string qAa))=w9 at *
 have q0:w9.cell? ⟨ob+1,0,none⟩=some (.int .i64 2):=hbf.cell rfl
 have q1:w9.cell? ⟨ob+1,1,none⟩=some (.slice none 0 0):=hbf.cell rfl
 have q2:w9.cell? ⟨ob+1,2,none⟩=some (.string qAa):=hbf.cell rfl
 refine bodyPost_ret (v:=qCl 2 (.slice none 0 0)) (by simp[results,Tryz.results42,go_sem,q0,q1,q2,qCl]) rfl ?_
 have hkf:=uh HKF
 have hob:=uh HOB
 have hkk:Keeps (λ_=>False) w w9:=(uh HK1).trans hkf (λi hi hlt=>by omega)
 exact qBx (uh HE) hkk (World.ownsRow_nil _ _ _ _)
theorem qOr(n:Int)(e:Nat)(v:Value)(clock:Int)(ps:List (SB×Ser))(o:OpM)(w:World)(h:ERep w e v clock ps)(hi:EInv n clock (ps.map (·.2)))(hid:inB o.id 0 99=true)(hf:qDo ps o.id=none)(hv:qBg o.cfg=false):
  Calls Tryz.prog 42 #[.pointer (some ⟨e,0,none⟩),o.val] w λr w'=>StepPost w e v ps clock (ps.map (·.2)) 3 [] r w':=by
 have h1:o.cells[1]?=some (.int .i64 o.id):=rfl
 have HE:=hide h
 have HI:=hide hi
 have hl:ps.length<=1000:=by have:=hi.six;rw[List.length_map]at this;omega
 have HF:=hide hf
 clear h hi hf
 unfold OpM.val
 go_enter Tryz.func42,Tryz.ntmps42
 go_wp2_with fail
 have hk0:Keeps (λ_=>False) w ((w.alloc (.cells o.cells.toArray 40)).alloc (.cells #[.int .i64 0,.slice none 0 0,.string ⟨#[]⟩] 33)):=((Keeps.refl (λ_=>False) w).alloc _).alloc _
 have HO0:=hide (show Blk ((w.alloc (.cells o.cells.toArray 40)).alloc (.cells #[.int .i64 0,.slice none 0 0,.string ⟨#[]⟩] 33)) w.heap.size o.cells 40 from(Blk.new w o.cells 40).alloc _)
 have HR0:=hide (show Blk ((w.alloc (.cells o.cells.toArray 40)).alloc (.cells #[.int .i64 0,.slice none 0 0,.string ⟨#[]⟩] 33)) (w.heap.size+1) [.int .i64 0,.slice none 0 0,.string qAa] 33 from Blk.newAt (by simp) [_,_,_] 33)
 have HE0:=hide ((uh HE).still hk0)
 have HK0:=hide hk0
 clear hk0
 generalize(w.alloc (.cells o.cells.toArray 40)).alloc (.cells #[.int .i64 0,.slice none 0 0,.string ⟨#[]⟩] 33)=w0 at *
 have HLT:=hide (show ∀i,EFoot e v ps i->i<w.heap.size from(uh HE).lt)
 generalize hob:w.heap.size=ob at *
 have HOB:=hide hob
 clear hob
 have hsz0:ob+1<w0.heap.size:=(uh HR0).lt
 refine(qAh _ _ _ w0).mono ?_
 rintro r w1 ⟨rfl,hw1⟩
 rw[hw1,hid]
 clear hw1 w1
 have hoi:w0.cell? ⟨ob,1,none⟩=some (.int .i64 o.id):=(uh HO0).cell rfl
 go_wp2_with fail
 refine(qDm e v clock o.id ps w0 (uh HE0) hl).mono ?_
 rintro r w1 ⟨rfl,hw1⟩
 rw[hw1,uh HF]
 clear hw1 w1
 unfold qH4
 obtain⟨hv0,hh0⟩:=qBb (uh HO0) 5 20 o.cfg.cells rfl rfl
 go_wp2_with fail
 refine(qMt o.cfg w0 hv).mono ?_
 rintro r w1 ⟨rfl,hk1⟩
 have hka:Keeps (λ_=>False) w0 (w1.alloc (.cells #[.nilFunc,.nilFunc,.nilFunc,.nilFunc,.nilFunc,.nilFunc] 82)):=hk1.alloc _
 have HRa:=hide ((uh HR0).keeps hka (λh=>h))
 have HKa:=hide ((uh HK0).then hka)
 clear hk1 hka hv0 hh0 hoi
 go_wp2_with fail
 refine(qFp 3 (w1.alloc (.cells #[.nilFunc,.nilFunc,.nilFunc,.nilFunc,.nilFunc,.nilFunc] 82))).mono ?_
 rintro r w2 ⟨rfl,hk1⟩
 unfold qCl
 have HR1:=hide ((uh HRa).keeps hk1 (λh=>h))
 have HK1:=hide ((uh HKa).then hk1)
 clear hk1
 have r0:w2.cell? ⟨ob+1,0,none⟩=some (.int .i64 0):=(uh HR1).cell rfl
 have r1:w2.cell? ⟨ob+1,1,none⟩=some (.slice none 0 0):=(uh HR1).cell rfl
 have r2:w2.cell? ⟨ob+1,2,none⟩=some (.string qAa):=(uh HR1).cell rfl
 have rf:=(uh HR1).frozen
 go_wp2
 have hbf:=(((uh HR1).setCell 0 (.int .i64 3)).setCell 1 (.slice none 0 0)).setCell 2 (.string qAa)
 have HKF:=hide ((((Keeps.refl (λi=>i=ob+1) w2).setCell (p:=⟨ob+1,0,none⟩) (Or.inl rfl) (.int .i64 3)).setCell (p:=⟨ob+1,1,none⟩) (Or.inl rfl) (.slice none 0 0)).setCell (p:=⟨ob+1,2,none⟩) (Or.inl rfl) (.string qAa))
 have e9:(((w2.setCell ⟨ob+1,0,none⟩ (.int .i64 3)).setCell ⟨ob+1,1,none⟩ (.slice none 0 0)).setCell ⟨ob+1,2,none⟩ (.string ⟨#[]⟩))=(((w2.setCell ⟨ob+1,0,none⟩ (.int .i64 3)).setCell ⟨ob+1,1,none⟩ (.slice none 0 0)).setCell ⟨ob+1,2,none⟩ (.string qAa)):=rfl
 first | rw[e9] | skip
 generalize(((w2.setCell ⟨ob+1,0,none⟩ (.int .i64 3)).setCell ⟨ob+1,1,none⟩ (.slice none 0 0)).setCell ⟨ob+1,2,none⟩ (.string qAa))=w9 at *
 have q0:w9.cell? ⟨ob+1,0,none⟩=some (.int .i64 3):=hbf.cell rfl
 have q1:w9.cell? ⟨ob+1,1,none⟩=some (.slice none 0 0):=hbf.cell rfl
 have q2:w9.cell? ⟨ob+1,2,none⟩=some (.string qAa):=hbf.cell rfl
 refine bodyPost_ret (v:=qCl 3 (.slice none 0 0)) (by simp[results,Tryz.results42,go_sem,q0,q1,q2,qCl]) rfl ?_
 have hkf:=uh HKF
 have hob:=uh HOB
 have hkk:Keeps (λ_=>False) w w9:=(uh HK1).trans hkf (λi hi hlt=>by omega)
 exact qBx (uh HE) hkk (World.ownsRow_nil _ _ _ _)
theorem qTx(n:Int)(e:Nat)(v:Value)(clock:Int)(ps:List (SB×Ser))(o:OpM)(w:World)(h:ERep w e v clock ps)(hi:EInv n clock (ps.map (·.2)))(hid:inB o.id 0 99=true)(hf:qDo ps o.id=none)(hv:qBg o.cfg=true)(h6:ps.length=6):
  Calls Tryz.prog 42 #[.pointer (some ⟨e,0,none⟩),o.val] w λr w'=>StepPost w e v ps clock (ps.map (·.2)) 4 [] r w':=by
 obtain⟨k,hk,hk1,hk5,hcm,hft⟩:=qFx hv
 have HKD:=hide hk
 clear hk
 have h1:o.cells[1]?=some (.int .i64 o.id):=rfl
 have HE:=hide h
 have HI:=hide hi
 have hl:ps.length<=1000:=by have:=hi.six;rw[List.length_map]at this;omega
 have HF:=hide hf
 clear h hi hf
 unfold OpM.val
 go_enter Tryz.func42,Tryz.ntmps42
 go_wp2_with fail
 have hk0:Keeps (λ_=>False) w ((w.alloc (.cells o.cells.toArray 40)).alloc (.cells #[.int .i64 0,.slice none 0 0,.string ⟨#[]⟩] 33)):=((Keeps.refl (λ_=>False) w).alloc _).alloc _
 have HO0:=hide (show Blk ((w.alloc (.cells o.cells.toArray 40)).alloc (.cells #[.int .i64 0,.slice none 0 0,.string ⟨#[]⟩] 33)) w.heap.size o.cells 40 from(Blk.new w o.cells 40).alloc _)
 have HR0:=hide (show Blk ((w.alloc (.cells o.cells.toArray 40)).alloc (.cells #[.int .i64 0,.slice none 0 0,.string ⟨#[]⟩] 33)) (w.heap.size+1) [.int .i64 0,.slice none 0 0,.string qAa] 33 from Blk.newAt (by simp) [_,_,_] 33)
 have HE0:=hide ((uh HE).still hk0)
 have HK0:=hide hk0
 clear hk0
 generalize(w.alloc (.cells o.cells.toArray 40)).alloc (.cells #[.int .i64 0,.slice none 0 0,.string ⟨#[]⟩] 33)=w0 at *
 have HLT:=hide (show ∀i,EFoot e v ps i->i<w.heap.size from(uh HE).lt)
 generalize hob:w.heap.size=ob at *
 have HOB:=hide hob
 clear hob
 have hsz0:ob+1<w0.heap.size:=(uh HR0).lt
 refine(qAh _ _ _ w0).mono ?_
 rintro r w1 ⟨rfl,hw1⟩
 rw[hw1,hid]
 clear hw1 w1
 have hoi:w0.cell? ⟨ob,1,none⟩=some (.int .i64 o.id):=(uh HO0).cell rfl
 go_wp2_with fail
 refine(qDm e v clock o.id ps w0 (uh HE0) hl).mono ?_
 rintro r w1 ⟨rfl,hw1⟩
 rw[hw1,uh HF]
 clear hw1 w1
 unfold qH4
 obtain⟨hv0,hh0⟩:=qBb (uh HO0) 5 20 o.cfg.cells rfl rfl
 go_wp2_with fail
 refine(qHz o.cfg k w0 (uh HKD) hk1 hk5 hcm hft).mono ?_
 rintro r w1 ⟨rfl,hw1⟩
 unfold qA8 fn
 have hlv:∃a cap,v=.slice a 6 cap:=by
  rcases(uh HE0).row.2 with ⟨h1,h2⟩ | ⟨g,cap,cur,h1,_⟩
  ·omega
  ·exact⟨some ⟨g,0,none⟩,cap,by rw[h1,h6]⟩
 obtain⟨va,vcap,hvv⟩:=hlv
 have hka:Keeps (λ_=>False) w0 (w1.alloc (.cells #[.func (.func (qBo k)) #[] #[],.func (.func (qA4 k)) #[] #[],.func (.func (qA3 k)) #[] #[],.func (.func (qAq k)) #[] #[],.func (.func (qA1 k)) #[] #[],.func (.func (qA5 k)) #[] #[]] 82)):=hw1.alloc _
 have HRa:=hide ((uh HR0).keeps hka (λh=>h))
 have HKa:=hide ((uh HK0).then hka)
 have hc1:w1.cell? ⟨e,1,none⟩=some (.slice va 6 vcap):=by rw[<-hvv];exact((uh HE0).still hw1).blk.cell rfl
 have hle:e<w1.heap.size:=((uh HE0).still hw1).blk.lt
 clear hw1 hka hv0 hh0 hoi hvv
 go_wp2_with fail
 generalize w1.alloc (.cells #[.func (.func (qBo k)) #[] #[],.func (.func (qA4 k)) #[] #[],.func (.func (qA3 k)) #[] #[],.func (.func (qAq k)) #[] #[],.func (.func (qA1 k)) #[] #[],.func (.func (qA5 k)) #[] #[]] 82)=wa at *
 refine(qFp 4 wa).mono ?_
 rintro r w2 ⟨rfl,hk1⟩
 unfold qCl
 have HR1:=hide ((uh HRa).keeps hk1 (λh=>h))
 have HK1:=hide ((uh HKa).then hk1)
 clear hk1
 have r0:w2.cell? ⟨ob+1,0,none⟩=some (.int .i64 0):=(uh HR1).cell rfl
 have r1:w2.cell? ⟨ob+1,1,none⟩=some (.slice none 0 0):=(uh HR1).cell rfl
 have r2:w2.cell? ⟨ob+1,2,none⟩=some (.string qAa):=(uh HR1).cell rfl
 have rf:=(uh HR1).frozen
 go_wp2
 have hbf:=(((uh HR1).setCell 0 (.int .i64 4)).setCell 1 (.slice none 0 0)).setCell 2 (.string qAa)
 have HKF:=hide ((((Keeps.refl (λi=>i=ob+1) w2).setCell (p:=⟨ob+1,0,none⟩) (Or.inl rfl) (.int .i64 4)).setCell (p:=⟨ob+1,1,none⟩) (Or.inl rfl) (.slice none 0 0)).setCell (p:=⟨ob+1,2,none⟩) (Or.inl rfl) (.string qAa))
 have e9:(((w2.setCell ⟨ob+1,0,none⟩ (.int .i64 4)).setCell ⟨ob+1,1,none⟩ (.slice none 0 0)).setCell ⟨ob+1,2,none⟩ (.string ⟨#[]⟩))=(((w2.setCell ⟨ob+1,0,none⟩ (.int .i64 4)).setCell ⟨ob+1,1,none⟩ (.slice none 0 0)).setCell ⟨ob+1,2,none⟩ (.string qAa)):=rfl
 first | rw[e9] | skip
 generalize(((w2.setCell ⟨ob+1,0,none⟩ (.int .i64 4)).setCell ⟨ob+1,1,none⟩ (.slice none 0 0)).setCell ⟨ob+1,2,none⟩ (.string qAa))=w9 at *
 have q0:w9.cell? ⟨ob+1,0,none⟩=some (.int .i64 4):=hbf.cell rfl
 have q1:w9.cell? ⟨ob+1,1,none⟩=some (.slice none 0 0):=hbf.cell rfl
 have q2:w9.cell? ⟨ob+1,2,none⟩=some (.string qAa):=hbf.cell rfl
 refine bodyPost_ret (v:=qCl 4 (.slice none 0 0)) (by simp[results,Tryz.results42,go_sem,q0,q1,q2,qCl]) rfl ?_
 have hkf:=uh HKF
 have hob:=uh HOB
 have hkk:Keeps (λ_=>False) w w9:=(uh HK1).trans hkf (λi hi hlt=>by omega)
 exact qBx (uh HE) hkk (World.ownsRow_nil _ _ _ _)
end
section
open Go.RowKit
theorem qT4(hi lo u v z m q1 n q:Int)(hU:u=hi*8+lo/2305843009213693952)(hV:v=lo*8%18446744073709551616)(hZ:z=v%4294967296)(hM:m=u*4294967296+v/4294967296)(hN:n=m-q1*18446744073709551608)(h1:q*18446744073709551608<=n*4294967296+z)(h2:n*4294967296+z<(q+1)*18446744073709551608):
  IntKind.u64.wrap (IntKind.u64.wrap (IntKind.u64.wrap (n*4294967296)+z)-IntKind.u64.wrap (q*18446744073709551608))/8=(hi*18446744073709551616+lo)%2305843009213693951:=by
 simp only[IntKind.wrap_u64]
 have e:m*4294967296+z=8*(hi*18446744073709551616+lo):=by omega
 omega
theorem qXo(hi lo:Int)(w:World)(h0:0<=hi)(h1:hi<=1099511627776)(l0:0<=lo)(l1:lo<18446744073709551616):
  Calls Tryz.prog 234 #[.int .u64 hi,.int .u64 lo,.int .u64 2305843009213693951] w λe w'=>(∃q,e=.returned (.tuple #[.int .u64 q,.int .u64 ((hi*18446744073709551616+lo)%2305843009213693951)]))/\Keeps (λ_=>False) w w':=by
 by_cases hz:hi=0
 ·subst hz
  exact qP9 0 lo w (by omega) (by omega) l0 l1
 ·have hzb:(hi==0)=false:=by simp[hz]
  have hle:¬(2305843009213693951<=hi):=by omega
  have hand:bits .and .u64 18446744073709551608 4294967295=4294967288:=by decide +kernel
  obtain⟨u,hu,HU⟩:∃u,bits .or .u64 (hi*8) (lo/2305843009213693952)=u/\Hid (u=hi*8+lo/2305843009213693952):=⟨_,zBx hi (lo/2305843009213693952) h0 (by omega) (by omega) (by omega),rfl⟩
  obtain⟨v,hv,HV⟩:∃v,IntKind.u64.wrap (lo*8)=v/\Hid (v=lo*8%18446744073709551616):=⟨_,IntKind.wrap_u64 _,rfl⟩
  have u0:0<=u:=by have:=uh HU;omega
  have u1:u<=8796093022217:=by have:=uh HU;omega
  have v0:0<=v:=by have:=uh HV;omega
  have v1:v<18446744073709551616:=by have:=uh HV;omega
  obtain⟨z,hzz,HZ⟩:∃z,bits .and .u64 v 4294967295=z/\Hid (z=v%4294967296):=by
   obtain⟨x,rfl⟩:=Int.eq_ofNat_of_zero_le v0
   exact⟨_,Mul64.maskN x (by omega),by show _=_;omega⟩
  have z0:0<=z:=by have:=uh HZ;omega
  have z1:z<4294967296:=by have:=uh HZ;omega
  have hd:u.tdiv 4294967295=u/4294967295:=Int.tdiv_eq_ediv_of_nonneg u0
  obtain⟨y,HY⟩:∃y,Hid (y=v/4294967296):=⟨_,rfl⟩
  have hy:v/4294967296=y:=(uh HY).symm
  have y0:0<=y:=by omega
  have y1:y<4294967296:=by omega
  go_enter Tryz.func234,Tryz.ntmps234
  go_wp2_with (go_at_call 257;refine(qUm _).mono ?_;rintro e w' ⟨rfl,rfl⟩)
  go_loop [15,16] (λa b=>∃q r:Int,a=.int .u64 q/\b=.int .u64 r/\0<=q/\q<=4096/\0<=r/\r<4294967296/\Hid (q*4294967295+r=u)/\Hid (u*4294967296+y<(q+1)*18446744073709551608)) (λa _=>(intOf a).toNat)
  case atStart=>exact⟨u/4294967295,u-u/4294967295*4294967295,by first | rfl | go_num,by first | rfl | go_num,by omega,by omega,by omega,by omega,by show _=_;omega,by show _<_;omega⟩
  case round =>
   obtain⟨q,r,rfl,rfl,q0,q1,r0,r1,HQ,HT⟩:=hrel
   by_cases hc:4294967296*r+y<q*4294967288
   ·have q2:1<=q:=by omega
    by_cases hb:4294967296<=r+4294967295
    ·have HT2:=hide (show u*4294967296+y<q*18446744073709551608 by have:=uh HQ;omega)
     have HQ2:=hide (show(q-1)*18446744073709551608<=u*4294967296+y by have:=uh HQ;omega)
     clear HQ HT
     have HQ:=HQ2
     have HT:=HT2
     obtain⟨n,HN⟩:∃n,Hid (n=u*4294967296+y-(q-1)*18446744073709551608):=⟨_,rfl⟩
     have n0:0<=n:=by have:=uh HN;have:=uh HQ;have:=uh HT;omega
     have n1:n<18446744073709551608:=by have:=uh HN;have:=uh HQ;have:=uh HT;omega
     have hn:IntKind.u64.wrap (IntKind.u64.wrap (IntKind.u64.wrap (u*4294967296)+y)-IntKind.u64.wrap ((q-1)*18446744073709551608))=n:=by
      have:=uh HN
      simp only[IntKind.wrap_u64]
      omega
     have hnd:n.tdiv 4294967295=n/4294967295:=Int.tdiv_eq_ediv_of_nonneg n0
     have HFIN:=hide (λq0 a b=>qT4 hi lo u v z (u*4294967296+y) (q-1) n q0 (uh HU) (uh HV) (uh HZ) (by rw[uh HY]) (uh HN) a b)
     go_wp2_with (first | simp only[hn] | simp only[hnd])
     go_loop [16,18] (λb a=>∃q r:Int,a=.int .u64 q/\b=.int .u64 r/\0<=q/\q<=4294967296/\0<=r/\r<4294967296/\Hid (q*4294967295+r=n)/\Hid (n*4294967296+z<(q+1)*18446744073709551608)) (λ_ a=>(intOf a).toNat)
     case atStart=>exact⟨n/4294967295,n-n/4294967295*4294967295,by first | rfl | go_num,by first | rfl | go_num,by omega,by omega,by omega,by omega,by show _=_;omega,by show _<_;omega⟩
     case round =>
      clear HQ HT hn
      obtain⟨q,r,rfl,rfl,q0,q1,r0,r1,HQ,HT⟩:=hrel
      by_cases hbig:4294967296<=q
      ·by_cases hb:4294967296<=r+4294967295
       ·go_wp2
        go_ret2
        exact⟨⟨_,by rw[uh HFIN (q-1) (by have:=uh HQ;omega) (by have:=uh HQ;omega)];rfl⟩,Keeps.refl _ _⟩
       ·go_wp2
        go_round
        case rel=>exact⟨q-1,r+4294967295,by first | rfl | go_num,by first | rfl | go_num,by omega,by omega,by omega,by omega,by have:=uh HQ;show _=_;omega,by have:=uh HQ;show _<_;omega⟩
        case measure=>simp[intOf];omega
      ·by_cases hc:4294967296*r+z<q*4294967288
       ·have q2:1<=q:=by omega
        by_cases hb:4294967296<=r+4294967295
        ·go_wp2
         go_ret2
         exact⟨⟨_,by rw[uh HFIN (q-1) (by have:=uh HQ;omega) (by have:=uh HQ;omega)];rfl⟩,Keeps.refl _ _⟩
        ·go_wp2
         go_round
         case rel=>exact⟨q-1,r+4294967295,by first | rfl | go_num,by first | rfl | go_num,by omega,by omega,by omega,by omega,by have:=uh HQ;show _=_;omega,by have:=uh HQ;show _<_;omega⟩
         case measure=>simp[intOf];omega
       ·go_wp2
        go_ret2
        exact⟨⟨_,by rw[uh HFIN q (by have:=uh HQ;omega) (uh HT)];rfl⟩,Keeps.refl _ _⟩
    ·go_wp2
     go_round
     case rel=>exact⟨q-1,r+4294967295,by first | rfl | go_num,by first | rfl | go_num,by omega,by omega,by omega,by omega,by have:=uh HQ;show _=_;omega,by have:=uh HQ;show _<_;omega⟩
     case measure=>simp[intOf];omega
   ·have HQ2:=hide (show q*18446744073709551608<=u*4294967296+y by have:=uh HQ;omega)
    clear HQ
    have HQ:=HQ2
    obtain⟨n,HN⟩:∃n,Hid (n=u*4294967296+y-(q)*18446744073709551608):=⟨_,rfl⟩
    have n0:0<=n:=by have:=uh HN;have:=uh HQ;have:=uh HT;omega
    have n1:n<18446744073709551608:=by have:=uh HN;have:=uh HQ;have:=uh HT;omega
    have hn:IntKind.u64.wrap (IntKind.u64.wrap (IntKind.u64.wrap (u*4294967296)+y)-IntKind.u64.wrap ((q)*18446744073709551608))=n:=by
     have:=uh HN
     simp only[IntKind.wrap_u64]
     omega
    have hnd:n.tdiv 4294967295=n/4294967295:=Int.tdiv_eq_ediv_of_nonneg n0
    have HFIN:=hide (λq0 a b=>qT4 hi lo u v z (u*4294967296+y) (q) n q0 (uh HU) (uh HV) (uh HZ) (by rw[uh HY]) (uh HN) a b)
    go_wp2_with (first | simp only[hn] | simp only[hnd])
    go_loop [16,18] (λb a=>∃q r:Int,a=.int .u64 q/\b=.int .u64 r/\0<=q/\q<=4294967296/\0<=r/\r<4294967296/\Hid (q*4294967295+r=n)/\Hid (n*4294967296+z<(q+1)*18446744073709551608)) (λ_ a=>(intOf a).toNat)
    case atStart=>exact⟨n/4294967295,n-n/4294967295*4294967295,by first | rfl | go_num,by first | rfl | go_num,by omega,by omega,by omega,by omega,by show _=_;omega,by show _<_;omega⟩
    case round =>
     clear HQ HT hn
     obtain⟨q,r,rfl,rfl,q0,q1,r0,r1,HQ,HT⟩:=hrel
     by_cases hbig:4294967296<=q
     ·by_cases hb:4294967296<=r+4294967295
      ·go_wp2
       go_ret2
       exact⟨⟨_,by rw[uh HFIN (q-1) (by have:=uh HQ;omega) (by have:=uh HQ;omega)];rfl⟩,Keeps.refl _ _⟩
      ·go_wp2
       go_round
       case rel=>exact⟨q-1,r+4294967295,by first | rfl | go_num,by first | rfl | go_num,by omega,by omega,by omega,by omega,by have:=uh HQ;show _=_;omega,by have:=uh HQ;show _<_;omega⟩
       case measure=>simp[intOf];omega
     ·by_cases hc:4294967296*r+z<q*4294967288
      ·have q2:1<=q:=by omega
       by_cases hb:4294967296<=r+4294967295
       ·go_wp2
        go_ret2
        exact⟨⟨_,by rw[uh HFIN (q-1) (by have:=uh HQ;omega) (by have:=uh HQ;omega)];rfl⟩,Keeps.refl _ _⟩
       ·go_wp2
        go_round
        case rel=>exact⟨q-1,r+4294967295,by first | rfl | go_num,by first | rfl | go_num,by omega,by omega,by omega,by omega,by have:=uh HQ;show _=_;omega,by have:=uh HQ;show _<_;omega⟩
        case measure=>simp[intOf];omega
      ·go_wp2
       go_ret2
       exact⟨⟨_,by rw[uh HFIN q (by have:=uh HQ;omega) (uh HT)];rfl⟩,Keeps.refl _ _⟩
end
end Go.Proofs.YtahnliehdjncdaaGreatDoor
