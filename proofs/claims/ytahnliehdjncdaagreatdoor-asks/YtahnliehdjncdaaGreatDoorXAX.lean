import Derived.Test.YtahnliehdjncdaaGreatDoorXAW
import Derived.Laws.BytesArg
import Derived.Lib.SlBytesConst
import Derived.Test.YtahnliehdjncdaaGreatDoorXAA
import Derived.Test.YtahnliehdjncdaaGreatDoorXAN
import Derived.Test.YtahnliehdjncdaaGreatDoorXAT
import Derived.Deep.DrawnRows
import Derived.Test.YtahnliehdjncdaaGreatDoorXAD
import Derived.Test.YtahnliehdjncdaaGreatDoorXAU
set_option maxRecDepth 100000
set_option maxHeartbeats 16000000
namespace Go.Proofs.YtahnliehdjncdaaGreatDoor
section
open Go.RowKit
attribute [local go_sem ↓] qAd qAe
attribute [local go_sem] qAi qAj qAc qAb qAm qAn qAg qAh qAk qAo
theorem qCw{c:Cfg}(h:qA0 c=true): ∃k:Nat,c.kind=k/\1<=k/\k<=5/\qA1 c=true/\qEt c k=true:=by
 simp only[qA0,Bool.and_eq_true]at h
 obtain⟨h1,h2,h3⟩:=h
 obtain⟨a,b⟩:=qA9 h1
 refine⟨c.kind.toNat,by omega,by omega,by omega,h2,h3⟩
theorem qT7(c:Cfg)(w:World)(h:qA0 c=false):
  Calls Tryz.prog 60 #[c.val] w λe w'=>e=.returned (.tuple #[.agg #[.nilFunc,.nilFunc,.nilFunc,.nilFunc,.nilFunc,.nilFunc],.bool false])/\Keeps (λ_=>False) w w':=by
 cases h1:inB c.kind 1 5
 ·exact qRs c w h1
 ·obtain⟨a,b⟩:=qA9 h1
  have hk:c.kind=(c.kind.toNat:Int):=by omega
  cases h2:qA1 c
  ·exact qRy c c.kind.toNat w hk (by omega) (by omega) h2
  ·cases h3:qEt c c.kind.toNat
   ·exact qRh c c.kind.toNat w hk (by omega) (by omega) h2 h3
   ·simp[qA0,h1,h2,h3]at h
theorem qYs(n:Int)(e:Nat)(v:Value)(clock:Int)(ps:List (SB×Ser))(o:OpM)(w:World)(h:ERep w e v clock ps)(hi:EInv n clock (ps.map (·.2)))(hid:inB o.id 0 99=false):
  Calls Tryz.prog 42 #[.pointer (some ⟨e,0,none⟩),o.val] w λr w'=>StepPost w e v ps clock (ps.map (·.2)) 2 [] r w':=by
 have h1:o.cells[1]?=some (.int .i64 o.id):=rfl
 have HE:=hide h
 have HI:=hide hi
 have hl:ps.length<=1000:=by have:=hi.six;rw[List.length_map]at this;omega
 clear h hi
 unfold OpM.val
 go_enter Tryz.func42,Tryz.ntmps42
 go_wp2_with fail
 have hk0:Keeps (λ_=>False) w ((w.alloc (.cells o.cells.toArray 40)).alloc (.cells #[.int .i64 0,.slice none 0 0,.string ⟨#[]⟩] 33)):=((Keeps.refl (λ_=>False) w).alloc _).alloc _
 have HO0:=hide (show Blk ((w.alloc (.cells o.cells.toArray 40)).alloc (.cells #[.int .i64 0,.slice none 0 0,.string ⟨#[]⟩] 33)) w.heap.size o.cells 40 from(Blk.new w o.cells 40).alloc _)
 have HR0:=hide (show Blk ((w.alloc (.cells o.cells.toArray 40)).alloc (.cells #[.int .i64 0,.slice none 0 0,.string ⟨#[]⟩] 33)) (w.heap.size+1) [.int .i64 0,.slice none 0 0,.string qAa] 33 from Blk.newAt (by simp) [_,_,_] 33)
 have HE0:=hide ((uh HE).still hk0)
 have HK0:=hide hk0
 clear hk0
 generalize(w.alloc (.cells o.cells.toArray 40)).alloc (.cells #[.int .i64 0,.slice none 0 0,.string ⟨#[]⟩] 33)=w0 at *
 have HLT:=hide (show ∀i,EFoot e v ps i->i<w.heap.size from(uh HE).lt)
 generalize hob:w.heap.size=ob at *
 have HOB:=hide hob
 clear hob
 have hsz0:ob+1<w0.heap.size:=(uh HR0).lt
 refine(qAs _ _ _ w0).mono ?_
 rintro r w1 ⟨rfl,hw1⟩
 rw[hw1,hid]
 clear hw1 w1
 go_wp2_with fail
 refine(qG1 2 w0).mono ?_
 rintro r w1 ⟨rfl,hk1⟩
 unfold qBu
 have HR1:=hide ((uh HR0).keeps hk1 (λh=>h))
 have HK1:=hide ((uh HK0).then hk1)
 clear hk1
 have r0:w1.cell? ⟨ob+1,0,none⟩=some (.int .i64 0):=(uh HR1).cell rfl
 have r1:w1.cell? ⟨ob+1,1,none⟩=some (.slice none 0 0):=(uh HR1).cell rfl
 have r2:w1.cell? ⟨ob+1,2,none⟩=some (.string qAa):=(uh HR1).cell rfl
 have rf:=(uh HR1).frozen
 go_wp2
 have hbf:=(((uh HR1).setCell 0 (.int .i64 2)).setCell 1 (.slice none 0 0)).setCell 2 (.string qAa)
 have HKF:=hide ((((Keeps.refl (λi=>i=ob+1) w1).setCell (p:=⟨ob+1,0,none⟩) (Or.inl rfl) (.int .i64 2)).setCell (p:=⟨ob+1,1,none⟩) (Or.inl rfl) (.slice none 0 0)).setCell (p:=⟨ob+1,2,none⟩) (Or.inl rfl) (.string qAa))
 have e9:(((w1.setCell ⟨ob+1,0,none⟩ (.int .i64 2)).setCell ⟨ob+1,1,none⟩ (.slice none 0 0)).setCell ⟨ob+1,2,none⟩ (.string ⟨#[]⟩))=(((w1.setCell ⟨ob+1,0,none⟩ (.int .i64 2)).setCell ⟨ob+1,1,none⟩ (.slice none 0 0)).setCell ⟨ob+1,2,none⟩ (.string qAa)):=rfl
 first | rw[e9] | skip
 generalize(((w1.setCell ⟨ob+1,0,none⟩ (.int .i64 2)).setCell ⟨ob+1,1,none⟩ (.slice none 0 0)).setCell ⟨ob+1,2,none⟩ (.string qAa))=w9 at *
 have q0:w9.cell? ⟨ob+1,0,none⟩=some (.int .i64 2):=hbf.cell rfl
 have q1:w9.cell? ⟨ob+1,1,none⟩=some (.slice none 0 0):=hbf.cell rfl
 have q2:w9.cell? ⟨ob+1,2,none⟩=some (.string qAa):=hbf.cell rfl
 refine bodyPost_ret (v:=qBu 2 (.slice none 0 0)) (by simp[results,Tryz.results42,go_sem,q0,q1,q2,qBu]) rfl ?_
 have hkf:=uh HKF
 have hob:=uh HOB
 have hkk:Keeps (λ_=>False) w w9:=(uh HK1).trans hkf (λi hi hlt=>by omega)
 exact qCl (uh HE) hkk (World.ownsRow_nil _ _ _ _)
theorem qPi(n:Int)(e:Nat)(v:Value)(clock:Int)(ps:List (SB×Ser))(o:OpM)(w:World)(h:ERep w e v clock ps)(hi:EInv n clock (ps.map (·.2)))(hid:inB o.id 0 99=true)(p:SB×Ser)(hf:qEp ps o.id=some p):
  Calls Tryz.prog 42 #[.pointer (some ⟨e,0,none⟩),o.val] w λr w'=>StepPost w e v ps clock (ps.map (·.2)) 2 [] r w':=by
 have h1:o.cells[1]?=some (.int .i64 o.id):=rfl
 have HE:=hide h
 have HI:=hide hi
 have hl:ps.length<=1000:=by have:=hi.six;rw[List.length_map]at this;omega
 have HF:=hide hf
 clear h hi hf
 unfold OpM.val
 go_enter Tryz.func42,Tryz.ntmps42
 go_wp2_with fail
 have hk0:Keeps (λ_=>False) w ((w.alloc (.cells o.cells.toArray 40)).alloc (.cells #[.int .i64 0,.slice none 0 0,.string ⟨#[]⟩] 33)):=((Keeps.refl (λ_=>False) w).alloc _).alloc _
 have HO0:=hide (show Blk ((w.alloc (.cells o.cells.toArray 40)).alloc (.cells #[.int .i64 0,.slice none 0 0,.string ⟨#[]⟩] 33)) w.heap.size o.cells 40 from(Blk.new w o.cells 40).alloc _)
 have HR0:=hide (show Blk ((w.alloc (.cells o.cells.toArray 40)).alloc (.cells #[.int .i64 0,.slice none 0 0,.string ⟨#[]⟩] 33)) (w.heap.size+1) [.int .i64 0,.slice none 0 0,.string qAa] 33 from Blk.newAt (by simp) [_,_,_] 33)
 have HE0:=hide ((uh HE).still hk0)
 have HK0:=hide hk0
 clear hk0
 generalize(w.alloc (.cells o.cells.toArray 40)).alloc (.cells #[.int .i64 0,.slice none 0 0,.string ⟨#[]⟩] 33)=w0 at *
 have HLT:=hide (show ∀i,EFoot e v ps i->i<w.heap.size from(uh HE).lt)
 generalize hob:w.heap.size=ob at *
 have HOB:=hide hob
 clear hob
 have hsz0:ob+1<w0.heap.size:=(uh HR0).lt
 refine(qAs _ _ _ w0).mono ?_
 rintro r w1 ⟨rfl,hw1⟩
 rw[hw1,hid]
 clear hw1 w1
 have hoi:w0.cell? ⟨ob,1,none⟩=some (.int .i64 o.id):=(uh HO0).cell rfl
 go_wp2_with fail
 refine(qEc e v clock o.id ps w0 (uh HE0) hl).mono ?_
 rintro r w1 ⟨rfl,hw1⟩
 rw[hw1,uh HF]
 clear hw1 w1
 unfold qKc
 go_wp2_with fail
 refine(qG1 2 w0).mono ?_
 rintro r w1 ⟨rfl,hk1⟩
 unfold qBu
 have HR1:=hide ((uh HR0).keeps hk1 (λh=>h))
 have HK1:=hide ((uh HK0).then hk1)
 clear hk1
 have r0:w1.cell? ⟨ob+1,0,none⟩=some (.int .i64 0):=(uh HR1).cell rfl
 have r1:w1.cell? ⟨ob+1,1,none⟩=some (.slice none 0 0):=(uh HR1).cell rfl
 have r2:w1.cell? ⟨ob+1,2,none⟩=some (.string qAa):=(uh HR1).cell rfl
 have rf:=(uh HR1).frozen
 go_wp2
 have hbf:=(((uh HR1).setCell 0 (.int .i64 2)).setCell 1 (.slice none 0 0)).setCell 2 (.string qAa)
 have HKF:=hide ((((Keeps.refl (λi=>i=ob+1) w1).setCell (p:=⟨ob+1,0,none⟩) (Or.inl rfl) (.int .i64 2)).setCell (p:=⟨ob+1,1,none⟩) (Or.inl rfl) (.slice none 0 0)).setCell (p:=⟨ob+1,2,none⟩) (Or.inl rfl) (.string qAa))
 have e9:(((w1.setCell ⟨ob+1,0,none⟩ (.int .i64 2)).setCell ⟨ob+1,1,none⟩ (.slice none 0 0)).setCell ⟨ob+1,2,none⟩ (.string ⟨#[]⟩))=(((w1.setCell ⟨ob+1,0,none⟩ (.int .i64 2)).setCell ⟨ob+1,1,none⟩ (.slice none 0 0)).setCell ⟨ob+1,2,none⟩ (.string qAa)):=rfl
 first | rw[e9] | skip
 generalize(((w1.setCell ⟨ob+1,0,none⟩ (.int .i64 2)).setCell ⟨ob+1,1,none⟩ (.slice none 0 0)).setCell ⟨ob+1,2,none⟩ (.string qAa))=w9 at *
 have q0:w9.cell? ⟨ob+1,0,none⟩=some (.int .i64 2):=hbf.cell rfl
 have q1:w9.cell? ⟨ob+1,1,none⟩=some (.slice none 0 0):=hbf.cell rfl
 have q2:w9.cell? ⟨ob+1,2,none⟩=some (.string qAa):=hbf.cell rfl
 refine bodyPost_ret (v:=qBu 2 (.slice none 0 0)) (by simp[results,Tryz.results42,go_sem,q0,q1,q2,qBu]) rfl ?_
 have hkf:=uh HKF
 have hob:=uh HOB
 have hkk:Keeps (λ_=>False) w w9:=(uh HK1).trans hkf (λi hi hlt=>by omega)
 exact qCl (uh HE) hkk (World.ownsRow_nil _ _ _ _)
theorem qOs(n:Int)(e:Nat)(v:Value)(clock:Int)(ps:List (SB×Ser))(o:OpM)(w:World)(h:ERep w e v clock ps)(hi:EInv n clock (ps.map (·.2)))(hid:inB o.id 0 99=true)(hf:qEp ps o.id=none)(hv:qA0 o.cfg=false):
  Calls Tryz.prog 42 #[.pointer (some ⟨e,0,none⟩),o.val] w λr w'=>StepPost w e v ps clock (ps.map (·.2)) 3 [] r w':=by
 have h1:o.cells[1]?=some (.int .i64 o.id):=rfl
 have HE:=hide h
 have HI:=hide hi
 have hl:ps.length<=1000:=by have:=hi.six;rw[List.length_map]at this;omega
 have HF:=hide hf
 clear h hi hf
 unfold OpM.val
 go_enter Tryz.func42,Tryz.ntmps42
 go_wp2_with fail
 have hk0:Keeps (λ_=>False) w ((w.alloc (.cells o.cells.toArray 40)).alloc (.cells #[.int .i64 0,.slice none 0 0,.string ⟨#[]⟩] 33)):=((Keeps.refl (λ_=>False) w).alloc _).alloc _
 have HO0:=hide (show Blk ((w.alloc (.cells o.cells.toArray 40)).alloc (.cells #[.int .i64 0,.slice none 0 0,.string ⟨#[]⟩] 33)) w.heap.size o.cells 40 from(Blk.new w o.cells 40).alloc _)
 have HR0:=hide (show Blk ((w.alloc (.cells o.cells.toArray 40)).alloc (.cells #[.int .i64 0,.slice none 0 0,.string ⟨#[]⟩] 33)) (w.heap.size+1) [.int .i64 0,.slice none 0 0,.string qAa] 33 from Blk.newAt (by simp) [_,_,_] 33)
 have HE0:=hide ((uh HE).still hk0)
 have HK0:=hide hk0
 clear hk0
 generalize(w.alloc (.cells o.cells.toArray 40)).alloc (.cells #[.int .i64 0,.slice none 0 0,.string ⟨#[]⟩] 33)=w0 at *
 have HLT:=hide (show ∀i,EFoot e v ps i->i<w.heap.size from(uh HE).lt)
 generalize hob:w.heap.size=ob at *
 have HOB:=hide hob
 clear hob
 have hsz0:ob+1<w0.heap.size:=(uh HR0).lt
 refine(qAs _ _ _ w0).mono ?_
 rintro r w1 ⟨rfl,hw1⟩
 rw[hw1,hid]
 clear hw1 w1
 have hoi:w0.cell? ⟨ob,1,none⟩=some (.int .i64 o.id):=(uh HO0).cell rfl
 go_wp2_with fail
 refine(qEc e v clock o.id ps w0 (uh HE0) hl).mono ?_
 rintro r w1 ⟨rfl,hw1⟩
 rw[hw1,uh HF]
 clear hw1 w1
 unfold qKc
 obtain⟨hv0,hh0⟩:=qBe (uh HO0) 5 20 o.cfg.cells rfl rfl
 go_wp2_with fail
 refine(qT7 o.cfg w0 hv).mono ?_
 rintro r w1 ⟨rfl,hk1⟩
 have hka:Keeps (λ_=>False) w0 (w1.alloc (.cells #[.nilFunc,.nilFunc,.nilFunc,.nilFunc,.nilFunc,.nilFunc] 82)):=hk1.alloc _
 have HRa:=hide ((uh HR0).keeps hka (λh=>h))
 have HKa:=hide ((uh HK0).then hka)
 clear hk1 hka hv0 hh0 hoi
 go_wp2_with fail
 refine(qG1 3 (w1.alloc (.cells #[.nilFunc,.nilFunc,.nilFunc,.nilFunc,.nilFunc,.nilFunc] 82))).mono ?_
 rintro r w2 ⟨rfl,hk1⟩
 unfold qBu
 have HR1:=hide ((uh HRa).keeps hk1 (λh=>h))
 have HK1:=hide ((uh HKa).then hk1)
 clear hk1
 have r0:w2.cell? ⟨ob+1,0,none⟩=some (.int .i64 0):=(uh HR1).cell rfl
 have r1:w2.cell? ⟨ob+1,1,none⟩=some (.slice none 0 0):=(uh HR1).cell rfl
 have r2:w2.cell? ⟨ob+1,2,none⟩=some (.string qAa):=(uh HR1).cell rfl
 have rf:=(uh HR1).frozen
 go_wp2
 have hbf:=(((uh HR1).setCell 0 (.int .i64 3)).setCell 1 (.slice none 0 0)).setCell 2 (.string qAa)
 have HKF:=hide ((((Keeps.refl (λi=>i=ob+1) w2).setCell (p:=⟨ob+1,0,none⟩) (Or.inl rfl) (.int .i64 3)).setCell (p:=⟨ob+1,1,none⟩) (Or.inl rfl) (.slice none 0 0)).setCell (p:=⟨ob+1,2,none⟩) (Or.inl rfl) (.string qAa))
 have e9:(((w2.setCell ⟨ob+1,0,none⟩ (.int .i64 3)).setCell ⟨ob+1,1,none⟩ (.slice none 0 0)).setCell ⟨ob+1,2,none⟩ (.string ⟨#[]⟩))=(((w2.setCell ⟨ob+1,0,none⟩ (.int .i64 3)).setCell ⟨ob+1,1,none⟩ (.slice none 0 0)).setCell ⟨ob+1,2,none⟩ (.string qAa)):=rfl
 first | rw[e9] | skip
 generalize(((w2.setCell ⟨ob+1,0,none⟩ (.int .i64 3)).setCell ⟨ob+1,1,none⟩ (.slice none 0 0)).setCell ⟨ob+1,2,none⟩ (.string qAa))=w9 at *
 have q0:w9.cell? ⟨ob+1,0,none⟩=some (.int .i64 3):=hbf.cell rfl
 have q1:w9.cell? ⟨ob+1,1,none⟩=some (.slice none 0 0):=hbf.cell rfl
 have q2:w9.cell? ⟨ob+1,2,none⟩=some (.string qAa):=hbf.cell rfl
 refine bodyPost_ret (v:=qBu 3 (.slice none 0 0)) (by simp[results,Tryz.results42,go_sem,q0,q1,q2,qBu]) rfl ?_
 have hkf:=uh HKF
 have hob:=uh HOB
 have hkk:Keeps (λ_=>False) w w9:=(uh HK1).trans hkf (λi hi hlt=>by omega)
 exact qCl (uh HE) hkk (World.ownsRow_nil _ _ _ _)
theorem qRp(n:Int)(e:Nat)(v:Value)(clock:Int)(ps:List (SB×Ser))(o:OpM)(w:World)(h:ERep w e v clock ps)(hi:EInv n clock (ps.map (·.2)))(hid:inB o.id 0 99=true)(hf:qEp ps o.id=none)(hv:qA0 o.cfg=true)(h6:ps.length=6):
  Calls Tryz.prog 42 #[.pointer (some ⟨e,0,none⟩),o.val] w λr w'=>StepPost w e v ps clock (ps.map (·.2)) 4 [] r w':=by
 obtain⟨k,hk,hk1,hk5,hcm,hft⟩:=qCw hv
 have HKD:=hide hk
 clear hk
 have h1:o.cells[1]?=some (.int .i64 o.id):=rfl
 have HE:=hide h
 have HI:=hide hi
 have hl:ps.length<=1000:=by have:=hi.six;rw[List.length_map]at this;omega
 have HF:=hide hf
 clear h hi hf
 unfold OpM.val
 go_enter Tryz.func42,Tryz.ntmps42
 go_wp2_with fail
 have hk0:Keeps (λ_=>False) w ((w.alloc (.cells o.cells.toArray 40)).alloc (.cells #[.int .i64 0,.slice none 0 0,.string ⟨#[]⟩] 33)):=((Keeps.refl (λ_=>False) w).alloc _).alloc _
 have HO0:=hide (show Blk ((w.alloc (.cells o.cells.toArray 40)).alloc (.cells #[.int .i64 0,.slice none 0 0,.string ⟨#[]⟩] 33)) w.heap.size o.cells 40 from(Blk.new w o.cells 40).alloc _)
 have HR0:=hide (show Blk ((w.alloc (.cells o.cells.toArray 40)).alloc (.cells #[.int .i64 0,.slice none 0 0,.string ⟨#[]⟩] 33)) (w.heap.size+1) [.int .i64 0,.slice none 0 0,.string qAa] 33 from Blk.newAt (by simp) [_,_,_] 33)
 have HE0:=hide ((uh HE).still hk0)
 have HK0:=hide hk0
 clear hk0
 generalize(w.alloc (.cells o.cells.toArray 40)).alloc (.cells #[.int .i64 0,.slice none 0 0,.string ⟨#[]⟩] 33)=w0 at *
 have HLT:=hide (show ∀i,EFoot e v ps i->i<w.heap.size from(uh HE).lt)
 generalize hob:w.heap.size=ob at *
 have HOB:=hide hob
 clear hob
 have hsz0:ob+1<w0.heap.size:=(uh HR0).lt
 refine(qAs _ _ _ w0).mono ?_
 rintro r w1 ⟨rfl,hw1⟩
 rw[hw1,hid]
 clear hw1 w1
 have hoi:w0.cell? ⟨ob,1,none⟩=some (.int .i64 o.id):=(uh HO0).cell rfl
 go_wp2_with fail
 refine(qEc e v clock o.id ps w0 (uh HE0) hl).mono ?_
 rintro r w1 ⟨rfl,hw1⟩
 rw[hw1,uh HF]
 clear hw1 w1
 unfold qKc
 obtain⟨hv0,hh0⟩:=qBe (uh HO0) 5 20 o.cfg.cells rfl rfl
 go_wp2_with fail
 refine(qK5 o.cfg k w0 (uh HKD) hk1 hk5 hcm hft).mono ?_
 rintro r w1 ⟨rfl,hw1⟩
 unfold qBs fn
 have hlv:∃a cap,v=.slice a 6 cap:=by
  rcases(uh HE0).row.2 with ⟨h1,h2⟩ | ⟨g,cap,cur,h1,_⟩
  ·omega
  ·exact⟨some ⟨g,0,none⟩,cap,by rw[h1,h6]⟩
 obtain⟨va,vcap,hvv⟩:=hlv
 have hka:Keeps (λ_=>False) w0 (w1.alloc (.cells #[.func (.func (qDd k)) #[] #[],.func (.func (qB9 k)) #[] #[],.func (.func (qCe k)) #[] #[],.func (.func (qBd k)) #[] #[],.func (.func (qCf k)) #[] #[],.func (.func (qB7 k)) #[] #[]] 82)):=hw1.alloc _
 have HRa:=hide ((uh HR0).keeps hka (λh=>h))
 have HKa:=hide ((uh HK0).then hka)
 have hc1:w1.cell? ⟨e,1,none⟩=some (.slice va 6 vcap):=by rw[<-hvv];exact((uh HE0).still hw1).blk.cell rfl
 have hle:e<w1.heap.size:=((uh HE0).still hw1).blk.lt
 clear hw1 hka hv0 hh0 hoi hvv
 go_wp2_with fail
 generalize w1.alloc (.cells #[.func (.func (qDd k)) #[] #[],.func (.func (qB9 k)) #[] #[],.func (.func (qCe k)) #[] #[],.func (.func (qBd k)) #[] #[],.func (.func (qCf k)) #[] #[],.func (.func (qB7 k)) #[] #[]] 82)=wa at *
 refine(qG1 4 wa).mono ?_
 rintro r w2 ⟨rfl,hk1⟩
 unfold qBu
 have HR1:=hide ((uh HRa).keeps hk1 (λh=>h))
 have HK1:=hide ((uh HKa).then hk1)
 clear hk1
 have r0:w2.cell? ⟨ob+1,0,none⟩=some (.int .i64 0):=(uh HR1).cell rfl
 have r1:w2.cell? ⟨ob+1,1,none⟩=some (.slice none 0 0):=(uh HR1).cell rfl
 have r2:w2.cell? ⟨ob+1,2,none⟩=some (.string qAa):=(uh HR1).cell rfl
 have rf:=(uh HR1).frozen
 go_wp2
 have hbf:=(((uh HR1).setCell 0 (.int .i64 4)).setCell 1 (.slice none 0 0)).setCell 2 (.string qAa)
 have HKF:=hide ((((Keeps.refl (λi=>i=ob+1) w2).setCell (p:=⟨ob+1,0,none⟩) (Or.inl rfl) (.int .i64 4)).setCell (p:=⟨ob+1,1,none⟩) (Or.inl rfl) (.slice none 0 0)).setCell (p:=⟨ob+1,2,none⟩) (Or.inl rfl) (.string qAa))
 have e9:(((w2.setCell ⟨ob+1,0,none⟩ (.int .i64 4)).setCell ⟨ob+1,1,none⟩ (.slice none 0 0)).setCell ⟨ob+1,2,none⟩ (.string ⟨#[]⟩))=(((w2.setCell ⟨ob+1,0,none⟩ (.int .i64 4)).setCell ⟨ob+1,1,none⟩ (.slice none 0 0)).setCell ⟨ob+1,2,none⟩ (.string qAa)):=rfl
 first | rw[e9] | skip
 generalize(((w2.setCell ⟨ob+1,0,none⟩ (.int .i64 4)).setCell ⟨ob+1,1,none⟩ (.slice none 0 0)).setCell ⟨ob+1,2,none⟩ (.string qAa))=w9 at *
 have q0:w9.cell? ⟨ob+1,0,none⟩=some (.int .i64 4):=hbf.cell rfl
 have q1:w9.cell? ⟨ob+1,1,none⟩=some (.slice none 0 0):=hbf.cell rfl
 have q2:w9.cell? ⟨ob+1,2,none⟩=some (.string qAa):=hbf.cell rfl
 refine bodyPost_ret (v:=qBu 4 (.slice none 0 0)) (by simp[results,Tryz.results42,go_sem,q0,q1,q2,qBu]) rfl ?_
 have hkf:=uh HKF
 have hob:=uh HOB
 have hkk:Keeps (λ_=>False) w w9:=(uh HK1).trans hkf (λi hi hlt=>by omega)
 exact qCl (uh HE) hkk (World.ownsRow_nil _ _ _ _)
end
section
open Go.RowKit
def formB: List Nat:=[115,107,101,116,99,104,32,49]
def sumH(l:List Nat): Int:=l.foldl (λa (b:Nat)=>qC0 1000003000007 b a) 1
def strB(l:List Nat): ByteArray:=strOfNums (l.map λ(n:Nat)=>(n:Int))
end
section
open Go.RowKit
attribute [local go_sem ↓] qAd qAe
attribute [local go_sem] qAi qAj qAc qAb qAm qAn qAk qAo
def Cfg.nums(c:Cfg): List Int:=[c.kind,c.lag,c.skew,c.cap,c.k,c.window,c.bits,c.rows,c.width,c.panes,c.size,c.degree,c.half,c.mark,c.s00,c.s01,c.s10,c.s11,c.s20,c.s21]
def Cfg.num(c:Cfg)(o:Nat): Int:=c.nums.getD o 0
def zEc: Nat->List Nat | 1=>[4,5] | 2=>[6,5] | 3=>[7,8,9,5] | 4=>[11,12,13] | _=>[11,12,13,10]
def appP(t:TypeId)(x y:Value): Sem Next:=do pure (.value (<-Builtin.append_ #[142,142] t #[x,y]))
theorem qLf(ρ:Operand->Value)(dst:Option Tmp)(x y:Operand)(ty:TypeId)(pos:String)(after:Array Edge)(guard:Option (Nat×Bool)):
  execOp ρ { dst,op:=.call { callee:=.builtin .append,args:=#[x,y],argTypes:=#[142,142] },type:=ty,pos,after,guard }=appP ty (ρ x) (ρ y):=by
 rw[BigFrame.execOp_builtin,BigFrame.builtin_append]
 simp[appP]
attribute [local go_sem ↓ 2000] qLf
attribute [local go_sem ↓] Go.wp_at_zero Go.wp_at_succ
end
section
open Go.RowKit
attribute [local go_sem ↓] qAd qAe
attribute [local go_sem] qAi qAj qAc qAb qAm qAn qAk qAo
def zEf: Nat->List Nat | 1=>[0] | 2=>[0,1] | 3=>[0,1] | 4=>[0] | _=>[0,1,2]
def zFd(k:Nat)(c:Cfg): Int:=match k with | 2=>1 | 3=>c.rows | _=>0
def zE8(n:Nat): List Nat:=(List.range (2*n)).map (14+·)
attribute [local go_sem ↓ 2000] qLf
attribute [local go_sem ↓] Go.wp_at_zero Go.wp_at_succ
end
section
open Go.RowKit
attribute [local go_sem ↓] qAd qAe
attribute [local go_sem] qAi qAj qAc qAb qAm qAn qAk qAo
def zBw(k:Nat)(c:Cfg): List Int:=c.kind::([1,2,3].map c.num++((zEc k).map c.num++(zE8 (zFd k c).toNat).map c.num))
end
section
open Go.RowKit
def savT(l:List Dr.It): List Int:=l.flatMap λx=>[x.n,x.t,x.k,x.d]
end
end Go.Proofs.YtahnliehdjncdaaGreatDoor
