import Derived.Test.YtahnliehdjncdaaGreatDoorXBJ
import Derived.Test.YtahnliehdjncdaaGreatDoorXBK
import Derived.Test.YtahnliehdjncdaaGreatDoorXBL
set_option maxRecDepth 100000
set_option maxHeartbeats 16000000
namespace Go.Proofs.YtahnliehdjncdaaGreatDoor
section
open Go.RowKit
attribute [local go_sem ↓] qAd qAe
attribute [local go_sem] qAi qAj qAc qAb qAm qAn qAg qAh qAk qAo
theorem qT2(n:Int)(e:Nat)(v:Value)(clock ticks:Int)(ps:List (RB×RSer))(o:OpM)(w:World)(h:RWRep w e v clock ticks ps)(hi:RWInv n clock ticks (ps.map (·.2)))(hn:n<=651562446090)(p:RB×RSer)(hf:qB2 ps o.id=some p)(hkd:p.2.c.kind=3)(hw:inB o.a 0 2147483648=true)(hks:∀z,z∈p.2.items->0<=z.k/\z.k<=2147483648):
  Calls Tryz.prog 53 #[.pointer (some ⟨e,0,none⟩),o.val] w λr w'=>qE2 w (0,[qDy p.2.c (qA5 p.2.items (qJj p.2.c (clock-p.2.c.lag)-1) (clock-p.2.c.lag)) o.a p.2.c.rows.toNat]) r w':=by
 have hmem:p∈ps:=List.mem_of_find?_eq_some hf
 have HM:=hide hmem
 have hip:=hi.sers p.2 (List.mem_map_of_mem hmem)
 have HIP:=hide hip
 have hil:=hip.items
 obtain⟨hpd,hrw,hL1,hL2,_⟩:=qD6 (k:=3) hip.valid hkd rfl
 obtain⟨a0,a2⟩:=qA9 hw
 have HPD:=hide hpd
 have HRW:=hide hrw
 have HLL:=hide (show 1<=qA8 p.2.c/\qA8 p.2.c<=1000 from⟨hL1,hL2⟩)
 have HKS:=hide hks
 clear hpd hrw hL1 hL2 hks
 obtain⟨la0,la1,_,_,_,_⟩:=hip.common
 have hc0:=hi.c0
 have hc1:=hi.c1
 have hl:ps.length<=1000:=by have:=hi.six;rw[List.length_map]at this;omega
 have h1:o.cells[1]?=some (.int .i64 o.id):=rfl
 have HE:=hide h
 have HF:=hide hf
 have HKD:=hide hkd
 clear h hip hmem hi hf hkd
 unfold OpM.val
 go_enter Tryz.func53,Tryz.ntmps53
 go_wp2_with fail
 have hk0:Keeps (λ_=>False) w ((w.alloc (.cells o.cells.toArray 40)).alloc (.cells #[.int .i64 0,.slice none 0 0,.string ⟨#[]⟩] 33)):=((Keeps.refl (λ_=>False) w).alloc _).alloc _
 have HO0:=hide (show Blk ((w.alloc (.cells o.cells.toArray 40)).alloc (.cells #[.int .i64 0,.slice none 0 0,.string ⟨#[]⟩] 33)) w.heap.size o.cells 40 from(Blk.new w o.cells 40).alloc _)
 have HR0:=hide (show Blk ((w.alloc (.cells o.cells.toArray 40)).alloc (.cells #[.int .i64 0,.slice none 0 0,.string ⟨#[]⟩] 33)) (w.heap.size+1) [.int .i64 0,.slice none 0 0,.string qAa] 33 from Blk.newAt (by simp) [_,_,_] 33)
 have HE0:=hide ((uh HE).still hk0)
 have HK0:=hide hk0
 clear hk0
 generalize(w.alloc (.cells o.cells.toArray 40)).alloc (.cells #[.int .i64 0,.slice none 0 0,.string ⟨#[]⟩] 33)=w0 at *
 generalize hob:w.heap.size=ob at *
 have HOB:=hide hob
 clear hob
 refine(qCg e v clock ticks o.id ps w0 (uh HE0) hl).mono ?_
 rintro r w1 ⟨rfl,hw1⟩
 rw[hw1,uh HF]
 clear hw1 w1
 unfold qEh
 have HP0:=hide ((uh HE0).reps p (uh HM))
 go_wp2_with fail
 refine(qBy e p.1.s p.2.c.lag clock w0 ((uh HE0).blk.cell rfl) ((uh HP0).blk.cell rfl) la0 la1 hc0 hc1).mono ?_
 rintro r w1 ⟨rfl,hk1⟩
 have HO1:=hide ((uh HO0).keeps hk1 (λh=>h))
 have HR1:=hide ((uh HR0).keeps hk1 (λh=>h))
 have HP1:=hide ((uh HP0).still hk1)
 have HK1:=hide ((uh HK0).then hk1)
 clear hk1 h1
 have o2:w1.cell? ⟨ob,2,none⟩=some (.int .i64 o.a):=(uh HO1).cell rfl
 have s1:w1.cell? ⟨p.1.s,1,none⟩=some (.int .i64 3):=by
  rw[<-uh HKD];exact(uh HP1).blk.cell rfl
 have s6:w1.cell? ⟨p.1.s,6,none⟩=some (.int .i64 p.2.c.window):=(uh HP1).blk.cell rfl
 generalize hmk:clock-p.2.c.lag=mark at *
 have HMK:=hide hmk
 have hmk0:-100<=mark:=by omega
 have hmk1:mark<=4611686018427387904:=by omega
 clear hmk
 go_wp2_with fail
 go_region_held3 (λw'=>w'.cell? ⟨ob,2,none⟩=some (.int .i64 o.a)/\w'.cell? ⟨p.1.s,6,none⟩=some (.int .i64 p.2.c.window)) (go_keep)
  (first | (go_at_call 77;refine(qAl _ _ _ _).mono ?_;rintro r w9 ⟨rfl,rfl⟩))
 have HO2:=hide ((uh HO1).drew)
 have HR2:=hide ((uh HR1).drew)
 have HP2:=hide ((uh HP1).still ((Keeps.refl (λ_=>False) w1).drew))
 have HK2:=hide ((uh HK1).drew)
 clear o2 s1 s6 HO1 HR1 HP1 HK1
 generalize w1.drew=w2 at *
 have o2:w2.cell? ⟨ob,2,none⟩=some (.int .i64 o.a):=(uh HO2).cell rfl
 go_wp2_with fail
 refine(qAl _ _ _ _).mono ?_
 rintro r w9 ⟨rfl,hw9⟩
 rw[hw9]
 clear hw9 w9
 go_wp2_with fail
 refine(qTw p.1 p.2 o.a mark w2 (uh HP2) (uh HPD) (uh HRW) (uh HLL).1 (uh HLL).2 (by omega) (λz hz=>uh HKS z (List.mem_filter.1 hz).1) a0 a2 hmk0 hmk1).mono ?_
 rintro r w3 ⟨g,rfl,hgs,hgb,hk3⟩
 have HR3:=hide ((uh HR2).keeps hk3 (λh=>h))
 have HK3:=hide ((uh HK2).then hk3)
 have HGB:=hide hgb
 have hsz2:ob+1<w2.heap.size:=(uh HR2).lt
 clear hk3 hgb
 have r0:w3.cell? ⟨ob+1,0,none⟩=some (.int .i64 0):=(uh HR3).cell rfl
 have r1:w3.cell? ⟨ob+1,1,none⟩=some (.slice none 0 0):=(uh HR3).cell rfl
 have r2:w3.cell? ⟨ob+1,2,none⟩=some (.string qAa):=(uh HR3).cell rfl
 have rf:=(uh HR3).frozen
 go_wp2
 have hbf:=(((uh HR3).setCell 0 (.int .i64 0)).setCell 1 (.slice (some ⟨g,0,none⟩) 1 1)).setCell 2 (.string qAa)
 have HKF:=hide ((((Keeps.refl (λi=>i=ob+1) w3).setCell (p:=⟨ob+1,0,none⟩) (Or.inl rfl) (.int .i64 0)).setCell (p:=⟨ob+1,1,none⟩) (Or.inl rfl) (.slice (some ⟨g,0,none⟩) 1 1)).setCell (p:=⟨ob+1,2,none⟩) (Or.inl rfl) (.string qAa))
 have e9:(((w3.setCell ⟨ob+1,0,none⟩ (.int .i64 0)).setCell ⟨ob+1,1,none⟩ (.slice (some ⟨g,0,none⟩) 1 1)).setCell ⟨ob+1,2,none⟩ (.string ⟨#[]⟩))=(((w3.setCell ⟨ob+1,0,none⟩ (.int .i64 0)).setCell ⟨ob+1,1,none⟩ (.slice (some ⟨g,0,none⟩) 1 1)).setCell ⟨ob+1,2,none⟩ (.string qAa)):=rfl
 first | rw[e9] | skip
 generalize(((w3.setCell ⟨ob+1,0,none⟩ (.int .i64 0)).setCell ⟨ob+1,1,none⟩ (.slice (some ⟨g,0,none⟩) 1 1)).setCell ⟨ob+1,2,none⟩ (.string qAa))=w9 at *
 have q0:w9.cell? ⟨ob+1,0,none⟩=some (.int .i64 0):=hbf.cell rfl
 have q1:w9.cell? ⟨ob+1,1,none⟩=some (.slice (some ⟨g,0,none⟩) 1 1):=hbf.cell rfl
 have q2:w9.cell? ⟨ob+1,2,none⟩=some (.string qAa):=hbf.cell rfl
 refine bodyPost_ret (v:=qBu 0 (.slice (some ⟨g,0,none⟩) 1 1)) (by simp[results,Tryz.results53,go_sem,q0,q1,q2,qBu]) rfl ?_
 have hob:=uh HOB
 have hsz:=(uh HK2).size
 refine⟨_,rfl,?_,(uh HK3).trans (uh HKF) (λi hi hlt=>by omega)⟩
 have hb9:=(uh HGB).keeps (uh HKF) (λh=>by omega)
 rw[uh HMK]
 exact⟨rfl,.inr ⟨g,1,_,rfl,by omega,hb9,by simp,by unfold maxLen;simp,rfl,rfl⟩⟩
theorem qSl(n:Int)(e:Nat)(v:Value)(clock ticks:Int)(ps:List (RB×RSer))(o:OpM)(w:World)(h:RWRep w e v clock ticks ps)(hi:RWInv n clock ticks (ps.map (·.2)))(p:RB×RSer)(hf:qB2 ps o.id=some p)(hkd:p.2.c.kind=2)(hw:inB o.a 1 p.2.c.window=false):
  Calls Tryz.prog 53 #[.pointer (some ⟨e,0,none⟩),o.val] w λr w'=>qE2 w (13,[]) r w':=by
 have hmem:p∈ps:=List.mem_of_find?_eq_some hf
 have HM:=hide hmem
 have hip:=hi.sers p.2 (List.mem_map_of_mem hmem)
 have HIP:=hide hip
 have hil:=hip.items
 obtain⟨la0,la1,_,_,_,_⟩:=hip.common
 have hc0:=hi.c0
 have hc1:=hi.c1
 have hl:ps.length<=1000:=by have:=hi.six;rw[List.length_map]at this;omega
 have h1:o.cells[1]?=some (.int .i64 o.id):=rfl
 have HE:=hide h
 have HF:=hide hf
 have HKD:=hide hkd
 clear h hip hmem hi hf hkd
 unfold OpM.val
 go_enter Tryz.func53,Tryz.ntmps53
 go_wp2_with fail
 have hk0:Keeps (λ_=>False) w ((w.alloc (.cells o.cells.toArray 40)).alloc (.cells #[.int .i64 0,.slice none 0 0,.string ⟨#[]⟩] 33)):=((Keeps.refl (λ_=>False) w).alloc _).alloc _
 have HO0:=hide (show Blk ((w.alloc (.cells o.cells.toArray 40)).alloc (.cells #[.int .i64 0,.slice none 0 0,.string ⟨#[]⟩] 33)) w.heap.size o.cells 40 from(Blk.new w o.cells 40).alloc _)
 have HR0:=hide (show Blk ((w.alloc (.cells o.cells.toArray 40)).alloc (.cells #[.int .i64 0,.slice none 0 0,.string ⟨#[]⟩] 33)) (w.heap.size+1) [.int .i64 0,.slice none 0 0,.string qAa] 33 from Blk.newAt (by simp) [_,_,_] 33)
 have HE0:=hide ((uh HE).still hk0)
 have HK0:=hide hk0
 clear hk0
 generalize(w.alloc (.cells o.cells.toArray 40)).alloc (.cells #[.int .i64 0,.slice none 0 0,.string ⟨#[]⟩] 33)=w0 at *
 generalize hob:w.heap.size=ob at *
 have HOB:=hide hob
 clear hob
 refine(qCg e v clock ticks o.id ps w0 (uh HE0) hl).mono ?_
 rintro r w1 ⟨rfl,hw1⟩
 rw[hw1,uh HF]
 clear hw1 w1
 unfold qEh
 have HP0:=hide ((uh HE0).reps p (uh HM))
 go_wp2_with fail
 refine(qBy e p.1.s p.2.c.lag clock w0 ((uh HE0).blk.cell rfl) ((uh HP0).blk.cell rfl) la0 la1 hc0 hc1).mono ?_
 rintro r w1 ⟨rfl,hk1⟩
 have HO1:=hide ((uh HO0).keeps hk1 (λh=>h))
 have HR1:=hide ((uh HR0).keeps hk1 (λh=>h))
 have HP1:=hide ((uh HP0).still hk1)
 have HK1:=hide ((uh HK0).then hk1)
 clear hk1 h1
 have o2:w1.cell? ⟨ob,2,none⟩=some (.int .i64 o.a):=(uh HO1).cell rfl
 have s1:w1.cell? ⟨p.1.s,1,none⟩=some (.int .i64 2):=by
  rw[<-uh HKD];exact(uh HP1).blk.cell rfl
 have s6:w1.cell? ⟨p.1.s,6,none⟩=some (.int .i64 p.2.c.window):=(uh HP1).blk.cell rfl
 generalize hmk:clock-p.2.c.lag=mark at *
 have HMK:=hide hmk
 have hmk0:-100<=mark:=by omega
 have hmk1:mark<=4611686018427387904:=by omega
 clear hmk
 go_wp2_with fail
 go_region_held3 (λw'=>w'.cell? ⟨ob,2,none⟩=some (.int .i64 o.a)/\w'.cell? ⟨p.1.s,6,none⟩=some (.int .i64 p.2.c.window)) (go_keep)
  (first | (go_at_call 77;refine(qAl _ _ _ _).mono ?_;rintro r w9 ⟨rfl,rfl⟩))
 have HO2:=hide ((uh HO1).drew)
 have HR2:=hide ((uh HR1).drew)
 have HP2:=hide ((uh HP1).still ((Keeps.refl (λ_=>False) w1).drew))
 have HK2:=hide ((uh HK1).drew)
 clear o2 s1 s6 HO1 HR1 HP1 HK1
 generalize w1.drew=w2 at *
 have o2:w2.cell? ⟨ob,2,none⟩=some (.int .i64 o.a):=(uh HO2).cell rfl
 go_wp2_with fail
 refine(qAl _ _ _ _).mono ?_
 rintro r w9 ⟨rfl,hw9⟩
 rw[hw9]
 clear hw9 w9
 go_wp2_with fail
 refine(qF3 13 w2).mono ?_
 rintro r w3 ⟨rfl,hk1⟩
 unfold qBu
 have HR1:=hide ((uh HR2).keeps hk1 (λh=>h))
 have HK1:=hide ((uh HK2).then hk1)
 clear hk1
 have r0:w3.cell? ⟨ob+1,0,none⟩=some (.int .i64 0):=(uh HR1).cell rfl
 have r1:w3.cell? ⟨ob+1,1,none⟩=some (.slice none 0 0):=(uh HR1).cell rfl
 have r2:w3.cell? ⟨ob+1,2,none⟩=some (.string qAa):=(uh HR1).cell rfl
 have rf:=(uh HR1).frozen
 go_wp2
 have hbf:=(((uh HR1).setCell 0 (.int .i64 13)).setCell 1 (.slice none 0 0)).setCell 2 (.string qAa)
 have HKF:=hide ((((Keeps.refl (λi=>i=ob+1) w3).setCell (p:=⟨ob+1,0,none⟩) (Or.inl rfl) (.int .i64 13)).setCell (p:=⟨ob+1,1,none⟩) (Or.inl rfl) (.slice none 0 0)).setCell (p:=⟨ob+1,2,none⟩) (Or.inl rfl) (.string qAa))
 have e9:(((w3.setCell ⟨ob+1,0,none⟩ (.int .i64 13)).setCell ⟨ob+1,1,none⟩ (.slice none 0 0)).setCell ⟨ob+1,2,none⟩ (.string ⟨#[]⟩))=(((w3.setCell ⟨ob+1,0,none⟩ (.int .i64 13)).setCell ⟨ob+1,1,none⟩ (.slice none 0 0)).setCell ⟨ob+1,2,none⟩ (.string qAa)):=rfl
 first | rw[e9] | skip
 generalize(((w3.setCell ⟨ob+1,0,none⟩ (.int .i64 13)).setCell ⟨ob+1,1,none⟩ (.slice none 0 0)).setCell ⟨ob+1,2,none⟩ (.string qAa))=w9 at *
 have q0:w9.cell? ⟨ob+1,0,none⟩=some (.int .i64 13):=hbf.cell rfl
 have q1:w9.cell? ⟨ob+1,1,none⟩=some (.slice none 0 0):=hbf.cell rfl
 have q2:w9.cell? ⟨ob+1,2,none⟩=some (.string qAa):=hbf.cell rfl
 refine bodyPost_ret (v:=qBu 13 (.slice none 0 0)) (by simp[results,Tryz.results53,go_sem,q0,q1,q2,qBu]) rfl ?_
 have hob:=uh HOB
 exact⟨_,rfl,World.ownsRow_nil _ _ _ _,(uh HK1).trans (uh HKF) (λi hi hlt=>by omega)⟩
theorem qVp(n:Int)(e:Nat)(v:Value)(clock ticks:Int)(ps:List (RB×RSer))(o:OpM)(w:World)(h:RWRep w e v clock ticks ps)(hi:RWInv n clock ticks (ps.map (·.2)))(hn:n<=651562446090)(p:RB×RSer)(hf:qB2 ps o.id=some p)(hkd:p.2.c.kind=2)(hw:inB o.a 1 p.2.c.window=true)(hks:∀z,z∈p.2.items->0<=z.k/\z.k<=2147483648):
  Calls Tryz.prog 53 #[.pointer (some ⟨e,0,none⟩),o.val] w λr w'=>qE2 w (0,qFj p.2.c (2 ^ p.2.c.bits.toNat) (qA5 p.2.items (clock-p.2.c.lag-o.a) (clock-p.2.c.lag))++[7*((2 ^ p.2.c.bits.toNat:Nat):Int)*((2 ^ p.2.c.bits.toNat:Nat):Int)*1099511627776/(10*qLo (qFj p.2.c (2 ^ p.2.c.bits.toNat) (qA5 p.2.items (clock-p.2.c.lag-o.a) (clock-p.2.c.lag))))]) r w':=by
 have hmem:p∈ps:=List.mem_of_find?_eq_some hf
 have HM:=hide hmem
 have hip:=hi.sers p.2 (List.mem_map_of_mem hmem)
 have HIP:=hide hip
 have hil:=hip.items
 obtain⟨hp0,bt1,bt2,_,w1000⟩:=qD0 (k:=2) hip.valid hkd rfl
 obtain⟨a0,a1⟩:=qA9 hw
 have a2:o.a<=1000:=by omega
 have HP00:=hide hp0
 have HKS:=hide hks
 clear hp0 hks a1
 obtain⟨nr,hnr⟩:∃nr,2 ^ p.2.c.bits.toNat=nr:=⟨_,rfl⟩
 rw[hnr]
 have HNR:=hide hnr
 clear hnr
 obtain⟨la0,la1,_,_,_,_⟩:=hip.common
 have hc0:=hi.c0
 have hc1:=hi.c1
 have hl:ps.length<=1000:=by have:=hi.six;rw[List.length_map]at this;omega
 have h1:o.cells[1]?=some (.int .i64 o.id):=rfl
 have HE:=hide h
 have HF:=hide hf
 have HKD:=hide hkd
 clear h hip hmem hi hf hkd
 unfold OpM.val
 go_enter Tryz.func53,Tryz.ntmps53
 go_wp2_with fail
 have hk0:Keeps (λ_=>False) w ((w.alloc (.cells o.cells.toArray 40)).alloc (.cells #[.int .i64 0,.slice none 0 0,.string ⟨#[]⟩] 33)):=((Keeps.refl (λ_=>False) w).alloc _).alloc _
 have HO0:=hide (show Blk ((w.alloc (.cells o.cells.toArray 40)).alloc (.cells #[.int .i64 0,.slice none 0 0,.string ⟨#[]⟩] 33)) w.heap.size o.cells 40 from(Blk.new w o.cells 40).alloc _)
 have HR0:=hide (show Blk ((w.alloc (.cells o.cells.toArray 40)).alloc (.cells #[.int .i64 0,.slice none 0 0,.string ⟨#[]⟩] 33)) (w.heap.size+1) [.int .i64 0,.slice none 0 0,.string qAa] 33 from Blk.newAt (by simp) [_,_,_] 33)
 have HE0:=hide ((uh HE).still hk0)
 have HK0:=hide hk0
 clear hk0
 generalize(w.alloc (.cells o.cells.toArray 40)).alloc (.cells #[.int .i64 0,.slice none 0 0,.string ⟨#[]⟩] 33)=w0 at *
 generalize hob:w.heap.size=ob at *
 have HOB:=hide hob
 clear hob
 refine(qCg e v clock ticks o.id ps w0 (uh HE0) hl).mono ?_
 rintro r w1 ⟨rfl,hw1⟩
 rw[hw1,uh HF]
 clear hw1 w1
 unfold qEh
 have HP0:=hide ((uh HE0).reps p (uh HM))
 go_wp2_with fail
 refine(qBy e p.1.s p.2.c.lag clock w0 ((uh HE0).blk.cell rfl) ((uh HP0).blk.cell rfl) la0 la1 hc0 hc1).mono ?_
 rintro r w1 ⟨rfl,hk1⟩
 have HO1:=hide ((uh HO0).keeps hk1 (λh=>h))
 have HR1:=hide ((uh HR0).keeps hk1 (λh=>h))
 have HP1:=hide ((uh HP0).still hk1)
 have HK1:=hide ((uh HK0).then hk1)
 clear hk1 h1
 have o2:w1.cell? ⟨ob,2,none⟩=some (.int .i64 o.a):=(uh HO1).cell rfl
 have s1:w1.cell? ⟨p.1.s,1,none⟩=some (.int .i64 2):=by
  rw[<-uh HKD];exact(uh HP1).blk.cell rfl
 have s6:w1.cell? ⟨p.1.s,6,none⟩=some (.int .i64 p.2.c.window):=(uh HP1).blk.cell rfl
 generalize hmk:clock-p.2.c.lag=mark at *
 have HMK:=hide hmk
 have hmk0:-100<=mark:=by omega
 have hmk1:mark<=4611686018427387904:=by omega
 clear hmk
 go_wp2_with fail
 go_region_held3 (λw'=>w'.cell? ⟨ob,2,none⟩=some (.int .i64 o.a)/\w'.cell? ⟨p.1.s,6,none⟩=some (.int .i64 p.2.c.window)) (go_keep)
  (first | (go_at_call 77;refine(qAl _ _ _ _).mono ?_;rintro r w9 ⟨rfl,rfl⟩))
 have HO2:=hide ((uh HO1).drew)
 have HR2:=hide ((uh HR1).drew)
 have HP2:=hide ((uh HP1).still ((Keeps.refl (λ_=>False) w1).drew))
 have HK2:=hide ((uh HK1).drew)
 clear o2 s1 s6 HO1 HR1 HP1 HK1
 generalize w1.drew=w2 at *
 have o2:w2.cell? ⟨ob,2,none⟩=some (.int .i64 o.a):=(uh HO2).cell rfl
 go_wp2_with fail
 refine(qAl _ _ _ _).mono ?_
 rintro r w9 ⟨rfl,hw9⟩
 rw[hw9]
 clear hw9 w9
 go_wp2_with fail
 refine(qMb p.1 p.2 o.a mark nr w2 (uh HP2) (uh HP00) bt1 bt2 (uh HNR) (by omega) (λz hz=>uh HKS z (List.mem_filter.1 hz).1) a0 a2 hmk0 hmk1).mono ?_
 rintro r w3 ⟨sv,rfl,hown3,hk3⟩
 have HR3:=hide ((uh HR2).keeps hk3 (λh=>h))
 have HK3:=hide ((uh HK2).then hk3)
 obtain⟨ad,cp,esv⟩:=qC4 hown3
 have hgs:∀i,sv.ownBlock=some i->w2.heap.size<=i:=λi hi=>(hown3.lt i hi).1
 have HOW:=hide hown3
 have HGS:=hide hgs
 subst esv
 have hsz2:ob+1<w2.heap.size:=(uh HR2).lt
 clear hk3 hown3 hgs
 have r0:w3.cell? ⟨ob+1,0,none⟩=some (.int .i64 0):=(uh HR3).cell rfl
 have r1:w3.cell? ⟨ob+1,1,none⟩=some (.slice none 0 0):=(uh HR3).cell rfl
 have r2:w3.cell? ⟨ob+1,2,none⟩=some (.string qAa):=(uh HR3).cell rfl
 have rf:=(uh HR3).frozen
 go_wp2
 have hbf:=(((uh HR3).setCell 0 (.int .i64 0)).setCell 1 (.slice ad (nr+1) cp)).setCell 2 (.string qAa)
 have HKF:=hide ((((Keeps.refl (λi=>i=ob+1) w3).setCell (p:=⟨ob+1,0,none⟩) (Or.inl rfl) (.int .i64 0)).setCell (p:=⟨ob+1,1,none⟩) (Or.inl rfl) (.slice ad (nr+1) cp)).setCell (p:=⟨ob+1,2,none⟩) (Or.inl rfl) (.string qAa))
 have e9:(((w3.setCell ⟨ob+1,0,none⟩ (.int .i64 0)).setCell ⟨ob+1,1,none⟩ (.slice ad (nr+1) cp)).setCell ⟨ob+1,2,none⟩ (.string ⟨#[]⟩))=(((w3.setCell ⟨ob+1,0,none⟩ (.int .i64 0)).setCell ⟨ob+1,1,none⟩ (.slice ad (nr+1) cp)).setCell ⟨ob+1,2,none⟩ (.string qAa)):=rfl
 first | rw[e9] | skip
 generalize(((w3.setCell ⟨ob+1,0,none⟩ (.int .i64 0)).setCell ⟨ob+1,1,none⟩ (.slice ad (nr+1) cp)).setCell ⟨ob+1,2,none⟩ (.string qAa))=w9 at *
 have q0:w9.cell? ⟨ob+1,0,none⟩=some (.int .i64 0):=hbf.cell rfl
 have q1:w9.cell? ⟨ob+1,1,none⟩=some (.slice ad (nr+1) cp):=hbf.cell rfl
 have q2:w9.cell? ⟨ob+1,2,none⟩=some (.string qAa):=hbf.cell rfl
 refine bodyPost_ret (v:=qBu 0 (.slice ad (nr+1) cp)) (by simp[results,Tryz.results53,go_sem,q0,q1,q2,qBu]) rfl ?_
 have hob:=uh HOB
 have hsz:=(uh HK2).size
 refine⟨_,rfl,?_,(uh HK3).trans (uh HKF) (λi hi hlt=>by omega)⟩
 rw[uh HMK]
 have hb9:=qBm (uh HOW) (uh HKF) (λi hi h=>by have:=uh HGS i hi;omega)
 show w9.ownsRow _ 3 1 _ (_++[_]).length _
 rw[List.length_append,qF1]
 exact qLv hb9 (by omega)
theorem qU0(n:Int)(e:Nat)(v:Value)(clock ticks:Int)(ps:List (RB×RSer))(o:OpM)(w:World)(h:RWRep w e v clock ticks ps)(hi:RWInv n clock ticks (ps.map (·.2)))(hn:n<=651562446090)(p:RB×RSer)(hf:qB2 ps o.id=some p)(hkd:p.2.c.kind=5)(hzs:∀z,z∈p.2.items->0<=z.d/\z.d<=2147483648)(hBB:∀q i,(qGy p.2.c (qA5 p.2.items (-1) (clock-p.2.c.lag)) q i).1.length<=100):
  Calls Tryz.prog 53 #[.pointer (some ⟨e,0,none⟩),o.val] w λr w'=>qE2 w (0,qFv p.2.c (qA5 p.2.items (-1) (clock-p.2.c.lag))) r w':=by
 have hmem:p∈ps:=List.mem_of_find?_eq_some hf
 have HM:=hide hmem
 have hip:=hi.sers p.2 (List.mem_map_of_mem hmem)
 have HIP:=hide hip
 have hil:=hip.items
 obtain⟨sz0,sz1⟩:=qC9 (k:=5) hip.valid hkd rfl
 have HWG:=hide (qEz (k:=5) hip.valid hkd (by omega) (by omega))
 have HZS:=hide (show ∀z,z∈p.2.items->(0<=z.t/\z.t<=4611686018427387904)/\0<=z.d/\z.d<=2147483648 from λz hz=>⟨hip.times z hz,hzs z hz⟩)
 have HBB:=hide hBB
 clear hzs hBB
 obtain⟨la0,la1,_,_,_,_⟩:=hip.common
 have hc0:=hi.c0
 have hc1:=hi.c1
 have hl:ps.length<=1000:=by have:=hi.six;rw[List.length_map]at this;omega
 have h1:o.cells[1]?=some (.int .i64 o.id):=rfl
 have HE:=hide h
 have HF:=hide hf
 have HKD:=hide hkd
 clear h hip hmem hi hf hkd
 unfold OpM.val
 go_enter Tryz.func53,Tryz.ntmps53
 go_wp2_with fail
 have hk0:Keeps (λ_=>False) w ((w.alloc (.cells o.cells.toArray 40)).alloc (.cells #[.int .i64 0,.slice none 0 0,.string ⟨#[]⟩] 33)):=((Keeps.refl (λ_=>False) w).alloc _).alloc _
 have HO0:=hide (show Blk ((w.alloc (.cells o.cells.toArray 40)).alloc (.cells #[.int .i64 0,.slice none 0 0,.string ⟨#[]⟩] 33)) w.heap.size o.cells 40 from(Blk.new w o.cells 40).alloc _)
 have HR0:=hide (show Blk ((w.alloc (.cells o.cells.toArray 40)).alloc (.cells #[.int .i64 0,.slice none 0 0,.string ⟨#[]⟩] 33)) (w.heap.size+1) [.int .i64 0,.slice none 0 0,.string qAa] 33 from Blk.newAt (by simp) [_,_,_] 33)
 have HE0:=hide ((uh HE).still hk0)
 have HK0:=hide hk0
 clear hk0
 generalize(w.alloc (.cells o.cells.toArray 40)).alloc (.cells #[.int .i64 0,.slice none 0 0,.string ⟨#[]⟩] 33)=w0 at *
 generalize hob:w.heap.size=ob at *
 have HOB:=hide hob
 clear hob
 refine(qCg e v clock ticks o.id ps w0 (uh HE0) hl).mono ?_
 rintro r w1 ⟨rfl,hw1⟩
 rw[hw1,uh HF]
 clear hw1 w1
 unfold qEh
 have HP0:=hide ((uh HE0).reps p (uh HM))
 go_wp2_with fail
 refine(qBy e p.1.s p.2.c.lag clock w0 ((uh HE0).blk.cell rfl) ((uh HP0).blk.cell rfl) la0 la1 hc0 hc1).mono ?_
 rintro r w1 ⟨rfl,hk1⟩
 have HO1:=hide ((uh HO0).keeps hk1 (λh=>h))
 have HR1:=hide ((uh HR0).keeps hk1 (λh=>h))
 have HP1:=hide ((uh HP0).still hk1)
 have HK1:=hide ((uh HK0).then hk1)
 clear hk1 h1
 have o2:w1.cell? ⟨ob,2,none⟩=some (.int .i64 o.a):=(uh HO1).cell rfl
 have s1:w1.cell? ⟨p.1.s,1,none⟩=some (.int .i64 5):=by
  rw[<-uh HKD];exact(uh HP1).blk.cell rfl
 have s6:w1.cell? ⟨p.1.s,6,none⟩=some (.int .i64 p.2.c.window):=(uh HP1).blk.cell rfl
 generalize hmk:clock-p.2.c.lag=mark at *
 have HMK:=hide hmk
 have hmk0:-100<=mark:=by omega
 have hmk1:mark<=4611686018427387904:=by omega
 clear hmk
 go_wp2_with fail
 go_region_held3 (λw'=>w'.cell? ⟨ob,2,none⟩=some (.int .i64 o.a)/\w'.cell? ⟨p.1.s,6,none⟩=some (.int .i64 p.2.c.window)) (go_keep)
  (first | (go_at_call 77;refine(qAl _ _ _ _).mono ?_;rintro r w9 ⟨rfl,rfl⟩))
 have HO2:=hide ((uh HO1).drew)
 have HR2:=hide ((uh HR1).drew)
 have HP2:=hide ((uh HP1).still ((Keeps.refl (λ_=>False) w1).drew))
 have HK2:=hide ((uh HK1).drew)
 clear o2 s1 s6 HO1 HR1 HP1 HK1
 generalize w1.drew=w2 at *
 have o2:w2.cell? ⟨ob,2,none⟩=some (.int .i64 o.a):=(uh HO2).cell rfl
 go_wp2_with fail
 refine(qAl _ _ _ _).mono ?_
 rintro r w9 ⟨rfl,hw9⟩
 rw[hw9]
 clear hw9 w9
 go_wp2_with fail
 refine(qU5 p.1 p.2 mark w2 (uh HP2) (uh HWG) sz0 sz1 (by omega) (λz hz=>uh HZS z (List.mem_filter.1 hz).1) (uh HBB)).mono ?_
 rintro r w3 ⟨sv,rfl,hown3,hk3⟩
 have HR3:=hide ((uh HR2).keeps hk3 (λh=>h))
 have HK3:=hide ((uh HK2).then hk3)
 obtain⟨ad,cp,esv⟩:=qC4 hown3
 have hgs:∀i,sv.ownBlock=some i->w2.heap.size<=i:=λi hi=>(hown3.lt i hi).1
 have HOW:=hide hown3
 have HGS:=hide hgs
 subst esv
 have hsz2:ob+1<w2.heap.size:=(uh HR2).lt
 clear hk3 hown3 hgs
 have r0:w3.cell? ⟨ob+1,0,none⟩=some (.int .i64 0):=(uh HR3).cell rfl
 have r1:w3.cell? ⟨ob+1,1,none⟩=some (.slice none 0 0):=(uh HR3).cell rfl
 have r2:w3.cell? ⟨ob+1,2,none⟩=some (.string qAa):=(uh HR3).cell rfl
 have rf:=(uh HR3).frozen
 go_wp2
 have hbf:=(((uh HR3).setCell 0 (.int .i64 0)).setCell 1 (.slice ad (qFv p.2.c (qA5 p.2.items (-1) mark)).length cp)).setCell 2 (.string qAa)
 have HKF:=hide ((((Keeps.refl (λi=>i=ob+1) w3).setCell (p:=⟨ob+1,0,none⟩) (Or.inl rfl) (.int .i64 0)).setCell (p:=⟨ob+1,1,none⟩) (Or.inl rfl) (.slice ad (qFv p.2.c (qA5 p.2.items (-1) mark)).length cp)).setCell (p:=⟨ob+1,2,none⟩) (Or.inl rfl) (.string qAa))
 have e9:(((w3.setCell ⟨ob+1,0,none⟩ (.int .i64 0)).setCell ⟨ob+1,1,none⟩ (.slice ad (qFv p.2.c (qA5 p.2.items (-1) mark)).length cp)).setCell ⟨ob+1,2,none⟩ (.string ⟨#[]⟩))=(((w3.setCell ⟨ob+1,0,none⟩ (.int .i64 0)).setCell ⟨ob+1,1,none⟩ (.slice ad (qFv p.2.c (qA5 p.2.items (-1) mark)).length cp)).setCell ⟨ob+1,2,none⟩ (.string qAa)):=rfl
 first | rw[e9] | skip
 generalize(((w3.setCell ⟨ob+1,0,none⟩ (.int .i64 0)).setCell ⟨ob+1,1,none⟩ (.slice ad (qFv p.2.c (qA5 p.2.items (-1) mark)).length cp)).setCell ⟨ob+1,2,none⟩ (.string qAa))=w9 at *
 have q0:w9.cell? ⟨ob+1,0,none⟩=some (.int .i64 0):=hbf.cell rfl
 have q1:w9.cell? ⟨ob+1,1,none⟩=some (.slice ad (qFv p.2.c (qA5 p.2.items (-1) mark)).length cp):=hbf.cell rfl
 have q2:w9.cell? ⟨ob+1,2,none⟩=some (.string qAa):=hbf.cell rfl
 refine bodyPost_ret (v:=qBu 0 (.slice ad (qFv p.2.c (qA5 p.2.items (-1) mark)).length cp)) (by simp[results,Tryz.results53,go_sem,q0,q1,q2,qBu]) rfl ?_
 have hob:=uh HOB
 have hsz:=(uh HK2).size
 refine⟨_,rfl,?_,(uh HK3).trans (uh HKF) (λi hi hlt=>by omega)⟩
 rw[uh HMK]
 have hb9:=qBm (uh HOW) (uh HKF) (λi hi h=>by have:=uh HGS i hi;omega)
 exact qLv hb9 (by omega)
end
end Go.Proofs.YtahnliehdjncdaaGreatDoor
