import Derived.Test.YtahnliehdjncdaaGreatDoorXBI
import Derived.Test.YtahnliehdjncdaaGreatDoorXBH
import Derived.Test.YtahnliehdjncdaaGreatDoorXAN
import Derived.Deep.AppendLies
import Derived.Test.YtahnliehdjncdaaGreatDoorXBG
import Derived.Laws.OwnMore
import Derived.Test.YtahnliehdjncdaaGreatDoorXAT
set_option maxRecDepth 100000
set_option maxHeartbeats 16000000
namespace Go.Proofs.YtahnliehdjncdaaGreatDoor
section
open Go.RowKit
attribute [local go_sem ↓] qAd qAe
attribute [local go_sem] qAi qAj qAc qAb qAm qAn qAg qAh qAk qAo
theorem qM5(n:Int)(e:Nat)(v:Value)(clock ticks:Int)(ps:List (RB×RSer))(o:OpM)(w:World)(h:RWRep w e v clock ticks ps)(hi:RWInv n clock ticks (ps.map (·.2)))(hn:n<1099511627776)(p:RB×RSer)(hf:qB2 ps o.id=some p)(hkd:p.2.c.kind=1)(hw:inB o.a 1 p.2.c.window=true):
  Calls Tryz.prog 53 #[.pointer (some ⟨e,0,none⟩),o.val] w λr w'=>qE2 w (0,[qV1 (qAq p.2.c p.2.events) (clock-p.2.c.lag-o.a)]) r w':=by
 have hmem:p∈ps:=List.mem_of_find?_eq_some hf
 have HM:=hide hmem
 have hip:=hi.sers p.2 (List.mem_map_of_mem hmem)
 have HIP:=hide hip
 have hil:=hip.items
 have hci:=hi.cnt p.2 (List.mem_map_of_mem hmem) hkd
 have hvc:=qDk (k:=1) hip.valid hkd rfl
 have hcf:CfgC p.2.c:=⟨hvc.1,hvc.2.1,hvc.2.2.1,hvc.2.2.2⟩
 have HCI:=hide hci
 have HCF:=hide hcf
 obtain⟨a0,a1⟩:=qA9 hw
 have a2:o.a<=1000:=by omega
 have HEL:=hide (show p.2.events.length<=4398046511103 by have h1:=hip.events;have h2:=qCo p.2.items;omega)
 clear hci hvc hcf a1
 obtain⟨la0,la1,_,_,_,_⟩:=hip.common
 have hc0:=hi.c0
 have hc1:=hi.c1
 have hl:ps.length<=1000:=by have:=hi.six;rw[List.length_map]at this;omega
 have h1:o.cells[1]?=some (.int .i64 o.id):=rfl
 have HE:=hide h
 have HF:=hide hf
 have HKD:=hide hkd
 clear h hip hmem hi hf hkd
 unfold OpM.val
 go_enter Tryz.func53,Tryz.ntmps53
 go_wp2_with fail
 have hk0:Keeps (λ_=>False) w ((w.alloc (.cells o.cells.toArray 40)).alloc (.cells #[.int .i64 0,.slice none 0 0,.string ⟨#[]⟩] 33)):=((Keeps.refl (λ_=>False) w).alloc _).alloc _
 have HO0:=hide (show Blk ((w.alloc (.cells o.cells.toArray 40)).alloc (.cells #[.int .i64 0,.slice none 0 0,.string ⟨#[]⟩] 33)) w.heap.size o.cells 40 from(Blk.new w o.cells 40).alloc _)
 have HR0:=hide (show Blk ((w.alloc (.cells o.cells.toArray 40)).alloc (.cells #[.int .i64 0,.slice none 0 0,.string ⟨#[]⟩] 33)) (w.heap.size+1) [.int .i64 0,.slice none 0 0,.string qAa] 33 from Blk.newAt (by simp) [_,_,_] 33)
 have HE0:=hide ((uh HE).still hk0)
 have HK0:=hide hk0
 clear hk0
 generalize(w.alloc (.cells o.cells.toArray 40)).alloc (.cells #[.int .i64 0,.slice none 0 0,.string ⟨#[]⟩] 33)=w0 at *
 generalize hob:w.heap.size=ob at *
 have HOB:=hide hob
 clear hob
 refine(qCg e v clock ticks o.id ps w0 (uh HE0) hl).mono ?_
 rintro r w1 ⟨rfl,hw1⟩
 rw[hw1,uh HF]
 clear hw1 w1
 unfold qEh
 have HP0:=hide ((uh HE0).reps p (uh HM))
 go_wp2_with fail
 refine(qBy e p.1.s p.2.c.lag clock w0 ((uh HE0).blk.cell rfl) ((uh HP0).blk.cell rfl) la0 la1 hc0 hc1).mono ?_
 rintro r w1 ⟨rfl,hk1⟩
 have HO1:=hide ((uh HO0).keeps hk1 (λh=>h))
 have HR1:=hide ((uh HR0).keeps hk1 (λh=>h))
 have HP1:=hide ((uh HP0).still hk1)
 have HK1:=hide ((uh HK0).then hk1)
 clear hk1 h1
 have o2:w1.cell? ⟨ob,2,none⟩=some (.int .i64 o.a):=(uh HO1).cell rfl
 have s1:w1.cell? ⟨p.1.s,1,none⟩=some (.int .i64 1):=by
  rw[<-uh HKD];exact(uh HP1).blk.cell rfl
 have s6:w1.cell? ⟨p.1.s,6,none⟩=some (.int .i64 p.2.c.window):=(uh HP1).blk.cell rfl
 generalize hmk:clock-p.2.c.lag=mark at *
 have HMK:=hide hmk
 have hmk0:-100<=mark:=by omega
 have hmk1:mark<=4611686018427387904:=by omega
 clear hmk
 go_wp2_with fail
 go_region_held3 (λw'=>w'.cell? ⟨ob,2,none⟩=some (.int .i64 o.a)/\w'.cell? ⟨p.1.s,6,none⟩=some (.int .i64 p.2.c.window)) (go_keep)
  (first | (go_at_call 77;refine(qAl _ _ _ _).mono ?_;rintro r w9 ⟨rfl,rfl⟩))
 have HO2:=hide ((uh HO1).drew)
 have HR2:=hide ((uh HR1).drew)
 have HP2:=hide ((uh HP1).still ((Keeps.refl (λ_=>False) w1).drew))
 have HK2:=hide ((uh HK1).drew)
 clear o2 s1 s6 HO1 HR1 HP1 HK1
 generalize w1.drew=w2 at *
 have o2:w2.cell? ⟨ob,2,none⟩=some (.int .i64 o.a):=(uh HO2).cell rfl
 go_wp2_with fail
 refine(qAl _ _ _ _).mono ?_
 rintro r w9 ⟨rfl,hw9⟩
 rw[hw9]
 clear hw9 w9
 go_wp2_with fail
 refine(qOh p.1 p.2 o.a mark w2 (uh HP2) (uh HCF) (uh HCI).ok (uh HCI).ts (uh HEL) a0 a2 hmk0 hmk1).mono ?_
 rintro r w3 ⟨g,rfl,hgs,hgb,hk3⟩
 have HR3:=hide ((uh HR2).keeps hk3 (λh=>h))
 have HK3:=hide ((uh HK2).then hk3)
 have HGB:=hide hgb
 have hsz2:ob+1<w2.heap.size:=(uh HR2).lt
 clear hk3 hgb
 have r0:w3.cell? ⟨ob+1,0,none⟩=some (.int .i64 0):=(uh HR3).cell rfl
 have r1:w3.cell? ⟨ob+1,1,none⟩=some (.slice none 0 0):=(uh HR3).cell rfl
 have r2:w3.cell? ⟨ob+1,2,none⟩=some (.string qAa):=(uh HR3).cell rfl
 have rf:=(uh HR3).frozen
 go_wp2
 have hbf:=(((uh HR3).setCell 0 (.int .i64 0)).setCell 1 (.slice (some ⟨g,0,none⟩) 1 1)).setCell 2 (.string qAa)
 have HKF:=hide ((((Keeps.refl (λi=>i=ob+1) w3).setCell (p:=⟨ob+1,0,none⟩) (Or.inl rfl) (.int .i64 0)).setCell (p:=⟨ob+1,1,none⟩) (Or.inl rfl) (.slice (some ⟨g,0,none⟩) 1 1)).setCell (p:=⟨ob+1,2,none⟩) (Or.inl rfl) (.string qAa))
 have e9:(((w3.setCell ⟨ob+1,0,none⟩ (.int .i64 0)).setCell ⟨ob+1,1,none⟩ (.slice (some ⟨g,0,none⟩) 1 1)).setCell ⟨ob+1,2,none⟩ (.string ⟨#[]⟩))=(((w3.setCell ⟨ob+1,0,none⟩ (.int .i64 0)).setCell ⟨ob+1,1,none⟩ (.slice (some ⟨g,0,none⟩) 1 1)).setCell ⟨ob+1,2,none⟩ (.string qAa)):=rfl
 first | rw[e9] | skip
 generalize(((w3.setCell ⟨ob+1,0,none⟩ (.int .i64 0)).setCell ⟨ob+1,1,none⟩ (.slice (some ⟨g,0,none⟩) 1 1)).setCell ⟨ob+1,2,none⟩ (.string qAa))=w9 at *
 have q0:w9.cell? ⟨ob+1,0,none⟩=some (.int .i64 0):=hbf.cell rfl
 have q1:w9.cell? ⟨ob+1,1,none⟩=some (.slice (some ⟨g,0,none⟩) 1 1):=hbf.cell rfl
 have q2:w9.cell? ⟨ob+1,2,none⟩=some (.string qAa):=hbf.cell rfl
 refine bodyPost_ret (v:=qBu 0 (.slice (some ⟨g,0,none⟩) 1 1)) (by simp[results,Tryz.results53,go_sem,q0,q1,q2,qBu]) rfl ?_
 have hob:=uh HOB
 have hsz:=(uh HK2).size
 refine⟨_,rfl,?_,(uh HK3).trans (uh HKF) (λi hi hlt=>by omega)⟩
 have hb9:=(uh HGB).keeps (uh HKF) (λh=>by omega)
 rw[uh HMK]
 exact⟨rfl,.inr ⟨g,1,_,rfl,by omega,hb9,by simp,by unfold maxLen;simp,rfl,rfl⟩⟩
theorem qNh(n:Int)(e:Nat)(v:Value)(clock ticks:Int)(ps:List (RB×RSer))(o:OpM)(w:World)(h:RWRep w e v clock ticks ps)(hi:RWInv n clock ticks (ps.map (·.2)))(p:RB×RSer)(hf:qB2 ps o.id=some p)(hkd:p.2.c.kind=1)(hw:inB o.a 1 p.2.c.window=false):
  Calls Tryz.prog 53 #[.pointer (some ⟨e,0,none⟩),o.val] w λr w'=>qE2 w (13,[]) r w':=by
 have hmem:p∈ps:=List.mem_of_find?_eq_some hf
 have HM:=hide hmem
 have hip:=hi.sers p.2 (List.mem_map_of_mem hmem)
 have HIP:=hide hip
 have hil:=hip.items
 obtain⟨la0,la1,_,_,_,_⟩:=hip.common
 have hc0:=hi.c0
 have hc1:=hi.c1
 have hl:ps.length<=1000:=by have:=hi.six;rw[List.length_map]at this;omega
 have h1:o.cells[1]?=some (.int .i64 o.id):=rfl
 have HE:=hide h
 have HF:=hide hf
 have HKD:=hide hkd
 clear h hip hmem hi hf hkd
 unfold OpM.val
 go_enter Tryz.func53,Tryz.ntmps53
 go_wp2_with fail
 have hk0:Keeps (λ_=>False) w ((w.alloc (.cells o.cells.toArray 40)).alloc (.cells #[.int .i64 0,.slice none 0 0,.string ⟨#[]⟩] 33)):=((Keeps.refl (λ_=>False) w).alloc _).alloc _
 have HO0:=hide (show Blk ((w.alloc (.cells o.cells.toArray 40)).alloc (.cells #[.int .i64 0,.slice none 0 0,.string ⟨#[]⟩] 33)) w.heap.size o.cells 40 from(Blk.new w o.cells 40).alloc _)
 have HR0:=hide (show Blk ((w.alloc (.cells o.cells.toArray 40)).alloc (.cells #[.int .i64 0,.slice none 0 0,.string ⟨#[]⟩] 33)) (w.heap.size+1) [.int .i64 0,.slice none 0 0,.string qAa] 33 from Blk.newAt (by simp) [_,_,_] 33)
 have HE0:=hide ((uh HE).still hk0)
 have HK0:=hide hk0
 clear hk0
 generalize(w.alloc (.cells o.cells.toArray 40)).alloc (.cells #[.int .i64 0,.slice none 0 0,.string ⟨#[]⟩] 33)=w0 at *
 generalize hob:w.heap.size=ob at *
 have HOB:=hide hob
 clear hob
 refine(qCg e v clock ticks o.id ps w0 (uh HE0) hl).mono ?_
 rintro r w1 ⟨rfl,hw1⟩
 rw[hw1,uh HF]
 clear hw1 w1
 unfold qEh
 have HP0:=hide ((uh HE0).reps p (uh HM))
 go_wp2_with fail
 refine(qBy e p.1.s p.2.c.lag clock w0 ((uh HE0).blk.cell rfl) ((uh HP0).blk.cell rfl) la0 la1 hc0 hc1).mono ?_
 rintro r w1 ⟨rfl,hk1⟩
 have HO1:=hide ((uh HO0).keeps hk1 (λh=>h))
 have HR1:=hide ((uh HR0).keeps hk1 (λh=>h))
 have HP1:=hide ((uh HP0).still hk1)
 have HK1:=hide ((uh HK0).then hk1)
 clear hk1 h1
 have o2:w1.cell? ⟨ob,2,none⟩=some (.int .i64 o.a):=(uh HO1).cell rfl
 have s1:w1.cell? ⟨p.1.s,1,none⟩=some (.int .i64 1):=by
  rw[<-uh HKD];exact(uh HP1).blk.cell rfl
 have s6:w1.cell? ⟨p.1.s,6,none⟩=some (.int .i64 p.2.c.window):=(uh HP1).blk.cell rfl
 generalize hmk:clock-p.2.c.lag=mark at *
 have HMK:=hide hmk
 have hmk0:-100<=mark:=by omega
 have hmk1:mark<=4611686018427387904:=by omega
 clear hmk
 go_wp2_with fail
 go_region_held3 (λw'=>w'.cell? ⟨ob,2,none⟩=some (.int .i64 o.a)/\w'.cell? ⟨p.1.s,6,none⟩=some (.int .i64 p.2.c.window)) (go_keep)
  (first | (go_at_call 77;refine(qAl _ _ _ _).mono ?_;rintro r w9 ⟨rfl,rfl⟩))
 have HO2:=hide ((uh HO1).drew)
 have HR2:=hide ((uh HR1).drew)
 have HP2:=hide ((uh HP1).still ((Keeps.refl (λ_=>False) w1).drew))
 have HK2:=hide ((uh HK1).drew)
 clear o2 s1 s6 HO1 HR1 HP1 HK1
 generalize w1.drew=w2 at *
 have o2:w2.cell? ⟨ob,2,none⟩=some (.int .i64 o.a):=(uh HO2).cell rfl
 go_wp2_with fail
 refine(qAl _ _ _ _).mono ?_
 rintro r w9 ⟨rfl,hw9⟩
 rw[hw9]
 clear hw9 w9
 go_wp2_with fail
 refine(qF3 13 w2).mono ?_
 rintro r w3 ⟨rfl,hk1⟩
 unfold qBu
 have HR1:=hide ((uh HR2).keeps hk1 (λh=>h))
 have HK1:=hide ((uh HK2).then hk1)
 clear hk1
 have r0:w3.cell? ⟨ob+1,0,none⟩=some (.int .i64 0):=(uh HR1).cell rfl
 have r1:w3.cell? ⟨ob+1,1,none⟩=some (.slice none 0 0):=(uh HR1).cell rfl
 have r2:w3.cell? ⟨ob+1,2,none⟩=some (.string qAa):=(uh HR1).cell rfl
 have rf:=(uh HR1).frozen
 go_wp2
 have hbf:=(((uh HR1).setCell 0 (.int .i64 13)).setCell 1 (.slice none 0 0)).setCell 2 (.string qAa)
 have HKF:=hide ((((Keeps.refl (λi=>i=ob+1) w3).setCell (p:=⟨ob+1,0,none⟩) (Or.inl rfl) (.int .i64 13)).setCell (p:=⟨ob+1,1,none⟩) (Or.inl rfl) (.slice none 0 0)).setCell (p:=⟨ob+1,2,none⟩) (Or.inl rfl) (.string qAa))
 have e9:(((w3.setCell ⟨ob+1,0,none⟩ (.int .i64 13)).setCell ⟨ob+1,1,none⟩ (.slice none 0 0)).setCell ⟨ob+1,2,none⟩ (.string ⟨#[]⟩))=(((w3.setCell ⟨ob+1,0,none⟩ (.int .i64 13)).setCell ⟨ob+1,1,none⟩ (.slice none 0 0)).setCell ⟨ob+1,2,none⟩ (.string qAa)):=rfl
 first | rw[e9] | skip
 generalize(((w3.setCell ⟨ob+1,0,none⟩ (.int .i64 13)).setCell ⟨ob+1,1,none⟩ (.slice none 0 0)).setCell ⟨ob+1,2,none⟩ (.string qAa))=w9 at *
 have q0:w9.cell? ⟨ob+1,0,none⟩=some (.int .i64 13):=hbf.cell rfl
 have q1:w9.cell? ⟨ob+1,1,none⟩=some (.slice none 0 0):=hbf.cell rfl
 have q2:w9.cell? ⟨ob+1,2,none⟩=some (.string qAa):=hbf.cell rfl
 refine bodyPost_ret (v:=qBu 13 (.slice none 0 0)) (by simp[results,Tryz.results53,go_sem,q0,q1,q2,qBu]) rfl ?_
 have hob:=uh HOB
 exact⟨_,rfl,World.ownsRow_nil _ _ _ _,(uh HK1).trans (uh HKF) (λi hi hlt=>by omega)⟩
end
section
open Go.RowKit
theorem hash_step(A K S r P:Int)(hr:K=2*(K/2)+r): ((A+A)%P*(K/2)+(S+r*A)%P)%P=(A*K+S)%P:=by
 obtain⟨h,hh⟩:∃h,K/2=h:=⟨_,rfl⟩
 rw[hh]at hr ⊢
 subst hr
 have e1:=Int.emod_add_mul_ediv (A+A) P
 have e2:=Int.emod_add_mul_ediv (S+r*A) P
 have e:(A+A)%P*h+(S+r*A)%P=A*(2*h+r)+S+P*(-((A+A)/P*h)-(S+r*A)/P):=by
  have a1:(A+A)%P=(A+A)-P*((A+A)/P):=by omega
  have a2:(S+r*A)%P=(S+r*A)-P*((S+r*A)/P):=by omega
  rw[a1,a2]
  grind
 rw[e,Int.add_mul_emod_self_left]
theorem qQa(a b key:Int)(w:World)(a0:0<=a)(a1:a<2305843009213693951)(b0:0<=b)(b1:b<2305843009213693951)(k0:0<=key)(k1:key<=2147483648):
  Calls Tryz.prog 106 #[.int .i64 a,.int .i64 b,.int .i64 key] w λe w'=>e=.returned (.int .i64 (qC0 a b key))/\w'=w:=by
 go_enter Tryz.func106,Tryz.ntmps106
 go_wp2_with fail
 go_loopw [0,2,7] (λx k s wr=>∃A K S:Int,x=.int .i64 A/\k=.int .i64 K/\s=.int .i64 S/\0<=A/\A<2305843009213693951/\0<=K/\K<=2147483648/\0<=S/\S<2305843009213693951/\Hid ((A*K+S)%2305843009213693951=(a*key+b)%2305843009213693951)/\wr=w) (λ_ k _ _=>(intOf k).toNat)
 case atStart=>exact⟨a,key,b,rfl,rfl,rfl,a0,a1,k0,k1,b0,b1,rfl,rfl⟩
 case round =>
  obtain⟨A,K,S,rfl,rfl,rfl,A0,A1,K0,K1,S0,S1,HE,rfl⟩:=hrel
  by_cases hK:0<K
  ·have hd:decide (0<K)=true:=by simpa using hK
   have hm:K%2=0\/K%2=1:=by omega
   have hA2:0<=(A+A)%2305843009213693951/\(A+A)%2305843009213693951<2305843009213693951:=by omega
   rcases hm with hm | hm
   ·have HS:=hide (show((A+A)%2305843009213693951*(K/2)+S)%2305843009213693951=(a*key+b)%2305843009213693951 by
       have:=hash_step A K S 0 2305843009213693951 (by omega)
       rw[<-uh HE,<-this,Int.zero_mul,Int.add_zero,Int.emod_eq_of_lt S0 S1])
    have hbeq:(K%2==1)=false:=by rw[hm];rfl
    have ht:K.tmod 2=K%2:=Int.tmod_eq_emod_of_nonneg K0
    go_wp2
    go_roundw
    case rel=>exact⟨(A+A)%2305843009213693951,K/2,S,by go_num,by go_num,rfl,hA2.1,hA2.2,by omega,by omega,S0,S1,HS,trivial⟩
    case measure=>simp[intOf];omega
   ·have HS:=hide (show((A+A)%2305843009213693951*(K/2)+(S+A)%2305843009213693951)%2305843009213693951=(a*key+b)%2305843009213693951 by
       have:=hash_step A K S 1 2305843009213693951 (by omega)
       rw[<-uh HE,<-this,Int.one_mul])
    have hbeq:(K%2==1)=true:=by rw[hm];rfl
    go_wp2
    go_roundw
    case rel=>exact⟨(A+A)%2305843009213693951,K/2,(S+A)%2305843009213693951,by go_num,by go_num,by go_num,hA2.1,hA2.2,by omega,by omega,by omega,by omega,HS,trivial⟩
    case measure=>simp[intOf];omega
  ·have hK0:K=0:=by omega
   subst hK0
   have hS:S%2305843009213693951=qC0 a b key:=by
    have:=uh HE
    rw[Int.mul_zero,Int.zero_add]at this
    exact this
   go_wp2
   go_ret
   first | exact⟨qBi hS,rfl⟩ | exact⟨qBi rfl,rfl⟩ | exact⟨rfl,rfl⟩
theorem zD4(x n:Nat)(hx:x<2 ^ 64)(hn:n<40)(hd:x=2 ^ n*(x/2 ^ n))(ho:x/2 ^ n%2=1): Lib.ctz 64 x=n:=by
 have hx0:x≠0:=λh=>by subst h;simp at ho
 unfold Lib.ctz
 rw[if_neg hx0]
 obtain⟨m,h1,_⟩:=Lib.ctzFrom_spec 64 x (by omega) hx
 generalize Lib.ctzFrom 64 x=c at *
 obtain⟨k,hk⟩:∃k,x/2 ^ n=2*k+1:=⟨x/2 ^ n/2,by omega⟩
 rw[hk]at hd
 rw[hd]at h1
 rcases Nat.lt_trichotomy c n with h | h | h
 ·obtain⟨d,rfl⟩:∃d,n=c+(d+1):=⟨n-c-1,by omega⟩
  rw[Nat.pow_add,Nat.mul_assoc]at h1
  have:=Nat.eq_of_mul_eq_mul_left (Nat.two_pow_pos c) h1
  rw[Nat.pow_succ]at this
  have e:2 ^ d*2*(2*k+1)=2*(2 ^ d*(2*k+1)):=by rw[Nat.mul_comm (2 ^ d) 2,Nat.mul_assoc]
  omega
 ·exact h
 ·obtain⟨d,rfl⟩:∃d,c=n+(d+1):=⟨c-n-1,by omega⟩
  rw[Nat.pow_add,Nat.mul_assoc]at h1
  have:=Nat.eq_of_mul_eq_mul_left (Nat.two_pow_pos n) h1
  rw[Nat.pow_succ]at this
  have e:2 ^ d*2*(2*m+1)=2*(2 ^ d*(2*m+1)):=by rw[Nat.mul_comm (2 ^ d) 2,Nat.mul_assoc]
  omega
theorem zD2(x:Nat)(hx:x<2 ^ 64)(hd:x=2 ^ 39*(x/2 ^ 39)): 39<=Lib.ctz 64 x:=by
 unfold Lib.ctz
 split
 ·omega
 ·rename_i hx0
  obtain⟨m,h1,_⟩:=Lib.ctzFrom_spec 64 x (by omega) hx
  generalize Lib.ctzFrom 64 x=c at *
  rcases Nat.lt_or_ge c 39 with h | h
  ·exfalso
   obtain⟨d,hdd⟩:∃d,39=c+(d+1):=⟨39-c-1,by omega⟩
   rw[hdd,Nat.pow_add,Nat.mul_assoc]at hd
   generalize x/(2 ^ c*2 ^ (d+1))=y at hd
   rw[hd]at h1
   have:=Nat.eq_of_mul_eq_mul_left (Nat.two_pow_pos c) h1
   rw[Nat.pow_succ]at this
   have e:2 ^ d*2*y=2*(2 ^ d*y):=by rw[Nat.mul_comm (2 ^ d) 2,Nat.mul_assoc]
   omega
  ·exact h
theorem qWy(q:Int)(w:World)(q0:0<=q)(q1:q<9223372036854775808):
  Calls Tryz.prog 107 #[.int .i64 q] w λe w'=>e=.returned (.int .i64 (qEv q))/\w'=w:=by
 obtain⟨x,rfl⟩:=Int.eq_ofNat_of_zero_le q0
 have hx:x<2 ^ 64:=by omega
 have HX:=hide hx
 clear hx
 go_enter Tryz.func107,Tryz.ntmps107
 go_wp2_with fail
 go_loopw [0,3] (λr n wr=>∃(k y:Nat),k<=39/\r=.int .i64 y/\n=.int .i64 ((k:Int)+1)/\y<=x/\Hid (x=2 ^ k*y)/\wr=w) (λ_ n _=>40-(intOf n).toNat)
 case atStart=>exact⟨0,x,by omega,rfl,rfl,Nat.le_refl _,by show x=2 ^ 0*x;simp,rfl⟩
 case round =>
  obtain⟨k,y,hk,rfl,rfl,hyx,HE,rfl⟩:=hrel
  have hdiv:x/2 ^ k=y:=by rw[uh HE,Nat.mul_div_cancel_left _ (Nat.two_pow_pos k)]
  by_cases hk9:k=39
  ·subst hk9
   have HR:=hide (show qEv (x:Int)=40 by
      unfold qEv
      have:=zD2 x (uh HX) (by rw[hdiv];exact uh HE)
      rw[Int.toNat_natCast];omega)
   have hd:decide (((39:Nat):Int)+1<40)=false:=by decide
   clear hdiv
   go_wp2
   go_ret
   exact⟨qBi (uh HR).symm,rfl⟩
  ·have hd:decide ((k:Int)+1<40)=true:=by simp;omega
   rcases Nat.mod_two_eq_zero_or_one y with h2 | h2
   ·have hz:((y:Int)%2==0)=true:=by simp;omega
    have HE2:=hide (show x=2 ^ (k+1)*(y/2) by
       have h3:y=2*(y/2):=by omega
       have h4:=uh HE
       rw[Nat.pow_succ,Nat.mul_assoc,<-h3];exact h4)
    clear hdiv
    go_wp2
    go_roundw
    case rel=>exact⟨k+1,y/2,by omega,by go_num,by go_num,by omega,HE2,trivial⟩
    case measure=>simp[intOf];omega
   ·have hz:((y:Int)%2==0)=false:=by simp;omega
    have HR:=hide (show qEv (x:Int)=(k:Int)+1 by
       unfold qEv
       rw[Int.toNat_natCast,zD4 x k (uh HX) (by omega) (by rw[hdiv];exact uh HE) (by rw[hdiv];exact h2)]
       omega)
    clear hdiv
    go_wp2
    go_ret
    exact⟨qBi (uh HR).symm,rfl⟩
theorem qTy(a b:Int)(w:World)(a0:-4611686018427389000<=a)(a1:a<=4611686018427389000)(b0:1<=b)(b1:b<=1000):
  Calls Tryz.prog 108 #[.int .i64 a,.int .i64 b] w λe w'=>e=.returned (.int .i64 (a/b))/\w'=w:=by
 cases h:decide (a<0)
 ·have ha:0<=a:=by simpa using h
  have hq:a.tdiv b=a/b:=Int.tdiv_eq_ediv_of_nonneg ha
  have hq0:0<=a/b:=Int.ediv_nonneg ha (by omega)
  have hq1:a/b<=a:=Int.ediv_le_self _ ha
  have hb0:(b==0)=false:=by simp;omega
  go_enter Tryz.func108,Tryz.ntmps108
  go_wp2
  go_ret
  exact⟨by first | rfl | exact qBi rfl | exact qBi hq,rfl⟩
 ·have ha:a<0:=by simpa using h
  have hn:0<=-a+b-1:=by omega
  have hq:(-a+b-1).tdiv b=(-a+b-1)/b:=Int.tdiv_eq_ediv_of_nonneg hn
  have hq0:0<=(-a+b-1)/b:=Int.ediv_nonneg hn (by omega)
  have hq1:(-a+b-1)/b<=-a+b-1:=Int.ediv_le_self _ hn
  have hE:-((-a+b-1)/b)=a/b:=by
   have e1:=Int.emod_add_mul_ediv a b
   have e2:=Int.emod_add_mul_ediv (-a+b-1) b
   have m1:=Int.emod_nonneg a (show b≠0 by omega)
   have m2:=Int.emod_lt_of_pos a (show 0<b by omega)
   have m3:=Int.emod_nonneg (-a+b-1) (show b≠0 by omega)
   have m4:=Int.emod_lt_of_pos (-a+b-1) (show 0<b by omega)
   generalize a/b=x at *
   generalize(-a+b-1)/b=y at *
   have h5:b*(x+y)=b*x+b*y:=Int.mul_add _ _ _
   have h6:-b<b*(x+y)/\b*(x+y)<b:=by omega
   have h7:x+y=0:=by
    rcases Int.lt_trichotomy (x+y) 0 with h | h | h
    ·have:b*(x+y)<=b*(-1):=Int.mul_le_mul_of_nonneg_left (by omega) (by omega)
     omega
    ·exact h
    ·have:b*1<=b*(x+y):=Int.mul_le_mul_of_nonneg_left (by omega) (by omega)
     omega
   omega
  have HE:=hide hE
  clear hE
  go_enter Tryz.func108,Tryz.ntmps108
  go_wp2
  go_ret
  exact⟨by first | (rw[<-uh HE];rfl) | exact qBi (uh HE),rfl⟩
def qA5(l:List RIt)(fr tq:Int): List RIt:=l.filter (λz=>decide (0<z.tick)&&(decide (fr<z.t)&&decide (z.t<=tq)))
abbrev zBa(w:World)(base:Nat)(v:Value)(l:List RIt): Prop:=w.ownsRow base 155 5 v l.length (qE7 l)
theorem qPg(l:List RIt)(fr tq:Int)(k:Nat)(hk:k<l.length): qA5 (l.take (k+1)) fr tq=qA5 (l.take k) fr tq++if (decide (0<(rAt l k).tick)&&(decide (fr<(rAt l k).t)&&decide ((rAt l k).t<=tq)))=true then[rAt l k] else[]:=by
 rw[List.take_succ_eq_append_getElem hk,qCc _ _ hk]
 unfold qA5
 rw[List.filter_append,List.filter_cons]
 congr 1
theorem qGn(l:List RIt)(fr tq:Int): (qA5 l fr tq).length<=l.length:=List.length_filter_le _ _
theorem zB3: (Tryz.prog.info? 155).map (λi=>(i.zero,i.size,i.bytes))=some (some (.agg #[.int .i64 0,.int .i64 0,.int .i64 0,.int .i64 0,.int .i64 0]),5,40):=by kernel_rfl
theorem qPd(a b:List RIt): qE7 (a++b)=qE7 a++qE7 b:=by simp[qE7]
theorem qP6(l:List RIt): (qE7 l).length=l.length*5:=qRw RIt.cells 5 (λ_=>rfl) l
theorem qYb(l:List RIt): ∀u∈qE7 l,u.oneCell'=true:=by
 intro u hu
 obtain⟨z,_,hz⟩:=List.mem_flatMap.1 hu
 simp only[RIt.cells,List.mem_cons,List.not_mem_nil,or_false]at hz
 rcases hz with h | h | h | h | h <;> subst h <;> rfl
theorem qKg{w:World}{ops:Array Oper}{rest:List Oper}{o:Oper}{a:Act}{Q:Exit->Act->World->Prop}(hgd:o.guard=none)(s x:Operand)(ho:o.op=.call { callee:=.builtin .append,args:=#[s,x],argTypes:=#[115,115] })(base:Nat)(v:Value)(A:List RIt)(k:Nat)(hk:A.length=k)(hs:a.eval s=v)(hown:zBa w base v A)(sb c:Nat)(z:RIt)(hx:a.eval x=.slice (some ⟨sb,0,none⟩) 1 c)(hB:∀j u,z.cells[j]?=some u->w.cell? ⟨sb,j,none⟩=some u)(hlen:k+1<=3518437208000)(hbase:base<=w.heap.size)(h:∀g c' w1,zBa w1 base (.slice (some ⟨g,0,none⟩) (k+1) c') (A++[z])->Keeps (λi=>v.ownBlock=some i) w w1->wpList Tryz.prog ops Q rest (a.put o.dst (.slice (some ⟨g,0,none⟩) (k+1) c')) w1): wpList Tryz.prog ops Q (o::rest) a w:=by
 obtain⟨i0,hi0,hz0,hz1,hz2⟩:=info_parts zB3
 subst hk
 have hf:qE7 [z]=z.cells:=by simp[qE7]
 refine wpList_append_lies w hgd s x 115 ho base 155 i0 _ 5 40 Tryz.underlying115 hi0 hz0 hz1 hz2 (by rfl) (by omega) v A.length (qE7 A) hs hown ⟨sb,0,none⟩ 1 c (qE7 [z]) hx (qP6 [z]) ?_ (qYb [z]) (by omega) (by unfold maxLen;omega) (by omega) hbase w.heap.size rfl ?_
 ·intro j u hu
  rw[Addr.add_lit,Nat.zero_add]
  exact hB j u (by rw[<-hf];exact hu)
 ·intro g c' w' hown' hgrow hat hlt'
  refine h g c' w' ?_ ⟨hgrow.os,hgrow.tape,hgrow.output,hgrow.size,λk hk hn=>hgrow.block k hk (λh=>hn h.symm)⟩
  show w'.ownsRow base 155 5 _ (A++[z]).length (qE7 (A++[z]))
  rw[qPd,List.length_append];exact hown'
theorem qH8(b:RB)(y:RSer)(fr tq:Int)(w:World)(h:RRep w b y)(hl:y.items.length<=651562446090):
  Calls Tryz.prog 105 #[.pointer (some ⟨b.s,0,none⟩),.int .i64 fr,.int .i64 tq] w λr w'=>∃v,r=.returned v/\zBa w' w.heap.size v (qA5 y.items fr tq)/\Keeps (λ_=>False) w w':=by
 have hc1:w.cell? ⟨b.s,21,none⟩=some b.iv:=h.blk.cell rfl
 obtain⟨a,cap,hv,-,ha,hcells⟩:=qCy h.its
 rw[hv]at hc1
 have HC:=hide hcells
 have HA:=hide ha
 have HC1:=hide hc1
 clear h hcells ha hc1 hv
 generalize hn:y.items.length=n at *
 have HN:=hide hn
 clear hn
 generalize b.s=s at *
 generalize y.items=all at *
 go_enter Tryz.func105,Tryz.ntmps105
 go_wp2_with fail
 go_loopw [7,8] (λl i wr=>∃(k m c:Nat) (ad:Option Addr),k<=n/\i=.int .i64 k/\l=.slice ad m c/\Hid (zBa wr w.heap.size l (qA5 (all.take k) fr tq))/\Hid (Keeps (λ_=>False) w wr)) (λ_ i _=>n-(intOf i).toNat)
 case atStart=>exact⟨0,0,0,none,by omega,rfl,rfl,World.ownsRow_nil _ _ _ _,Keeps.refl _ _⟩
 case round =>
  obtain⟨k,m,c,ad,hk,rfl,rfl,HO,HK⟩:=hrel
  have hc1:=(uh HK).cell (uh HC1) (λh=>h)
  by_cases hkn:k<n
  ·have hall:k<all.length:=by rw[uh HN];exact hkn
   obtain⟨g,hg⟩:=uh HA (by omega)
   have hrow:=(uh HC g hg).1
   subst hg
   have z0:=(uh HK).cell (hrow (k*5+0) _ (by rw[qBl _ _ _ hall (by omega)];rfl)) (λh=>h)
   have z1:=(uh HK).cell (hrow (k*5+1) _ (by rw[qBl _ _ _ hall (by omega)];rfl)) (λh=>h)
   have z2:=(uh HK).cell (hrow (k*5+2) _ (by rw[qBl _ _ _ hall (by omega)];rfl)) (λh=>h)
   have z3:=(uh HK).cell (hrow (k*5+3) _ (by rw[qBl _ _ _ hall (by omega)];rfl)) (λh=>h)
   have z4:=(uh HK).cell (hrow (k*5+4) _ (by rw[qBl _ _ _ hall (by omega)];rfl)) (λh=>h)
   rw[Nat.add_zero]at z0
   have HT:=hide (qPg all fr tq k hall)
   have hm:m=(qA5 (all.take k) fr tq).length:=by
    obtain⟨_,_,e⟩:=qC4 (uh HO)
    injection e
   have hml:(qA5 (all.take k) fr tq).length<=k:=by
    have h1:=qGn (all.take k) fr tq
    rw[List.length_take]at h1
    omega
   generalize rAt all k=z at *
   generalize qA5 (all.take k) fr tq=A at *
   obtain⟨zt,zk,zd,zn,zi⟩:=z
   have hk0:(0:Int)<=(k:Int):=by omega
   have hkn':(k:Int)<(n:Int):=by omega
   clear hrow hall
   cases h1:decide (0<zi)
   ·have HT2:=hide (show qA5 (all.take (k+1)) fr tq=A by rw[uh HT];simp[h1])
    go_wp2_with fail
    go_roundw
    case rel=>exact⟨k+1,m,c,ad,by omega,by go_num,rfl,by rw[uh HT2];exact HO,HK⟩
    case measure=>simp[intOf];omega
   ·cases h2:decide (fr<zt)
    ·have HT2:=hide (show qA5 (all.take (k+1)) fr tq=A by rw[uh HT];simp[h2])
     go_wp2_with fail
     go_roundw
     case rel=>exact⟨k+1,m,c,ad,by omega,by go_num,rfl,by rw[uh HT2];exact HO,HK⟩
     case measure=>simp[intOf];omega
    ·cases h3:decide (zt<=tq)
     ·have HT2:=hide (show qA5 (all.take (k+1)) fr tq=A by rw[uh HT];simp[h3])
      go_wp2_with fail
      go_roundw
      case rel=>exact⟨k+1,m,c,ad,by omega,by go_num,rfl,by rw[uh HT2];exact HO,HK⟩
      case measure=>simp[intOf];omega
     ·have HT2:=hide (show qA5 (all.take (k+1)) fr tq=A++[⟨zt,zk,zd,zn,zi⟩] by rw[uh HT];simp[h1,h2,h3])
      go_wp2_with (at_builtin;refine qKg rfl _ _ rfl w.heap.size (.slice ad m c) A m hm.symm rfl (by exact(uh HO).alloc _) wr.heap.size 1 ⟨zt,zk,zd,zn,zi⟩ rfl (by intro j u hu;exact(Blk.new wr (RIt.cells ⟨zt,zk,zd,zn,zi⟩) 155).cell hu) (by omega) (by have:=(uh HK).size;simp;omega) ?_;intro g2 c2 w2 hown2 hk2)
      go_roundw
      case rel =>
       rw[hm]at hown2
       refine⟨k+1,_,c2,some ⟨g2,0,none⟩,by omega,by go_num,rfl,?_,?_⟩
       ·show zBa _ _ _ _;rw[uh HT2];exact hown2
       ·refine(((uh HK).alloc _).trans hk2 (λi hi hlt=>?_))
        have:=((uh HO).lt i hi).1
        omega
      case measure=>simp[intOf];omega
  ·have hkE:k=n:=by omega
   subst hkE
   go_wp2_with fail
   go_ret
   have h1:=uh HO
   rw[List.take_of_length_le (by rw[uh HN];omega)]at h1
   exact⟨_,rfl,h1,uh HK⟩
def qV3(c:Cfg)(n:Nat)(G:List Int)(k:Int): List Int :=
 if G.getD (qI8 c n k) 0<qEv (qC0 c.s00 c.s01 k/n) then G.set (qI8 c n k) (qEv (qC0 c.s00 c.s01 k/n)) else G
def qFj(c:Cfg)(n:Nat)(l:List RIt): List Int:=l.foldl (λG z=>qV3 c n G z.k) (List.replicate n 0)
theorem qKy(c:Cfg)(n:Nat)(G:List Int)(k:Int): (qV3 c n G k).length=G.length:=by
 unfold qV3;split <;> simp
theorem qF1(c:Cfg)(n:Nat)(l:List RIt): (qFj c n l).length=n:=by
 unfold qFj
 have:∀(l:List RIt) (G:List Int),(l.foldl (λG z=>qV3 c n G z.k) G).length=G.length:=by
  intro l
  induction l with
  | nil=>intro G;rfl
  | cons z l ih=>intro G;rw[List.foldl_cons,ih,qKy]
 rw[this];simp
theorem qUq(c:Cfg)(n:Nat)(l:List RIt)(k:Nat)(hk:k<l.length): qFj c n (l.take (k+1))=qV3 c n (qFj c n (l.take k)) (rAt l k).k:=by
 rw[List.take_succ_eq_append_getElem hk,qCc _ _ hk]
 unfold qFj
 rw[List.foldl_append];rfl
theorem zA8(c:Cfg)(n:Nat)(l:List RIt): ∀g∈qFj c n l,0<=g/\g<=40:=by
 unfold qFj
 have:∀(l:List RIt) (G:List Int),(∀g∈G,0<=g/\g<=40)->∀g∈l.foldl (λG z=>qV3 c n G z.k) G,0<=g/\g<=40:=by
  intro l
  induction l with
  | nil=>intro G h;exact h
  | cons z l ih =>
   intro G h
   rw[List.foldl_cons]
   refine ih _ (λg hg=>?_)
   unfold qV3 at hg
   split at hg
   ·rcases List.mem_or_eq_of_mem_set hg with e | e
    ·exact h g e
    ·rw[e];have:=qKh (qC0 c.s00 c.s01 z.k/n);omega
   ·exact h g hg
 refine this l _ (λg hg=>?_)
 rw[(List.mem_replicate.1 hg).2];omega
theorem qW3(G:List Int)(k:Nat)(hk:k<G.length): qLo (G.take (k+1))=qLo (G.take k)+2 ^ (40-G.getD k 0).toNat:=by
 rw[List.take_add_one,List.getElem?_eq_getElem hk]
 show qLo (G.take k++[G[k]])=_
 rw[qKr,List.getD_eq_getElem?_getD,List.getElem?_eq_getElem hk]
 simp[qLo]
theorem qXy(G:List Int)(i:Nat)(v:Int): qAy (G.set i v)=(qAy G).set i (.int .i64 v):=by
 unfold qAy;rw[List.map_set]
theorem qTj(G:List Int)(i:Nat)(hi:i<G.length): (qAy G)[i]?=some (.int .i64 (G.getD i 0)):=by
 simp[qAy,List.getD_eq_getElem?_getD,List.getElem?_eq_getElem hi]
theorem qMb(b:RB)(y:RSer)(a m:Int)(n:Nat)(w:World)(h:RRep w b y)(hc:y.c.pair0)(b1:1<=y.c.bits)(b4:y.c.bits<=4)(hn:2 ^ y.c.bits.toNat=n)(hl:y.items.length<=651562446090)(hk:∀z,z∈qA5 y.items (m-a) m->0<=z.k/\z.k<=2147483648)(a1:1<=a)(a2:a<=1000)(m0:-100<=m)(m1:m<=4611686018427387904):
  Calls Tryz.prog 79 #[.pointer (some ⟨b.s,0,none⟩),.int .i64 a,.int .i64 m] w λr w'=>∃v,r=.returned v/\w'.ownsRow w.heap.size 3 1 v (n+1) (qAy (qFj y.c n (qA5 y.items (m-a) m)++[7*n*n*1099511627776/(10*qLo (qFj y.c n (qA5 y.items (m-a) m)))]))/\Keeps (λ_=>False) w w':=by
 have hnI:(2:Int) ^ y.c.bits.toNat=(n:Int):=by rw[<-hn];simp
 have hn16:n<=16:=by
  rw[<-hn]
  have:=Nat.pow_le_pow_right (n:=2) (by omega) (show y.c.bits.toNat<=4 by omega)
  simpa using this
 have hn1:1<=n:=by rw[<-hn];exact Nat.one_le_two_pow
 have hwn:wrap64 (n:Int)=(n:Int):=by unfold wrap64;omega
 have hmk:=λW=>run_make_row' (P:=Tryz.prog) 31 3 (.int .i64 0) 8 Tryz.underlying31 zBc rfl .i64 .i64 n (by omega) (by omega) W
 have hbt:w.cell? ⟨b.s,7,none⟩=some (.int .i64 y.c.bits):=h.blk.cell rfl
 have hwr:IntKind.i64.wrap (m-a)=m-a:=by rw[IntKind.wrap_i64];omega
 have HR:=hide h
 have HKB:=hide hk
 obtain⟨p1,p2,p3,p4⟩:=hc
 clear h hk hn
 go_enter Tryz.func79,Tryz.ntmps79
 go_wp2_with fail
 have HO1:=hide (show(w.alloc (.cells (madeCells #[.int .i64 0] n) 3)).ownsRow w.heap.size 3 1 (.slice (some ⟨w.heap.size,0,none⟩) n n) n (qAy (List.replicate n 0)) by
    have:=World.ownsRow_lit (base:=w.heap.size) (e:=3) (size:=1) w (madeCells #[.int .i64 0] n) n (Nat.le_refl _) (by unfold maxLen;omega) (by rw[<-Array.length_toList,qLi];simp)
    rw[qLi]at this
    rw[show qAy (List.replicate n 0)=List.replicate n (Value.int .i64 0) by simp[qAy]]
    exact this)
 have HK1:=hide ((Keeps.refl (λ_=>False) w).alloc (.cells (madeCells #[.int .i64 0] n) 3))
 have HR1:=hide ((uh HR).still (uh HK1))
 have hz1:(w.alloc (.cells (madeCells #[.int .i64 0] n) 3)).heap.size=w.heap.size+1:=by simp
 generalize w.alloc (.cells (madeCells #[.int .i64 0] n) 3)=W1 at *
 obtain⟨go,hgo⟩:∃go,w.heap.size=go:=⟨_,rfl⟩
 rw[hgo]at hz1 HO1 ⊢
 clear hmk hbt hnI
 refine(qH8 b y (m-a) m W1 (uh HR1) hl).mono ?_
 rintro r W2 ⟨lv,rfl,hL,hk2⟩
 have HL2:=hide hL
 have hll:(qA5 y.items (m-a) m).length<=651562446090:=by have:=qGn y.items (m-a) m;omega
 have HO2:=hide (qBm (uh HO1) hk2 (λ_ _ h=>h))
 have HK2:=hide ((uh HK1).then hk2)
 have HC0:=hide (show ∀z,z∈qA5 y.items (m-a) m->0<=z.k/\z.k<=2147483648 from uh HKB)
 have HR2:=hide ((uh HR1).still hk2)
 have hs15:W2.cell? ⟨b.s,15,none⟩=some (.int .i64 y.c.s00):=(uh HR2).blk.cell rfl
 have hs16:W2.cell? ⟨b.s,16,none⟩=some (.int .i64 y.c.s01):=(uh HR2).blk.cell rfl
 have hsg:b.s≠go:=by have:=(uh HR).blk.lt;omega
 have HS15:=hide hs15
 have HS16:=hide hs16
 generalize hLL:qA5 y.items (m-a) m=LL at *
 have HLL:=hide hLL
 generalize hcc:y.c=c at *
 have HCE:=hide hcc
 clear hcc
 generalize b.s=s at *
 obtain⟨la,lcap,elv⟩:=qC4 hL
 generalize hnl:LL.length=nl at *
 have HNL:=hide hnl
 subst elv
 have HGO:=hide hgo
 clear hL hk2 HKB HR HR1 HR2 hs15 hs16 hnl hLL HO1 HK1 hgo
 go_wp2_with fail
 go_loopw [10] (λi wr=>∃k:Nat,k<=nl/\i=.int .i64 k/\Hid (wr.ownsRow go 3 1 (.slice (some ⟨go,0,none⟩) n n) n (qAy (qFj c n (LL.take k))))/\Hid (Keeps (λj=>j=go) W2 wr)) (λi _=>nl-(intOf i).toNat)
 case atStart=>exact⟨0,by omega,rfl,HO2,Keeps.refl _ _⟩
 case round =>
  obtain⟨k,hk,rfl,HO,HK⟩:=hrel
  by_cases hkn:k<nl
  ·have hkl:k<LL.length:=by rw[uh HNL];exact hkn
   have hLr:zBa wr W1.heap.size (.slice la nl lcap) LL:=by
    have:=qAf (uh HL2) (uh HK) (λi hi h=>by have:=((uh HL2).lt i hi).1;omega)
    exact this
   obtain⟨la',lc',e1,_,hla,hcl⟩:=qCy hLr
   injection e1 with e2 e4 e3
   clear e4
   subst e2 e3
   obtain⟨gl,hgl⟩:=hla (by rw[uh HNL];omega)
   have ck:=(hcl gl hgl).1 (k*5+1) _ (by rw[qBl _ _ _ hkl (by omega)];rfl)
   subst hgl
   have c15:=(uh HK).cell (uh HS15) hsg
   have c16:=(uh HK).cell (uh HS16) hsg
   obtain⟨kb0,kb1⟩:=uh HC0 (rAt LL k) (by rw[qCc _ _ hkl];exact List.getElem_mem hkl)
   have HTK:=hide (qUq c n LL k hkl)
   have hGl:=qF1 c n (LL.take k)
   generalize(rAt LL k).k=kk at *
   generalize qFj c n (LL.take k)=G at *
   have hb:=qHu c.s00 c.s01 kk
   obtain⟨hh,hhe⟩:∃hh,qC0 c.s00 c.s01 kk=hh:=⟨_,rfl⟩
   rw[hhe]at hb
   obtain⟨hh0,hh1⟩:=hb
   obtain⟨ix,hix⟩:∃ix:Nat,qI8 c n kk=ix:=⟨_,rfl⟩
   have hixI:hh%(n:Int)=(ix:Int):=by
    rw[<-hix];unfold qI8;rw[hhe]
    have:=Int.emod_nonneg hh (b:=(n:Int)) (by omega)
    omega
   have hixn:ix<n:=by
    have:=Int.emod_lt_of_pos hh (b:=(n:Int)) (by omega)
    omega
   obtain⟨qq,hqq⟩:∃qq,hh/(n:Int)=qq:=⟨_,rfl⟩
   have hq0:0<=qq:=by rw[<-hqq];exact Int.ediv_nonneg hh0 (by omega)
   have hq1:qq<=hh:=by rw[<-hqq];exact Int.ediv_le_self _ hh0
   have HTK2:=hide (show qFj c n (LL.take (k+1))=if G.getD ix 0<qEv qq then G.set ix (qEv qq) else G by rw[uh HTK];unfold qV3;rw[hix,hhe,hqq])
   have HH:=hide (show ∀w0:World,Calls Tryz.prog 106 #[.int .i64 c.s00,.int .i64 c.s01,.int .i64 kk] w0 λe w'=>e=.returned (.int .i64 hh)/\w'=w0 from λw0=>by rw[<-hhe];exact qQa _ _ _ w0 p1 p2 p3 p4 kb0 kb1)
   have hk0:(0:Int)<=(k:Int):=by omega
   have hkn':(k:Int)<(nl:Int):=by omega
   clear hLr hcl hla hkl HTK hix hhe
   go_wp2_with fail
   go_quiet (first | (go_at_call 106;refine Calls.quiet_of_same (uh HH _)))
   have HKq:=hide ((uh HK).then (Keeps.drewN (λj=>j=go) wr nq))
   have HOq:=hide (qBm (uh HO) (Keeps.drewN (λ_=>False) wr nq) (λ_ _ h=>h))
   have co:=(uh HOq).cellAt ix (by omega)
   rw[qTj G ix (by rw[hGl];exact hixn)]at co
   have fo:=(uh HOq).frozenAt ix
   clear c15 c16 ck
   generalize wr.drewN nq=W3 at *
   go_wp2_with fail
   refine(qWy qq W3 hq0 (by omega)).mono ?_
   rintro r wq ⟨rfl,hwq⟩
   rw[hwq]
   clear hwq wq
   generalize qEv qq=rk at *
   have hi0:(0:Int)<=(ix:Int):=by omega
   have hi1:(ix:Int)<(n:Int):=by omega
   cases hd:decide (G.getD ix 0<rk)
   ·have HTK3:=hide (show qFj c n (LL.take (k+1))=G by rw[uh HTK2,if_neg (by simpa using hd)])
    generalize G.getD ix 0=gv at *
    go_wp2_with fail
    go_roundw
    case rel=>exact⟨k+1,by omega,by go_num,by rw[uh HTK3];exact HOq,HKq⟩
    case measure=>simp[intOf];omega
   ·have HTK3:=hide (show qFj c n (LL.take (k+1))=G.set ix rk by rw[uh HTK2,if_pos (by simpa using hd)])
    generalize G.getD ix 0=gv at *
    go_wp2_with fail
    go_roundw
    case rel=>exact⟨k+1,by omega,by go_num,by rw[uh HTK3,qXy];exact hide (qXm (uh HOq) ix (.int .i64 rk)),hide ((uh HKq).setCell (p:=⟨go,ix,none⟩) (Or.inl rfl) _)⟩
    case measure=>simp[intOf];omega
  ·have hkE:k=nl:=by omega
   subst hkE
   have hfl:LL.take k=LL:=List.take_of_length_le (by rw[uh HNL];omega)
   rw[hfl]at HO
   have hGl:=qF1 c n LL
   have HGB:=hide (zA8 c n LL)
   have HKF:=hide (show Keeps (λ_=>False) w wr from(uh HK2).trans (uh HK) (λi hi hlt=>by have:=uh HGO;omega))
   generalize hGG:qFj c n LL=G at *
   have HGG:=hide hGG
   clear hGG
   have hf:decide ((k:Int)<(k:Int))=false:=by simp
   go_wp2_with fail
   generalize wr=W4 at *
   go_loopw [13,14] (λsv i wr=>∃(j:Nat) (S:Int),j<=n/\i=.int .i64 j/\sv=.int .i64 S/\0<=S/\S<=1099511627776*(j:Int)/\Hid (S=qLo (G.take j))/\wr=W4) (λ_ i _=>n-(intOf i).toNat)
   case atStart=>exact⟨0,0,by omega,rfl,rfl,by omega,by omega,rfl,rfl⟩
   case round =>
    obtain⟨j,S,hj,rfl,rfl,hS0,hS1,HS,rfl⟩:=hrel
    by_cases hjn:j<n
    ·have co:=(uh HO).cellAt j (by omega)
     rw[qTj G j (by rw[hGl];exact hjn)]at co
     have hgb:=uh HGB (G.getD j 0) (by rw[List.getD_eq_getElem?_getD,List.getElem?_eq_getElem (by rw[hGl];exact hjn)];exact List.getElem_mem _)
     have HT:=hide (qW3 G j (by rw[hGl];exact hjn))
     generalize G.getD j 0=gv at *
     obtain⟨g0,g1⟩:=hgb
     have p2:=qJg (40-gv).toNat (by omega)
     have p3:(2:Int) ^ (40-gv).toNat<=1099511627776:=by
      have h4:2 ^ (40-gv).toNat<=2 ^ 40:=Nat.pow_le_pow_right (by omega) (by omega)
      have e:(2:Int) ^ (40-gv).toNat=((2 ^ (40-gv).toNat:Nat):Int):=by simp
      have h5:(2:Nat) ^ 40=1099511627776:=by decide
      rw[e];omega
     obtain⟨P,hP⟩:∃P,(2:Int) ^ (40-gv).toNat=P:=⟨_,rfl⟩
     have HP:=hide hP
     rw[hP]at p2 p3
     obtain⟨p21,p22⟩:=p2
     have hj0:(0:Int)<=(j:Int):=by omega
     have hj1:(j:Int)<(n:Int):=by omega
     have hw40:wrap64 P=P:=by unfold wrap64;omega
     have hwp:IntKind.i64.wrap P=P:=by rw[IntKind.wrap_i64];omega
     have hws:IntKind.i64.wrap (S+P)=S+P:=by rw[IntKind.wrap_i64];omega
     go_wp2_with fail
     go_roundw
     case rel=>exact⟨j+1,S+P,by omega,by go_num,by go_num,by omega,by rw[Int.natCast_add,Int.natCast_one,Int.mul_add];omega,hide (by rw[uh HT,<-uh HS,uh HP]),trivial⟩
     case measure=>simp[intOf];omega
    ·have hjE:j=n:=by omega
     subst hjE
     have hfl2:G.take j=G:=List.take_of_length_le (by rw[hGl];exact Nat.le_refl _)
     rw[hfl2]at HS
     have hsb:=qWf (uh HGB)
     rw[hGl,<-uh HS]at hsb
     obtain⟨sb0,sb1⟩:=hsb
     clear hwn hwr hfl2 hfl
     have hk1:1<=(j:Int):=by omega
     have hk16:(j:Int)<=16:=by omega
     have hsq0:0<=(j:Int)*(j:Int):=Int.mul_nonneg (by omega) (by omega)
     have hsq1:(j:Int)*(j:Int)<=16*16:=Int.mul_le_mul hk16 hk16 (by omega) (by omega)
     have hassoc:7*(j:Int)*(j:Int)=7*((j:Int)*(j:Int)):=Int.mul_assoc _ _ _
     have hw1:IntKind.i64.wrap (7*(j:Int))=7*(j:Int):=by rw[IntKind.wrap_i64];omega
     have hw2:IntKind.i64.wrap (7*(j:Int)*(j:Int))=7*(j:Int)*(j:Int):=by rw[IntKind.wrap_i64];omega
     have hw3:IntKind.i64.wrap (7*(j:Int)*(j:Int)*1099511627776)=7*(j:Int)*(j:Int)*1099511627776:=by rw[IntKind.wrap_i64];omega
     have hw4:IntKind.i64.wrap (10*S)=10*S:=by rw[IntKind.wrap_i64];omega
     have hS1':1<=S:=by omega
     clear sb0 sb1
     obtain⟨N,hN⟩:∃N,7*(j:Int)*(j:Int)*1099511627776=N:=⟨_,rfl⟩
     have hN0:0<=N:=by omega
     have hN1:N<=1970324836974592:=by omega
     have hd:N.tdiv (10*S)=N/(10*S):=Int.tdiv_eq_ediv_of_nonneg hN0
     have hd0:0<=N/(10*S):=Int.ediv_nonneg hN0 (by omega)
     have hd1:N/(10*S)<=N:=Int.ediv_le_self _ hN0
     have hwd:IntKind.i64.wrap (N/(10*S))=N/(10*S):=by rw[IntKind.wrap_i64];omega
     rw[hN]at hw3
     have HNE:=hide hN
     obtain⟨R,hR⟩:∃R,N/(10*S)=R:=⟨_,rfl⟩
     have HRE:=hide hR
     clear hassoc
     rw[hR]at hd hd0 hd1 hwd
     have hwd2:IntKind.i64.wrap (N.tdiv (10*S))=R:=by rw[hd];rw[IntKind.wrap_i64];omega
     have HB:=hide (Blk.new wr [.int .i64 R] 3)
     have hgoe:=uh HGO
     have hszr:=(uh HKF).size
     have hff:decide ((j:Int)<(j:Int))=false:=by simp
     go_wp2_with (at_builtin;refine qBc rfl _ _ rfl go _ j G rfl (by exact qBm (uh HO) ((Keeps.refl (λ_=>False) wr).alloc _) (λ_ _ h=>h)) wr.heap.size 1 [R] rfl rfl (uh HB) (by omega) (by omega) (by simp;omega) ?_;intro g2 c2 W5 hown2 hk2 hat2)
     go_ret
     refine⟨_,rfl,?_,?_⟩
     ·have:=hown2
      rw[hgoe,uh HCE,uh HLL,uh HGG,<-uh HS,uh HNE,uh HRE]
      exact this
     ·exact((uh HKF).alloc (.cells #[.int .i64 R] 3)).trans hk2 (λi hi hlt=>by
         have h2:some go=some i:=hi
         have h1:go=i:=by injection h2
         omega)
end
end Go.Proofs.YtahnliehdjncdaaGreatDoor
