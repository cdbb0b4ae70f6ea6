import Derived.Test.YtahnliehdjncdaaGreatDoorXBG
import Derived.Test.YtahnliehdjncdaaGreatDoorXAU
import Derived.Deep.LoopGhost
import Derived.Test.YtahnliehdjncdaaGreatDoorXBB
set_option maxRecDepth 100000
set_option maxHeartbeats 16000000
namespace Go.Proofs.YtahnliehdjncdaaGreatDoor
section
open Go.RowKit
attribute [local go_sem ↓] qAd qAe
attribute [local go_sem] qAi qAj qAc qAb qAm qAn qAg qAh qAk qAo
theorem qUd(c:Cfg)(l:List RIt)(k:Nat)(hi lo:Int)(hk:k<l.length): qEl c (l.drop k) hi lo=(if 0<(rAt l k).tick then qEl c (l.drop (k+1)) (hi+qA3 (qAr c (rAt l k).t)/2305843009213693952+(lo+qA3 (qAr c (rAt l k).t)%2305843009213693952)/2305843009213693952) ((lo+qA3 (qAr c (rAt l k).t)%2305843009213693952)%2305843009213693952) else qEl c (l.drop (k+1)) hi lo):=by
 rw[List.drop_eq_getElem_cons hk,qEl,qCc _ _ hk]
theorem qPq(b:RB)(y:RSer)(mark:Int)(w:World)(h:RRep w b y)(hc:y.c.weighs)(hl:y.items.length<=1099511627776)(ht:∀z,z∈y.items->0<=z.t/\z.t<=4611686018427387904)(m0:-100<=mark)(m1:mark<=4611686018427387904):
  Calls Tryz.prog 81 #[.pointer (some ⟨b.s,0,none⟩),.int .i64 mark] w λr w'=>∃g,r=.returned (.slice (some ⟨g,0,none⟩) 3 3)/\w.heap.size<=g/\Blk w' g [.int .i64 (qEl y.c y.items 0 0).1,.int .i64 (qEl y.c y.items 0 0).2,.int .i64 (qA3 (qAr y.c mark))] 3/\Keeps (λ_=>False) w w':=by
 obtain⟨a,cap,hv,-,ha,hcells⟩:=qCy h.its
 have HR:=hide h
 have HC:=hide hcells
 have HA:=hide ha
 have HT:=hide ht
 have HCW:=hide hc
 have HV:=hide hv
 clear h hcells ha ht hc hv
 generalize hn:y.items.length=n at *
 have HN:=hide hn
 clear hn
 go_enter Tryz.func81,Tryz.ntmps81
 go_wp2_with fail
 go_loopw [5,6,7] (λh l i wr=>∃(k:Nat) (hi lo:Int),k<=n/\h=.int .i64 hi/\l=.int .i64 lo/\i=.int .i64 k/\0<=hi/\hi<=2*k/\0<=lo/\lo<2305843009213693952/\Hid (Keeps (λ_=>False) w wr)/\Hid (qEl y.c y.items 0 0=qEl y.c (y.items.drop k) hi lo)) (λ_ _ i _=>n-(intOf i).toNat)
 case atStart=>exact⟨0,0,0,by omega,rfl,rfl,rfl,by omega,by omega,by omega,by omega,Keeps.refl _ _,rfl⟩
 case round =>
  obtain⟨k,hi,lo,hk,rfl,rfl,rfl,hi0,hi1,lo0,lo1,HKr,HE⟩:=hrel
  have HRr:=hide ((uh HR).still (uh HKr))
  have s21:wr.cell? ⟨b.s,21,none⟩=some (.slice a n cap):=by
   have:=(uh HRr).blk.cell (i:=21) (v:=b.iv) rfl
   rw[uh HV]at this;exact this
  by_cases hlt:k<n
  ·have hkl:k<y.items.length:=by rw[uh HN];exact hlt
   obtain⟨g,hg⟩:=uh HA (by omega)
   have z0:=(uh HKr).cell ((uh HC g hg).1 (k*5+0) _ (by rw[qBl _ _ _ hkl (by omega)];rfl)) (λh=>h)
   have z4:=(uh HKr).cell ((uh HC g hg).1 (k*5+4) _ (by rw[qBl _ _ _ hkl (by omega)];rfl)) (λh=>h)
   rw[Nat.add_zero]at z0
   subst hg
   have htm:=uh HT (rAt y.items k) (by rw[qCc _ _ hkl];exact List.getElem_mem _)
   obtain⟨tm0,tm1⟩:=htm
   have HD:=hide (qUd y.c y.items k hi lo hkl)
   have hwb:=qFw y.c (rAt y.items k).t
   generalize rAt y.items k=z at *
   have hk0:(0:Int)<=(k:Int):=by omega
   have hkn:(k:Int)<(n:Int):=by omega
   clear hkl
   by_cases htk:0<z.tick
   ·have HD':=hide (by have:=uh HD;rw[if_pos htk]at this;exact(uh HE).trans this)
    obtain⟨bg1,bg2⟩:=qEi (uh HRr).blk
    have hbs:b.s<wr.heap.size:=(uh HRr).blk.lt
    clear HD HE
    go_wp2_with fail
    go_region_held3 (λw'=>qAv w' b.s 1 20=.agg y.c.cells.toArray/\qA2 w' b.s 1 20=true/\w'.cell? ⟨b.s,21,none⟩=some (.slice (some ⟨g,0,none⟩) n cap)/\w'.cell? ⟨g,k*5,none⟩=some (.int .i64 z.t))
     (first | (simp[*,qAc,qAb];done) | (go_split_ands;exact⟨(qAp hk1 (λh=>h) (by exact hbs)).1.trans (by assumption),(qAp hk1 (λh=>h) (by exact hbs)).2.trans (by assumption),hk1.cell (by assumption) (λh=>h),hk1.cell (by assumption) (λh=>h)⟩))
     (first | (go_at_call 109;refine(qD5 y.c z.t _ (uh HCW) (by omega) tm1).mono ?_;rintro r w1 ⟨rfl,hk1⟩))
    have HK1:=hide ((uh HKr).then (((Keeps.refl (λ_=>False) wr).drew).then hk1))
    clear hk1 bg1 bg2 s21 z0 z4 hbs
    obtain⟨wt0,wt1⟩:=hwb
    generalize qA3 (qAr y.c z.t)=wt at *
    have hq0:0<=wt/2305843009213693952:=by omega
    have hq1:wt/2305843009213693952<=1:=by omega
    have hr0:0<=wt%2305843009213693952:=by omega
    have hr1:wt%2305843009213693952<2305843009213693952:=by omega
    have hs0:0<=(lo+wt%2305843009213693952)/2305843009213693952:=by omega
    have hs1:(lo+wt%2305843009213693952)/2305843009213693952<=1:=by omega
    go_wp2
    go_roundw
    case rel=>exact⟨k+1,_,_,by omega,rfl,rfl,by go_num,by omega,by omega,by omega,by omega,HK1,uh HD'⟩
    case measure=>simp[intOf];omega
   ·have HD':=hide (by have:=uh HD;rw[if_neg htk]at this;exact(uh HE).trans this)
    clear HD HE hwb
    go_wp2
    go_roundw
    case rel=>exact⟨k+1,hi,lo,by omega,rfl,rfl,by go_num,by omega,by omega,by omega,by omega,HKr,uh HD'⟩
    case measure=>simp[intOf];omega
  ·have hkn:k=n:=by omega
   subst hkn
   have HE':=hide (show qEl y.c y.items 0 0=(hi,lo) by rw[uh HE,List.drop_eq_nil_of_le (by rw[uh HN];exact Nat.le_refl _)];rfl)
   obtain⟨bg1,bg2⟩:=qEi (uh HRr).blk
   go_wp2_with fail
   refine(qD5 y.c mark wr (uh HCW) m0 m1).mono ?_
   rintro r w1 ⟨rfl,hk1⟩
   have HK1:=hide ((uh HKr).then hk1)
   clear hk1 bg1 bg2 s21
   go_wp2
   go_ret
   rw[uh HE']
   exact⟨w1.heap.size,rfl,(uh HK1).size,Blk.new w1 [.int .i64 hi,.int .i64 lo,.int .i64 (qA3 (qAr y.c mark))] 3,(uh HK1).alloc _⟩
theorem qQ3(e:Nat)(v:Value)(clock ticks:Int)(ps:List (RB×RSer))(o:OpM)(w:World)(h:RWRep w e v clock ticks ps)(hl:ps.length<=1000)(hf:qB2 ps o.id=none):
  Calls Tryz.prog 53 #[.pointer (some ⟨e,0,none⟩),o.val] w λr w'=>qE2 w (2,[]) r w':=by
 have h1:o.cells[1]?=some (.int .i64 o.id):=rfl
 have HE:=hide h
 clear h
 unfold OpM.val
 go_enter Tryz.func53,Tryz.ntmps53
 go_wp2_with fail
 have hk0:Keeps (λ_=>False) w ((w.alloc (.cells o.cells.toArray 40)).alloc (.cells #[.int .i64 0,.slice none 0 0,.string ⟨#[]⟩] 33)):=((Keeps.refl (λ_=>False) w).alloc _).alloc _
 have HR0:=hide (show Blk ((w.alloc (.cells o.cells.toArray 40)).alloc (.cells #[.int .i64 0,.slice none 0 0,.string ⟨#[]⟩] 33)) (w.heap.size+1) [.int .i64 0,.slice none 0 0,.string qAa] 33 from Blk.newAt (by simp) [_,_,_] 33)
 have HE0:=hide ((uh HE).still hk0)
 have HK0:=hide hk0
 clear hk0
 generalize(w.alloc (.cells o.cells.toArray 40)).alloc (.cells #[.int .i64 0,.slice none 0 0,.string ⟨#[]⟩] 33)=w0 at *
 generalize hob:w.heap.size=ob at *
 have HOB:=hide hob
 clear hob
 refine(qCg e v clock ticks o.id ps w0 (uh HE0) hl).mono ?_
 rintro r w1 ⟨rfl,hw1⟩
 rw[hw1,hf]
 clear hw1 w1
 unfold qEh
 go_wp2_with fail
 refine(qF3 2 w0).mono ?_
 rintro r w1 ⟨rfl,hk1⟩
 unfold qBu
 have HR1:=hide ((uh HR0).keeps hk1 (λh=>h))
 have HK1:=hide ((uh HK0).then hk1)
 clear hk1
 have r0:w1.cell? ⟨ob+1,0,none⟩=some (.int .i64 0):=(uh HR1).cell rfl
 have r1:w1.cell? ⟨ob+1,1,none⟩=some (.slice none 0 0):=(uh HR1).cell rfl
 have r2:w1.cell? ⟨ob+1,2,none⟩=some (.string qAa):=(uh HR1).cell rfl
 have rf:=(uh HR1).frozen
 go_wp2
 have hbf:=(((uh HR1).setCell 0 (.int .i64 2)).setCell 1 (.slice none 0 0)).setCell 2 (.string qAa)
 have HKF:=hide ((((Keeps.refl (λi=>i=ob+1) w1).setCell (p:=⟨ob+1,0,none⟩) (Or.inl rfl) (.int .i64 2)).setCell (p:=⟨ob+1,1,none⟩) (Or.inl rfl) (.slice none 0 0)).setCell (p:=⟨ob+1,2,none⟩) (Or.inl rfl) (.string qAa))
 have e9:(((w1.setCell ⟨ob+1,0,none⟩ (.int .i64 2)).setCell ⟨ob+1,1,none⟩ (.slice none 0 0)).setCell ⟨ob+1,2,none⟩ (.string ⟨#[]⟩))=(((w1.setCell ⟨ob+1,0,none⟩ (.int .i64 2)).setCell ⟨ob+1,1,none⟩ (.slice none 0 0)).setCell ⟨ob+1,2,none⟩ (.string qAa)):=rfl
 first | rw[e9] | skip
 generalize(((w1.setCell ⟨ob+1,0,none⟩ (.int .i64 2)).setCell ⟨ob+1,1,none⟩ (.slice none 0 0)).setCell ⟨ob+1,2,none⟩ (.string qAa))=w9 at *
 have q0:w9.cell? ⟨ob+1,0,none⟩=some (.int .i64 2):=hbf.cell rfl
 have q1:w9.cell? ⟨ob+1,1,none⟩=some (.slice none 0 0):=hbf.cell rfl
 have q2:w9.cell? ⟨ob+1,2,none⟩=some (.string qAa):=hbf.cell rfl
 refine bodyPost_ret (v:=qBu 2 (.slice none 0 0)) (by simp[results,Tryz.results53,go_sem,q0,q1,q2,qBu]) rfl ?_
 have hob:=uh HOB
 exact⟨_,rfl,World.ownsRow_nil _ _ _ _,(uh HK1).trans (uh HKF) (λi hi hlt=>by omega)⟩
theorem qX7{n:Int}{y:RSer}(h:RInv n y)(hk:y.c.kind=4): y.c.weighs:=by
 obtain⟨k,hk',_,_,_,hf⟩:=qCw h.valid
 have:k=4:=by omega
 subst this
 simp only[qEt,qB4,Bool.and_eq_true]at hf
 obtain⟨f1,f2,f3⟩:=hf
 obtain⟨q1,q2⟩:=qA9 f1
 obtain⟨q3,q4⟩:=qA9 f2
 obtain⟨q5,q6⟩:=qA9 f3
 exact⟨q1,q2,q3,q4,q5,q6⟩
theorem qNj(n:Int)(e:Nat)(v:Value)(clock ticks:Int)(ps:List (RB×RSer))(o:OpM)(w:World)(h:RWRep w e v clock ticks ps)(hi:RWInv n clock ticks (ps.map (·.2)))(hn:n<1099511627776)(p:RB×RSer)(hf:qB2 ps o.id=some p)(hkd:p.2.c.kind=4):
  Calls Tryz.prog 53 #[.pointer (some ⟨e,0,none⟩),o.val] w λr w'=>qE2 w (0,[(qEl p.2.c p.2.items 0 0).1,(qEl p.2.c p.2.items 0 0).2,qA3 (qAr p.2.c (clock-p.2.c.lag))]) r w':=by
 have hmem:p∈ps:=List.mem_of_find?_eq_some hf
 have HM:=hide hmem
 have hip:=hi.sers p.2 (List.mem_map_of_mem hmem)
 have HIP:=hide hip
 have hil:=hip.items
 obtain⟨la0,la1,_,_,_,_⟩:=hip.common
 have hc0:=hi.c0
 have hc1:=hi.c1
 have hl:ps.length<=1000:=by have:=hi.six;rw[List.length_map]at this;omega
 have h1:o.cells[1]?=some (.int .i64 o.id):=rfl
 have HE:=hide h
 have HF:=hide hf
 have HKD:=hide hkd
 clear h hip hmem hi hf hkd
 unfold OpM.val
 go_enter Tryz.func53,Tryz.ntmps53
 go_wp2_with fail
 have hk0:Keeps (λ_=>False) w ((w.alloc (.cells o.cells.toArray 40)).alloc (.cells #[.int .i64 0,.slice none 0 0,.string ⟨#[]⟩] 33)):=((Keeps.refl (λ_=>False) w).alloc _).alloc _
 have HO0:=hide (show Blk ((w.alloc (.cells o.cells.toArray 40)).alloc (.cells #[.int .i64 0,.slice none 0 0,.string ⟨#[]⟩] 33)) w.heap.size o.cells 40 from(Blk.new w o.cells 40).alloc _)
 have HR0:=hide (show Blk ((w.alloc (.cells o.cells.toArray 40)).alloc (.cells #[.int .i64 0,.slice none 0 0,.string ⟨#[]⟩] 33)) (w.heap.size+1) [.int .i64 0,.slice none 0 0,.string qAa] 33 from Blk.newAt (by simp) [_,_,_] 33)
 have HE0:=hide ((uh HE).still hk0)
 have HK0:=hide hk0
 clear hk0
 generalize(w.alloc (.cells o.cells.toArray 40)).alloc (.cells #[.int .i64 0,.slice none 0 0,.string ⟨#[]⟩] 33)=w0 at *
 generalize hob:w.heap.size=ob at *
 have HOB:=hide hob
 clear hob
 refine(qCg e v clock ticks o.id ps w0 (uh HE0) hl).mono ?_
 rintro r w1 ⟨rfl,hw1⟩
 rw[hw1,uh HF]
 clear hw1 w1
 unfold qEh
 have HP0:=hide ((uh HE0).reps p (uh HM))
 go_wp2_with fail
 refine(qBy e p.1.s p.2.c.lag clock w0 ((uh HE0).blk.cell rfl) ((uh HP0).blk.cell rfl) la0 la1 hc0 hc1).mono ?_
 rintro r w1 ⟨rfl,hk1⟩
 have HO1:=hide ((uh HO0).keeps hk1 (λh=>h))
 have HR1:=hide ((uh HR0).keeps hk1 (λh=>h))
 have HP1:=hide ((uh HP0).still hk1)
 have HK1:=hide ((uh HK0).then hk1)
 clear hk1 h1
 have o2:w1.cell? ⟨ob,2,none⟩=some (.int .i64 o.a):=(uh HO1).cell rfl
 have s1:w1.cell? ⟨p.1.s,1,none⟩=some (.int .i64 4):=by
  rw[<-uh HKD];exact(uh HP1).blk.cell rfl
 have s6:w1.cell? ⟨p.1.s,6,none⟩=some (.int .i64 p.2.c.window):=(uh HP1).blk.cell rfl
 generalize hmk:clock-p.2.c.lag=mark at *
 have HMK:=hide hmk
 have hmk0:-100<=mark:=by omega
 have hmk1:mark<=4611686018427387904:=by omega
 clear hmk
 go_wp2_with fail
 go_region_held3 (λw'=>w'.cell? ⟨ob,2,none⟩=some (.int .i64 o.a)/\w'.cell? ⟨p.1.s,6,none⟩=some (.int .i64 p.2.c.window)) (go_keep)
  (first | (go_at_call 77;refine(qAl _ _ _ _).mono ?_;rintro r w9 ⟨rfl,rfl⟩))
 have HO2:=hide ((uh HO1).drew)
 have HR2:=hide ((uh HR1).drew)
 have HP2:=hide ((uh HP1).still ((Keeps.refl (λ_=>False) w1).drew))
 have HK2:=hide ((uh HK1).drew)
 clear o2 s1 s6 HO1 HR1 HP1 HK1
 generalize w1.drew=w2 at *
 have o2:w2.cell? ⟨ob,2,none⟩=some (.int .i64 o.a):=(uh HO2).cell rfl
 go_wp2_with fail
 refine(qAl _ _ _ _).mono ?_
 rintro r w9 ⟨rfl,hw9⟩
 rw[hw9]
 clear hw9 w9
 go_wp2_with fail
 refine(qPq p.1 p.2 mark w2 (uh HP2) (qX7 (uh HIP) (uh HKD)) (by omega) (uh HIP).times hmk0 hmk1).mono ?_
 rintro r w3 ⟨g,rfl,hgs,hgb,hk3⟩
 have HR3:=hide ((uh HR2).keeps hk3 (λh=>h))
 have HK3:=hide ((uh HK2).then hk3)
 have HGB:=hide hgb
 have hsz2:ob+1<w2.heap.size:=(uh HR2).lt
 clear hk3 hgb
 have r0:w3.cell? ⟨ob+1,0,none⟩=some (.int .i64 0):=(uh HR3).cell rfl
 have r1:w3.cell? ⟨ob+1,1,none⟩=some (.slice none 0 0):=(uh HR3).cell rfl
 have r2:w3.cell? ⟨ob+1,2,none⟩=some (.string qAa):=(uh HR3).cell rfl
 have rf:=(uh HR3).frozen
 go_wp2
 have hbf:=(((uh HR3).setCell 0 (.int .i64 0)).setCell 1 (.slice (some ⟨g,0,none⟩) 3 3)).setCell 2 (.string qAa)
 have HKF:=hide ((((Keeps.refl (λi=>i=ob+1) w3).setCell (p:=⟨ob+1,0,none⟩) (Or.inl rfl) (.int .i64 0)).setCell (p:=⟨ob+1,1,none⟩) (Or.inl rfl) (.slice (some ⟨g,0,none⟩) 3 3)).setCell (p:=⟨ob+1,2,none⟩) (Or.inl rfl) (.string qAa))
 have e9:(((w3.setCell ⟨ob+1,0,none⟩ (.int .i64 0)).setCell ⟨ob+1,1,none⟩ (.slice (some ⟨g,0,none⟩) 3 3)).setCell ⟨ob+1,2,none⟩ (.string ⟨#[]⟩))=(((w3.setCell ⟨ob+1,0,none⟩ (.int .i64 0)).setCell ⟨ob+1,1,none⟩ (.slice (some ⟨g,0,none⟩) 3 3)).setCell ⟨ob+1,2,none⟩ (.string qAa)):=rfl
 first | rw[e9] | skip
 generalize(((w3.setCell ⟨ob+1,0,none⟩ (.int .i64 0)).setCell ⟨ob+1,1,none⟩ (.slice (some ⟨g,0,none⟩) 3 3)).setCell ⟨ob+1,2,none⟩ (.string qAa))=w9 at *
 have q0:w9.cell? ⟨ob+1,0,none⟩=some (.int .i64 0):=hbf.cell rfl
 have q1:w9.cell? ⟨ob+1,1,none⟩=some (.slice (some ⟨g,0,none⟩) 3 3):=hbf.cell rfl
 have q2:w9.cell? ⟨ob+1,2,none⟩=some (.string qAa):=hbf.cell rfl
 refine bodyPost_ret (v:=qBu 0 (.slice (some ⟨g,0,none⟩) 3 3)) (by simp[results,Tryz.results53,go_sem,q0,q1,q2,qBu]) rfl ?_
 have hob:=uh HOB
 have hsz:=(uh HK2).size
 refine⟨_,rfl,?_,(uh HK3).trans (uh HKF) (λi hi hlt=>by omega)⟩
 have hb9:=(uh HGB).keeps (uh HKF) (λh=>by omega)
 rw[uh HMK]
 exact⟨rfl,.inr ⟨g,3,_,rfl,by omega,hb9,by simp,by unfold maxLen;simp,rfl,rfl⟩⟩
end
section
structure PB (q:List Bk):Prop where
 sorted:∀i j,i<=j->j<q.length->(qBn q j).sz<=(qBn q i).sz
 pow:∀i,i<q.length->∃k:Nat,(qBn q i).sz=(2:Int) ^ k
structure PI (q:List Bk) (sz:Int) (e:Nat):Prop where
 pb:PB q
 he:e<=q.length
 hi:∀i,i<e->sz<=(qBn q i).sz
 lo:∀i,e<=i->i<q.length->(qBn q i).sz<sz
 szp:∃k:Nat,sz=(2:Int) ^ k
theorem qGx(k:Nat): (1:Int)<=2 ^ k:=by
 induction k with
 | zero=>decide
 | succ k ih=>rw[Int.pow_succ];omega
theorem zDo{a b:Nat}(h:(2:Int) ^ a<2 ^ b): 2*(2:Int) ^ a<=2 ^ b:=by
 have hab:a<b:=by
  rcases Nat.lt_or_ge a b with h1 | h1
  ·exact h1
  ·exfalso
   obtain⟨d,rfl⟩:=Nat.exists_eq_add_of_le h1
   have h2:(2:Int) ^ (b+d)=2 ^ b*2 ^ d:=Int.pow_add 2 b d
   have h3:=qGx d
   have h4:=qGx b
   have h5:(2:Int) ^ b*1<=2 ^ b*2 ^ d:=Int.mul_le_mul_of_nonneg_left h3 (by omega)
   omega
 obtain⟨d,rfl⟩:=Nat.exists_eq_add_of_le hab
 have h2:(2:Int) ^ (a+1+d)=2 ^ a*2*2 ^ d:=by rw[Int.pow_add,Int.pow_succ]
 have h3:=qGx d
 have h4:=qGx a
 have h5:(2:Int) ^ a*2*1<=2 ^ a*2*2 ^ d:=Int.mul_le_mul_of_nonneg_left h3 (by omega)
 rw[h2]
 omega
theorem qCd(a b:List Bk)(i:Nat)(h:i<a.length): qBn (a++b) i=qBn a i:=by
 unfold qBn;rw[List.getD_eq_getElem?_getD,List.getD_eq_getElem?_getD,List.getElem?_append_left h]
theorem qCm(a b:List Bk)(i:Nat)(h:a.length<=i): qBn (a++b) i=qBn b (i-a.length):=by
 unfold qBn;rw[List.getD_eq_getElem?_getD,List.getD_eq_getElem?_getD,List.getElem?_append_right h]
theorem qWc(l:List Bk)(n i:Nat)(h:i<n): qBn (l.take n) i=qBn l i:=by
 unfold qBn;rw[List.getD_eq_getElem?_getD,List.getD_eq_getElem?_getD,List.getElem?_take,if_pos h]
theorem qFg(l:List Bk)(n i:Nat): qBn (l.drop n) i=qBn l (n+i):=by
 unfold qBn;rw[List.getD_eq_getElem?_getD,List.getD_eq_getElem?_getD,List.getElem?_drop]
theorem qPj(l:List Bk)(s:Nat)(x:Bk)(h:s+2<=l.length)(i:Nat): qBn (qCr l s x) i=if i<s then qBn l i else if i=s then x else qBn l (i+1):=by
 have hl:(l.take s).length=s:=by simp;omega
 unfold qCr
 by_cases h1:i<s
 ·rw[if_pos h1,List.append_assoc,qCd _ _ _ (by omega),qWc _ _ _ h1]
 ·rw[if_neg h1]
  by_cases h2:i=s
  ·rw[if_pos h2,List.append_assoc,qCm _ _ _ (by omega),hl,h2,Nat.sub_self];rfl
  ·rw[if_neg h2,qCm _ _ _ (by simp;omega),qFg]
   congr 1
   simp;omega
theorem PB.drop{q:List Bk}(h:PB q)(n:Nat): PB (q.drop n):=by
 refine⟨λi j hij hj=>?_,λi hi=>?_⟩
 ·rw[qFg,qFg]
  exact h.sorted _ _ (by omega) (by rw[List.length_drop]at hj;omega)
 ·rw[qFg]
  exact h.pow _ (by rw[List.length_drop]at hi;omega)
theorem PI.start{q:List Bk}(h:PB q)(t:Int): PI (q++[⟨1,t⟩]) 1 (q++[(⟨1,t⟩:Bk)]).length:=by
 have hone:∀i,i<(q++[(⟨1,t⟩:Bk)]).length->∃k:Nat,(qBn (q++[⟨1,t⟩]) i).sz=(2:Int) ^ k:=by
  intro i hi
  by_cases h1:i<q.length
  ·rw[qCd _ _ _ h1];exact h.pow i h1
  ·rw[qCm _ _ _ (by omega)]
   have:i-q.length=0:=by simp at hi;omega
   rw[this]
   exact⟨0,rfl⟩
 refine⟨⟨λi j hij hj=>?_,hone⟩,Nat.le_refl _,λi hi=>?_,λi h1 h2=>by omega,0,rfl⟩
 ·by_cases h1:j<q.length
  ·rw[qCd _ _ _ h1,qCd _ _ _ (by omega)];exact h.sorted i j hij h1
  ·have:j-q.length=0:=by simp at hj;omega
   rw[qCm _ _ j (by omega),this]
   show(1:Int)<=_
   obtain⟨k,hk⟩:=hone i (by omega)
   rw[hk];exact qGx k
 ·obtain⟨k,hk⟩:=hone i hi
  rw[hk];exact qGx k
theorem qJ6{q:List Bk}{sz:Int}{e:Nat}(h:PI q sz e)(i:Nat)(hi:i<qBk q sz e): sz<(qBn q i).sz:=by
 have hle:=qGi q sz e
 have h1:=h.hi i (by omega)
 have hne:(qBn q (qBk q sz e-1)).sz≠sz:=by
  generalize hs:qBk q sz e=s at *
  clear h1 h
  induction e with
  | zero=>simp[qBk]at hs;omega
  | succ e ih =>
   unfold qBk at hs
   split at hs
   ·exact ih hs (by have:=qGi q sz e;omega)
   ·rename_i hc
    rw[<-hs];exact hc
 have h2:=h.hi (qBk q sz e-1) (by omega)
 have h3:=h.pb.sorted i (qBk q sz e-1) (by omega) (by have:=h.he;omega)
 omega
theorem PI.step{q:List Bk}{sz:Int}{e:Nat}(h:PI q sz e)(h2:qBk q sz e+2<=e)(t:Int): PI (qCr q (qBk q sz e) ⟨2*sz,t⟩) (2*sz) (qBk q sz e+1):=by
 have hb:=qJ6 h
 have hin:=qGa q sz e
 obtain⟨kz,hkz⟩:=h.szp
 have hz1:=qGx kz
 generalize qBk q sz e=s at *
 have hlen:=qB8 (⟨2*sz,t⟩:Bk) (l:=q) (i:=s) (by have:=h.he;omega)
 have he:=h.he
 have hat:=qPj q s ⟨2*sz,t⟩ (by omega)
 have hbig:∀i,i<s->2*sz<=(qBn q i).sz:=by
  intro i hi
  obtain⟨k,hk⟩:=h.pb.pow i (by omega)
  have:=hb i hi
  rw[hk,hkz]at this ⊢
  exact zDo this
 have hsm:∀i,s<=i->i<q.length->(qBn q i).sz<=sz:=by
  intro i h1 h3
  have:=h.pb.sorted s i h1 h3
  rw[hin s (Nat.le_refl _) (by omega)]at this
  exact this
 refine⟨⟨λi j hij hj=>?_,λi hi=>?_⟩,by omega,λi hi=>?_,λi h1 h3=>?_,kz+1,by rw[Int.pow_succ,<-hkz];omega⟩
 ·rw[hat,hat]
  by_cases j1:j<s
  ·rw[if_pos j1,if_pos (by omega)];exact h.pb.sorted i j hij (by omega)
  ·rw[if_neg j1]
   by_cases j2:j=s
   ·rw[if_pos j2]
    by_cases i1:i<s
    ·rw[if_pos i1];exact hbig i i1
    ·rw[if_neg i1,if_pos (by omega)];exact Int.le_refl _
   ·rw[if_neg j2]
    have hj':=hsm (j+1) (by omega) (by omega)
    by_cases i1:i<s
    ·rw[if_pos i1];have:=hbig i i1;omega
    ·rw[if_neg i1]
     by_cases i2:i=s
     ·rw[if_pos i2];show _<=2*sz;omega
     ·rw[if_neg i2];exact h.pb.sorted (i+1) (j+1) (by omega) (by omega)
 ·rw[hat]
  by_cases i1:i<s
  ·rw[if_pos i1];exact h.pb.pow i (by omega)
  ·rw[if_neg i1]
   by_cases i2:i=s
   ·rw[if_pos i2];exact⟨kz+1,by show 2*sz=_;rw[Int.pow_succ,<-hkz];omega⟩
   ·rw[if_neg i2];exact h.pb.pow (i+1) (by omega)
 ·rw[hat]
  by_cases i1:i<s
  ·rw[if_pos i1];exact hbig i i1
  ·rw[if_neg i1,if_pos (by omega)];exact Int.le_refl _
 ·rw[hat,if_neg (by omega),if_neg (by omega)]
  have:=hsm (i+1) (by omega) (by omega)
  omega
theorem qY2{K:Int}(hK:0<=K)(f:Nat)(q:List Bk)(sz:Int)(e:Nat)(h:PI q sz e): PB (joinL K f q sz e):=by
 induction f generalizing q sz e with
 | zero=>exact h.pb
 | succ f ih =>
  unfold joinL
  split
  ·exact h.pb
  ·exact ih _ _ _ (h.step (by omega) _)
theorem zDc{c:Cfg}(hK:0<=c.k){q:List Bk}(h:PB q)(t m:Int): PB (qNv c q t m):=by
 unfold qNv qLy qK3
 exact qY2 hK _ _ _ _ (PI.start (h.drop _) t)
def qY1(l:List Bk)(sz:Int): Nat->Nat
 | 0=>0
 | i+1=>qY1 l sz i+(if (qBn l i).sz=sz then 1 else 0)
def qY0(l:List Bk)(sz:Int): Nat->Nat
 | 0=>0
 | i+1=>if (qBn l i).sz=sz then i+1 else qY0 l sz i
theorem qDl(q:List Bk)(i:Nat)(h:i<q.length): qBn q.reverse i=qBn q (q.length-1-i):=by
 unfold qBn
 rw[List.getD_eq_getElem?_getD,List.getD_eq_getElem?_getD,List.getElem?_reverse h]
theorem zDg{q:List Bk}{sz:Int}{e:Nat}(h:PI q sz e): ∀i,i<=q.length ->
  qY1 q.reverse sz i=min i (q.length-qBk q sz e)-min i (q.length-e)/\qY0 q.reverse sz i=(if q.length-e<i/\qBk q sz e<e then min i (q.length-qBk q sz e) else 0):=by
 have hb:=qJ6 h
 have hin:=qGa q sz e
 have hsle:=qGi q sz e
 have he:=h.he
 have hlo:=h.lo
 generalize qBk q sz e=s at *
 intro i
 induction i with
 | zero=>intro _;simp[qY1,qY0]
 | succ i ih =>
  intro hi
  obtain⟨i1,i2⟩:=ih (by omega)
  have hat:=qDl q i (by omega)
  have hcase:((qBn q.reverse i).sz=sz)↔(q.length-e<=i/\i<q.length-s):=by
   rw[hat]
   constructor
   ·intro hz
    constructor
    ·rcases Nat.lt_or_ge i (q.length-e) with h1 | h1
     ·have:=hlo (q.length-1-i) (by omega) (by omega);omega
     ·exact h1
    ·rcases Nat.lt_or_ge i (q.length-s) with h1 | h1
     ·exact h1
     ·have:=hb (q.length-1-i) (by omega);omega
   ·rintro ⟨h1,h2⟩
    exact hin _ (by omega) (by omega)
  unfold qY1 qY0
  rw[i1,i2]
  by_cases hc:(qBn q.reverse i).sz=sz
  ·have hc':=hcase.1 hc
   rw[if_pos hc,if_pos hc,if_pos (by omega)]
   omega
  ·have hc':¬(q.length-e<=i/\i<q.length-s):=λh=>hc (hcase.2 h)
   rw[if_neg hc,if_neg hc]
   refine⟨by omega,?_⟩
   by_cases h1:q.length-e<i/\s<e
   ·rw[if_pos h1,if_pos (by omega)];omega
   ·rw[if_neg h1,if_neg (by omega)]
theorem qQ2(q:List Bk)(s:Nat)(x:Bk)(h:s+2<=q.length): q.reverse.take (q.length-s-2)++[x]++q.reverse.drop (q.length-s)=(qCr q s x).reverse:=by
 unfold qCr
 rw[List.reverse_append,List.reverse_append,List.take_reverse,List.drop_reverse]
 rw[show q.length-(q.length-s-2)=s+2 by omega,show q.length-(q.length-s)=s by omega]
 simp
theorem qQ4(q:List Bk)(n:Nat)(hn:n<q.length): qBn q.reverse (q.length-1-n)=qBn q n:=by
 rw[qDl _ _ (by omega)]
 congr 1
 omega
theorem qUh(q:List Bk)(t:Int)(n:Nat)(h:pastN q t=n+pastN (q.drop n) t)(hn:n<q.length): (if (qBn q n).t<=t then pastN q t=(n+1)+pastN (q.drop (n+1)) t else pastN q t=n):=by
 rw[qEw q n hn]at h
 unfold pastN at h ⊢
 rw[List.takeWhile_cons]at h
 split
 ·rename_i hb
  rw[if_pos (by simpa using hb)]at h
  simp only[List.length_cons]at h
  omega
 ·rename_i hb
  rw[if_neg (by simpa using hb)]at h
  simpa using h
end
section
open Go.RowKit
abbrev OB(w:World)(base:Nat)(v:Value)(l:List Bk): Prop:=w.ownsRow base 151 2 v l.length (qBt l)
def BW(w:World)(v:Value)(l:List Bk): Prop:=((∃a c,v=.slice a 0 c)/\l=[])\/∃g off cap,v=.slice (some ⟨g,off,none⟩) l.length cap/\l.length<=cap/\cap<=maxLen/\(∀j u,(qBt l)[j]?=some u->w.cell? ⟨g,off+j,none⟩=some u)/\g<w.heap.size
theorem BW.keeps{w w':World}{v:Value}{l:List Bk}(h:BW w v l)(hk:Keeps (λ_=>False) w w'): BW w' v l:=by
 rcases h with h | ⟨g,off,cap,h1,h2,hm,h3,h4⟩
 ·exact .inl h
 ·exact .inr ⟨g,off,cap,h1,h2,hm,λj u hu=>hk.cell (h3 j u hu) (λh=>h),by have:=hk.size;omega⟩
theorem OB.bw{w:World}{base:Nat}{v:Value}{l:List Bk}(h:OB w base v l): BW w v l:=by
 rcases h.2 with ⟨h1,h2⟩ | ⟨g,cap,cur,h1,h2,h3,h4,h5,h6,h7⟩
 ·exact .inl ⟨⟨_,_,h1⟩,List.length_eq_zero_iff.1 h2⟩
 ·refine .inr ⟨g,0,cap,h1,h4,h5,λj u hu=>?_,(Array.getElem?_eq_some_iff.1 h3).1⟩
  have hj:j<l.length*2:=by have:=(List.getElem?_eq_some_iff.1 hu).1;rwa [qCj]at this
  have:cur[j]?=some u:=by
   rw[<-h7,List.getElem?_take,if_pos hj]at hu
   simpa using hu
  rw[Nat.zero_add]
  simp[World.cell?,h3,this]
theorem qKl{w:World}{g off n cap:Nat}{l:List Bk}(hn:l.length=n)(h:BW w (.slice (some ⟨g,off,none⟩) n cap) l)(i:Nat)(hi:i<n):
  w.cell? ⟨g,off+i*2,none⟩=some (.int .i64 (qBn l i).sz)/\w.cell? ⟨g,off+i*2+1,none⟩=some (.int .i64 (qBn l i).t):=by
 rcases h with ⟨⟨a,c,h1⟩,h2⟩ | ⟨g',off',cap',h1,h2,_,h3,h4⟩
 ·rw[h2]at hn;simp at hn;omega
 ·injection h1 with h1 _ _
  injection h1 with h1
  injection h1 with h1 h5
  subst h1 h5
  obtain⟨a,b⟩:=qLd l i (by omega)
  exact⟨h3 _ _ a,by have:=h3 _ _ b;rwa [<-Nat.add_assoc]at this⟩
theorem qWq{w:World}{v:Value}{l:List Bk}(h:BW w v l): ∃a cap,v=.slice a l.length cap:=by
 rcases h with ⟨⟨a,c,rfl⟩,rfl⟩ | ⟨g,off,cap,rfl,_⟩
 ·exact⟨a,c,rfl⟩
 ·exact⟨_,_,rfl⟩
theorem qLt{w:World}{a:Option Addr}{n cap:Nat}{l:List Bk}(h:BW w (.slice a n cap) l)(hn:0<n): ∃g off,a=some ⟨g,off,none⟩/\l.length=n/\n<=cap/\cap<=maxLen/\g<w.heap.size:=by
 rcases h with ⟨⟨a',c,h1⟩,h2⟩ | ⟨g,off,cap',h1,h2,hm,_,h4⟩
 ·injection h1 with _ h3 _
  omega
 ·injection h1 with h5 h6 h7
  exact⟨g,off,h5,h6.symm,by omega,by omega,h4⟩
theorem zD0: (Tryz.prog.info? 151).map (λi=>(i.zero,i.size,i.bytes))=some (some (.agg #[.int .i64 0,.int .i64 0]),2,16):=by kernel_rfl
theorem qJa{w:World}{ops:Array Oper}{rest:List Oper}{o:Oper}{a:Act}{Q:Exit->Act->World->Prop}(hgd:o.guard=none)(s x:Operand)(ho:o.op=.call { callee:=.builtin .append,args:=#[s,x],argTypes:=#[148,148] })(base:Nat)(v:Value)(A:List Bk)(hs:a.eval s=v)(hown:OB w base v A)(u:Value)(B:List Bk)(hx:a.eval x=u)(hB:BW w u B)(hlen:A.length+B.length<=8796093022208)(hbase:base<=w.heap.size)(h:∀ad c w',OB w' base (.slice ad (A.length+B.length) c) (A++B)->Keeps (λi=>v.ownBlock=some i) w w'->(∀i,(Value.slice ad (A.length+B.length) c).ownBlock=some i->v.ownBlock=some i\/w.heap.size<=i)->wpList Tryz.prog ops Q rest (a.put o.dst (.slice ad (A.length+B.length) c)) w'): wpList Tryz.prog ops Q (o::rest) a w:=by
 obtain⟨i0,hi0,hz0,hz1,hz2⟩:=info_parts zD0
 by_cases hb:B=[]
 ·subst hb
  have hu:∃ad c,u=.slice ad 0 c:=by
   rcases hB with ⟨h,_⟩ | ⟨sb,so,cap,h,_⟩
   ·exact h
   ·exact⟨_,_,h⟩
  obtain⟨ad,c,rfl⟩:=hu
  obtain⟨av,ac,hv⟩:=qC4 hown
  refine qEf hgd s x 148 ho base 151 i0 2 Tryz.underlying148 hi0 v A.length (qBt A) hs hown ad c hx ?_
  have:=h av ac w (by rw[List.append_nil];rw[hv]at hown;exact hown) (Keeps.refl _ _) (by rw[hv];exact λi hi=>.inl hi)
  rw[hv]
  exact this
 ·rcases hB with ⟨_,h0⟩ | ⟨sb,so,cap,rfl,hcap,hmx,hsc,hlt⟩
  ·exact absurd h0 hb
  ·have hpos:0<B.length:=List.length_pos_iff.2 hb
   refine wpList_append_lies w hgd s x 148 ho base 151 i0 (.agg #[.int .i64 0,.int .i64 0]) 2 16 Tryz.underlying148 hi0 hz0 hz1 hz2 (by rfl) (by omega) v A.length (qBt A) hs hown ⟨sb,so,none⟩ B.length cap (qBt B) hx (qCj B) ?_ (qIn B) hpos (by unfold maxLen;omega) (by omega) hbase w.heap.size rfl ?_
   ·intro j z hz
    rw[Addr.add_lit]
    exact hsc j z hz
   ·intro g c w' hown' hgrow hat hlt'
    refine h (some ⟨g,0,none⟩) c w' ?_ ?_ ?_
    ·show w'.ownsRow base 151 2 _ (A++B).length (qBt (A++B))
     rw[qD9,List.length_append];exact hown'
    ·exact⟨hgrow.os,hgrow.tape,hgrow.output,hgrow.size,λk hk hn=>hgrow.block k hk (λh=>hn h.symm)⟩
    ·intro i hi
     have:g=i:=by simpa[Value.ownBlock] using hi
     subst this
     rcases hat with h1 | h1
     ·exact .inl h1
     ·exact .inr (by omega)
theorem qP1(v:Value)(q:List Bk)(t:Int)(w:World)(h:BW w v q.reverse)(hl:q.length<=4398046511104):
  Calls Tryz.prog 114 #[v,.int .i64 t] w λe w'=>e=.returned (.int .i64 (pastN q t))/\w'=w:=by
 obtain⟨a,cap,hv⟩:=qWq h
 rw[List.length_reverse]at hv
 subst hv
 have HB:=hide h
 clear h
 generalize hn:q.length=n at *
 have HN:=hide hn
 clear hn
 go_enter Tryz.func114,Tryz.ntmps114
 go_wp2
 go_loop [5] (λi=>∃k:Nat,i=.int .i64 k/\k<=n/\Hid (pastN q t=k+pastN (q.drop k) t)) (λi=>n-(intOf i).toNat)
 case atStart=>exact⟨0,rfl,Nat.zero_le _,by show _=_;simp⟩
 case round =>
  obtain⟨k,rfl,hk,HE⟩:=hrel
  by_cases hlt:k<n
  ·obtain⟨g,off,rfl,_,hcap,hmx,_⟩:=qLt (uh HB) (by omega)
   have hcs:=qKl (by rw[List.length_reverse];exact uh HN) (uh HB) (n-1-k) (by omega)
   have hat:=qQ4 q k (by rw[uh HN];exact hlt)
   rw[uh HN]at hat
   rw[hat]at hcs
   have hst:=hide (qUh q t k (uh HE) (by rw[uh HN];exact hlt))
   obtain⟨j,hj⟩:∃j,j=n-1-k:=⟨_,rfl⟩
   rw[<-hj]at hcs
   have x1:=hcs.2
   have e1:(n:Int)-1-(k:Int)=(j:Int):=by omega
   have hj0:(0:Int)<=(j:Int):=by omega
   have hj1:(j:Int)<(n:Int):=by omega
   have hkn:(k:Int)<(n:Int):=by omega
   have hn1:(n:Int)<=4398046511104:=by omega
   clear hcs hat hj hcap hmx
   generalize qBn q k=x at *
   by_cases ht:x.t<=t
   ·have HT:=hide ht
    go_wp2
    go_round
    case rel=>exact⟨k+1,by go_num,by omega,by have:=uh hst;rw[if_pos (uh HT)]at this;exact this⟩
    case measure=>simp[intOf];omega
   ·have HT:=hide ht
    have hd:decide (x.t<=t)=false:=by simpa using ht
    clear ht
    go_wp2
    go_ret
    have:=uh hst
    rw[if_neg (by have:=uh HT;omega)]at this
    exact⟨by rw[this];rfl,rfl⟩
  ·have hd:decide ((k:Int)<(n:Int))=false:=by simp;omega
   go_wp2
   go_ret
   refine⟨?_,rfl⟩
   rw[uh HE,List.drop_eq_nil_of_le (by rw[uh HN];omega)]
   simp[pastN]
theorem qXz{w:World}{g off n cap k:Nat}{l:List Bk}(hn:l.length=n)(h:BW w (.slice (some ⟨g,off,none⟩) n cap) l)(hk:k<=n): BW w (.slice (some ⟨g,off,none⟩) k cap) (l.take k):=by
 rcases h with ⟨⟨a,c,h1⟩,h2⟩ | ⟨g',off',cap',h1,h2,hm,h3,h4⟩
 ·subst h2
  have:k=0:=by simp at hn;omega
  subst this
  exact .inl ⟨⟨_,_,rfl⟩,by simp⟩
 ·injection h1 with h1 _ h7
  injection h1 with h1
  injection h1 with h1 h5
  subst h1 h5 h7
  refine .inr ⟨g,off,cap,by simp[hn];omega,by simp;omega,hm,λj u hu=>?_,h4⟩
  rw[qHs,List.getElem?_take]at hu
  split at hu
  ·exact h3 j u hu
  ·cases hu
theorem zCf{w:World}{g n cap k:Nat}{l:List Bk}(hn:l.length=n)(h:BW w (.slice (some ⟨g,0,none⟩) n cap) l)(hk:k<=n)(hn0:0<n): BW w (.slice (if cap=k then some ⟨g,0,none⟩ else some ⟨g,k*2,none⟩) (n-k) (cap-k)) (l.drop k):=by
 rcases h with ⟨⟨a,c,h1⟩,h2⟩ | ⟨g',off',cap',h1,h2,hm,h3,h4⟩
 ·subst h2;simp at hn;omega
 ·injection h1 with h1 _ h7
  injection h1 with h1
  injection h1 with h1 h5
  subst h1 h5 h7
  by_cases hc:cap=k
  ·rw[if_pos hc]
   have:n-k=0:=by omega
   rw[this]
   exact .inl ⟨⟨_,_,rfl⟩,List.drop_eq_nil_of_le (by omega)⟩
  ·rw[if_neg hc]
   refine .inr ⟨g,k*2,cap-k,by simp[hn],by simp;omega,by omega,λj u hu=>?_,h4⟩
   rw[qHm,List.getElem?_drop]at hu
   have:=h3 _ _ hu
   rwa [Nat.zero_add]at this
theorem qQ8{w w':World}{g off n cap:Nat}{l:List Bk}{M:Nat->Prop}(h:BW w (.slice (some ⟨g,off,none⟩) n cap) l)(hk:Keeps M w w')(hg:¬M g): BW w' (.slice (some ⟨g,off,none⟩) n cap) l:=by
 rcases h with h | ⟨g',off',cap',h1,h2,hm,h3,h4⟩
 ·exact .inl h
 ·injection h1 with h1 h6 h7
  injection h1 with h1
  injection h1 with h1 h5
  subst h1 h5 h7
  exact .inr ⟨g,off,cap,by rw[h6],h2,hm,λj u hu=>hk.cell (h3 j u hu) hg,by have:=hk.size;omega⟩
theorem zBl(w:World)(x:Bk): BW (w.alloc (.cells #[.int .i64 x.sz,.int .i64 x.t] 151)) (.slice (some ⟨w.heap.size,0,none⟩) 1 1) [x] :=
 .inr ⟨w.heap.size,0,1,rfl,by simp,by unfold maxLen;omega,λj u hu=>by rw[Nat.zero_add];exact(Blk.new w [.int .i64 x.sz,.int .i64 x.t] 151).cell hu,by simp⟩
theorem qB1{w:World}{ops:Array Oper}{rest:List Oper}{o:Oper}{a:Act}{Q:Exit->Act->World->Prop}(hgd:o.guard=none)(s x:Operand)(ho:o.op=.call { callee:=.builtin .append,args:=#[s,x],argTypes:=#[148,148] })(base:Nat)(v:Value)(A:List Bk)(hs:a.eval s=v)(hown:OB w base v A)(u:Value)(B:List Bk)(hx:a.eval x=u)(hB:BW w u B)(n:Nat)(hn:A.length+B.length=n)(hlen:n<=8796093022208)(hbase:base<=w.heap.size)(h:∀ad c w',OB w' base (.slice ad n c) (A++B)->Keeps (λi=>v.ownBlock=some i) w w'->(∀i,(Value.slice ad n c).ownBlock=some i->v.ownBlock=some i\/w.heap.size<=i)->wpList Tryz.prog ops Q rest (a.put o.dst (.slice ad n c)) w'): wpList Tryz.prog ops Q (o::rest) a w:=by
 subst hn
 exact qJa hgd s x ho base v A hs hown u B hx hB hlen hbase h
theorem qIy{w w':World}{base:Nat}{v:Value}{l:List Bk}(h:OB w base v l){M:Nat->Prop}(hk:Keeps (λi=>v.ownBlock=some i) w w'){w0:World}(hw:Keeps M w0 w)(hb:w0.heap.size<=base): Keeps M w0 w' :=
 hw.trans hk (λi hi hlt=>by
    have:=(h.lt i hi).1
    omega)
theorem qY7(v:Value)(q:List Bk)(t K:Int)(w:World)(h:BW w v q.reverse)(hp:PB q)(hi:BInv q)(hs:qD3 q+1<=4398046511104)(k1:1<=K)(k10:K<=10):
  Calls Tryz.prog 153 #[v,.int .i64 t,.int .i64 (K+1)] w λe w'=>∃v',e=.returned v'/\OB w' w.heap.size v' (joinL K ((q++[(⟨1,t⟩:Bk)]).length+1) (q++[(⟨1,t⟩:Bk)]) 1 (q++[(⟨1,t⟩:Bk)]).length).reverse/\Keeps (λ_=>False) w w':=by
 have HB:=hide h
 have hl:=hi.len
 have HPI:=hide (PI.start hp t)
 have HBI:=hide (show BInv (q++[⟨1,t⟩]) from by
    refine⟨λb hb=>?_,by rw[qEq];exact hs⟩
    rcases List.mem_append.1 hb with hb | hb
    ·exact hi.one b hb
    ·rw[List.mem_singleton]at hb;rw[hb];exact Int.le_refl _)
 have HQ:=hide (show(q++[(⟨1,t⟩:Bk)]).reverse=[⟨1,t⟩]++q.reverse by simp)
 have hql:(q++[(⟨1,t⟩:Bk)]).length=q.length+1:=by simp
 have HQL:=hide hql
 generalize q++[(⟨1,t⟩:Bk)]=q1 at *
 clear h hp hi hs hql
 generalize hql:q.length=ql at *
 have HQ0:=hide hql
 clear hql
 go_enter Tryz.func153,Tryz.ntmps153
 go_wp2_with (at_builtin;refine qB1 rfl _ _ rfl w.heap.size (.slice (some ⟨w.heap.size,0,none⟩) 1 1) [⟨1,t⟩] rfl ⟨rfl,.inr ⟨w.heap.size,1,_,rfl,Nat.le_refl _,Blk.new w [.int .i64 1,.int .i64 t] 151,by simp,by unfold maxLen;omega,rfl,rfl⟩⟩ v q.reverse rfl ((uh HB).keeps ((Keeps.refl (λ_=>False) w).alloc _)) (ql+1) (by rw[List.length_reverse,uh HQ0];simp;omega) (by omega) (by simp) ?_;intro ad c w1 hown1 hk1 hat1)
 have HO1:=hide (show OB w1 w.heap.size (.slice ad (ql+1) c) q1.reverse by rw[uh HQ];exact hown1)
 have HK1:=hide (show Keeps (λ_=>False) w w1 from((Keeps.refl (λ_=>False) w).alloc (.cells #[.int .i64 1,.int .i64 t] 151)).trans hk1 (λi hi hlt=>by simp[Value.ownBlock]at hi;omega))
 clear hown1 hk1 hat1
 go_loopg [7,8,9,10,11,12] (ql+1) (λg a7 a8 _ _ _ _ wr=>∃(m:List Bk) (sz:Int) (e n:Nat) (oa:Option Addr) (oc:Nat),a7=.slice oa n oc/\a8=.int .i64 sz/\n=g/\1<=sz/\sz<=8796093022208/\n<=4398046511105/\Hid (m.length=n)/\Hid (PI m sz e)/\Hid (BInv m)/\Hid (OB wr w.heap.size (.slice oa n oc) m.reverse)/\Hid (Keeps (λ_=>False) w wr)/\Hid (joinL K (q1.length+1) q1 1 q1.length=joinL K (e+1) m sz e))
 case atStart=>exact⟨q1,1,q1.length,ql+1,ad,c,rfl,rfl,rfl,by omega,by omega,by omega,HQL,HPI,HBI,HO1,HK1,rfl⟩
 case round =>
  obtain⟨m,sz,e,n,oa,oc,rfl,rfl,hng,z1,z2,hn,HM,HPM,HBM,HOM,HKM,HJ⟩:=hrel
  have HNG:=hide hng
  clear hng
  have HCE:=hide (zDg (uh HPM))
  go_wp2_with fail
  go_loop [9,10,11] (λa b i=>∃j:Nat,i=.int .i64 j/\j<=n/\a=.int .i64 (qY1 m.reverse sz j)/\b=.int .i64 (qY0 m.reverse sz j)/\qY1 m.reverse sz j<=j) (λ_ _ i=>n-(intOf i).toNat)
  case atStart=>exact⟨0,rfl,Nat.zero_le _,rfl,rfl,Nat.zero_le _⟩
  case round =>
   obtain⟨j,rfl,hj,rfl,rfl,hcj⟩:=hrel
   by_cases hjn:j<n
   ·obtain⟨g,off,rfl,_,hcap,hmx,_⟩:=qLt (uh HOM).bw (by omega)
    have hoff:off=0:=by
     rcases(uh HOM).2 with ⟨h1,_⟩ | ⟨g',c',cur,h1,_⟩
     ·cases h1
     ·injection h1 with h1 _ _;injection h1 with h1;injection h1
    subst hoff
    have hcs:=qKl (by rw[List.length_reverse];exact uh HM) (uh HOM).bw j hjn
    rw[Nat.zero_add]at hcs
    have x0:=hcs.1
    have hj0:(0:Int)<=(j:Int):=by omega
    have hj1:(j:Int)<(n:Int):=by omega
    have HCN:=hide (show qY1 m.reverse sz (j+1)=qY1 m.reverse sz j+(if (qBn m.reverse j).sz=sz then 1 else 0) from rfl)
    have HEN:=hide (show qY0 m.reverse sz (j+1)=if (qBn m.reverse j).sz=sz then j+1 else qY0 m.reverse sz j from rfl)
    clear hcs hcap hmx
    generalize qBn m.reverse j=x at *
    generalize hcn:qY1 m.reverse sz j=cn at *
    generalize hen:qY0 m.reverse sz j=en at *
    clear hcn hen
    by_cases hx:x.sz=sz
    ·have HX:=hide hx
     have hb:(x.sz==sz)=true:=by simpa using hx
     clear hx
     go_wp2
     go_round
     case rel=>exact⟨j+1,by go_num,by omega,by rw[uh HCN,if_pos (uh HX)];go_num,by rw[uh HEN,if_pos (uh HX)];go_num,by rw[uh HCN,if_pos (uh HX)];omega⟩
     case measure=>simp[intOf];omega
    ·have HX:=hide hx
     have hb:(x.sz==sz)=false:=by simpa using hx
     clear hx
     go_wp2
     go_round
     case rel=>exact⟨j+1,by go_num,by omega,by rw[uh HCN,if_neg (uh HX)];rfl,by rw[uh HEN,if_neg (uh HX)],by rw[uh HCN,if_neg (uh HX)];omega⟩
     case measure=>simp[intOf];omega
   ·have hjn':j=n:=by omega
    subst hjn'
    clear hjn
    have hce:=uh HCE j (by rw[uh HM];exact Nat.le_refl _)
    rw[uh HM]at hce
    have hsle:=qGi m sz e
    have hej:e<=j:=by have:=(uh HPM).he;rw[uh HM]at this;exact this
    have HST:=hide (uh HPM).step
    generalize hs:qBk m sz e=s at *
    have hcnt:qY1 m.reverse sz j=e-s:=by rw[hce.1];omega
    have hend:s<e->qY0 m.reverse sz j=j-s:=λh=>by rw[hce.2,if_pos (by omega)];omega
    rw[hcnt]at hcj ⊢
    have HS:=hide hs
    clear hce hcnt hs
    by_cases hle:(e:Int)-(s:Int)<=K+1
    ·have hle':((e-s:Nat):Int)<=K+1:=by omega
     generalize e-s=es at *
     generalize qY0 m.reverse sz j=en at *
     clear hend
     go_wp2
     go_ret
     refine⟨_,rfl,?_,uh HKM⟩
     rw[uh HJ]
     unfold joinL
     rw[uh HS,if_pos hle]
     exact uh HOM
    ·have hs2:s+3<=e:=by omega
     rw[hend (by omega)]
     obtain⟨en,hen⟩:∃en,en=j-s:=⟨_,rfl⟩
     obtain⟨e2,he2⟩:∃e2,e2=j-s-2:=⟨_,rfl⟩
     rw[<-hen]
     have hle':¬((e-s:Nat):Int)<=K+1:=by omega
     have hle2:K+1<((e-s:Nat):Int):=by omega
     have HLE:=hide hle
     have HS2:=hide hs2
     have HE2:=hide he2
     have HEN:=hide hen
     have q2:(en:Int)-2=(e2:Int):=by omega
     obtain⟨g,off,rfl,_,hcap,hmx,hglt⟩:=qLt (uh HOM).bw (by omega)
     have hoff:off=0:=by
      rcases(uh HOM).2 with ⟨h1,_⟩ | ⟨g',c',cur,h1,_⟩
      ·cases h1
      ·injection h1 with h1 _ _;injection h1 with h1;injection h1
     subst hoff
     have hcs:=qKl (by rw[List.length_reverse];exact uh HM) (uh HOM).bw e2 (by omega)
     rw[Nat.zero_add]at hcs
     have hb2:qBn m.reverse e2=qBn m (s+1):=by
      rw[qDl _ _ (by rw[uh HM];omega),uh HM]
      congr 1
      omega
     rw[hb2]at hcs
     have x1:=hcs.2
     have HJI:=hide (qMy (t:=(qBn m (s+1)).t) (uh HBM) (uh HS).symm (by rw[uh HM];exact hej) (by omega) z1)
     have HPS:=hide (uh HST (by omega) (qBn m (s+1)).t)
     have HJR:=hide (qQ2 m s ⟨2*sz,(qBn m (s+1)).t⟩ (by rw[uh HM];omega))
     generalize hxx:qBn m (s+1)=x at *
     have HXX:=hide hxx
     have hsz2:=(uh HJI).2.1
     have hmx':oc<=9223372036854775807:=by unfold maxLen at hmx;omega
     have hes:e-s<=j:=by omega
     have f1:en<=j:=by omega
     have f2:e2<=j:=by omega
     have f3:(0:Int)<=(e2:Int):=by omega
     have f4:(e2:Int)<(j:Int):=by omega
     have f5:e2<=oc:=by omega
     have f6:en<=oc:=by omega
     have hjs:s<=j:=by omega
     clear hcs hb2 hle hs2 hen he2 hxx HST hend hcap hmx hsle
     generalize e-s=es at *
     obtain⟨e3,he3⟩:∃e3,e3=e2+1:=⟨_,rfl⟩
     have HE3:=hide he3
     have f7:e3<=j:=by omega
     clear he3
     have HTK:=hide (show BW wr (.slice (some ⟨g,0,none⟩) e2 oc) (m.reverse.take e2) from qXz (by rw[List.length_reverse];exact uh HM) (uh HOM).bw f2)
     have HDR:=hide (show ∀W,BW W (.slice (some ⟨g,0,none⟩) j oc) m.reverse->BW W (.slice (if oc=en then some ⟨g,0,none⟩ else some ⟨g,en*2,none⟩) (j-en) (oc-en)) (m.reverse.drop en) from λW hW=>zCf (by rw[List.length_reverse];exact uh HM) hW f1 (by omega))
     have HTL:=hide (show(m.reverse.take e2).length=e2 by rw[List.length_take,List.length_reverse,uh HM];omega)
     have HDL:=hide (show(m.reverse.drop en).length=s by rw[List.length_drop,List.length_reverse,uh HM,uh HEN];omega)
     have hlg:g<wr.heap.size:=hglt
     have hw2:IntKind.i64.wrap (2*sz)=2*sz:=by rw[IntKind.wrap_i64];omega
     obtain⟨n1,hn1⟩:∃n1,n1=j-1:=⟨_,rfl⟩
     have HN1:=hide hn1
     clear hn1
     by_cases hoc:oc=en
     ·have hdr:=λW hW=>(uh HDR) W hW
      rw[if_pos hoc]at hdr
      subst hoc
      rw[Nat.sub_self]at hdr
      have HDR2:=hide hdr
      clear hdr
      go_wp2_with (at_builtin;first
         | (refine qB1 rfl _ _ rfl w.heap.size (.slice none 0 0) [] rfl (World.ownsRow_nil _ _ _ _) (.slice (some ⟨g,0,none⟩) e2 oc) (m.reverse.take e2) rfl (uh HTK) e2 (by rw[uh HTL];simp) (by omega) (uh HKM).size ?_;intro a1 c1 w5 ho5 hk5 ht5;have HO5:=hide (show OB w5 w.heap.size (.slice a1 e2 c1) (m.reverse.take e2) from ho5);have HK5:=hide (show Keeps (λ_=>False) wr w5 from hk5.mono (λi _ h=>by simp[Value.ownBlock]at h));have HT5:=hide (show ∀i,(Value.slice a1 e2 c1).ownBlock=some i->wr.heap.size<=i from λi hi=>(ht5 i hi).resolve_left (λh=>by simp[Value.ownBlock]at h));clear ho5 hk5 ht5;have x5:=(uh HK5).cell x1 (λh=>h))
         | (refine qB1 rfl _ _ rfl w.heap.size (.slice a1 e2 c1) (m.reverse.take e2) rfl ((uh HO5).alloc _) (.slice (some ⟨w5.heap.size,0,none⟩) 1 1) [⟨2*sz,x.t⟩] rfl (zBl w5 ⟨2*sz,x.t⟩) e3 (by rw[uh HTL,uh HE3];simp) (by omega) (by have h1:=(uh HKM).size;have h2:=(uh HK5).size;simp;omega) ?_;intro a2 c2 w6 ho6 hk6 ht6;have HO6:=hide ho6;have HK6:=hide hk6;have HM6:=hide (show BW w6 (.slice (some ⟨g,0,none⟩) j oc) m.reverse from qQ8 (((uh HOM).bw.keeps (uh HK5)).keeps ((Keeps.refl (λ_=>False) w5).alloc _)) hk6 (λh=>by have:=uh HT5 g h;omega));have HF6:=hide (show Keeps (λ_=>False) w w6 from qIy ((uh HO5).alloc _) hk6 (((uh HKM).then (uh HK5)).alloc _) (Nat.le_refl _));clear ho6 hk6 ht6)
         | (refine qB1 rfl _ _ rfl w.heap.size (.slice a2 e3 c2) (m.reverse.take e2++[⟨2*sz,x.t⟩]) rfl (uh HO6) (.slice (some ⟨g,0,none⟩) (j-oc) 0) (m.reverse.drop oc) rfl (uh HDR2 w6 (uh HM6)) n1 (by rw[List.length_append,uh HTL,uh HDL];have h1:=uh HE2;have h2:=uh HN1;have h3:=uh HS2;simp;omega) (by have:=uh HN1;omega) (uh HF6).size ?_;intro a3 c3 w7 ho7 hk7 ht7;have HO7:=hide ho7;have HF7:=hide (qIy (uh HO6) hk7 (uh HF6) (Nat.le_refl _));clear ho7 hk7 ht7))
      go_roundg (n1)
      case measure=>have h1:=uh HNG;have h2:=uh HN1;omega
      case rel =>
       refine⟨qCr m s ⟨2*sz,x.t⟩,2*sz,s+1,n1,a3,c3,rfl,rfl,rfl,by omega,by omega,by have:=uh HN1;omega,?_,uh HPS,(uh HJI).1,?_,HF7,?_⟩
       ·show _=_
        have:=qB8 (⟨2*sz,x.t⟩:Bk) (l:=m) (i:=s) (by rw[uh HM];have:=uh HS2;omega)
        rw[uh HM]at this
        have h2:=uh HN1
        omega
       ·have:=uh HO7
        have hjr:=uh HJR
        rw[uh HM,<-uh HEN]at hjr
        rw[show oc-2=e2 by have h1:=uh HE2;have h2:=uh HEN;omega]at hjr
        rw[hjr]at this
        exact this
       ·show _=_
        rw[uh HJ]
        conv=>lhs;unfold joinL
        rw[uh HS,if_neg (by have:=uh HLE;omega),uh HXX]
        exact qJi (by omega) _ _ _ _ _ (by have:=uh HS2;omega) (by omega)
     ·have hdr:=λW hW=>(uh HDR) W hW
      rw[if_neg hoc]at hdr
      have HDR2:=hide hdr
      clear hdr
      go_wp2_with (at_builtin;first
         | (refine qB1 rfl _ _ rfl w.heap.size (.slice none 0 0) [] rfl (World.ownsRow_nil _ _ _ _) (.slice (some ⟨g,0,none⟩) e2 oc) (m.reverse.take e2) rfl (uh HTK) e2 (by rw[uh HTL];simp) (by omega) (uh HKM).size ?_;intro a1 c1 w5 ho5 hk5 ht5;have HO5:=hide (show OB w5 w.heap.size (.slice a1 e2 c1) (m.reverse.take e2) from ho5);have HK5:=hide (show Keeps (λ_=>False) wr w5 from hk5.mono (λi _ h=>by simp[Value.ownBlock]at h));have HT5:=hide (show ∀i,(Value.slice a1 e2 c1).ownBlock=some i->wr.heap.size<=i from λi hi=>(ht5 i hi).resolve_left (λh=>by simp[Value.ownBlock]at h));clear ho5 hk5 ht5;have x5:=(uh HK5).cell x1 (λh=>h))
         | (refine qB1 rfl _ _ rfl w.heap.size (.slice a1 e2 c1) (m.reverse.take e2) rfl ((uh HO5).alloc _) (.slice (some ⟨w5.heap.size,0,none⟩) 1 1) [⟨2*sz,x.t⟩] rfl (zBl w5 ⟨2*sz,x.t⟩) e3 (by rw[uh HTL,uh HE3];simp) (by omega) (by have h1:=(uh HKM).size;have h2:=(uh HK5).size;simp;omega) ?_;intro a2 c2 w6 ho6 hk6 ht6;have HO6:=hide ho6;have HK6:=hide hk6;have HM6:=hide (show BW w6 (.slice (some ⟨g,0,none⟩) j oc) m.reverse from qQ8 (((uh HOM).bw.keeps (uh HK5)).keeps ((Keeps.refl (λ_=>False) w5).alloc _)) hk6 (λh=>by have:=uh HT5 g h;omega));have HF6:=hide (show Keeps (λ_=>False) w w6 from qIy ((uh HO5).alloc _) hk6 (((uh HKM).then (uh HK5)).alloc _) (Nat.le_refl _));clear ho6 hk6 ht6)
         | (refine qB1 rfl _ _ rfl w.heap.size (.slice a2 e3 c2) (m.reverse.take e2++[⟨2*sz,x.t⟩]) rfl (uh HO6) (.slice (some ⟨g,en*2,none⟩) (j-en) (oc-en)) (m.reverse.drop en) rfl (uh HDR2 w6 (uh HM6)) n1 (by rw[List.length_append,uh HTL,uh HDL];have h1:=uh HE2;have h2:=uh HN1;have h3:=uh HS2;simp;omega) (by have:=uh HN1;omega) (uh HF6).size ?_;intro a3 c3 w7 ho7 hk7 ht7;have HO7:=hide ho7;have HF7:=hide (qIy (uh HO6) hk7 (uh HF6) (Nat.le_refl _));clear ho7 hk7 ht7))
      go_roundg (n1)
      case measure=>have h1:=uh HNG;have h2:=uh HN1;omega
      case rel =>
       refine⟨qCr m s ⟨2*sz,x.t⟩,2*sz,s+1,n1,a3,c3,rfl,rfl,rfl,by omega,by omega,by have:=uh HN1;omega,?_,uh HPS,(uh HJI).1,?_,HF7,?_⟩
       ·show _=_
        have:=qB8 (⟨2*sz,x.t⟩:Bk) (l:=m) (i:=s) (by rw[uh HM];have:=uh HS2;omega)
        rw[uh HM]at this
        have h2:=uh HN1
        omega
       ·have:=uh HO7
        have hjr:=uh HJR
        rw[uh HM,<-uh HEN]at hjr
        rw[show en-2=e2 by have h1:=uh HE2;have h2:=uh HEN;omega]at hjr
        rw[hjr]at this
        exact this
       ·show _=_
        rw[uh HJ]
        conv=>lhs;unfold joinL
        rw[uh HS,if_neg (by have:=uh HLE;omega),uh HXX]
        exact qJi (by omega) _ _ _ _ _ (by have:=uh HS2;omega) (by omega)
end
end Go.Proofs.YtahnliehdjncdaaGreatDoor
