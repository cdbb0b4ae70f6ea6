import Derived.Deep.DeepCutAuto
import Derived.Test.YtahnliehdjncdaaGreatDoorXBB
import Derived.Test.YtahnliehdjncdaaGreatDoorXBG
set_option maxRecDepth 100000
set_option maxHeartbeats 16000000
namespace Go.Proofs.YtahnliehdjncdaaGreatDoor
section
open Go.RowKit
theorem zAe(c:Cfg)(w:World)(hK:¬(1<=c.kind/\c.kind<=5)):
  Calls Tryz.prog 111 #[.agg c.cells.toArray] w λe w'=>e=.returned (.bool (qA0 c))/\Keeps (λ_=>False) w w':=by
 have HB:=hide (show Blk (w.alloc (.cells c.cells.toArray 38)) w.heap.size c.cells 38 from Blk.new w c.cells 38)
 have HK:=hide ((Keeps.refl (λ_=>False) w).alloc (.cells c.cells.toArray 38))
 have HKD:=hide hK
 clear hK
 go_enter Tryz.func111,Tryz.ntmps111
 go_upto_region 1 with fail
 generalize w.alloc (.cells c.cells.toArray 38)=W at *
 generalize w.heap.size=cb at *
 have c0:W.cell? ⟨cb,0,none⟩=some (.int .i64 c.kind):=(uh HB).cell rfl
 have c1:W.cell? ⟨cb,1,none⟩=some (.int .i64 c.lag):=(uh HB).cell rfl
 have c2:W.cell? ⟨cb,2,none⟩=some (.int .i64 c.skew):=(uh HB).cell rfl
 have c3:W.cell? ⟨cb,3,none⟩=some (.int .i64 c.cap):=(uh HB).cell rfl
 have c4:W.cell? ⟨cb,4,none⟩=some (.int .i64 c.k):=(uh HB).cell rfl
 have c5:W.cell? ⟨cb,5,none⟩=some (.int .i64 c.window):=(uh HB).cell rfl
 have c6:W.cell? ⟨cb,6,none⟩=some (.int .i64 c.bits):=(uh HB).cell rfl
 have c7:W.cell? ⟨cb,7,none⟩=some (.int .i64 c.rows):=(uh HB).cell rfl
 have c8:W.cell? ⟨cb,8,none⟩=some (.int .i64 c.width):=(uh HB).cell rfl
 have c9:W.cell? ⟨cb,9,none⟩=some (.int .i64 c.panes):=(uh HB).cell rfl
 have c10:W.cell? ⟨cb,10,none⟩=some (.int .i64 c.size):=(uh HB).cell rfl
 have c11:W.cell? ⟨cb,11,none⟩=some (.int .i64 c.degree):=(uh HB).cell rfl
 have c12:W.cell? ⟨cb,12,none⟩=some (.int .i64 c.half):=(uh HB).cell rfl
 have c13:W.cell? ⟨cb,13,none⟩=some (.int .i64 c.mark):=(uh HB).cell rfl
 have c14:W.cell? ⟨cb,14,none⟩=some (.int .i64 c.s00):=(uh HB).cell rfl
 have c15:W.cell? ⟨cb,15,none⟩=some (.int .i64 c.s01):=(uh HB).cell rfl
 have c16:W.cell? ⟨cb,16,none⟩=some (.int .i64 c.s10):=(uh HB).cell rfl
 have c17:W.cell? ⟨cb,17,none⟩=some (.int .i64 c.s11):=(uh HB).cell rfl
 have c18:W.cell? ⟨cb,18,none⟩=some (.int .i64 c.s20):=(uh HB).cell rfl
 have c19:W.cell? ⟨cb,19,none⟩=some (.int .i64 c.s21):=(uh HB).cell rfl
 go_cut [3] (λs wx=>s=.bool (qA1 c)/\wx=W)
 case first =>
  cases h1:inB c.lag 0 100
  ·go_wp2_with (go_at_call 77;refine(qAl _ _ _ _).mono ?_;rintro r w9 ⟨rfl,hw9⟩;have hw9:=hw9.symm;subst hw9)
   go_meet
   exact⟨by simp[qA1,h1],rfl⟩
  ·skip
   cases h2:inB c.skew 0 100
   ·go_wp2_with (go_at_call 77;refine(qAl _ _ _ _).mono ?_;rintro r w9 ⟨rfl,hw9⟩;have hw9:=hw9.symm;subst hw9)
    go_meet
    exact⟨by simp[qA1,h1,h2],rfl⟩
   ·skip
    go_wp2_with (go_at_call 77;refine(qAl _ _ _ _).mono ?_;rintro r w9 ⟨rfl,hw9⟩;have hw9:=hw9.symm;subst hw9)
    go_meet
    exact⟨by simp[qA1,h1,h2],rfl⟩
 case rest =>
 obtain⟨rfl,hwc⟩:=hcut
 have hwc:=hwc.symm
 subst hwc
 go_upto_region 3 with (go_at_call 77;refine(qAl _ _ _ _).mono ?_;rintro r w9 ⟨rfl,hw9⟩;have hw9:=hw9.symm;subst hw9)
 go_cut [5] (λs wx'=>s=.bool (qB4 c)/\wx'=W)
 case first =>
  cases h1:inB c.degree 0 3
  ·go_wp2_with (go_at_call 77;refine(qAl _ _ _ _).mono ?_;rintro r w9 ⟨rfl,hw9⟩;have hw9:=hw9.symm;subst hw9)
   go_meet
   exact⟨by simp[qB4,h1],rfl⟩
  ·skip
   cases h2:inB c.half 0 100
   ·go_wp2_with (go_at_call 77;refine(qAl _ _ _ _).mono ?_;rintro r w9 ⟨rfl,hw9⟩;have hw9:=hw9.symm;subst hw9)
    go_meet
    exact⟨by simp[qB4,h1,h2],rfl⟩
   ·skip
    go_wp2_with (go_at_call 77;refine(qAl _ _ _ _).mono ?_;rintro r w9 ⟨rfl,hw9⟩;have hw9:=hw9.symm;subst hw9)
    go_meet
    exact⟨by simp[qB4,h1,h2],rfl⟩
 case rest =>
 obtain⟨rfl,hwc⟩:=hcut
 have hwc:=hwc.symm
 subst hwc
 have HWB:=hide (show inB c.window 1 1000=qBq c from rfl)
 rw[uh HWB]
 have HV:=hide (show qA0 c=false from by
    have:=uh HKD
    have h:inB c.kind 1 5=false:=by
     cases h:inB c.kind 1 5
     ·rfl
     ·obtain⟨a,b⟩:=qA9 h;exact absurd ⟨a,b⟩ this
    unfold qA0;rw[h];rfl)
 have k1:(c.kind==1)=false:=by have:=uh HKD;simp;omega
 have k2:(c.kind==2)=false:=by have:=uh HKD;simp;omega
 have k3:(c.kind==3)=false:=by have:=uh HKD;simp;omega
 have k4:(c.kind==4)=false:=by have:=uh HKD;simp;omega
 have k5:(c.kind==5)=false:=by have:=uh HKD;simp;omega
 go_wp2
 go_ret
 exact⟨qAz (by rw[uh HV]),uh HK⟩
end
section
open Go.RowKit
attribute [local go_sem ↓] qAd qAe
attribute [local go_sem] qAi qAj qAc qAb qAm qAn qAg qAh qAk qAo
theorem qM2(c:Cfg)(w:World): Calls Tryz.prog 111 #[.agg c.cells.toArray] w λe w'=>e=.returned (.bool (qA0 c))/\Keeps (λ_=>False) w w':=by
 by_cases h1:c.kind=1
 ·exact zAb c w h1
 by_cases h2:c.kind=2
 ·exact zAa c w h2
 by_cases h3:c.kind=3
 ·exact zA0 c w h3
 by_cases h4:c.kind=4
 ·exact qZf c w h4
 by_cases h5:c.kind=5
 ·exact zAp c w h5
 exact zAe c w (by omega)
theorem zEn: (Tryz.prog.info? 112).map (λi=>(i.zero,i.size,i.bytes))=some (some (.pointer none),1,8):=by kernel_rfl
theorem zDh(id:Int)(c:Cfg)(w:World):
  (Instr.build 119 #[(0,.int .i64 id),(1,.agg c.cells.toArray)]).run Tryz.prog w=.ok (.agg (qDi ⟨0,.slice none 0 0,.slice none 0 0⟩ (qLx id c)).toArray) w:=by kernel_rfl
theorem qH4(ρ:Operand->Value)(dst:Option Tmp)(x:Array (Nat×Operand))(ty:TypeId)(pos:String)(after:Array Edge)(guard:Option (Nat×Bool)):
  execOp ρ { dst,op:=.build 119 x,type:=ty,pos,after,guard }=qDg 119 (x.map λ(i,y)=>(i,ρ y)):=rfl
theorem qKn(id:Int)(c:Cfg)(w:World):
  (qDg 119 #[(0,.int .i64 id),(1,.agg c.cells.toArray)]).run Tryz.prog w=.ok (.value (.agg (qDi ⟨0,.slice none 0 0,.slice none 0 0⟩ (qLx id c)).toArray)) w:=by
 unfold qDg
 rw[Sem.run_bind,zDh]
 rfl
attribute [local go_sem ↓] qH4
attribute [local go_sem] qKn
theorem qQj(a b:List (RB×RSer)): qIq (a++b)=qIq a++qIq b:=by simp[qIq]
theorem qSf{wa w3:World}{O:Obj}{e:Nat}{v nv:Value}{clock ticks:Int}{ps:List (RB×RSer)}{b2:RB}{x:RSer}{gg m cap':Nat}(hE:RWRep wa e v clock ticks ps)(hm:ps.length=m)(hnv:nv=.slice (some ⟨gg,0,none⟩) (m+1) cap')(hb2:b2=⟨wa.heap.size,.slice none 0 0,.slice none 0 0⟩)(hx1:x.items=[])(hx2:x.events=[])(hown:w3.ownsRow 0 112 1 nv (m+1) (qIq ps++[.pointer (some ⟨b2.s,0,none⟩)]))(hgrow:((wa.alloc (.cells (qDi b2 x).toArray 119)).alloc O).drew.grownBy w3 v.ownBlock)(hat:v.ownBlock=some gg\/gg=wa.heap.size+2):
  RWRep (w3.setCell ⟨e,2,none⟩ nv) e nv clock ticks (ps++[(b2,x)])/\Keeps (RFoot e v ps) wa (w3.setCell ⟨e,2,none⟩ nv)/\(∀i,RFoot e nv (ps++[(b2,x)]) i->RFoot e v ps i\/wa.heap.size<=i):=by
 have hs2:RRep (wa.alloc (.cells (qDi b2 x).toArray 119)) b2 x:=by
  subst hb2
  refine⟨Blk.new wa _ 119,?_,?_,?_,?_,?_⟩
  ·rw[hx1];exact World.ownsRow_nil _ _ _ _
  ·rw[hx2];exact World.ownsRow_nil _ _ _ _
  ·intro h;cases h
  ·intro h;cases h
  ·intro i h;cases h
 have hft:∀i,b2.foot i->i=wa.heap.size:=by
  intro i hi
  subst hb2
  rcases hi with hi | hi | hi
  ·exact hi
  ·cases hi
  ·cases hi
 generalize hw2:wa.alloc (.cells (qDi b2 x).toArray 119)=w2 at *
 have hk2:Keeps (λ_=>False) wa w2:=by rw[<-hw2];exact(Keeps.refl (λ_=>False) wa).alloc _
 have hsz2:w2.heap.size=wa.heap.size+1:=by rw[<-hw2];simp
 have hnb:nv.ownBlock=some gg:=by rw[hnv];rfl
 have hk3:Keeps (λi=>v.ownBlock=some i) wa w3:=(((hk2.mono (M':=λi=>v.ownBlock=some i) (λ_ _ h=>h.elim)).alloc O).drew).grown hgrow (λk hk=>Or.inl hk)
 have hk4:Keeps (λi=>i=e) w3 (w3.setCell ⟨e,2,none⟩ nv):=(Keeps.refl (λi=>i=e) w3).setCell (p:=⟨e,2,none⟩) (Or.inl rfl) _
 have hele:=hE.blk.lt
 have hge:gg≠e:=by
  rcases hat with h | h
  ·intro he;exact hE.ev (by rw[h,he])
  ·omega
 have hrowlt:∀i,v.ownBlock=some i->i<wa.heap.size:=λi hi=>hE.lt i (.inr (.inl hi))
 have hsnew:RRep w3 b2 x:=(hs2.still (((Keeps.refl (λ_=>False) w2).alloc O).drew)).keeps (M:=λi=>v.ownBlock=some i) ⟨hgrow.os,hgrow.tape,hgrow.output,hgrow.size,λk hk hn=>hgrow.block k hk (λh=>hn h.symm)⟩ (λi hi h=>by have h1:=hft i hi;have h2:=hrowlt i h;omega)
 refine⟨⟨?_,?_,?_,?_,?_,?_⟩,?_,?_⟩
 ·exact(hE.blk.keeps hk3 (λh=>hE.ev h)).setCell 2 nv
 ·have:=qAf hown hk4 (λi hi h=>by rw[hnb]at hi;injection hi with hi;omega)
  rw[qQj,List.length_append,hm]
  exact this
 ·intro p hp
  rcases List.mem_append.1 hp with hp | hp
  ·exact((hE.reps p hp).keeps hk3 (λi hi h=>(hE.ef p hp i hi).2 h)).keeps hk4 (λi hi h=>(hE.ef p hp i hi).1 h)
  ·rw[List.mem_singleton]at hp;subst hp
   exact hsnew.keeps hk4 (λi hi h=>by have:=hft i hi;omega)
 ·refine List.pairwise_append.2 ⟨hE.apart,List.pairwise_singleton _ _,?_⟩
  intro p hp q hq i hi hqi
  rw[List.mem_singleton]at hq;subst hq
  have h1:=(hE.reps p hp).lt i hi
  have h2:=hft i hqi
  omega
 ·rw[hnb];intro h;injection h with h;exact hge h
 ·intro p hp i hi
  rw[hnb]
  rcases List.mem_append.1 hp with hp | hp
  ·refine⟨(hE.ef p hp i hi).1,λh=>?_⟩
   injection h with h
   have h1:=(hE.reps p hp).lt i hi
   rcases hat with h2 | h2
   ·exact(hE.ef p hp i hi).2 (by rw[h2,h])
   ·omega
  ·rw[List.mem_singleton]at hp;subst hp
   have h1:=hft i hi
   refine⟨by omega,λh=>?_⟩
   injection h with h
   rcases hat with h3 | h3
   ·have:=hrowlt gg h3;omega
   ·omega
 ·exact(hk3.mono (M':=RFoot e v ps) (λi _ h=>.inr (.inl h))).trans hk4 (λi hi _=>.inl hi)
 ·intro i hi
  rcases hi with hi | hi | ⟨p,hp,hi⟩
  ·exact .inl (.inl hi)
  ·rw[hnb]at hi;injection hi with hi
   rcases hat with h | h
   ·exact .inl (.inr (.inl (by rw[h,hi])))
   ·exact .inr (by omega)
  ·rcases List.mem_append.1 hp with hp | hp
   ·exact .inl (.inr (.inr ⟨p,hp,hi⟩))
   ·rw[List.mem_singleton]at hp;subst hp
    exact .inr (by have:=hft i hi;omega)
theorem qI7(ps:List (RB×RSer))(clock ticks:Int)(o:OpM): qC3 ⟨clock,ticks,ps.map (·.2)⟩ o =
  if inB o.id 0 99=true/\(qB2 ps o.id)=none then(if qA0 o.cfg=true then(if ps.length=6 then(⟨clock,ticks,ps.map (·.2)⟩,4,[]) else(⟨clock,ticks,ps.map (·.2)++[qLx o.id o.cfg]⟩,0,[])) else(⟨clock,ticks,ps.map (·.2)⟩,3,[])) else(⟨clock,ticks,ps.map (·.2)⟩,2,[]):=by
 unfold qC3
 simp only[qE0,List.length_map]
 have:((qB2 ps o.id).map (·.2)).isNone=true↔qB2 ps o.id=none:=by cases qB2 ps o.id <;> simp
 simp only[this]
theorem qVc(e:Nat)(v:Value)(clock ticks:Int)(ps:List (RB×RSer))(o:OpM)(w:World)(h:RWRep w e v clock ticks ps)(hl:ps.length<=1000)(hno:¬(inB o.id 0 99=true/\qB2 ps o.id=none/\qA0 o.cfg=true/\ps.length≠6)):
  Calls Tryz.prog 84 #[.pointer (some ⟨e,0,none⟩),o.val] w λr w'=>r=.returned (.int .i64 (qC3 ⟨clock,ticks,ps.map (·.2)⟩ o).2.1)/\(qC3 ⟨clock,ticks,ps.map (·.2)⟩ o).2.2=[]/\qIi w e v ps (qC3 ⟨clock,ticks,ps.map (·.2)⟩ o).1 w':=by
 have HG:=hide (qI7 ps clock ticks o)
 have h1:o.cells[1]?=some (.int .i64 o.id):=rfl
 have HE:=hide h
 have hk0:Keeps (λ_=>False) w (w.alloc (.cells o.cells.toArray 40)):=(Keeps.refl (λ_=>False) w).alloc _
 have HO0:=hide (show Blk (w.alloc (.cells o.cells.toArray 40)) w.heap.size o.cells 40 from Blk.new w o.cells 40)
 have HE0:=hide (h.still hk0)
 have HK0:=hide hk0
 have HNO:=hide hno
 clear h hk0 hno
 unfold OpM.val
 go_enter Tryz.func84,Tryz.ntmps84
 go_wp2_with fail
 generalize w.alloc (.cells o.cells.toArray 40)=w0 at *
 generalize hob:w.heap.size=ob at *
 have HOB:=hide hob
 clear hob
 refine(qCg e v clock ticks o.id ps w0 (uh HE0) hl).mono ?_
 rintro r w1 ⟨rfl,hw1⟩
 rw[hw1]
 clear hw1 w1
 obtain⟨hv0,hh0⟩:=qBe (uh HO0) 5 20 o.cfg.cells rfl rfl
 go_wp2_with fail
 refine(qM2 o.cfg w0).mono ?_
 rintro r w1 ⟨rfl,hk1⟩
 have o1:w1.cell? ⟨ob,1,none⟩=some (.int .i64 o.id):=hk1.cell ((uh HO0).cell rfl) (λh=>h)
 have e2:w1.cell? ⟨e,2,none⟩=some v:=hk1.cell ((uh HE0).blk.cell rfl) (λh=>h)
 have hlv:∃a cap,v=.slice a ps.length cap:=by
  rcases(uh HE0).row.2 with ⟨h1,h2⟩ | ⟨g,cap,cur,h1,_⟩
  ·exact⟨none,0,by rw[h1,h2]⟩
  ·exact⟨some ⟨g,0,none⟩,cap,h1⟩
 have HK1:=hide ((uh HK0).then hk1)
 clear hk1 hv0 hh0 h1
 have fin:∀(wz:World) (c:Int),Keeps (λ_=>False) w wz->qC3 ⟨clock,ticks,ps.map (·.2)⟩ o=(⟨clock,ticks,ps.map (·.2)⟩,c,[])->Ending.returned (.int .i64 c)=.returned (.int .i64 (qC3 ⟨clock,ticks,ps.map (·.2)⟩ o).2.1)/\(qC3 ⟨clock,ticks,ps.map (·.2)⟩ o).2.2=[]/\qIi w e v ps (qC3 ⟨clock,ticks,ps.map (·.2)⟩ o).1 wz:=by
  intro wz c hk he
  rw[he]
  exact⟨rfl,rfl,qFu (uh HE) hk⟩
 have FIN:=hide fin
 clear fin
 by_cases i1:o.id<0
 ·go_wp2
  go_ret
  exact uh FIN _ 2 (uh HK1) (by rw[uh HG,if_neg (λh=>by obtain⟨a,b⟩:=qA9 h.1;omega)])
 by_cases i2:99<o.id
 ·go_wp2
  go_ret
  exact uh FIN _ 2 (uh HK1) (by rw[uh HG,if_neg (λh=>by obtain⟨a,b⟩:=qA9 h.1;omega)])
 have hin:inB o.id 0 99=true:=by simp[inB];omega
 have HIN:=hide hin
 clear hin
 cases hf:qB2 ps o.id with
 | some p =>
  unfold qEh
  go_wp2
  go_ret
  exact uh FIN _ 2 (uh HK1) (by rw[uh HG,if_neg (λh=>by rw[hf]at h;cases h.2)])
 | none =>
  unfold qEh
  cases hv:qA0 o.cfg with
  | false =>
   go_wp2
   go_ret
   exact uh FIN _ 3 (uh HK1) (by rw[uh HG,if_pos ⟨uh HIN,hf⟩,hv];rfl)
  | true =>
   have h6:ps.length=6:=by
    have:=uh HNO
    by_cases h6:ps.length=6
    ·exact h6
    ·exact absurd ⟨uh HIN,hf,hv,h6⟩ this
   obtain⟨va,vcap,hvv⟩:=hlv
   rw[hvv,h6]at e2
   clear hvv
   go_wp2
   go_ret
   exact uh FIN _ 4 (uh HK1) (by rw[uh HG,if_pos ⟨uh HIN,hf⟩,hv,if_pos rfl,if_pos h6])
end
end Go.Proofs.YtahnliehdjncdaaGreatDoor
