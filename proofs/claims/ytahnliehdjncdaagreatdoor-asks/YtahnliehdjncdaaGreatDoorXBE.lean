import Derived.Deep.DeepCutAuto
import Derived.Test.YtahnliehdjncdaaGreatDoorXBB
set_option maxRecDepth 100000
set_option maxHeartbeats 16000000
namespace Go.Proofs.YtahnliehdjncdaaGreatDoor
section
open Go.RowKit
theorem zAb(c:Cfg)(w:World)(hK:c.kind=1):
  Calls Tryz.prog 111 #[.agg c.cells.toArray] w λe w'=>e=.returned (.bool (qA0 c))/\Keeps (λ_=>False) w w':=by
 have HB:=hide (show Blk (w.alloc (.cells c.cells.toArray 38)) w.heap.size c.cells 38 from Blk.new w c.cells 38)
 have HK:=hide ((Keeps.refl (λ_=>False) w).alloc (.cells c.cells.toArray 38))
 have HKD:=hide hK
 clear hK
 go_enter Tryz.func111,Tryz.ntmps111
 go_upto_region 1 with fail
 generalize w.alloc (.cells c.cells.toArray 38)=W at *
 generalize w.heap.size=cb at *
 have c0:W.cell? ⟨cb,0,none⟩=some (.int .i64 1):=by
  rw[<-uh HKD];exact(uh HB).cell rfl
 have c1:W.cell? ⟨cb,1,none⟩=some (.int .i64 c.lag):=(uh HB).cell rfl
 have c2:W.cell? ⟨cb,2,none⟩=some (.int .i64 c.skew):=(uh HB).cell rfl
 have c3:W.cell? ⟨cb,3,none⟩=some (.int .i64 c.cap):=(uh HB).cell rfl
 have c4:W.cell? ⟨cb,4,none⟩=some (.int .i64 c.k):=(uh HB).cell rfl
 have c5:W.cell? ⟨cb,5,none⟩=some (.int .i64 c.window):=(uh HB).cell rfl
 have c6:W.cell? ⟨cb,6,none⟩=some (.int .i64 c.bits):=(uh HB).cell rfl
 have c7:W.cell? ⟨cb,7,none⟩=some (.int .i64 c.rows):=(uh HB).cell rfl
 have c8:W.cell? ⟨cb,8,none⟩=some (.int .i64 c.width):=(uh HB).cell rfl
 have c9:W.cell? ⟨cb,9,none⟩=some (.int .i64 c.panes):=(uh HB).cell rfl
 have c10:W.cell? ⟨cb,10,none⟩=some (.int .i64 c.size):=(uh HB).cell rfl
 have c11:W.cell? ⟨cb,11,none⟩=some (.int .i64 c.degree):=(uh HB).cell rfl
 have c12:W.cell? ⟨cb,12,none⟩=some (.int .i64 c.half):=(uh HB).cell rfl
 have c13:W.cell? ⟨cb,13,none⟩=some (.int .i64 c.mark):=(uh HB).cell rfl
 have c14:W.cell? ⟨cb,14,none⟩=some (.int .i64 c.s00):=(uh HB).cell rfl
 have c15:W.cell? ⟨cb,15,none⟩=some (.int .i64 c.s01):=(uh HB).cell rfl
 have c16:W.cell? ⟨cb,16,none⟩=some (.int .i64 c.s10):=(uh HB).cell rfl
 have c17:W.cell? ⟨cb,17,none⟩=some (.int .i64 c.s11):=(uh HB).cell rfl
 have c18:W.cell? ⟨cb,18,none⟩=some (.int .i64 c.s20):=(uh HB).cell rfl
 have c19:W.cell? ⟨cb,19,none⟩=some (.int .i64 c.s21):=(uh HB).cell rfl
 go_cut [3] (λs wx=>s=.bool (qA1 c)/\wx=W)
 case first =>
  cases h1:inB c.lag 0 100
  ·go_wp2_with (go_at_call 77;refine(qAl _ _ _ _).mono ?_;rintro r w9 ⟨rfl,hw9⟩;have hw9:=hw9.symm;subst hw9)
   go_meet
   exact⟨by simp[qA1,h1],rfl⟩
  ·skip
   cases h2:inB c.skew 0 100
   ·go_wp2_with (go_at_call 77;refine(qAl _ _ _ _).mono ?_;rintro r w9 ⟨rfl,hw9⟩;have hw9:=hw9.symm;subst hw9)
    go_meet
    exact⟨by simp[qA1,h1,h2],rfl⟩
   ·skip
    go_wp2_with (go_at_call 77;refine(qAl _ _ _ _).mono ?_;rintro r w9 ⟨rfl,hw9⟩;have hw9:=hw9.symm;subst hw9)
    go_meet
    exact⟨by simp[qA1,h1,h2],rfl⟩
 case rest =>
 obtain⟨rfl,hwc⟩:=hcut
 have hwc:=hwc.symm
 subst hwc
 go_upto_region 3 with (go_at_call 77;refine(qAl _ _ _ _).mono ?_;rintro r w9 ⟨rfl,hw9⟩;have hw9:=hw9.symm;subst hw9)
 go_cut [5] (λs wx'=>s=.bool (qB4 c)/\wx'=W)
 case first =>
  cases h1:inB c.degree 0 3
  ·go_wp2_with (go_at_call 77;refine(qAl _ _ _ _).mono ?_;rintro r w9 ⟨rfl,hw9⟩;have hw9:=hw9.symm;subst hw9)
   go_meet
   exact⟨by simp[qB4,h1],rfl⟩
  ·skip
   cases h2:inB c.half 0 100
   ·go_wp2_with (go_at_call 77;refine(qAl _ _ _ _).mono ?_;rintro r w9 ⟨rfl,hw9⟩;have hw9:=hw9.symm;subst hw9)
    go_meet
    exact⟨by simp[qB4,h1,h2],rfl⟩
   ·skip
    go_wp2_with (go_at_call 77;refine(qAl _ _ _ _).mono ?_;rintro r w9 ⟨rfl,hw9⟩;have hw9:=hw9.symm;subst hw9)
    go_meet
    exact⟨by simp[qB4,h1,h2],rfl⟩
 case rest =>
 obtain⟨rfl,hwc⟩:=hcut
 have hwc:=hwc.symm
 subst hwc
 have HWB:=hide (show inB c.window 1 1000=qBq c from rfl)
 rw[uh HWB]
 have HV:=hide (show qA0 c=((qA1 c&&qBq c)&&inB c.k 1 10) from by
    unfold qA0;rw[uh HKD]
    show(true&&(qA1 c&&countB c))=_
    unfold countB
    cases qA1 c <;> cases qBq c <;> cases inB c.k 1 10 <;> simp)
 cases h1:qA1 c
 ·go_wp2_with (go_at_call 77;refine(qAl _ _ _ _).mono ?_;rintro r w9 ⟨rfl,hw9⟩;have hw9:=hw9.symm;subst hw9)
  go_loop [3,7] (λs i=>s=.bool false/\i=.int .i64 0) (λ_ _=>0)
  case atStart=>exact⟨rfl,rfl⟩
  case round =>
   obtain⟨rfl,rfl⟩:=hrel
   go_wp2
   go_ret
   exact⟨qAz (by rw[uh HV,h1];rfl),uh HK⟩
 ·skip
  cases h2:qBq c
  ·go_wp2_with (go_at_call 77;refine(qAl _ _ _ _).mono ?_;rintro r w9 ⟨rfl,hw9⟩;have hw9:=hw9.symm;subst hw9)
   go_loop [3,7] (λs i=>s=.bool false/\i=.int .i64 0) (λ_ _=>0)
   case atStart=>exact⟨rfl,rfl⟩
   case round =>
    obtain⟨rfl,rfl⟩:=hrel
    go_wp2
    go_ret
    exact⟨qAz (by rw[uh HV,h1,h2];rfl),uh HK⟩
  ·skip
   cases h3:inB c.k 1 10
   ·go_wp2_with (go_at_call 77;refine(qAl _ _ _ _).mono ?_;rintro r w9 ⟨rfl,hw9⟩;have hw9:=hw9.symm;subst hw9)
    go_loop [3,7] (λs i=>s=.bool false/\i=.int .i64 0) (λ_ _=>0)
    case atStart=>exact⟨rfl,rfl⟩
    case round =>
     obtain⟨rfl,rfl⟩:=hrel
     go_wp2
     go_ret
     exact⟨qAz (by rw[uh HV,h1,h2,h3];rfl),uh HK⟩
   ·go_wp2_with (go_at_call 77;refine(qAl _ _ _ _).mono ?_;rintro r w9 ⟨rfl,hw9⟩;have hw9:=hw9.symm;subst hw9)
    go_loop [3,7] (λs i=>s=.bool true/\i=.int .i64 0) (λ_ _=>0)
    case atStart=>exact⟨rfl,rfl⟩
    case round =>
     obtain⟨rfl,rfl⟩:=hrel
     go_wp2
     go_ret
     exact⟨qAz (by rw[uh HV,h1,h2,h3];rfl),uh HK⟩
theorem qZf(c:Cfg)(w:World)(hK:c.kind=4):
  Calls Tryz.prog 111 #[.agg c.cells.toArray] w λe w'=>e=.returned (.bool (qA0 c))/\Keeps (λ_=>False) w w':=by
 have HB:=hide (show Blk (w.alloc (.cells c.cells.toArray 38)) w.heap.size c.cells 38 from Blk.new w c.cells 38)
 have HK:=hide ((Keeps.refl (λ_=>False) w).alloc (.cells c.cells.toArray 38))
 have HKD:=hide hK
 clear hK
 go_enter Tryz.func111,Tryz.ntmps111
 go_upto_region 1 with fail
 generalize w.alloc (.cells c.cells.toArray 38)=W at *
 generalize w.heap.size=cb at *
 have c0:W.cell? ⟨cb,0,none⟩=some (.int .i64 4):=by
  rw[<-uh HKD];exact(uh HB).cell rfl
 have c1:W.cell? ⟨cb,1,none⟩=some (.int .i64 c.lag):=(uh HB).cell rfl
 have c2:W.cell? ⟨cb,2,none⟩=some (.int .i64 c.skew):=(uh HB).cell rfl
 have c3:W.cell? ⟨cb,3,none⟩=some (.int .i64 c.cap):=(uh HB).cell rfl
 have c4:W.cell? ⟨cb,4,none⟩=some (.int .i64 c.k):=(uh HB).cell rfl
 have c5:W.cell? ⟨cb,5,none⟩=some (.int .i64 c.window):=(uh HB).cell rfl
 have c6:W.cell? ⟨cb,6,none⟩=some (.int .i64 c.bits):=(uh HB).cell rfl
 have c7:W.cell? ⟨cb,7,none⟩=some (.int .i64 c.rows):=(uh HB).cell rfl
 have c8:W.cell? ⟨cb,8,none⟩=some (.int .i64 c.width):=(uh HB).cell rfl
 have c9:W.cell? ⟨cb,9,none⟩=some (.int .i64 c.panes):=(uh HB).cell rfl
 have c10:W.cell? ⟨cb,10,none⟩=some (.int .i64 c.size):=(uh HB).cell rfl
 have c11:W.cell? ⟨cb,11,none⟩=some (.int .i64 c.degree):=(uh HB).cell rfl
 have c12:W.cell? ⟨cb,12,none⟩=some (.int .i64 c.half):=(uh HB).cell rfl
 have c13:W.cell? ⟨cb,13,none⟩=some (.int .i64 c.mark):=(uh HB).cell rfl
 have c14:W.cell? ⟨cb,14,none⟩=some (.int .i64 c.s00):=(uh HB).cell rfl
 have c15:W.cell? ⟨cb,15,none⟩=some (.int .i64 c.s01):=(uh HB).cell rfl
 have c16:W.cell? ⟨cb,16,none⟩=some (.int .i64 c.s10):=(uh HB).cell rfl
 have c17:W.cell? ⟨cb,17,none⟩=some (.int .i64 c.s11):=(uh HB).cell rfl
 have c18:W.cell? ⟨cb,18,none⟩=some (.int .i64 c.s20):=(uh HB).cell rfl
 have c19:W.cell? ⟨cb,19,none⟩=some (.int .i64 c.s21):=(uh HB).cell rfl
 go_cut [3] (λs wx=>s=.bool (qA1 c)/\wx=W)
 case first =>
  cases h1:inB c.lag 0 100
  ·go_wp2_with (go_at_call 77;refine(qAl _ _ _ _).mono ?_;rintro r w9 ⟨rfl,hw9⟩;have hw9:=hw9.symm;subst hw9)
   go_meet
   exact⟨by simp[qA1,h1],rfl⟩
  ·skip
   cases h2:inB c.skew 0 100
   ·go_wp2_with (go_at_call 77;refine(qAl _ _ _ _).mono ?_;rintro r w9 ⟨rfl,hw9⟩;have hw9:=hw9.symm;subst hw9)
    go_meet
    exact⟨by simp[qA1,h1,h2],rfl⟩
   ·skip
    go_wp2_with (go_at_call 77;refine(qAl _ _ _ _).mono ?_;rintro r w9 ⟨rfl,hw9⟩;have hw9:=hw9.symm;subst hw9)
    go_meet
    exact⟨by simp[qA1,h1,h2],rfl⟩
 case rest =>
 obtain⟨rfl,hwc⟩:=hcut
 have hwc:=hwc.symm
 subst hwc
 go_upto_region 3 with (go_at_call 77;refine(qAl _ _ _ _).mono ?_;rintro r w9 ⟨rfl,hw9⟩;have hw9:=hw9.symm;subst hw9)
 go_cut [5] (λs wx'=>s=.bool (qB4 c)/\wx'=W)
 case first =>
  cases h1:inB c.degree 0 3
  ·go_wp2_with (go_at_call 77;refine(qAl _ _ _ _).mono ?_;rintro r w9 ⟨rfl,hw9⟩;have hw9:=hw9.symm;subst hw9)
   go_meet
   exact⟨by simp[qB4,h1],rfl⟩
  ·skip
   cases h2:inB c.half 0 100
   ·go_wp2_with (go_at_call 77;refine(qAl _ _ _ _).mono ?_;rintro r w9 ⟨rfl,hw9⟩;have hw9:=hw9.symm;subst hw9)
    go_meet
    exact⟨by simp[qB4,h1,h2],rfl⟩
   ·skip
    go_wp2_with (go_at_call 77;refine(qAl _ _ _ _).mono ?_;rintro r w9 ⟨rfl,hw9⟩;have hw9:=hw9.symm;subst hw9)
    go_meet
    exact⟨by simp[qB4,h1,h2],rfl⟩
 case rest =>
 obtain⟨rfl,hwc⟩:=hcut
 have hwc:=hwc.symm
 subst hwc
 have HWB:=hide (show inB c.window 1 1000=qBq c from rfl)
 rw[uh HWB]
 have HV:=hide (show qA0 c=(qA1 c&&qB4 c) from by
    unfold qA0;rw[uh HKD]
    show(true&&(qA1 c&&qB4 c))=_
    cases qA1 c <;> simp)
 cases h1:qA1 c
 ·go_wp2_with (go_at_call 77;refine(qAl _ _ _ _).mono ?_;rintro r w9 ⟨rfl,hw9⟩;have hw9:=hw9.symm;subst hw9)
  go_loop [3,7] (λs i=>s=.bool false/\i=.int .i64 0) (λ_ _=>0)
  case atStart=>exact⟨rfl,rfl⟩
  case round =>
   obtain⟨rfl,rfl⟩:=hrel
   go_wp2
   go_ret
   exact⟨qAz (by rw[uh HV,h1];rfl),uh HK⟩
 ·skip
  cases h2:qB4 c
  ·go_wp2_with (go_at_call 77;refine(qAl _ _ _ _).mono ?_;rintro r w9 ⟨rfl,hw9⟩;have hw9:=hw9.symm;subst hw9)
   go_loop [3,7] (λs i=>s=.bool false/\i=.int .i64 0) (λ_ _=>0)
   case atStart=>exact⟨rfl,rfl⟩
   case round =>
    obtain⟨rfl,rfl⟩:=hrel
    go_wp2
    go_ret
    exact⟨qAz (by rw[uh HV,h1,h2];rfl),uh HK⟩
  ·go_wp2_with (go_at_call 77;refine(qAl _ _ _ _).mono ?_;rintro r w9 ⟨rfl,hw9⟩;have hw9:=hw9.symm;subst hw9)
   go_loop [3,7] (λs i=>s=.bool true/\i=.int .i64 0) (λ_ _=>0)
   case atStart=>exact⟨rfl,rfl⟩
   case round =>
    obtain⟨rfl,rfl⟩:=hrel
    go_wp2
    go_ret
    exact⟨qAz (by rw[uh HV,h1,h2];rfl),uh HK⟩
theorem zAp(c:Cfg)(w:World)(hK:c.kind=5):
  Calls Tryz.prog 111 #[.agg c.cells.toArray] w λe w'=>e=.returned (.bool (qA0 c))/\Keeps (λ_=>False) w w':=by
 have HB:=hide (show Blk (w.alloc (.cells c.cells.toArray 38)) w.heap.size c.cells 38 from Blk.new w c.cells 38)
 have HK:=hide ((Keeps.refl (λ_=>False) w).alloc (.cells c.cells.toArray 38))
 have HKD:=hide hK
 clear hK
 go_enter Tryz.func111,Tryz.ntmps111
 go_upto_region 1 with fail
 generalize w.alloc (.cells c.cells.toArray 38)=W at *
 generalize w.heap.size=cb at *
 have c0:W.cell? ⟨cb,0,none⟩=some (.int .i64 5):=by
  rw[<-uh HKD];exact(uh HB).cell rfl
 have c1:W.cell? ⟨cb,1,none⟩=some (.int .i64 c.lag):=(uh HB).cell rfl
 have c2:W.cell? ⟨cb,2,none⟩=some (.int .i64 c.skew):=(uh HB).cell rfl
 have c3:W.cell? ⟨cb,3,none⟩=some (.int .i64 c.cap):=(uh HB).cell rfl
 have c4:W.cell? ⟨cb,4,none⟩=some (.int .i64 c.k):=(uh HB).cell rfl
 have c5:W.cell? ⟨cb,5,none⟩=some (.int .i64 c.window):=(uh HB).cell rfl
 have c6:W.cell? ⟨cb,6,none⟩=some (.int .i64 c.bits):=(uh HB).cell rfl
 have c7:W.cell? ⟨cb,7,none⟩=some (.int .i64 c.rows):=(uh HB).cell rfl
 have c8:W.cell? ⟨cb,8,none⟩=some (.int .i64 c.width):=(uh HB).cell rfl
 have c9:W.cell? ⟨cb,9,none⟩=some (.int .i64 c.panes):=(uh HB).cell rfl
 have c10:W.cell? ⟨cb,10,none⟩=some (.int .i64 c.size):=(uh HB).cell rfl
 have c11:W.cell? ⟨cb,11,none⟩=some (.int .i64 c.degree):=(uh HB).cell rfl
 have c12:W.cell? ⟨cb,12,none⟩=some (.int .i64 c.half):=(uh HB).cell rfl
 have c13:W.cell? ⟨cb,13,none⟩=some (.int .i64 c.mark):=(uh HB).cell rfl
 have c14:W.cell? ⟨cb,14,none⟩=some (.int .i64 c.s00):=(uh HB).cell rfl
 have c15:W.cell? ⟨cb,15,none⟩=some (.int .i64 c.s01):=(uh HB).cell rfl
 have c16:W.cell? ⟨cb,16,none⟩=some (.int .i64 c.s10):=(uh HB).cell rfl
 have c17:W.cell? ⟨cb,17,none⟩=some (.int .i64 c.s11):=(uh HB).cell rfl
 have c18:W.cell? ⟨cb,18,none⟩=some (.int .i64 c.s20):=(uh HB).cell rfl
 have c19:W.cell? ⟨cb,19,none⟩=some (.int .i64 c.s21):=(uh HB).cell rfl
 go_cut [3] (λs wx=>s=.bool (qA1 c)/\wx=W)
 case first =>
  cases h1:inB c.lag 0 100
  ·go_wp2_with (go_at_call 77;refine(qAl _ _ _ _).mono ?_;rintro r w9 ⟨rfl,hw9⟩;have hw9:=hw9.symm;subst hw9)
   go_meet
   exact⟨by simp[qA1,h1],rfl⟩
  ·skip
   cases h2:inB c.skew 0 100
   ·go_wp2_with (go_at_call 77;refine(qAl _ _ _ _).mono ?_;rintro r w9 ⟨rfl,hw9⟩;have hw9:=hw9.symm;subst hw9)
    go_meet
    exact⟨by simp[qA1,h1,h2],rfl⟩
   ·skip
    go_wp2_with (go_at_call 77;refine(qAl _ _ _ _).mono ?_;rintro r w9 ⟨rfl,hw9⟩;have hw9:=hw9.symm;subst hw9)
    go_meet
    exact⟨by simp[qA1,h1,h2],rfl⟩
 case rest =>
 obtain⟨rfl,hwc⟩:=hcut
 have hwc:=hwc.symm
 subst hwc
 go_upto_region 3 with (go_at_call 77;refine(qAl _ _ _ _).mono ?_;rintro r w9 ⟨rfl,hw9⟩;have hw9:=hw9.symm;subst hw9)
 go_cut [5] (λs wx'=>s=.bool (qB4 c)/\wx'=W)
 case first =>
  cases h1:inB c.degree 0 3
  ·go_wp2_with (go_at_call 77;refine(qAl _ _ _ _).mono ?_;rintro r w9 ⟨rfl,hw9⟩;have hw9:=hw9.symm;subst hw9)
   go_meet
   exact⟨by simp[qB4,h1],rfl⟩
  ·skip
   cases h2:inB c.half 0 100
   ·go_wp2_with (go_at_call 77;refine(qAl _ _ _ _).mono ?_;rintro r w9 ⟨rfl,hw9⟩;have hw9:=hw9.symm;subst hw9)
    go_meet
    exact⟨by simp[qB4,h1,h2],rfl⟩
   ·skip
    go_wp2_with (go_at_call 77;refine(qAl _ _ _ _).mono ?_;rintro r w9 ⟨rfl,hw9⟩;have hw9:=hw9.symm;subst hw9)
    go_meet
    exact⟨by simp[qB4,h1,h2],rfl⟩
 case rest =>
 obtain⟨rfl,hwc⟩:=hcut
 have hwc:=hwc.symm
 subst hwc
 have HWB:=hide (show inB c.window 1 1000=qBq c from rfl)
 rw[uh HWB]
 have HV:=hide (show qA0 c=((qA1 c&&qB4 c)&&inB c.size 1 5) from by
    unfold qA0;rw[uh HKD]
    show(true&&(qA1 c&&qIl c))=_
    unfold qIl
    cases qA1 c <;> cases inB c.size 1 5 <;> simp)
 cases h1:qA1 c
 ·go_wp2_with (go_at_call 77;refine(qAl _ _ _ _).mono ?_;rintro r w9 ⟨rfl,hw9⟩;have hw9:=hw9.symm;subst hw9)
  go_loop [3,7] (λs i=>s=.bool false/\i=.int .i64 0) (λ_ _=>0)
  case atStart=>exact⟨rfl,rfl⟩
  case round =>
   obtain⟨rfl,rfl⟩:=hrel
   go_wp2
   go_ret
   exact⟨qAz (by rw[uh HV,h1];rfl),uh HK⟩
 ·skip
  cases h2:qB4 c
  ·go_wp2_with (go_at_call 77;refine(qAl _ _ _ _).mono ?_;rintro r w9 ⟨rfl,hw9⟩;have hw9:=hw9.symm;subst hw9)
   go_loop [3,7] (λs i=>s=.bool false/\i=.int .i64 0) (λ_ _=>0)
   case atStart=>exact⟨rfl,rfl⟩
   case round =>
    obtain⟨rfl,rfl⟩:=hrel
    go_wp2
    go_ret
    exact⟨qAz (by rw[uh HV,h1,h2];rfl),uh HK⟩
  ·skip
   cases h3:inB c.size 1 5
   ·go_wp2_with (go_at_call 77;refine(qAl _ _ _ _).mono ?_;rintro r w9 ⟨rfl,hw9⟩;have hw9:=hw9.symm;subst hw9)
    go_loop [3,7] (λs i=>s=.bool false/\i=.int .i64 0) (λ_ _=>0)
    case atStart=>exact⟨rfl,rfl⟩
    case round =>
     obtain⟨rfl,rfl⟩:=hrel
     go_wp2
     go_ret
     exact⟨qAz (by rw[uh HV,h1,h2,h3];rfl),uh HK⟩
   ·go_wp2_with (go_at_call 77;refine(qAl _ _ _ _).mono ?_;rintro r w9 ⟨rfl,hw9⟩;have hw9:=hw9.symm;subst hw9)
    go_loop [3,7] (λs i=>s=.bool true/\i=.int .i64 0) (λ_ _=>0)
    case atStart=>exact⟨rfl,rfl⟩
    case round =>
     obtain⟨rfl,rfl⟩:=hrel
     go_wp2
     go_ret
     exact⟨qAz (by rw[uh HV,h1,h2,h3];rfl),uh HK⟩
end
end Go.Proofs.YtahnliehdjncdaaGreatDoor
