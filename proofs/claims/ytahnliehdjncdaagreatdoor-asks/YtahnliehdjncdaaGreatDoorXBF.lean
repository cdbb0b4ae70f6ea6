import Derived.Deep.DeepCutAuto
import Derived.Test.YtahnliehdjncdaaGreatDoorXBB
set_option maxRecDepth 100000
set_option maxHeartbeats 16000000
namespace Go.Proofs.YtahnliehdjncdaaGreatDoor
section
open Go.RowKit
theorem zAa(c:Cfg)(w:World)(hK:c.kind=2):
  Calls Tryz.prog 111 #[.agg c.cells.toArray] w λe w'=>e=.returned (.bool (qA0 c))/\Keeps (λ_=>False) w w':=by
 have HB:=hide (show Blk (w.alloc (.cells c.cells.toArray 38)) w.heap.size c.cells 38 from Blk.new w c.cells 38)
 have HK:=hide ((Keeps.refl (λ_=>False) w).alloc (.cells c.cells.toArray 38))
 have HKD:=hide hK
 clear hK
 go_enter Tryz.func111,Tryz.ntmps111
 go_upto_region 1 with fail
 generalize w.alloc (.cells c.cells.toArray 38)=W at *
 generalize w.heap.size=cb at *
 have c0:W.cell? ⟨cb,0,none⟩=some (.int .i64 2):=by
  rw[<-uh HKD];exact(uh HB).cell rfl
 have c1:W.cell? ⟨cb,1,none⟩=some (.int .i64 c.lag):=(uh HB).cell rfl
 have c2:W.cell? ⟨cb,2,none⟩=some (.int .i64 c.skew):=(uh HB).cell rfl
 have c3:W.cell? ⟨cb,3,none⟩=some (.int .i64 c.cap):=(uh HB).cell rfl
 have c4:W.cell? ⟨cb,4,none⟩=some (.int .i64 c.k):=(uh HB).cell rfl
 have c5:W.cell? ⟨cb,5,none⟩=some (.int .i64 c.window):=(uh HB).cell rfl
 have c6:W.cell? ⟨cb,6,none⟩=some (.int .i64 c.bits):=(uh HB).cell rfl
 have c7:W.cell? ⟨cb,7,none⟩=some (.int .i64 c.rows):=(uh HB).cell rfl
 have c8:W.cell? ⟨cb,8,none⟩=some (.int .i64 c.width):=(uh HB).cell rfl
 have c9:W.cell? ⟨cb,9,none⟩=some (.int .i64 c.panes):=(uh HB).cell rfl
 have c10:W.cell? ⟨cb,10,none⟩=some (.int .i64 c.size):=(uh HB).cell rfl
 have c11:W.cell? ⟨cb,11,none⟩=some (.int .i64 c.degree):=(uh HB).cell rfl
 have c12:W.cell? ⟨cb,12,none⟩=some (.int .i64 c.half):=(uh HB).cell rfl
 have c13:W.cell? ⟨cb,13,none⟩=some (.int .i64 c.mark):=(uh HB).cell rfl
 have c14:W.cell? ⟨cb,14,none⟩=some (.int .i64 c.s00):=(uh HB).cell rfl
 have c15:W.cell? ⟨cb,15,none⟩=some (.int .i64 c.s01):=(uh HB).cell rfl
 have c16:W.cell? ⟨cb,16,none⟩=some (.int .i64 c.s10):=(uh HB).cell rfl
 have c17:W.cell? ⟨cb,17,none⟩=some (.int .i64 c.s11):=(uh HB).cell rfl
 have c18:W.cell? ⟨cb,18,none⟩=some (.int .i64 c.s20):=(uh HB).cell rfl
 have c19:W.cell? ⟨cb,19,none⟩=some (.int .i64 c.s21):=(uh HB).cell rfl
 go_cut [3] (λs wx=>s=.bool (qA1 c)/\wx=W)
 case first =>
  cases h1:inB c.lag 0 100
  ·go_wp2_with (go_at_call 77;refine(qAl _ _ _ _).mono ?_;rintro r w9 ⟨rfl,hw9⟩;have hw9:=hw9.symm;subst hw9)
   go_meet
   exact⟨by simp[qA1,h1],rfl⟩
  ·skip
   cases h2:inB c.skew 0 100
   ·go_wp2_with (go_at_call 77;refine(qAl _ _ _ _).mono ?_;rintro r w9 ⟨rfl,hw9⟩;have hw9:=hw9.symm;subst hw9)
    go_meet
    exact⟨by simp[qA1,h1,h2],rfl⟩
   ·skip
    go_wp2_with (go_at_call 77;refine(qAl _ _ _ _).mono ?_;rintro r w9 ⟨rfl,hw9⟩;have hw9:=hw9.symm;subst hw9)
    go_meet
    exact⟨by simp[qA1,h1,h2],rfl⟩
 case rest =>
 obtain⟨rfl,hwc⟩:=hcut
 have hwc:=hwc.symm
 subst hwc
 go_upto_region 3 with (go_at_call 77;refine(qAl _ _ _ _).mono ?_;rintro r w9 ⟨rfl,hw9⟩;have hw9:=hw9.symm;subst hw9)
 go_cut [5] (λs wx'=>s=.bool (qB4 c)/\wx'=W)
 case first =>
  cases h1:inB c.degree 0 3
  ·go_wp2_with (go_at_call 77;refine(qAl _ _ _ _).mono ?_;rintro r w9 ⟨rfl,hw9⟩;have hw9:=hw9.symm;subst hw9)
   go_meet
   exact⟨by simp[qB4,h1],rfl⟩
  ·skip
   cases h2:inB c.half 0 100
   ·go_wp2_with (go_at_call 77;refine(qAl _ _ _ _).mono ?_;rintro r w9 ⟨rfl,hw9⟩;have hw9:=hw9.symm;subst hw9)
    go_meet
    exact⟨by simp[qB4,h1,h2],rfl⟩
   ·skip
    go_wp2_with (go_at_call 77;refine(qAl _ _ _ _).mono ?_;rintro r w9 ⟨rfl,hw9⟩;have hw9:=hw9.symm;subst hw9)
    go_meet
    exact⟨by simp[qB4,h1,h2],rfl⟩
 case rest =>
 obtain⟨rfl,hwc⟩:=hcut
 have hwc:=hwc.symm
 subst hwc
 have HWB:=hide (show inB c.window 1 1000=qBq c from rfl)
 rw[uh HWB]
 go_upto_region 10 with fail
 go_cut [3,4] (λs s4 wx'=>s=.bool ((qA1 c&&qBq c)&&inB c.bits 1 4)/\s4=.bool (qBq c)/\wx'=W)
 case first =>
  cases h1:qA1 c
  ·go_wp2_with (go_at_call 77;refine(qAl _ _ _ _).mono ?_;rintro r w9 ⟨rfl,hw9⟩;have hw9:=hw9.symm;subst hw9)
   go_meet
   exact⟨by simp[h1],by first | rfl | simp only[h2],rfl⟩
  ·skip
   cases h2:qBq c
   ·go_wp2_with (go_at_call 77;refine(qAl _ _ _ _).mono ?_;rintro r w9 ⟨rfl,hw9⟩;have hw9:=hw9.symm;subst hw9)
    go_meet
    exact⟨by simp[h1,h2],by first | rfl | simp only[h2],rfl⟩
   ·skip
    go_wp2_with (go_at_call 77;refine(qAl _ _ _ _).mono ?_;rintro r w9 ⟨rfl,hw9⟩;have hw9:=hw9.symm;subst hw9)
    go_meet
    exact⟨by simp[h1,h2],by first | rfl | simp only[h2],rfl⟩
 case rest =>
 obtain⟨rfl,rfl,hwc⟩:=hcut
 have hwc:=hwc.symm
 subst hwc
 have HV:=hide (show qA0 c=(((qA1 c&&qBq c)&&inB c.bits 1 4) &&qHi c 1) from by
    unfold qA0;rw[uh HKD]
    show(true&&(qA1 c&&qFl c))=_
    unfold qFl
    cases qA1 c <;> cases qBq c <;> cases inB c.bits 1 4 <;> simp)
 cases hX:((qA1 c&&qBq c)&&inB c.bits 1 4)
 ·have HV:=hide (show qA0 c=false from by rw[uh HV,hX];rfl)
  go_wp2_with fail
  go_loop [3,7] (λs i=>s=.bool false/\i=.int .i64 0) (λ_ _=>0)
  case atStart=>exact⟨rfl,rfl⟩
  case round =>
   obtain⟨rfl,rfl⟩:=hrel
   go_wp2
   go_ret
   exact⟨qAz (by rw[uh HV]),uh HK⟩
 ·have HV:=hide (show qA0 c=(true &&qHi c 1) from by rw[uh HV,hX])
  have HV:=hide (show qA0 c=(true&&qDc c (1-0) 0) from by rw[uh HV];rfl)
  go_wp2_with fail
  go_loop [3,7] (λs i=>∃(ok:Bool) (k:Nat),k<=1/\s=.bool ok/\i=.int .i64 k/\Hid (qA0 c=(ok&&qDc c (1-k) k))) (λ_ i=>1-(intOf i).toNat)
  case atStart=>exact⟨true,0,Nat.zero_le _,rfl,rfl,uh HV⟩
  case round =>
   obtain⟨ok,k,hk,rfl,rfl,HE⟩:=hrel
   cases ok
   ·have HE':=hide (show qA0 c=false from by rw[uh HE];rfl)
    go_wp2
    go_ret
    exact⟨qAz (by rw[uh HE']),uh HK⟩
   ·by_cases hlt:k<1
    ·have HE':=hide (show qA0 c=(c.seed k&&qDc c (1-(k+1)) (k+1)) by rw[uh HE,show 1-k=(1-(k+1))+1 by omega];rfl)
     clear HE
     have hk3:k=0:=by omega
     have hlt':(k:Int)<1:=by omega
     subst hk3
     simp only[Cfg.seed,qOj]at HE'
     ·cases h1:inB c.s00 1 2305843009213693950
      ·go_wp2_with (go_at_call 77;refine(qAl _ _ _ _).mono ?_;rintro r w9 ⟨rfl,hw9⟩;have hw9:=hw9.symm;subst hw9)
       go_round
       case rel=>exact⟨false,1,by omega,rfl,rfl,by have:=uh HE';rw[h1]at this;exact this⟩
       case measure=>first | (simp[intOf];done) | (simp[intOf];omega)
      ·cases h2:inB c.s01 0 2305843009213693950
       ·go_wp2_with (go_at_call 77;refine(qAl _ _ _ _).mono ?_;rintro r w9 ⟨rfl,hw9⟩;have hw9:=hw9.symm;subst hw9)
        go_round
        case rel=>exact⟨false,1,by omega,rfl,rfl,by have:=uh HE';rw[h1,h2]at this;exact this⟩
        case measure=>first | (simp[intOf];done) | (simp[intOf];omega)
       ·go_wp2_with (go_at_call 77;refine(qAl _ _ _ _).mono ?_;rintro r w9 ⟨rfl,hw9⟩;have hw9:=hw9.symm;subst hw9)
        go_round
        case rel=>exact⟨true,1,by omega,rfl,rfl,by have:=uh HE';rw[h1,h2]at this;exact this⟩
        case measure=>first | (simp[intOf];done) | (simp[intOf];omega)
    ·have HE':=hide (show qA0 c=true from by rw[uh HE,show 1-k=0 by omega];rfl)
     have hltb:decide ((k:Int)<1)=false:=by simp;omega
     go_wp2
     go_ret
     exact⟨qAz (by rw[uh HE']),uh HK⟩
theorem zA0(c:Cfg)(w:World)(hK:c.kind=3):
  Calls Tryz.prog 111 #[.agg c.cells.toArray] w λe w'=>e=.returned (.bool (qA0 c))/\Keeps (λ_=>False) w w':=by
 have HB:=hide (show Blk (w.alloc (.cells c.cells.toArray 38)) w.heap.size c.cells 38 from Blk.new w c.cells 38)
 have HK:=hide ((Keeps.refl (λ_=>False) w).alloc (.cells c.cells.toArray 38))
 have HKD:=hide hK
 clear hK
 go_enter Tryz.func111,Tryz.ntmps111
 go_upto_region 1 with fail
 generalize w.alloc (.cells c.cells.toArray 38)=W at *
 generalize w.heap.size=cb at *
 have c0:W.cell? ⟨cb,0,none⟩=some (.int .i64 3):=by
  rw[<-uh HKD];exact(uh HB).cell rfl
 have c1:W.cell? ⟨cb,1,none⟩=some (.int .i64 c.lag):=(uh HB).cell rfl
 have c2:W.cell? ⟨cb,2,none⟩=some (.int .i64 c.skew):=(uh HB).cell rfl
 have c3:W.cell? ⟨cb,3,none⟩=some (.int .i64 c.cap):=(uh HB).cell rfl
 have c4:W.cell? ⟨cb,4,none⟩=some (.int .i64 c.k):=(uh HB).cell rfl
 have c5:W.cell? ⟨cb,5,none⟩=some (.int .i64 c.window):=(uh HB).cell rfl
 have c6:W.cell? ⟨cb,6,none⟩=some (.int .i64 c.bits):=(uh HB).cell rfl
 have c7:W.cell? ⟨cb,7,none⟩=some (.int .i64 c.rows):=(uh HB).cell rfl
 have c8:W.cell? ⟨cb,8,none⟩=some (.int .i64 c.width):=(uh HB).cell rfl
 have c9:W.cell? ⟨cb,9,none⟩=some (.int .i64 c.panes):=(uh HB).cell rfl
 have c10:W.cell? ⟨cb,10,none⟩=some (.int .i64 c.size):=(uh HB).cell rfl
 have c11:W.cell? ⟨cb,11,none⟩=some (.int .i64 c.degree):=(uh HB).cell rfl
 have c12:W.cell? ⟨cb,12,none⟩=some (.int .i64 c.half):=(uh HB).cell rfl
 have c13:W.cell? ⟨cb,13,none⟩=some (.int .i64 c.mark):=(uh HB).cell rfl
 have c14:W.cell? ⟨cb,14,none⟩=some (.int .i64 c.s00):=(uh HB).cell rfl
 have c15:W.cell? ⟨cb,15,none⟩=some (.int .i64 c.s01):=(uh HB).cell rfl
 have c16:W.cell? ⟨cb,16,none⟩=some (.int .i64 c.s10):=(uh HB).cell rfl
 have c17:W.cell? ⟨cb,17,none⟩=some (.int .i64 c.s11):=(uh HB).cell rfl
 have c18:W.cell? ⟨cb,18,none⟩=some (.int .i64 c.s20):=(uh HB).cell rfl
 have c19:W.cell? ⟨cb,19,none⟩=some (.int .i64 c.s21):=(uh HB).cell rfl
 go_cut [3] (λs wx=>s=.bool (qA1 c)/\wx=W)
 case first =>
  cases h1:inB c.lag 0 100
  ·go_wp2_with (go_at_call 77;refine(qAl _ _ _ _).mono ?_;rintro r w9 ⟨rfl,hw9⟩;have hw9:=hw9.symm;subst hw9)
   go_meet
   exact⟨by simp[qA1,h1],rfl⟩
  ·skip
   cases h2:inB c.skew 0 100
   ·go_wp2_with (go_at_call 77;refine(qAl _ _ _ _).mono ?_;rintro r w9 ⟨rfl,hw9⟩;have hw9:=hw9.symm;subst hw9)
    go_meet
    exact⟨by simp[qA1,h1,h2],rfl⟩
   ·skip
    go_wp2_with (go_at_call 77;refine(qAl _ _ _ _).mono ?_;rintro r w9 ⟨rfl,hw9⟩;have hw9:=hw9.symm;subst hw9)
    go_meet
    exact⟨by simp[qA1,h1,h2],rfl⟩
 case rest =>
 obtain⟨rfl,hwc⟩:=hcut
 have hwc:=hwc.symm
 subst hwc
 go_upto_region 3 with (go_at_call 77;refine(qAl _ _ _ _).mono ?_;rintro r w9 ⟨rfl,hw9⟩;have hw9:=hw9.symm;subst hw9)
 go_cut [5] (λs wx'=>s=.bool (qB4 c)/\wx'=W)
 case first =>
  cases h1:inB c.degree 0 3
  ·go_wp2_with (go_at_call 77;refine(qAl _ _ _ _).mono ?_;rintro r w9 ⟨rfl,hw9⟩;have hw9:=hw9.symm;subst hw9)
   go_meet
   exact⟨by simp[qB4,h1],rfl⟩
  ·skip
   cases h2:inB c.half 0 100
   ·go_wp2_with (go_at_call 77;refine(qAl _ _ _ _).mono ?_;rintro r w9 ⟨rfl,hw9⟩;have hw9:=hw9.symm;subst hw9)
    go_meet
    exact⟨by simp[qB4,h1,h2],rfl⟩
   ·skip
    go_wp2_with (go_at_call 77;refine(qAl _ _ _ _).mono ?_;rintro r w9 ⟨rfl,hw9⟩;have hw9:=hw9.symm;subst hw9)
    go_meet
    exact⟨by simp[qB4,h1,h2],rfl⟩
 case rest =>
 obtain⟨rfl,hwc⟩:=hcut
 have hwc:=hwc.symm
 subst hwc
 have HWB:=hide (show inB c.window 1 1000=qBq c from rfl)
 rw[uh HWB]
 go_upto_region 13 with fail
 go_cut [3,4] (λs s4 wx'=>s=.bool (((((qA1 c&&qBq c)&&inB c.rows 1 3)&&inB c.width 1 16)&&inB c.panes 1 8)&&(c.window%c.panes==0))/\s4=.bool (qBq c)/\wx'=W)
 case first =>
  cases h1:qA1 c
  ·go_wp2_with (go_at_call 77;refine(qAl _ _ _ _).mono ?_;rintro r w9 ⟨rfl,hw9⟩;have hw9:=hw9.symm;subst hw9)
   go_meet
   exact⟨by simp[h1],by first | rfl | simp only[h2],rfl⟩
  ·skip
   cases h2:qBq c
   ·go_wp2_with (go_at_call 77;refine(qAl _ _ _ _).mono ?_;rintro r w9 ⟨rfl,hw9⟩;have hw9:=hw9.symm;subst hw9)
    go_meet
    exact⟨by simp[h1,h2],by first | rfl | simp only[h2],rfl⟩
   ·skip
    cases h3:inB c.rows 1 3
    ·go_wp2_with (go_at_call 77;refine(qAl _ _ _ _).mono ?_;rintro r w9 ⟨rfl,hw9⟩;have hw9:=hw9.symm;subst hw9)
     go_meet
     exact⟨by simp[h1,h2,h3],by first | rfl | simp only[h2],rfl⟩
    ·skip
     cases h4:inB c.width 1 16
     ·go_wp2_with (go_at_call 77;refine(qAl _ _ _ _).mono ?_;rintro r w9 ⟨rfl,hw9⟩;have hw9:=hw9.symm;subst hw9)
      go_meet
      exact⟨by simp[h1,h2,h3,h4],by first | rfl | simp only[h2],rfl⟩
     ·skip
      cases h5:inB c.panes 1 8
      ·go_wp2_with (go_at_call 77;refine(qAl _ _ _ _).mono ?_;rintro r w9 ⟨rfl,hw9⟩;have hw9:=hw9.symm;subst hw9)
       go_meet
       exact⟨by simp[h1,h2,h3,h4,h5],by first | rfl | simp only[h2],rfl⟩
      ·obtain⟨p1,p8⟩:=qA9 h5
       obtain⟨q1,q8⟩:=qA9 (show inB c.window 1 1000=true from h2)
       go_wp2_with (go_at_call 77;refine(qAl _ _ _ _).mono ?_;rintro r w9 ⟨rfl,hw9⟩;have hw9:=hw9.symm;subst hw9)
       go_meet
       exact⟨by simp[h1,h2,h3,h4,h5],by first | rfl | simp only[h2],rfl⟩
 case rest =>
 obtain⟨rfl,rfl,hwc⟩:=hcut
 have hwc:=hwc.symm
 subst hwc
 have HV:=hide (show qA0 c=((((((qA1 c&&qBq c)&&inB c.rows 1 3)&&inB c.width 1 16)&&inB c.panes 1 8)&&(c.window%c.panes==0)) &&qHi c c.rows.toNat) from by
    unfold qA0;rw[uh HKD]
    show(true&&(qA1 c&&qKz c))=_
    unfold qKz
    cases qA1 c <;> cases qBq c <;> cases inB c.rows 1 3 <;> cases inB c.width 1 16 <;> cases inB c.panes 1 8 <;> cases (c.window%c.panes==0) <;> simp)
 cases hX:(((((qA1 c&&qBq c)&&inB c.rows 1 3)&&inB c.width 1 16)&&inB c.panes 1 8)&&(c.window%c.panes==0))
 ·have HV:=hide (show qA0 c=false from by rw[uh HV,hX];rfl)
  go_wp2_with fail
  go_loop [3,7] (λs i=>s=.bool false/\i=.int .i64 0) (λ_ _=>0)
  case atStart=>exact⟨rfl,rfl⟩
  case round =>
   obtain⟨rfl,rfl⟩:=hrel
   go_wp2
   go_ret
   exact⟨qAz (by rw[uh HV]),uh HK⟩
 ·have HV:=hide (show qA0 c=(true &&qHi c c.rows.toNat) from by rw[uh HV,hX])
  have hR:inB c.rows 1 3=true:=by
   cases h:inB c.rows 1 3
   ·rw[h]at hX;simp at hX
   ·rfl
  obtain⟨ro1,ro3⟩:=qA9 hR
  obtain⟨m,hm⟩:=Int.eq_ofNat_of_zero_le (show 0<=c.rows by omega)
  have hm3:m<=3:=by omega
  have HV:=hide (show qA0 c=(true&&qDc c (m-0) 0) from by rw[uh HV,hm];rfl)
  rw[hm]at c7
  go_wp2_with fail
  go_loop [3,7] (λs i=>∃(ok:Bool) (k:Nat),k<=m/\s=.bool ok/\i=.int .i64 k/\Hid (qA0 c=(ok&&qDc c (m-k) k))) (λ_ i=>m-(intOf i).toNat)
  case atStart=>exact⟨true,0,Nat.zero_le _,rfl,rfl,uh HV⟩
  case round =>
   obtain⟨ok,k,hk,rfl,rfl,HE⟩:=hrel
   cases ok
   ·have HE':=hide (show qA0 c=false from by rw[uh HE];rfl)
    go_wp2
    go_ret
    exact⟨qAz (by rw[uh HE']),uh HK⟩
   ·by_cases hlt:k<m
    ·have HE':=hide (show qA0 c=(c.seed k&&qDc c (m-(k+1)) (k+1)) by rw[uh HE,show m-k=(m-(k+1))+1 by omega];rfl)
     clear HE
     have hk3:k=0\/k=1\/k=2:=by omega
     have hlt':(k:Int)<(m:Int):=by omega
     rcases hk3 with hk3 | hk3 | hk3
     all_goals
      subst hk3
      simp only[Cfg.seed,qOj]at HE'
     ·cases h1:inB c.s00 1 2305843009213693950
      ·go_wp2_with (go_at_call 77;refine(qAl _ _ _ _).mono ?_;rintro r w9 ⟨rfl,hw9⟩;have hw9:=hw9.symm;subst hw9)
       go_round
       case rel=>exact⟨false,1,by omega,rfl,rfl,by have:=uh HE';rw[h1]at this;exact this⟩
       case measure=>first | (simp[intOf];done) | (simp[intOf];omega)
      ·cases h2:inB c.s01 0 2305843009213693950
       ·go_wp2_with (go_at_call 77;refine(qAl _ _ _ _).mono ?_;rintro r w9 ⟨rfl,hw9⟩;have hw9:=hw9.symm;subst hw9)
        go_round
        case rel=>exact⟨false,1,by omega,rfl,rfl,by have:=uh HE';rw[h1,h2]at this;exact this⟩
        case measure=>first | (simp[intOf];done) | (simp[intOf];omega)
       ·go_wp2_with (go_at_call 77;refine(qAl _ _ _ _).mono ?_;rintro r w9 ⟨rfl,hw9⟩;have hw9:=hw9.symm;subst hw9)
        go_round
        case rel=>exact⟨true,1,by omega,rfl,rfl,by have:=uh HE';rw[h1,h2]at this;exact this⟩
        case measure=>first | (simp[intOf];done) | (simp[intOf];omega)
     ·cases h1:inB c.s10 1 2305843009213693950
      ·go_wp2_with (go_at_call 77;refine(qAl _ _ _ _).mono ?_;rintro r w9 ⟨rfl,hw9⟩;have hw9:=hw9.symm;subst hw9)
       go_round
       case rel=>exact⟨false,2,by omega,rfl,rfl,by have:=uh HE';rw[h1]at this;exact this⟩
       case measure=>first | (simp[intOf];done) | (simp[intOf];omega)
      ·cases h2:inB c.s11 0 2305843009213693950
       ·go_wp2_with (go_at_call 77;refine(qAl _ _ _ _).mono ?_;rintro r w9 ⟨rfl,hw9⟩;have hw9:=hw9.symm;subst hw9)
        go_round
        case rel=>exact⟨false,2,by omega,rfl,rfl,by have:=uh HE';rw[h1,h2]at this;exact this⟩
        case measure=>first | (simp[intOf];done) | (simp[intOf];omega)
       ·go_wp2_with (go_at_call 77;refine(qAl _ _ _ _).mono ?_;rintro r w9 ⟨rfl,hw9⟩;have hw9:=hw9.symm;subst hw9)
        go_round
        case rel=>exact⟨true,2,by omega,rfl,rfl,by have:=uh HE';rw[h1,h2]at this;exact this⟩
        case measure=>first | (simp[intOf];done) | (simp[intOf];omega)
     ·cases h1:inB c.s20 1 2305843009213693950
      ·go_wp2_with (go_at_call 77;refine(qAl _ _ _ _).mono ?_;rintro r w9 ⟨rfl,hw9⟩;have hw9:=hw9.symm;subst hw9)
       go_round
       case rel=>exact⟨false,3,by omega,rfl,rfl,by have:=uh HE';rw[h1]at this;exact this⟩
       case measure=>first | (simp[intOf];done) | (simp[intOf];omega)
      ·cases h2:inB c.s21 0 2305843009213693950
       ·go_wp2_with (go_at_call 77;refine(qAl _ _ _ _).mono ?_;rintro r w9 ⟨rfl,hw9⟩;have hw9:=hw9.symm;subst hw9)
        go_round
        case rel=>exact⟨false,3,by omega,rfl,rfl,by have:=uh HE';rw[h1,h2]at this;exact this⟩
        case measure=>first | (simp[intOf];done) | (simp[intOf];omega)
       ·go_wp2_with (go_at_call 77;refine(qAl _ _ _ _).mono ?_;rintro r w9 ⟨rfl,hw9⟩;have hw9:=hw9.symm;subst hw9)
        go_round
        case rel=>exact⟨true,3,by omega,rfl,rfl,by have:=uh HE';rw[h1,h2]at this;exact this⟩
        case measure=>first | (simp[intOf];done) | (simp[intOf];omega)
    ·have HE':=hide (show qA0 c=true from by rw[uh HE,show m-k=0 by omega];rfl)
     have hltb:decide ((k:Int)<(m:Int))=false:=by simp;omega
     go_wp2
     go_ret
     exact⟨qAz (by rw[uh HE']),uh HK⟩
end
end Go.Proofs.YtahnliehdjncdaaGreatDoor
