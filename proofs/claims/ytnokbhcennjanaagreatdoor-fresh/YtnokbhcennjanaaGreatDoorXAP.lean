import Derived.Deep.CutBlock
import Derived.Deep.DeepCutAuto
import Derived.Test.YtnokbhcennjanaaGreatDoorXAN
open Go.RowKit Go.Proofs.Tryz
set_option maxRecDepth 100000
set_option maxHeartbeats 16000000
namespace Go.Proofs.YtnokbhcennjanaaGreatDoor
section
def ownB(c:Cfg): Bool:=if c.kind=1 then Cg c&&Ab c.k 1 10 else if c.kind=2 then Cg c&&Ab c.bits 1 4 else if c.kind=3 then Cg c&&(Ab c.rows 1 3&&(Ab c.width 1 16&&(Ab c.aM 1 8&&(c.aB%c.aM==0)))) else if c.kind=4 then CV c else CV c&&Ab c.size 1 5
def Hf(c:Cfg): Int:=if c.kind=2 then 1 else if c.kind=3 then c.rows else 0
theorem XL(c:Cfg)(d:1<=c.kind/\c.kind<=5): Ak c=((B5 c&&ownB c)&&Fq c (Hf c).toNat 0):=by
 have a:c.kind=1\/c.kind=2\/c.kind=3\/c.kind=4\/c.kind=5:=by omega
 unfold Ak ownB Hf;rcases a with a | a | a | a | a <;> rw[a]
 ·show(true&&(B5 c&&countB c))=((B5 c&&(Cg c&&Ab c.k 1 10))&&true);unfold countB;cases B5 c <;> cases Cg c <;> cases Ab c.k 1 10 <;> rfl
 ·show(true&&(B5 c&&GL c))=((B5 c&&(Cg c&&Ab c.bits 1 4))&&Fb c 1);unfold GL;cases B5 c <;> cases Cg c <;> cases Ab c.bits 1 4 <;> rfl
 ·show(true&&(B5 c&&EY c))=((B5 c&&(Cg c&&(Ab c.rows 1 3&&(Ab c.width 1 16&&(Ab c.aM 1 8&&(c.aB%c.aM==0))))))&&Fb c c.rows.toNat);unfold EY;cases B5 c <;> cases Cg c <;> cases Ab c.rows 1 3 <;> cases Ab c.width 1 16 <;> cases Ab c.aM 1 8 <;> cases (c.aB%c.aM==0) <;> rfl
 ·show(true&&(B5 c&&CV c))=((B5 c&&CV c)&&true);cases B5 c <;> cases CV c <;> rfl
 show(true&&(B5 c&&Fz c))=((B5 c&&(CV c&&Ab c.size 1 5))&&true);unfold Fz;cases B5 c <;> cases CV c <;> cases Ab c.size 1 5 <;> rfl
theorem Y5(c:Cfg)(a:ownB c=true): ∃d:Nat,Hf c=d/\d<=3:=by
 unfold Hf;split
 ·exact⟨1,rfl,by omega⟩
 split
 ·rename_i e;have h:Ab c.rows 1 3=true:=by
   unfold ownB at a;rw[e]at a;cases h5:Ab c.rows 1 3
   ·rw[h5]at a;simp at a
   rfl
  obtain⟨i,j⟩:=Bu h;exact⟨c.rows.toNat,by omega,by omega⟩
 exact⟨0,rfl,by omega⟩
theorem OX(c:Cfg)(w:World):
  Calls prog 87 #[.agg c.cells.toArray] w λab ai=>ab=.returned (.bool (Ak c))/\lX w ai:=by
 have j:=Aa (show aD (w.alloc (.cells c.cells.toArray 46)) w.heap.size c.cells 46 from aD.new w c.cells 46);have z:=Aa ((aA.refl (λ_=>False) w).alloc (.cells c.cells.toArray 46));go_enter func87,ntmps87;go_upto_region 1 with fail
 generalize w.alloc (.cells c.cells.toArray 46)=t at *
 generalize w.heap.size=M at *
 have c0:=j.o.cell (i:=0) rfl;have c1:=j.o.cell (i:=1) rfl;have c2:=j.o.cell (i:=2) rfl;have c3:=j.o.cell (i:=3) rfl;have c4:=j.o.cell (i:=4) rfl;have c5:=j.o.cell (i:=5) rfl;have c6:=j.o.cell (i:=6) rfl;have c7:=j.o.cell (i:=7) rfl;have c8:=j.o.cell (i:=8) rfl;have c9:=j.o.cell (i:=9) rfl;have X:=j.o.cell (i:=10) rfl;have Y:=j.o.cell (i:=11) rfl;have Z:=j.o.cell (i:=12) rfl;have aa:=j.o.cell (i:=13) rfl;have F:=j.o.cell (i:=14) rfl;have G:=j.o.cell (i:=15) rfl;have H:=j.o.cell (i:=16) rfl;have I:=j.o.cell (i:=17) rfl;have J:=j.o.cell (i:=18) rfl;have L:=j.o.cell (i:=19) rfl;go_cut [3] (λr E=>r=.bool (B5 c)/\E=t)
 case first =>
  cases h1:Ab c.aL 0 100 <;> cases n:Ab c.bF 0 100
  all_goals as_aux_lemma =>
   go_wp2_with (go_at_call 53;refine(EV _ _ _ _).mono ?_;rintro u v ⟨rfl,d⟩;have d:=d.symm;subst d)
   go_meet
   exact⟨by simp[B5,h1,n],rfl⟩
 case rest =>
 obtain⟨rfl,k⟩:=hcut;have k:=k.symm;subst k;go_upto_region 3 with (go_at_call 53;refine(EV _ _ _ _).mono ?_;rintro u v ⟨rfl,d⟩;have d:=d.symm;subst d)
 go_cut [5] (λr aj=>r=.bool (CV c)/\aj=t)
 case first =>
  cases h1:Ab c.degree 0 3 <;> cases n:Ab c.half 0 100
  all_goals as_aux_lemma =>
   go_wp2_with (go_at_call 53;refine(EV _ _ _ _).mono ?_;rintro u v ⟨rfl,d⟩;have d:=d.symm;subst d)
   go_meet
   exact⟨by simp[CV,h1,n],rfl⟩
 case rest =>
 obtain⟨rfl,k⟩:=hcut;have k:=k.symm;subst k;have W:=Aa (show Ab c.aB 1 1000=Cg c from rfl);rw[W.o];by_cases Q:1<=c.kind/\c.kind<=5
 ·have m:=Aa (XL c Q);have D:c.kind=1\/c.kind=2\/c.kind=3\/c.kind=4\/c.kind=5:=by omega
  go_upto_block 0 with fail
  go_cut [3,4,5,6,38] (λag _ _ ah _ E=>∃(ok:Bool) (s:Int),ag=.bool ok/\ah=ι s/\Hid (ok=(B5 c&&ownB c))/\Hid (s=Hf c)/\E=t)
  case first =>
   have V:Cg c=false\/(Cg c=true/\1<=c.aB/\c.aB<=1000):=by
    cases h:Cg c
    ·exact .inl rfl
    exact .inr ⟨rfl,Bu h⟩
   have T:Ab c.aM 1 8=false\/(Ab c.aM 1 8=true/\1<=c.aM/\c.aM<=8):=by
    cases h:Ab c.aM 1 8
    ·exact .inl rfl
    exact .inr ⟨rfl,Bu h⟩
   rcases D with o | o | o | o | o;all_goals
    rw[o]at c0;first
     | (have N:c.kind=3:=o
        rcases V with n | ⟨n,az,a0⟩ <;> rcases T with O | ⟨O,ax,ay⟩ <;> cases h1:B5 c <;> cases h4:Ab c.rows 1 3 <;> cases h5:Ab c.width 1 16
        all_goals as_aux_lemma =>
         go_wp2_with (go_at_call 53;refine(EV _ _ _ _).mono ?_;rintro u v ⟨rfl,d⟩;have d:=d.symm;subst d)
         go_meet
         exact⟨_,_,rfl,rfl,by show _=_;unfold ownB;rw[o];simp[h1,n,h4,h5,O],by show _=_;unfold Hf;rw[o];rfl,rfl⟩)
     | (clear V T
        cases h1:B5 c <;> cases n:Cg c <;> cases N:CV c
        all_goals as_aux_lemma =>
         go_wp2_with (go_at_call 53;refine(EV _ _ _ _).mono ?_;rintro u v ⟨rfl,d⟩;have d:=d.symm;subst d)
         go_meet
         exact⟨_,_,rfl,rfl,by show _=_;unfold ownB;rw[o];simp[h1,n,N],by show _=_;unfold Hf;rw[o];rfl,rfl⟩)
  case rest =>
   obtain⟨ok,s,ad,ae,B,C,k⟩:=hcut;have k:=k.symm;subst k ad ae;have m:=Aa (show Ak c=(ok&&Fq c s.toNat 0) by rw[m.o,<-B.o,<-C.o]);clear D Q;cases ok
   ·have m:=Aa (show Ak c=false from m.o);go_wp2_with fail
    go_loop [3,7] (λr a=>r=.bool false/\a=ι 0) (λ_ _=>0)
    case atStart=>exact⟨rfl,rfl⟩
    case round =>
     obtain⟨rfl,rfl⟩:=hrel;go_wp2;go_ret;exact⟨B4 (by rw[m.o]),z.o⟩
   obtain⟨l,S,aw⟩:=Y5 c (by have P:=B.o;cases h8:ownB c;rw[h8,Bool.and_false]at P;cases P;rfl);have af:s=(l:Int):=C.o.trans S;subst af;have m:=Aa (show Ak c=(true&&Fq c (l-0) 0) from m.o);clear S B C;go_wp2_with fail
   go_loop [3,7] (λr a=>∃(ok:Bool) (e:Nat),e<=l/\r=.bool ok/\a=ι e/\Hid (Ak c=(ok&&Fq c (l-e) e))) (λ_ a=>l-(intOf a).toNat)
   case atStart=>exact⟨true,0,iT _,rfl,rfl,m.o⟩
   case round =>
    obtain⟨ok,e,D,rfl,rfl,x⟩:=hrel;cases ok
    ·have q:=Aa (show Ak c=false from by rw[x.o];rfl);go_wp2;go_ret;exact⟨B4 (by rw[q.o]),z.o⟩
    by_cases au:e<l
    ·have q:=Aa (show Ak c=(c.seed e&&Fq c (l-(e+1)) (e+1)) by rw[x.o,show l-e=(l-(e+1))+1 by omega];rfl);clear x;have av:(e:Int)<(l:Int):=by omega
     have ar:(0:Int)<=(e:Int):=by omega
     have R:(e:Int)<3:=by omega
     obtain⟨A,b,ap,aq,U⟩:∃A b,κ t M (14+e*2) (ι A)/\κ t M (14+e*2+1) (ι b)/\c.seed e=FW A b:=by
      have R:e=0\/e=1\/e=2:=by omega
      rcases R with rfl | rfl | rfl
      ·exact⟨_,_,F,G,rfl⟩
      ·exact⟨_,_,H,I,rfl⟩
      exact⟨_,_,J,L,rfl⟩
     rw[U]at q;unfold FW at q;clear U c0 c1 c2 c3 c4 c5 c6 c7 c8 c9 X Y Z aa F G H I J L;cases h1:Ab A 1 2305843009213693950 <;> cases n:Ab b 0 2305843009213693950
     all_goals
      rw[h1,n]at q;go_wp2_with (go_at_call 53;refine(EV _ _ _ _).mono ?_;rintro u v ⟨rfl,d⟩;have d:=d.symm;subst d)
      go_round;case rel=>exact⟨_,e+1,by omega,rfl,by go_num,q.o⟩
      case measure=>simp[intOf];omega
    have q:=Aa (show Ak c=true from by rw[x.o,show l-e=0 by omega];rfl);go_wp2;go_ret;exact⟨B4 (by rw[q.o]),z.o⟩
 have m:=Aa (show Ak c=false by unfold Ak;rw[show Ab c.kind 1 5=false by simp[Ab];omega];rfl);have ak:(c.kind==1)=false:=by simp;omega
 have al:(c.kind==2)=false:=by simp;omega
 have am:(c.kind==3)=false:=by simp;omega
 have an:(c.kind==4)=false:=by simp;omega
 have ao:(c.kind==5)=false:=by simp;omega
 go_wp2;go_ret;exact⟨B4 (by rw[m.o]),z.o⟩
