import Derived.Laws.Cover2
import Derived.Laws.StructEq
import Derived.Laws.Tables
import Derived.Test.YtahnliehdjncdabGreatDoorXAN
import Derived.Test.YtahnliehdjncdabGreatDoorXAL
import Derived.Test.YtahnliehdjncdabGreatDoorXAQ
import Derived.Deep.AppendLies
import Derived.Laws.AppendOwnNone
import Derived.Test.YtahnliehdjncdabGreatDoorXAA
set_option maxRecDepth 100000
set_option maxHeartbeats 16000000
namespace Go.Proofs.YtahnliehdjncdabGreatDoor
section
open Go.RowKit
def sdA(c:Cfg)(j:Nat): Int:=match j with | 0=>c.s00 | 1=>c.s10 | _=>c.s20
def sdB(c:Cfg)(j:Nat): Int:=match j with | 0=>c.s01 | 1=>c.s11 | _=>c.s21
def qB3(c:Cfg)(key:Int)(j:Nat): Int:=qD8 (sdA c j) (sdB c j) key%c.width
structure Cfg.rowed (c:Cfg):Prop where
 r0:1<=c.rows
 r1:c.rows<=3
 w0:1<=c.width
 w1:c.width<=16
 sd:∀j:Nat,(j:Int)<c.rows->0<=sdA c j/\sdA c j<2305843009213693951/\0<=sdB c j/\sdB c j<2305843009213693951
theorem qJu(c:Cfg)(h:c.rowed)(key:Int)(j:Nat): 0<=qB3 c key j/\qB3 c key j<16:=by
 unfold qB3;have h0:=h.w0;have h1:=h.w1
 have a:=Int.emod_nonneg (qD8 (sdA c j) (sdB c j) key) (show c.width≠0 by omega);have b:=Int.emod_lt_of_pos (qD8 (sdA c j) (sdB c j) key) (show 0<c.width by omega);omega
theorem zJi(a b c d:Int)(w:World): (Op.equalIn 10000 29 (.agg #[.int .i64 a,.int .i64 b]) (.agg #[.int .i64 c,.int .i64 d])).run Tryz.prog w=.ok (a==c&&b==d) w:=by
 have u3:=Tryz.underlying3;have a3:=Tryz.isAgg3;have z3:=Tryz.sizeOf3;rw[show(10000:Nat)=9999+1 from rfl,Op.equalIn];simp only[Sem.run_bind,run_underlying Tryz.underlying29,Result.andThen_ok];simp only[Std.Legacy.Range.forIn_eq_forIn_range',Std.Legacy.Range.size,Nat.sub_zero,Nat.add_sub_cancel,Nat.div_one,List.range'_succ,List.range'_zero,List.forIn_cons,List.forIn_nil];go_simp
 by_cases h1:a=c <;> by_cases h2:b=d <;> simp[h1,h2]
attribute [local go_sem] zJi
theorem qOg(d:Nat)(c:Cfg)(o:Pa.Pn)(r:Nat)(key:Int)(w:World)(hb:Blk w d (qA4 c o r) 240)(hc:c.rowed)(k0:0<=key)(k1:key<=2147483648):
  Calls Tryz.prog 207 #[.pointer (some ⟨d,0,none⟩),.int .i64 key] w λe w'=>∃a0 a1 a2,e=.returned (.agg #[.int .i64 a0,.int .i64 a1,.int .i64 a2])/\(a0=qB3 c key 0/\(1<c.rows->a1=qB3 c key 1)/\(2<c.rows->a2=qB3 c key 2))/\Keeps (λ_=>False) w w':=by
 have c7:w.cell? ⟨d,7,none⟩=some (.int .i64 c.rows):=hb.cell (qB2 c o r 7 (by omega));have c14:w.cell? ⟨d,14,none⟩=some (.int .i64 c.s00):=hb.cell (qB2 c o r 14 (by omega));have c15:w.cell? ⟨d,15,none⟩=some (.int .i64 c.s01):=hb.cell (qB2 c o r 15 (by omega));have c16:w.cell? ⟨d,16,none⟩=some (.int .i64 c.s10):=hb.cell (qB2 c o r 16 (by omega));have c17:w.cell? ⟨d,17,none⟩=some (.int .i64 c.s11):=hb.cell (qB2 c o r 17 (by omega));have c18:w.cell? ⟨d,18,none⟩=some (.int .i64 c.s20):=hb.cell (qB2 c o r 18 (by omega));have c19:w.cell? ⟨d,19,none⟩=some (.int .i64 c.s21):=hb.cell (qB2 c o r 19 (by omega));have hlt:=hb.lt;have hdne:d≠w.heap.size:=by omega
 have hdne1:d≠w.heap.size+1:=by omega
 have hdne2:d≠w.heap.size+1+1:=by omega
 have hlt1:d<w.heap.size+1:=by omega
 have hlt2:d<w.heap.size+1+1:=by omega
 have HB:=hide hb;have HC:=hide hc;obtain⟨R,hR⟩:∃R:Nat,c.rows=(R:Int):=⟨c.rows.toNat,by have:=hc.r0;omega⟩;have hR3:R<=3:=by have:=hc.r1;omega
 have hR1:1<=R:=by have:=hc.r0;omega
 rw[hR]at c7;have HR:=hide hR;clear hb hc hR;go_enter Tryz.func207,Tryz.ntmps207
 go_wp2_with fail
 obtain⟨W3,hW3⟩:∃W3,W3=(((w.alloc (.cells #[.int .i64 0,.int .i64 0,.int .i64 0] 243)).alloc (.cells #[.int .i64 0,.int .i64 0,.int .i64 0] 243)).alloc (.cells #[.int .i64 c.s00,.int .i64 c.s01,.int .i64 c.s10,.int .i64 c.s11,.int .i64 c.s20,.int .i64 c.s21] 30)):=⟨_,rfl⟩;have HRB:=hide (show Blk W3 w.heap.size [.int .i64 0,.int .i64 0,.int .i64 0] 243 by rw[hW3];exact((Blk.new w _ _).alloc _).alloc _);have HAB:=hide (show Blk W3 (w.heap.size+1) [.int .i64 0,.int .i64 0,.int .i64 0] 243 by rw[hW3];exact(Blk.newAt (by simp) _ _).alloc _);have HSB:=hide (show Blk W3 (w.heap.size+1+1) [.int .i64 c.s00,.int .i64 c.s01,.int .i64 c.s10,.int .i64 c.s11,.int .i64 c.s20,.int .i64 c.s21] 30 by rw[hW3];exact Blk.newAt (by simp) _ _);have HK3:=hide (show Keeps (λ_=>False) w W3 by rw[hW3];exact(((Keeps.refl _ _).alloc _).alloc _).alloc _);rw[<-hW3];clear hW3 c14 c15 c16 c17 c18 c19;generalize hrb:w.heap.size=rb at *;have HSD:=hide (λj hj=>(uh HC).sd j hj);rw[uh HR]at HSD;have HW:=hide (show 1<=c.width/\c.width<=16 from⟨(uh HC).w0,(uh HC).w1⟩);have HB3:=hide ((uh HB).keeps (uh HK3) (λh=>h));go_loopw [18] (λi wr=>∃(k:Nat) (a0 a1 a2:Int),i=.int .i64 k/\k<=R/\Hid (Blk wr (rb+1) [.int .i64 a0,.int .i64 a1,.int .i64 a2] 243)/\Hid (Keeps (λi=>i=rb+1) W3 wr)/\Hid ((0<k->a0=qB3 c key 0)/\(1<k->a1=qB3 c key 1)/\(2<k->a2=qB3 c key 2))) (λi _=>R-(intOf i).toNat)
 case atStart=>exact⟨0,0,0,0,rfl,Nat.zero_le _,HAB,Keeps.refl _ _,⟨λh=>by omega,λh=>by omega,λh=>by omega⟩⟩
 case round =>
  obtain⟨k,a0,a1,a2,rfl,hk,HA,HK,HV⟩:=hrel;have HBr:=hide ((uh HB3).keeps (uh HK) (by omega));have HSr:=hide ((uh HSB).keeps (uh HK) (by omega));have HRr:=hide ((uh HRB).keeps (uh HK) (by omega));have d8:wr.cell? ⟨d,8,none⟩=some (.int .i64 c.width):=(uh HBr).cell (qB2 c o r 8 (by omega));have s0:wr.cell? ⟨rb+1+1,0,none⟩=some (.int .i64 c.s00):=(uh HSr).cell rfl;have s1:wr.cell? ⟨rb+1+1,1,none⟩=some (.int .i64 c.s01):=(uh HSr).cell rfl;have s2:wr.cell? ⟨rb+1+1,2,none⟩=some (.int .i64 c.s10):=(uh HSr).cell rfl;have s3:wr.cell? ⟨rb+1+1,3,none⟩=some (.int .i64 c.s11):=(uh HSr).cell rfl;have s4:wr.cell? ⟨rb+1+1,4,none⟩=some (.int .i64 c.s20):=(uh HSr).cell rfl;have s5:wr.cell? ⟨rb+1+1,5,none⟩=some (.int .i64 c.s21):=(uh HSr).cell rfl;have b0:wr.cell? ⟨rb+1,0,none⟩=some (.int .i64 a0):=(uh HA).cell rfl;have b1:wr.cell? ⟨rb+1,1,none⟩=some (.int .i64 a1):=(uh HA).cell rfl;have b2:wr.cell? ⟨rb+1,2,none⟩=some (.int .i64 a2):=(uh HA).cell rfl;have bf:=(uh HA).frozen;have HABL:rb+1<wr.heap.size:=(uh HA).lt;have hwz:¬c.width=0:=by have:=uh HW;omega
  have hwz2:(c.width==0)=false:=by simp;exact hwz
  by_cases hlt:k<R
  ·have hk3:k=0\/k=1\/k=2:=by omega
   rcases hk3 with hk3 | hk3 | hk3
   ·subst hk3
    go_wp2_with fail
    go_quiet (fail)
    have q8:(wr.drewN nq).cell? ⟨d,8,none⟩=some (.int .i64 c.width):=d8;have qa:(wr.drewN nq).cell? ⟨rb+1+1,0,none⟩=some (.int .i64 c.s00):=s0;have qb:(wr.drewN nq).cell? ⟨rb+1+1,1,none⟩=some (.int .i64 c.s01):=s1;have qc:(wr.drewN nq).cell? ⟨rb+1,0,none⟩=some (.int .i64 a0):=b0;have HQA:=hide (show Blk (wr.drewN nq) (rb+1) [.int .i64 a0,.int .i64 a1,.int .i64 a2] 243 from uh HA);have HQK:=hide (show Keeps (λi=>i=rb+1) W3 (wr.drewN nq) from(uh HK).then (Keeps.drewN _ _ _));generalize wr.drewN nq=Wq at *;clear d8 s0 s1 s2 s3 s4 s5 b0 b1 b2 bf HABL;have HH:=hide (λW=>qLp c.s00 c.s01 key W (uh HSD 0 (by omega)).1 (uh HSD 0 (by omega)).2.1 (uh HSD 0 (by omega)).2.2.1 (uh HSD 0 (by omega)).2.2.2 k0 k1);have hp1:=qI9 c.s00 c.s01 key;have HPL:=hide (show qD8 c.s00 c.s01 key%c.width=qB3 c key 0 from rfl);generalize qD8 c.s00 c.s01 key=hv at *;have hp0:=hp1.1;have hmod:hv.tmod c.width=hv%c.width:=Int.tmod_eq_emod_of_nonneg hp0;have hne1:rb+1≠d:=by omega
    have hne2:rb+1≠rb+1+1:=by omega
    go_wp2_with fail
    go_region_held3 (λw'=>w'.cell? ⟨rb+1+1,0,none⟩=some (.int .i64 c.s00)/\w'.cell? ⟨rb+1+1,1,none⟩=some (.int .i64 c.s01)/\w'.cell? ⟨d,8,none⟩=some (.int .i64 c.width)) (first | (go_split_ands;exact⟨by assumption,by assumption,by assumption⟩) | (go_split_ands;exact⟨hka.cell (by assumption) (λh=>h),hka.cell (by assumption) (λh=>h),hka.cell (by assumption) (λh=>h)⟩) | (go_split_ands;exact⟨(World.cell?_setCell_far _ _ _ _ hne2).trans (by assumption),(World.cell?_setCell_far _ _ _ _ hne2).trans (by assumption),(World.cell?_setCell_far _ _ _ _ hne1).trans (by assumption)⟩)) (first | (go_at_call 132;refine(uh HH _).mono ?_;rintro e W4 ⟨rfl,hka⟩;have hb4:=((uh HQA).drew.keeps hka (λh=>h));have hc4:=hb4.cell (i:=0) rfl;have hf4:=hb4.frozen))
    have HB5:=hide (((uh HQA).keeps (((Keeps.refl (λ_=>False) Wq).drew).then hka) (λh=>h)).setCell 0 (.int .i64 (hv%c.width)));have HK5:=hide ((((uh HQK).drew.trans hka (λ_ h=>h.elim))).setCell (p:=⟨rb+1,0,none⟩) (Or.inl rfl) (.int .i64 (hv%c.width)));go_wp2
    refine⟨⟨0+1,hv%c.width,a1,a2,by go_num,by omega,HB5,HK5,?_⟩,by simp[intOf];omega⟩;exact⟨λ_=>uh HPL,λh=>by omega,λh=>by omega⟩
   ·subst hk3
    rw[show(((1:Nat)):Int)=1 from rfl];have hz0:IntKind.i64.wrap 0=0:=by decide +kernel
    have hz1:IntKind.i64.wrap 1=1:=by decide +kernel
    by_cases he:c.s10=c.s00/\c.s11=c.s01
    ·have hpa:(c.s10==c.s00)=true:=by simp[he.1]
     have hpb:(c.s11==c.s01)=true:=by simp[he.2]
     have HEQ:=hide (show qB3 c key 1=qB3 c key 0 by unfold qB3;show qD8 c.s10 c.s11 key%c.width=qD8 c.s00 c.s01 key%c.width;rw[he.1,he.2]);clear he;go_wp2_with fail
     go_quiet (fail)
     have qc:(wr.drewN nq).cell? ⟨rb+1,1,none⟩=some (.int .i64 a1):=b1;have qd:(wr.drewN nq).cell? ⟨rb+1,0,none⟩=some (.int .i64 a0):=b0;have HQA:=hide (show Blk (wr.drewN nq) (rb+1) [.int .i64 a0,.int .i64 a1,.int .i64 a2] 243 from uh HA);have HQK:=hide (show Keeps (λi=>i=rb+1) W3 (wr.drewN nq) from(uh HK).then (Keeps.drewN _ _ _));generalize wr.drewN nq=Wq at *;have hqf:=(uh HQA).frozen;go_wp2
     refine⟨⟨1+1,a0,a0,a2,by go_num,by omega,(uh HQA).setCell 1 _,(uh HQK).setCell (p:=⟨rb+1,1,none⟩) (Or.inl rfl) _,?_⟩,by simp[intOf];omega⟩;exact⟨λ_=>(uh HV).1 (by omega),λ_=>(uh HEQ).trans ((uh HV).1 (by omega)).symm |>.symm,λh=>by omega⟩
    ·have hpe:(c.s10==c.s00&&c.s11==c.s01)=false:=by simp;intro h1 h2;exact he ⟨h1,h2⟩
     have HNE:=hide he;clear he;go_wp2_with fail
     go_quiet (fail)
     have q8:(wr.drewN nq).cell? ⟨d,8,none⟩=some (.int .i64 c.width):=d8;have qa:(wr.drewN nq).cell? ⟨rb+1+1,2,none⟩=some (.int .i64 c.s10):=s2;have qb:(wr.drewN nq).cell? ⟨rb+1+1,3,none⟩=some (.int .i64 c.s11):=s3;have qc:(wr.drewN nq).cell? ⟨rb+1,1,none⟩=some (.int .i64 a1):=b1;have HQA:=hide (show Blk (wr.drewN nq) (rb+1) [.int .i64 a0,.int .i64 a1,.int .i64 a2] 243 from uh HA);have HQK:=hide (show Keeps (λi=>i=rb+1) W3 (wr.drewN nq) from(uh HK).then (Keeps.drewN _ _ _));generalize wr.drewN nq=Wq at *;clear d8 s0 s1 s2 s3 s4 s5 b0 b1 b2 bf HABL;have HH:=hide (λW=>qLp c.s10 c.s11 key W (uh HSD 1 (by omega)).1 (uh HSD 1 (by omega)).2.1 (uh HSD 1 (by omega)).2.2.1 (uh HSD 1 (by omega)).2.2.2 k0 k1);have hp1:=qI9 c.s10 c.s11 key;have HPL:=hide (show qD8 c.s10 c.s11 key%c.width=qB3 c key 1 from rfl);generalize qD8 c.s10 c.s11 key=hv at *;have hp0:=hp1.1;have hmod:hv.tmod c.width=hv%c.width:=Int.tmod_eq_emod_of_nonneg hp0;have hne1:rb+1≠d:=by omega
     have hne2:rb+1≠rb+1+1:=by omega
     go_wp2_with fail
     go_region_held3 (λw'=>w'.cell? ⟨rb+1+1,2,none⟩=some (.int .i64 c.s10)/\w'.cell? ⟨rb+1+1,3,none⟩=some (.int .i64 c.s11)/\w'.cell? ⟨d,8,none⟩=some (.int .i64 c.width)) (first | (go_split_ands;exact⟨by assumption,by assumption,by assumption⟩) | (go_split_ands;exact⟨hka.cell (by assumption) (λh=>h),hka.cell (by assumption) (λh=>h),hka.cell (by assumption) (λh=>h)⟩) | (go_split_ands;exact⟨(World.cell?_setCell_far _ _ _ _ hne2).trans (by assumption),(World.cell?_setCell_far _ _ _ _ hne2).trans (by assumption),(World.cell?_setCell_far _ _ _ _ hne1).trans (by assumption)⟩)) (first | (go_at_call 132;refine(uh HH _).mono ?_;rintro e W4 ⟨rfl,hka⟩;have hb4:=((uh HQA).drew.keeps hka (λh=>h));have hc4:=hb4.cell (i:=1) rfl;have hf4:=hb4.frozen))
     have HB5:=hide (((uh HQA).keeps (((Keeps.refl (λ_=>False) Wq).drew).then hka) (λh=>h)).setCell 1 (.int .i64 (hv%c.width)));have HK5:=hide ((((uh HQK).drew.trans hka (λ_ h=>h.elim))).setCell (p:=⟨rb+1,1,none⟩) (Or.inl rfl) (.int .i64 (hv%c.width)));go_wp2
     refine⟨⟨1+1,a0,hv%c.width,a2,by go_num,by omega,HB5,HK5,?_⟩,by simp[intOf];omega⟩;exact⟨λ_=>(uh HV).1 (by omega),λ_=>uh HPL,λh=>by omega⟩
   ·subst hk3
    rw[show(((2:Nat)):Int)=2 from rfl];have hz0:IntKind.i64.wrap 0=0:=by decide +kernel
    have hz1:IntKind.i64.wrap 1=1:=by decide +kernel
    by_cases he:c.s20=c.s10/\c.s21=c.s11
    ·have hpa:(c.s20==c.s10)=true:=by simp[he.1]
     have hpb:(c.s21==c.s11)=true:=by simp[he.2]
     have HEQ:=hide (show qB3 c key 2=qB3 c key 1 by unfold qB3;show qD8 c.s20 c.s21 key%c.width=qD8 c.s10 c.s11 key%c.width;rw[he.1,he.2]);clear he;go_wp2_with fail
     go_quiet (fail)
     have qc:(wr.drewN nq).cell? ⟨rb+1,2,none⟩=some (.int .i64 a2):=b2;have qd:(wr.drewN nq).cell? ⟨rb+1,1,none⟩=some (.int .i64 a1):=b1;have HQA:=hide (show Blk (wr.drewN nq) (rb+1) [.int .i64 a0,.int .i64 a1,.int .i64 a2] 243 from uh HA);have HQK:=hide (show Keeps (λi=>i=rb+1) W3 (wr.drewN nq) from(uh HK).then (Keeps.drewN _ _ _));generalize wr.drewN nq=Wq at *;have hqf:=(uh HQA).frozen;go_wp2
     refine⟨⟨2+1,a0,a1,a1,by go_num,by omega,(uh HQA).setCell 2 _,(uh HQK).setCell (p:=⟨rb+1,2,none⟩) (Or.inl rfl) _,?_⟩,by simp[intOf];omega⟩;exact⟨λ_=>(uh HV).1 (by omega),λ_=>(uh HV).2.1 (by omega),λ_=>((uh HEQ).trans ((uh HV).2.1 (by omega)).symm).symm⟩
    ·have hpe:(c.s20==c.s10&&c.s21==c.s11)=false:=by simp;intro h1 h2;exact he ⟨h1,h2⟩
     have HNE:=hide he;clear he;go_wp2_with fail
     go_quiet (fail)
     have q8:(wr.drewN nq).cell? ⟨d,8,none⟩=some (.int .i64 c.width):=d8;have qa:(wr.drewN nq).cell? ⟨rb+1+1,4,none⟩=some (.int .i64 c.s20):=s4;have qb:(wr.drewN nq).cell? ⟨rb+1+1,5,none⟩=some (.int .i64 c.s21):=s5;have qc:(wr.drewN nq).cell? ⟨rb+1,2,none⟩=some (.int .i64 a2):=b2;have HQA:=hide (show Blk (wr.drewN nq) (rb+1) [.int .i64 a0,.int .i64 a1,.int .i64 a2] 243 from uh HA);have HQK:=hide (show Keeps (λi=>i=rb+1) W3 (wr.drewN nq) from(uh HK).then (Keeps.drewN _ _ _));generalize wr.drewN nq=Wq at *;clear d8 s0 s1 s2 s3 s4 s5 b0 b1 b2 bf HABL;have HH:=hide (λW=>qLp c.s20 c.s21 key W (uh HSD 2 (by omega)).1 (uh HSD 2 (by omega)).2.1 (uh HSD 2 (by omega)).2.2.1 (uh HSD 2 (by omega)).2.2.2 k0 k1);have hp1:=qI9 c.s20 c.s21 key;have HPL:=hide (show qD8 c.s20 c.s21 key%c.width=qB3 c key 2 from rfl);generalize qD8 c.s20 c.s21 key=hv at *;have hp0:=hp1.1;have hmod:hv.tmod c.width=hv%c.width:=Int.tmod_eq_emod_of_nonneg hp0;have hne1:rb+1≠d:=by omega
     have hne2:rb+1≠rb+1+1:=by omega
     go_wp2_with fail
     go_region_held3 (λw'=>w'.cell? ⟨rb+1+1,4,none⟩=some (.int .i64 c.s20)/\w'.cell? ⟨rb+1+1,5,none⟩=some (.int .i64 c.s21)/\w'.cell? ⟨d,8,none⟩=some (.int .i64 c.width)) (first | (go_split_ands;exact⟨by assumption,by assumption,by assumption⟩) | (go_split_ands;exact⟨hka.cell (by assumption) (λh=>h),hka.cell (by assumption) (λh=>h),hka.cell (by assumption) (λh=>h)⟩) | (go_split_ands;exact⟨(World.cell?_setCell_far _ _ _ _ hne2).trans (by assumption),(World.cell?_setCell_far _ _ _ _ hne2).trans (by assumption),(World.cell?_setCell_far _ _ _ _ hne1).trans (by assumption)⟩)) (first | (go_at_call 132;refine(uh HH _).mono ?_;rintro e W4 ⟨rfl,hka⟩;have hb4:=((uh HQA).drew.keeps hka (λh=>h));have hc4:=hb4.cell (i:=2) rfl;have hf4:=hb4.frozen))
     have HB5:=hide (((uh HQA).keeps (((Keeps.refl (λ_=>False) Wq).drew).then hka) (λh=>h)).setCell 2 (.int .i64 (hv%c.width)));have HK5:=hide ((((uh HQK).drew.trans hka (λ_ h=>h.elim))).setCell (p:=⟨rb+1,2,none⟩) (Or.inl rfl) (.int .i64 (hv%c.width)));go_wp2
     refine⟨⟨2+1,a0,a1,hv%c.width,by go_num,by omega,HB5,HK5,?_⟩,by simp[intOf];omega⟩;exact⟨λ_=>(uh HV).1 (by omega),λ_=>(uh HV).2.1 (by omega),λ_=>uh HPL⟩
  ·have hkR:k=R:=by omega
   subst hkR;have hkf:decide ((k:Int)<(k:Int))=false:=by simp
   have r0:wr.cell? ⟨rb,0,none⟩=some (.int .i64 0):=(uh HRr).cell rfl;have r1:wr.cell? ⟨rb,1,none⟩=some (.int .i64 0):=(uh HRr).cell rfl;have r2:wr.cell? ⟨rb,2,none⟩=some (.int .i64 0):=(uh HRr).cell rfl;have rf:=(uh HRr).frozen;go_wp2
   have HF:=hide ((((uh HRr).setCell 0 (.int .i64 a0)).setCell 1 (.int .i64 a1)).setCell 2 (.int .i64 a2));have HKF:=hide ((((Keeps.refl (λi=>i=rb) wr).setCell (p:=⟨rb,0,none⟩) (Or.inl rfl) (.int .i64 a0)).setCell (p:=⟨rb,1,none⟩) (Or.inl rfl) (.int .i64 a1)).setCell (p:=⟨rb,2,none⟩) (Or.inl rfl) (.int .i64 a2));generalize((wr.setCell ⟨rb,0,none⟩ (.int .i64 a0)).setCell ⟨rb,1,none⟩ (.int .i64 a1)).setCell ⟨rb,2,none⟩ (.int .i64 a2)=wf at *;have f0:wf.cell? ⟨rb,0,none⟩=some (.int .i64 a0):=(uh HF).cell rfl;have f1:wf.cell? ⟨rb,1,none⟩=some (.int .i64 a1):=(uh HF).cell rfl;have f2:wf.cell? ⟨rb,2,none⟩=some (.int .i64 a2):=(uh HF).cell rfl;refine bodyPost_ret (v:=.agg #[.int .i64 a0,.int .i64 a1,.int .i64 a2]) (by simp[results,Tryz.results207,go_sem,f0,f1,f2]) rfl ⟨a0,a1,a2,rfl,⟨(uh HV).1 (by omega),λh=>(uh HV).2.1 (by have:=uh HR;omega),λh=>(uh HV).2.2 (by have:=uh HR;omega)⟩,?_⟩;exact(((uh HK3).trans (uh HK) (λi hi hlt=>by omega))).trans (uh HKF) (λi hi hlt=>by omega)
end
section
open Go.RowKit
attribute [local go_sem ↓] Pa.execOp_loadP Pa.execOp_storeP qEa qDp qDo
attribute [local go_sem] Pa.run_loadP qF4 qE6 qE7 qIb qBf qAc qAb
structure ORep (w:World) (d q:Nat) (og:Option Nat) (c:Cfg) (o:Pa.Pn) (cl:List Pa.Pn):Prop where
 blk:Blk w d (qA4 c o q) 240
 row:Pa.RowRep w d q og cl
 dq:d≠q
 dg:∀g,og=some g->d≠g
theorem ORep.keeps{M:Nat->Prop}{w w':World}{d q:Nat}{og:Option Nat}{c:Cfg}{o:Pa.Pn}{cl:List Pa.Pn}(h:ORep w d q og c o cl)(k:Keeps M w w')(hd:¬M d)(hq:¬M q)(hg:∀g,og=some g->¬M g): ORep w' d q og c o cl :=
 ⟨h.blk.keeps k hd,h.row.keeps k hq hg,h.dq,h.dg⟩
theorem ORep.still{w w':World}{d q:Nat}{og:Option Nat}{c:Cfg}{o:Pa.Pn}{cl:List Pa.Pn}(h:ORep w d q og c o cl)(k:Keeps (λ_=>False) w w'): ORep w' d q og c o cl:=h.keeps k (λh=>h) (λh=>h) (λ_ _ h=>h)
def zCp(cs:List Int)(p:Nat): List Int:=cs.set p (cs.getD p 0+1)
def qEy(c:Cfg)(key:Int): Nat->List Int->List Int
 | 0,cs=>cs
 | j+1,cs=>zCp (qEy c key j cs) (j*16+(qB3 c key j).toNat)
theorem qEx(c:Cfg)(key:Int)(cs:List Int): ∀n,(qEy c key n cs).length=cs.length
 | 0=>rfl
 | n+1=>by unfold qEy zCp;rw[List.length_set,qEx c key cs n]
def qVc(c:Cfg)(key:Int)(n:Nat)(o:Pa.Pn): Pa.Pn:=⟨o.no,qEy c key n o.cs,by rw[qEx,o.len]⟩
def qYa(c:Cfg)(o:Pa.Pn)(cl:List Pa.Pn)(y:It)(m:Int): Pa.Pn×List Pa.Pn :=
 let s:=qBp o cl (y.t/qBd c)
 (qVc c y.k c.rows.toNat s.1,s.2.drop (qEh c s.2 (m-c.window)))
theorem zH7{cs:List Int}{B:Int}(h:∀x∈cs,0<=x/\x<=B)(hB:0<=B)(p:Nat): ∀x∈zCp cs p,0<=x/\x<=B+1:=by
 intro x hx;unfold zCp at hx;rcases List.mem_or_eq_of_mem_set hx with h1 | h1
 ·have:=h x h1;omega
 ·have hg:0<=cs.getD p 0/\cs.getD p 0<=B:=by
   rw[List.getD_eq_getElem?_getD];cases he:cs[p]? with
   | none=>simpa using hB
   | some v=>exact h v (List.mem_of_getElem? he)
  omega
theorem qQp{c:Cfg}{key:Int}{cs:List Int}{B:Int}(h:∀x∈cs,0<=x/\x<=B)(hB:0<=B): ∀n:Nat,∀x∈qEy c key n cs,0<=x/\x<=B+n
 | 0=>by intro x hx;have:=h x hx;simpa using this
 | n+1=>by
  intro x hx;have:=zH7 (qQp h hB n) (by omega) _ x hx
  push_cast
  omega
theorem zD3{c:Cfg}{o:Pa.Pn}{cl:List Pa.Pn}{n:Int}(h:∀p∈cl,OkP c p)(ho:OkP c o): ∀p∈(qBp o cl n).2,OkP c p:=by
 unfold qBp
 split
 ·exact h
 ·dsimp only
  split
  ·exact h
  ·intro p hp
   rcases List.mem_append.1 hp with h1 | h1
   ·exact h p h1
   ·rw[List.mem_singleton.1 h1];exact ho
theorem qR5(o:Pa.Pn)(cl:List Pa.Pn)(n:Int): (qBp o cl n).2.length<=cl.length+1:=by
 unfold qBp
 split
 ·exact Nat.le_succ _
 ·dsimp only
  split
  ·exact Nat.le_succ _
  ·simp
theorem zDp{o:Pa.Pn}{cl:List Pa.Pn}{n B:Int}(h:∀x∈o.cs,0<=x/\x<=B)(hB:0<=B): ∀x∈(qBp o cl n).1.cs,0<=x/\x<=B:=by
 unfold qBp
 split
 ·exact h
 ·intro x hx
  have hx':x∈List.replicate 48 0:=hx;rw[(List.mem_replicate.1 hx').2];omega
theorem qWx(c:Cfg)(p:Pa.Pn)(q j:Nat)(v:Value)(hj:j<49): (qA4 c p q).set (20+j) v=c.cells++(p.cells.set j v++[.pointer (some ⟨q,0,none⟩)]):=by
 have hc:c.cells.length=20:=by simp[Cfg.cells]
 unfold qA4;rw[List.set_append_right _ _ (by omega),hc,Nat.add_sub_cancel_left,List.set_append_left _ _ (by rw[p.cells_length];exact hj)]
theorem zI0{w:World}{d q:Nat}{c:Cfg}{p p':Pa.Pn}(i:Nat)(x:Int)(hi:i<48)(h:Blk w d (qA4 c p q) 240)(hx:p.cs[i]?=some x)(hn:p'.no=p.no)(hu:p'.cs=zCp p.cs i):
  Blk (w.setCell ⟨d,21+i,none⟩ (.int .i64 (x+1))) d (qA4 c p' q) 240:=by
 have h1:=h.setCell (21+i) (.int .i64 (x+1));rw[show 21+i=20+(i+1) by omega,qWx c p q (i+1) _ (by omega)]at h1;have e:p.cells.set (i+1) (.int .i64 (x+1))=p'.cells:=by
  unfold Pa.Pn.cells;rw[List.set_cons_succ,hn,hu];unfold zCp;rw[List.map_set,List.getD_eq_getElem?_getD,hx];rfl
 rw[e]at h1;rw[show 21+i=20+(i+1) by omega];exact h1
theorem qNh(d q:Nat)(og:Option Nat)(c:Cfg)(o:Pa.Pn)(cl:List Pa.Pn)(y:It)(m:Int)(w:World)(h:ORep w d q og c o cl)(hc:c.paned)(hrw:c.rowed)(hL:1<=qBd c)(t0:0<=y.t)(t1:y.t<=4611686018427387904)(k0:0<=y.k)(k1:y.k<=2147483648)(m0:-4611686018427387904<=m)(m1:m<=4611686018427387904)(hl:cl.length<=1000000000)(hp:∀p∈cl,OkP c p)(ho:OkP c o)(hcs:∀x∈o.cs,0<=x/\x<=4611686018427387904):
  Calls Tryz.prog 159 #[.pointer (some ⟨d,0,none⟩),y.val,.int .i64 m] w λe w'=>e=.returned (.tuple #[])/\∃og',ORep w' d q og' c (qYa c o cl y m).1 (qYa c o cl y m).2/\Keeps (λk=>k=d\/k=q\/og=some k) w w'/\(og'=og\/∃k,og'=some k/\w.heap.size<=k):=by
 obtain⟨W,hW⟩:∃W,W=w.alloc (.cells y.cells 88):=⟨_,rfl⟩;have HKW:=hide (show Keeps (λ_=>False) w W by rw[hW];exact(Keeps.refl _ _).alloc _);have hyW:Blk W w.heap.size [.int .i64 y.t,.int .i64 y.k,.int .i64 y.d,.int .i64 y.n] 88:=by rw[hW];exact Blk.new w _ _
 have HW0:=hide hW;have HT:=hide (h.still (uh HKW));clear hW;obtain⟨hlq,hlg⟩:=h.row.lt;have hld:=h.blk.lt
 have HYN:=hide (show ¬(w.heap.size=d\/w.heap.size=q\/og=some w.heap.size) from λh=>by
    rcases h with h | h | h
    ·omega
    ·omega
    ·have:=(hlg _ h).1;omega)
 have hb:=(uh HT).blk;have c5:W.cell? ⟨d,5,none⟩=some (.int .i64 c.window):=hb.cell (qB2 c o q 5 (by omega));have c9:W.cell? ⟨d,9,none⟩=some (.int .i64 c.panes):=hb.cell (qB2 c o q 9 (by omega));have x0:W.cell? ⟨w.heap.size,0,none⟩=some (.int .i64 y.t):=hyW.cell rfl;have HX1:=hide (show W.cell? ⟨w.heap.size,1,none⟩=some (.int .i64 y.k) from hyW.cell rfl);have HLEN:=hide (λW' h5' h9'=>qKk d c W' h5' h9' (by have:=hc.w0;omega) hc.w1 hc.p0);have HC:=hide hc;have HRW:=hide hrw;have HP:=hide hp;have HO:=hide ho;have HCS:=hide hcs;have HRO:=hide (show qYa c o cl y m=(qVc c y.k c.rows.toNat (qBp o cl (y.t/qBd c)).1,(qBp o cl (y.t/qBd c)).2.drop (qEh c (qBp o cl (y.t/qBd c)).2 (m-c.window))) from rfl);have htd:y.t.tdiv (qBd c)=y.t/qBd c:=Int.tdiv_eq_ediv_of_nonneg t0;have hdv0:0<=y.t/qBd c:=Int.ediv_nonneg t0 (by omega);have hdv1:y.t/qBd c<=y.t:=Int.ediv_le_self _ t0;have hwd:IntKind.i64.wrap (y.t.tdiv (qBd c))=y.t/qBd c:=by rw[htd,IntKind.wrap_i64];omega
 have hwd2:IntKind.i64.wrap (y.t/qBd c)=y.t/qBd c:=by rw[IntKind.wrap_i64];omega
 have hLz:¬qBd c=0:=by omega
 have hLz2:(qBd c==0)=false:=by simp;exact hLz
 have hwin:=hc.w0;have hwin1:=hc.w1;have hwm:IntKind.i64.wrap (m-c.window)=m-c.window:=by rw[IntKind.wrap_i64];omega
 clear h hb hyW hc hrw hp ho hcs;generalize hLe:qBd c=L at *;have HLE:=hide hLe;clear hLe;unfold It.val;go_enter Tryz.func159,Tryz.ntmps159
 go_wp2_with fail
 rw[show w.alloc (.cells #[.int .i64 y.t,.int .i64 y.k,.int .i64 y.d,.int .i64 y.n] 88)=W from(uh HW0).symm];generalize hyb:w.heap.size=yb at *;have HYB:=hide hyb;clear hyb;go_region_held3 (λw'=>w'.cell? ⟨yb,0,none⟩=some (.int .i64 y.t)/\w'.cell? ⟨d,5,none⟩=some (.int .i64 c.window)/\w'.cell? ⟨d,9,none⟩=some (.int .i64 c.panes))
  (first | (go_split_ands;exact⟨by assumption,by assumption,by assumption⟩) | (go_split_ands;exact⟨hka.cell (by assumption) (λh=>h),hka.cell (by assumption) (λh=>h),hka.cell (by assumption) (λh=>h)⟩) | (go_split_ands;exact⟨hkt.cell (by assumption) (uh HYN),hbt.cell (qB2 c _ q 5 (by omega)),hbt.cell (qB2 c _ q 9 (by omega))⟩))
  (first | (go_at_call 204;refine(uh HLEN _ (by first | assumption | simpa using c5) (by first | assumption | simpa using c9)).mono ?_;rintro e W1 ⟨rfl,hka⟩) | (go_at_call 203;refine(qWj d q og c o cl _ _ (by exact(uh HT).blk.keeps (M:=λ_=>False) (((Keeps.refl _ _).drew).then hka) (λh=>h)) (by exact(uh HT).row.still (((Keeps.refl _ _).drew).then hka)) (uh HT).dq (uh HT).dg hl).mono ?_;rintro e W2 ⟨rfl,og2,hbt,hrt,hkt,hogt⟩))
 obtain⟨o2,l2,hs⟩:∃o2 l2,qBp o cl (y.t/L)=(o2,l2):=⟨_,_,rfl⟩;have HP2:=hide (show ∀p∈l2,OkP c p from λp hp=>zD3 (n:=y.t/L) (uh HP) (uh HO) p (by rw[hs];exact hp));have hl2:l2.length<=1000000001:=by have:=qR5 o cl (y.t/L);rw[hs]at this;have h2:l2.length<=cl.length+1:=this;omega
 have HCS2:=hide (show ∀x∈o2.cs,0<=x/\x<=4611686018427387904 from λx hx=>zDp (cl:=cl) (n:=y.t/L) (uh HCS) (by omega) x (by rw[hs];exact hx));rw[hs]at hbt hrt HRO;have HKA:=hide (((Keeps.refl (λ_=>False) W).drew).then hka);have HKT:=hide (((uh HKA).mono (M':=λk=>k=d\/k=q\/og=some k) (λ_ _ h=>h.elim)).then hkt);have HS1:=hide (uh HKA).size
 have HOG:=hide (show og2=og\/∃k,og2=some k/\W.heap.size<=k by
    rcases hogt with e | ⟨k,e,hk⟩
    ·exact .inl e
    ·exact .inr ⟨k,e,Nat.le_trans (uh HS1) hk⟩)
 have HDG2:=hide (show ∀g,og2=some g->d≠g from λg hg=>by
    rcases uh HOG with e | ⟨k,e,hk⟩
    ·exact(uh HT).dg g (e ▸ hg)
    ·have:=(uh HT).blk.lt;rw[e]at hg;cases hg;omega)
 have HT2:=hide (show ORep W2 d q og2 c o2 l2 from⟨hbt,hrt,(uh HT).dq,uh HDG2⟩);have HX2:=hide ((uh HKT).cell (uh HX1) (uh HYN));have HYL:=hide (show yb<W.heap.size by rw[uh HW0];simp[uh HYB])
 have HYN2:=hide (show ¬(yb=q\/og2=some yb) from λh=>by
    rcases h with h | h
    ·exact uh HYN (.inr (.inl h))
    ·rcases uh HOG with e | ⟨k,e,hk⟩
     ·exact uh HYN (.inr (.inr (e ▸ h)))
     ·rw[e]at h;cases h;have:=uh HYL;omega)
 clear hka hkt hbt hrt hogt hs c5 c9 x0;have c69:W2.cell? ⟨d,69,none⟩=some (.pointer (some ⟨q,0,none⟩)):=(uh HT2).blk.cell (qL5 c o2 q);have c5:W2.cell? ⟨d,5,none⟩=some (.int .i64 c.window):=(uh HT2).blk.cell (qB2 c o2 q 5 (by omega));have c9:W2.cell? ⟨d,9,none⟩=some (.int .i64 c.panes):=(uh HT2).blk.cell (qB2 c o2 q 9 (by omega));have HPA:=hide (λW' (k:Keeps (λ_=>False) W2 W')=>qLa d q og2 c l2 (m-c.window) W' ((uh HT2).row.still k) (by omega) (k.cell c5 (λh=>h)) (k.cell c9 (λh=>h)) (uh HC) (uh HP2));have hpn:=qWl c l2 (m-c.window);generalize hpe:qEh c l2 (m-c.window)=pn at *;have HPE:=hide hpe;clear hpe
 have HDN2:=hide (show ¬(d=q\/og2=some d) from λh=>by
    rcases h with h | h
    ·exact(uh HT2).dq h
    ·exact(uh HT2).dg d h rfl)
 go_wp2_with fail
 go_region_held3 (λw'=>w'.cell? ⟨d,69,none⟩=some (.pointer (some ⟨q,0,none⟩))/\w'.cell? ⟨d,5,none⟩=some (.int .i64 c.window))
  (first | (go_split_ands;exact⟨by assumption,by assumption⟩) | (go_split_ands;exact⟨hkl.cell (by assumption) (uh HDN2),hkl.cell (by assumption) (uh HDN2)⟩) | (go_split_ands;exact⟨hkb.cell (by assumption) (λh=>h),hkb.cell (by assumption) (λh=>h)⟩))
  (first | (go_at_call 206;refine(uh HPA _ ((Keeps.refl _ _).drew)).mono ?_;rintro e W3 ⟨rfl,hkb⟩) | (go_at_call 205;refine(Pa.lose_any d q og2 l2 pn _ (by exact(uh HT2).row.still (((Keeps.refl _ _).drew).then hkb)) hpn).mono ?_;rintro e W4 ⟨rfl,hr4,hkl⟩))
 have HKB:=hide (((Keeps.refl (λ_=>False) W2).drew).then hkb);have HKL:=hide (((uh HKB).mono (M':=λk=>k=q\/og2=some k) (λ_ _ h=>h.elim)).then hkl);have HT4:=hide (show ORep W4 d q og2 c o2 (l2.drop pn) from⟨(uh HT2).blk.keeps (uh HKL) (uh HDN2),hr4,(uh HT2).dq,(uh HT2).dg⟩);have x1:W4.cell? ⟨yb,1,none⟩=some (.int .i64 y.k):=(uh HKL).cell (uh HX2) (uh HYN2);clear hkb hkl hr4 c69 c5 c9;go_wp2_with fail
 refine(qOg d c o2 q y.k _ (uh HT4).blk (uh HRW) k0 k1).mono ?_;rintro e W5 ⟨a0,a1,a2,rfl,hpl,hkp⟩;have HPL:=hide hpl;have HT5:=hide ((uh HT4).still hkp);have HKP:=hide hkp;obtain⟨R,hR⟩:∃R:Nat,c.rows=(R:Int):=⟨c.rows.toNat,by have:=(uh HRW).r0;omega⟩;have hR3:R<=3:=by have:=(uh HRW).r1;omega
 have c7:W5.cell? ⟨d,7,none⟩=some (.int .i64 (R:Int)):=hR ▸ (uh HT5).blk.cell (qB2 c o2 q 7 (by omega));have hd5:=(uh HT5).blk.lt;have HR:=hide hR;clear hpl hkp hR x1 hpn hwm htd hwd hwd2 hdv0 hdv1 hLz hLz2;go_wp2_with fail
 obtain⟨W6,hW6⟩:∃W6,W6=W5.alloc (.cells #[.int .i64 a0,.int .i64 a1,.int .i64 a2] 243):=⟨_,rfl⟩;have HPB:=hide (show Blk W6 W5.heap.size [.int .i64 a0,.int .i64 a1,.int .i64 a2] 243 by rw[hW6];exact Blk.new W5 _ _);have HK6:=hide (show Keeps (λ_=>False) W5 W6 by rw[hW6];exact(Keeps.refl _ _).alloc _);have HT6:=hide ((uh HT5).still (uh HK6));rw[<-hW6];clear hW6 c7;generalize hpb:W5.heap.size=pb at *;clear hpb;have HDP:=hide (show d≠pb by omega)
 have HPP:=hide (show ∀k,k<R->∃pk:Nat,pk<16/\(qB3 c y.k k).toNat=pk/\([Value.int .i64 a0,.int .i64 a1,.int .i64 a2]:List Value)[k]?=some (.int .i64 (pk:Int)) from λk hk=>by
    have hb:=qJu c (uh HRW) y.k k;obtain⟨p0,p1,p2⟩:=uh HPL;rw[uh HR]at p1 p2;refine⟨(qB3 c y.k k).toNat,by omega,rfl,?_⟩;have hk3:k=0\/k=1\/k=2:=by omega
    rcases hk3 with e | e | e
    ·subst e;rw[Int.toNat_of_nonneg hb.1,p0];rfl
    ·subst e;rw[Int.toNat_of_nonneg hb.1,p1 (by omega)];rfl
    ·subst e;rw[Int.toNat_of_nonneg hb.1,p2 (by omega)];rfl)
 go_loopw [41] (λi wr=>∃k:Nat,i=.int .i64 k/\k<=R/\Hid (Blk wr d (qA4 c (qVc c y.k k o2) q) 240)/\Hid (Keeps (λi=>i=d) W6 wr)) (λi _=>R-(intOf i).toNat)
 case atStart=>exact⟨0,rfl,by omega,(uh HT6).blk,Keeps.refl _ _⟩
 case round =>
  obtain⟨k,rfl,hk,HBr,HKr⟩:=hrel;have hk0:(0:Int)<=(k:Int):=by omega
  by_cases hlt:k<R
  ·have hk3:(k:Int)<3:=by omega
   obtain⟨pk,hpk,hpe,hcell⟩:=uh HPP k hlt;have hp0:(0:Int)<=(pk:Int):=by omega
   have hp1:(pk:Int)<16:=by omega
   have cp:wr.cell? ⟨pb,k,none⟩=some (.int .i64 (pk:Int)):=(uh HKr).cell ((uh HPB).cell hcell) (λh=>uh HDP h.symm);have hln:k*16+pk<(qEy c y.k k o2.cs).length:=by rw[qEx,o2.len];omega
   obtain⟨x,hx⟩:∃x,(qEy c y.k k o2.cs)[k*16+pk]?=some x:=⟨_,List.getElem?_eq_getElem hln⟩;have hxb:=qQp (c:=c) (key:=y.k) (uh HCS2) (by omega) k x (List.mem_of_getElem? hx);have hwx:IntKind.i64.wrap (x+1)=x+1:=by rw[IntKind.wrap_i64];omega
   have cx:wr.cell? ⟨d,21+k*16+pk,none⟩=some (.int .i64 x):=by
    rw[show 21+k*16+pk=20+(k*16+pk+1) by omega];refine(uh HBr).cell ((qJq c _ q (k*16+pk+1) (by omega)).trans ?_);show((.int .i64 o2.no::(qEy c y.k k o2.cs).map (.int .i64 ·):List Value))[k*16+pk+1]?=_;rw[List.getElem?_cons_succ,List.getElem?_map,hx];rfl
   have cf:=(uh HBr).frozen;have HX:=hide hx;have HPK:=hide hpe;clear hx hpe hcell hln;go_wp2_with fail
   go_region
   go_wp2
   go_roundw
   case rel =>
    refine⟨k+1,by go_num,by omega,?_,?_⟩
    ·have:=(zI0 (p':=qVc c y.k (k+1) o2) (k*16+pk) x (by omega) (uh HBr) (uh HX) rfl (by show qEy c y.k (k+1) o2.cs=_;unfold qEy;rw[uh HPK];rfl)).drew
     rw[show 21+(k*16+pk)=21+k*16+pk by omega]at this;exact this
    ·exact((uh HKr).setCell (p:=⟨d,21+k*16+pk,none⟩) (Or.inl rfl) _).drew
   case measure=>simp[intOf];omega
  ·have hkR:k=R:=by omega
   subst hkR;go_wp2
   go_end0
   have hrn:c.rows.toNat=k:=by rw[uh HR];simp
   refine⟨rfl,og2,?_,?_,?_⟩
   ·rw[uh HRO,hrn]
    exact⟨uh HBr,(uh HT6).row.keeps (uh HKr) (λh=>(uh HT6).dq h.symm) (λg hg h=>(uh HT6).dg g hg h.symm),(uh HT6).dq,(uh HT6).dg⟩
   ·have k1:Keeps (λk=>k=d\/k=q\/og=some k) w W2:=((uh HKW).mono (λ_ _ h=>h.elim)).then (uh HKT)
    have k2:=k1.trans (uh HKL) (λi hi hlt=>by
       rcases hi with h | h
       ·exact .inr (.inl h)
       ·rcases uh HOG with e | ⟨k',e,hk'⟩
        ·exact .inr (.inr (e ▸ h))
        ·rw[e]at h;cases h;have:=(uh HKW).size;omega)
    exact((k2.trans (uh HKP) (λ_ h=>h.elim)).trans (uh HK6) (λ_ h=>h.elim)).trans (uh HKr) (λ_ h _=>.inl h)
   ·rcases uh HOG with e | ⟨k',e,hk'⟩
    ·exact .inl e
    ·exact .inr ⟨k',e,by have:=(uh HKW).size;have:=uh HYB;omega⟩
end
section
open Go.RowKit
attribute [local go_sem ↓] Pa.execOp_loadP Pa.execOp_storeP qEa qDp qDo
attribute [local go_sem] Pa.run_loadP qF4 qE6 qE7 qIb qBf qAc qAb
def qLc(a:List Int)(p:Pa.Pn): List Int:=List.zipWith (·+·) a p.cs
def qVq(l:List Pa.Pn): List Int:=l.foldl qLc qAw
def qEu(c:Cfg)(o:Pa.Pn)(cl:List Pa.Pn)(t:Int): List Int :=
 if t<qF6 c o then qLc (qVq (cl.drop (qEh c cl t))) o else qVq (cl.drop (qEh c cl t))
theorem qK1{a:List Int}{p:Pa.Pn}(h:a.length=48): (qLc a p).length=48:=by simp[qLc,h,p.len]
theorem zFv: ∀(a b:List Int) (A B:Int),(∀x∈a,0<=x/\x<=A)->(∀x∈b,0<=x/\x<=B)->∀x∈List.zipWith (·+·) a b,0<=x/\x<=A+B
 | [],_,_,_,_,_=>by simp
 | _::_,[],_,_,_,_=>by simp
 | x::a,y::b,A,B,h1,h2=>by
  intro z hz;rw[List.zipWith_cons_cons]at hz;rcases List.mem_cons.1 hz with e | e
  ·have:=h1 x (by simp);have:=h2 y (by simp);omega
  ·exact zFv a b A B (λx hx=>h1 x (by simp[hx])) (λx hx=>h2 x (by simp[hx])) z e
theorem qS4(l:List Pa.Pn)(p:Pa.Pn): qVq (l++[p])=qLc (qVq l) p:=by simp[qVq]
theorem qWe: ∀(l:List Pa.Pn) (a:List Int),a.length=48->(l.foldl qLc a).length=48
 | [],_,h=>h
 | p::l,a,h=>qWe l (qLc a p) (qK1 h)
theorem qFl(l:List Pa.Pn): (qVq l).length=48:=qWe l _ qBf
def qI4(p:Pa.Pn): Int:=p.cs.foldr max 0
def qGh: List Pa.Pn->Int
 | []=>0
 | p::l=>qI4 p+qGh l
theorem qK3(cs:List Int): 0<=cs.foldr max 0:=by
 induction cs with
 | nil=>exact Int.le_refl _
 | cons a cs ih=>simp only[List.foldr_cons];omega
theorem qSa{cs:List Int}{x:Int}(h:x∈cs): x<=cs.foldr max 0:=by
 induction cs with
 | nil=>cases h
 | cons a cs ih =>
  simp only[List.foldr_cons];rcases List.mem_cons.1 h with e | e
  ·omega
  ·have:=ih e;omega
theorem qRm{cs:List Int}{B:Int}(hB:0<=B)(h:∀x∈cs,x<=B): cs.foldr max 0<=B:=by
 induction cs with
 | nil=>exact hB
 | cons a cs ih =>
  simp only[List.foldr_cons];have h1:=h a (by simp);have h2:=ih (λx hx=>h x (by simp[hx]));omega
theorem qJ7(l:List Pa.Pn): 0<=qGh l:=by
 induction l with
 | nil=>exact Int.le_refl _
 | cons p l ih=>have h1:0<=qI4 p:=qK3 _;unfold qGh;omega
theorem qFo(a b:List Pa.Pn): qGh (a++b)=qGh a+qGh b:=by
 induction a with
 | nil=>simp[qGh]
 | cons p a ih =>
  show qI4 p+qGh (a++b)=qI4 p+qGh a+qGh b;rw[ih];omega
theorem qM5(l:List Pa.Pn)(n:Nat): qGh (l.drop n)<=qGh l:=by
 have h:=qFo (l.take n) (l.drop n);rw[List.take_append_drop]at h;have:=qJ7 (l.take n);omega
theorem zBx(l:List Pa.Pn)(n:Nat): qGh (l.take n)<=qGh l:=by
 have h:=qFo (l.take n) (l.drop n);rw[List.take_append_drop]at h;have:=qJ7 (l.drop n);omega
theorem qWn: ∀(l:List Pa.Pn) (a:List Int) (A:Int),(∀x∈a,0<=x/\x<=A)->(∀p∈l,∀x∈p.cs,0<=x)->∀x∈l.foldl qLc a,0<=x/\x<=A+qGh l
 | [],a,A,h,_=>by intro x hx;have:=h x hx;simpa[qGh] using this
 | p::l,a,A,h,hp=>by
  intro x hx;have:=qWn l (qLc a p) (A+qI4 p) (zFv a p.cs A (qI4 p) h (λx hx=>⟨hp p (by simp) x hx,qSa hx⟩)) (λq hq=>hp q (by simp[hq])) x hx;unfold qGh;omega
theorem qWb(l:List Pa.Pn)(hp:∀p∈l,∀x∈p.cs,0<=x): ∀x∈qVq l,0<=x/\x<=qGh l:=by
 intro x hx;have:=qWn l qAw 0 (λx hx=>by have hx':x∈List.replicate 48 (0:Int):=hx;rw[(List.mem_replicate.1 hx').2];omega) hp x hx;omega
theorem aggC(w:World): (isAgg 235).run Tryz.prog w=.ok true w:=by kernel_rfl
theorem zDa(p:Pa.Pn): p.cells.toArray.extract 1 (1+48)=(qAv p.cs).toArray:=by
 unfold Pa.Pn.cells;simp only[List.extract_toArray,List.extract_eq_take_drop,List.drop_succ_cons,List.drop_zero];rw[List.take_of_length_le (by simp[p.len])];rfl
theorem qH7(p:Pa.Pn)(w:World): (Instr.field 237 (.agg p.cells.toArray) 1).run Tryz.prog w=.ok (.agg (qAv p.cs).toArray) w:=by
 unfold Instr.field;simp only[Sem.run_bind,run_underlying Tryz.underlying237,Result.andThen_ok];rw[<-zDa p];have h1:=aggC w;simp[h1,asAgg,part]
theorem qE5(ρ:Operand->Value)(dst:Option Tmp)(x y:Operand)(ty:TypeId)(pos:String)(after:Array Edge)(guard:Option (Nat×Bool)):
  execOp ρ { dst,op:=.store 235 x y,type:=ty,pos,after,guard }=Pa.storeP 235 (ρ x) (ρ y):=rfl
theorem qF1(w:World)(b:Nat)(cs:List Int)(hc:cs.length=48)(ht:w.there b 0 48):
  (Pa.storeP 235 (.pointer (some ⟨b,0,none⟩)) (.agg (qAv cs).toArray)).run Tryz.prog w=.ok .skip (w.setCells b 0 (qAv cs)):=by
 have hl:(qAv cs).length=48:=by simp[qAv,hc]
 have h1:∀u∈qAv cs,u.oneCell'=true:=λu hu=>by unfold qAv at hu;obtain⟨y,_,rfl⟩:=List.mem_map.1 hu;rfl
 unfold Pa.storeP;rw[Sem.run_bind,run_storeAt_mid w b 0 235 (qAv cs).toArray (by simpa[hl] using ht) (by rw[zGq];simp[hl]) (by simpa using h1)];rfl
attribute [local go_sem ↓] qE5
attribute [local go_sem] qH7 qF1
theorem zC1(W:World)(rb:Nat)(S:List Int)(hb:Blk W rb (qAv qAw) 235)(hS:S.length=48):
  (loadVar 235 ⟨rb,0,none⟩).run Tryz.prog (W.setCells rb 0 (qAv S))=.ok (.agg (qAv S).toArray) (W.setCells rb 0 (qAv S)):=by
 have hl:(qAv S).length=48:=by simp[qAv,hS]
 have h1:=Blk.setCells (qAv S) 0 _ _ hb (by simp[qAv,hS,qBf]);have e:over (qAv qAw) 0 (qAv S)=qAv S:=by
  unfold over;rw[hl,List.drop_eq_nil_of_le (by simp[qAv,qBf])];simp
 rw[e]at h1;exact run_loadVar_mid _ rb 0 235 (qAv S) _ (λj v hv=>by rw[Nat.zero_add];exact h1.cell hv) Tryz.underlying235 rfl (by rw[zGq,hl])
def qBb(c:Cfg)(o:Pa.Pn)(cl:List Pa.Pn)(t:Int): List Pa.Pn:=cl.drop (qEh c cl t)++(if t<qF6 c o/\o.cs≠qAw then[o] else[])
theorem qXq{a:List Int}{p:Pa.Pn}(h:a.length=48)(hp:p.cs=qAw): qLc a p=a:=by
 unfold qLc;rw[hp];unfold qAw;rw[<-h];clear h hp
 induction a with
 | nil=>rfl
 | cons x a ih=>simp only[List.length_cons,List.replicate_succ,List.zipWith_cons_cons,ih,Int.add_zero]
theorem qXd(c:Cfg)(o:Pa.Pn)(cl:List Pa.Pn)(t:Int): qVq (qBb c o cl t)=qEu c o cl t:=by
 unfold qBb qEu
 by_cases h1:t<qF6 c o
 ·rw[if_pos h1]
  by_cases h2:o.cs=qAw
  ·rw[if_neg (by simp[h2]),List.append_nil,qXq (qFl _) h2]
  ·rw[if_pos ⟨h1,h2⟩,qS4]
 ·rw[if_neg h1,if_neg (by simp[h1]),List.append_nil]
theorem zAh{w w':World}{base:Nat}{t size:Nat}{v:Value}{n:Nat}{xs:List Value}(h:w.ownsRow base t size v n xs)(hk:Keeps (λ_=>False) w w'): w'.ownsRow base t size v n xs:=by
 refine⟨h.1,?_⟩;rcases h.2 with h2 | ⟨g,cap,cur,rfl,hb,hg,r⟩
 ·exact .inl h2
 ·exact .inr ⟨g,cap,cur,rfl,hb,by rw[hk.block g (Array.getElem?_eq_some_iff.1 hg).1 (λh=>h)];exact hg,r⟩
attribute [local go_sem ↓] Pa.execOp_bsP
attribute [local go_sem] Pa.run_bsP
theorem qS3(d q:Nat)(og:Option Nat)(c:Cfg)(o:Pa.Pn)(cl:List Pa.Pn)(t:Int)(w:World)(h:ORep w d q og c o cl)(hc:c.paned)(hl:cl.length<=1000)(hp:∀p∈cl,OkP c p)(ho:OkP c o):
  Calls Tryz.prog 209 #[.pointer (some ⟨d,0,none⟩),.int .i64 t] w λe w'=>∃v,e=.returned v/\w'.ownsRow w.heap.size 237 49 v (qBb c o cl t).length (Pa.flatP (qBb c o cl t))/\Keeps (λ_=>False) w w':=by
 have c69:w.cell? ⟨d,69,none⟩=some (.pointer (some ⟨q,0,none⟩)):=h.blk.cell (qL5 c o q);have HT:=hide h;have HC:=hide hc;have HO:=hide ho;have HPA:=hide (qLa d q og c cl t w h.row (by omega) (h.blk.cell (qB2 c o q 5 (by omega))) (h.blk.cell (qB2 c o q 9 (by omega))) hc hp);have HPO:=hide (show qBb c o cl t=cl.drop (qEh c cl t)++(if t<qF6 c o/\o.cs≠qAw then[o] else[]) from rfl);have hpn:=qWl c cl t;obtain⟨i0,hi0,hz0,hz1,hz2⟩:=info_parts Pa.infoBk;generalize qEh c cl t=pn at *;clear hc hp ho h;go_enter Tryz.func209,Tryz.ntmps209
 go_wp2_with fail
 refine(uh HPA).mono ?_;rintro e W1 ⟨rfl,hk1⟩;have HK1:=hide hk1;clear hk1 HPA c69;generalize hrb:w.heap.size=rb at *;have HRB:=hide hrb;clear hrb;generalize hn:cl.length=n at *;have HN:=hide hn;clear hn;go_wp2_with fail
 go_loopw [5,6] (λv i wr=>∃k:Nat,i=.int .i64 k/\pn<=k/\k<=n/\Hid (wr.ownsRow rb 237 49 v (k-pn) (Pa.flatP ((cl.drop pn).take (k-pn))))/\Hid (Keeps (λ_=>False) w wr)) (λ_ i _=>n-(intOf i).toNat)
 case atStart=>exact⟨pn,rfl,Nat.le_refl _,hpn,by show World.ownsRow _ _ _ _ _ _ _;rw[Nat.sub_self];exact World.ownsRow_nil _ _ _ _,HK1⟩
 case round =>
  obtain⟨k,rfl,hk1,hk2,HBr,HKr⟩:=hrel;generalize u5=v at *;have hk0:(0:Int)<=(k:Int):=by omega
  have HTr:=hide ((uh HT).still (uh HKr));have c69:wr.cell? ⟨d,69,none⟩=some (.pointer (some ⟨q,0,none⟩)):=(uh HTr).blk.cell (qL5 c o q);have HLN:=hide (Pa.rowLen_any d q og cl wr (uh HTr).row);rw[uh HN]at HLN
  by_cases hlk:k<n
  ·have hd:decide ((k:Int)<(n:Int))=true:=by simp;omega
   go_wp2_with fail
   refine(uh HLN).mono ?_;rintro e w' ⟨rfl,hw⟩;rw[hw];clear hw;have hkl:k<cl.length:=by rw[uh HN];exact hlk
   have HAT:=hide (qXn d q og cl k wr (uh HTr).row hkl);have HD:=hide (Pa.pnAt_drop cl k hkl);clear hkl;generalize Pa.pnAt cl k=x at *;go_wp2_with fail
   refine(uh HAT).mono ?_;rintro e Wa ⟨rfl,hka⟩;have HBa:=hide (zAh (uh HBr) hka);have HKa:=hide ((uh HKr).then hka)
   have HNX:=hide (show(cl.drop pn).take (k+1-pn)=(cl.drop pn).take (k-pn)++[x] by
      have hlen:k-pn<(cl.drop pn).length:=by rw[List.length_drop,uh HN];omega
      rw[show k+1-pn=(k-pn)+1 by omega,List.take_succ_eq_append_getElem hlen]
      congr 2
      have h1:=uh HD;have h2:cl.drop k=(cl.drop pn).drop (k-pn):=by rw[List.drop_drop];congr 1;omega
      rw[h2,List.drop_eq_getElem_cons hlen]at h1
      exact(List.cons.inj h1).1)
   have hsz:rb<=Wa.heap.size:=by have:=(uh HKa).size;have:=uh HRB;omega
   clear hka;generalize hm:k-pn=m at *;have HM:=hide hm;clear hm;have hm1:m<=1000:=by have:=uh HM;omega
   go_wp2_with (at_builtin;refine wpList_append_lies _ rfl _ _ _ rfl rb 237 i0 _ 49 392 Tryz.underlying246 hi0 hz0 hz1 hz2 rfl (by omega) v m (Pa.flatP ((cl.drop pn).take m)) rfl ((uh HBa).alloc _) ⟨Wa.heap.size,0,none⟩ 1 1 x.cells rfl (by rw[x.cells_length]) (World.news_of_block (cs:=x.cells.toArray) (t:=237) (fr:=(0,0)) (heap_alloc_new Wa _)) x.one (by omega) (by unfold maxLen;omega) (by omega) (by simp;omega) (Wa.heap.size+1) (by simp) ?_;intro gg cap' w3 hown3 hgrow hat hl3)
   go_roundw
   case rel =>
    refine⟨k+1,by go_num,by omega,by omega,?_,((uh HKa).alloc _).grown hgrow (λj hj=>Or.inr (by have:=((uh HBa).lt j hj).1;have:=uh HRB;omega))⟩;show World.ownsRow _ _ _ _ _ _ _;rw[uh HNX,Pa.flatP_append,show k+1-pn=m+1 by have:=uh HM;omega];have e1:Pa.flatP [x]=x.cells:=by simp[Pa.flatP]
    rw[e1];exact hown3
   case measure=>simp[intOf];omega
  ·have hkn:k=n:=by omega
   subst hkn;have htk:(cl.drop pn).take (k-pn)=cl.drop pn:=List.take_of_length_le (by rw[List.length_drop,uh HN];omega);rw[htk]at HBr;have HLD:=hide (show(cl.drop pn).length=k-pn by rw[List.length_drop,uh HN]);go_wp2_with fail
   refine(uh HLN).mono ?_;rintro e w' ⟨rfl,hw⟩;rw[hw];clear hw;have hr1:=qAq (qFz (uh HTr).blk);rw[o.cells_length]at hr1;have hv1:qAu wr d 20 49=.agg o.cells.toArray:=by unfold qAu;rw[hr1.1]
   have hh1:=hr1.2;clear hr1;have HLT:=hide (qK5 d c o wr ((uh HTr).blk.cell (qB2 c o q 5 (by omega))) ((uh HTr).blk.cell (qB2 c o q 9 (by omega))) (uh HC) (uh HO));go_wp2_with fail
   refine(uh HLT).mono ?_;rintro e Wl ⟨rfl,hkl⟩;have HTl:=hide ((uh HTr).still hkl);have HBl:=hide (zAh (uh HBr) hkl);have HKl:=hide ((uh HKr).then hkl);clear hkl hv1 hh1 HLT c69;have hr1:=qAq (qFz (uh HTl).blk);rw[o.cells_length]at hr1;have hv1:qAu Wl d 20 49=.agg o.cells.toArray:=by unfold qAu;rw[hr1.1]
   have hh1:=hr1.2;clear hr1;generalize qF6 c o=lt at *
   by_cases ht:t<lt
   ·have ht':decide (t<lt)=true:=by simpa using ht
    have HEM:=hide (qSh o Wl);unfold Pa.Pn.val at HEM;go_wp2_with fail
    refine(uh HEM).mono ?_;rintro e Wm ⟨rfl,hkm⟩;have HTm:=hide ((uh HTl).still hkm);have HBm:=hide (zAh (uh HBl) hkm);have HKm:=hide ((uh HKl).then hkm);clear hkm hv1 hh1 HEM
    by_cases hz:o.cs=qAw
    ·rw[if_neg (by simp[hz])]at HPO
     have hd:decide (o.cs=qAw)=true:=by simpa using hz
     rw[hd];clear hz hd;go_wp2
     go_ret
     refine⟨v,rfl,?_,uh HKm⟩;rw[uh HPO,List.append_nil,uh HLD,uh HRB];exact uh HBm
    ·rw[if_pos ⟨ht,hz⟩]at HPO
     have hd:decide (o.cs=qAw)=false:=by simpa using hz
     rw[hd];clear hz hd;have hr1:=qAq (qFz (uh HTm).blk);rw[o.cells_length]at hr1;have hv1:qAu Wm d 20 49=.agg o.cells.toArray:=by unfold qAu;rw[hr1.1]
     have hh1:=hr1.2;clear hr1;have hsz:rb<=Wm.heap.size:=by have:=(uh HKm).size;have:=uh HRB;omega
     generalize hm:k-pn=m at *;have hm1:m<=1000:=by omega
     have HM:=hide hm;clear hm;go_wp2_with (at_builtin;refine wpList_append_lies _ rfl _ _ _ rfl rb 237 i0 _ 49 392 Tryz.underlying246 hi0 hz0 hz1 hz2 rfl (by omega) v m (Pa.flatP (cl.drop pn)) rfl ((uh HBm).alloc _) ⟨Wm.heap.size,0,none⟩ 1 1 o.cells rfl (by rw[o.cells_length]) (World.news_of_block (cs:=o.cells.toArray) (t:=237) (fr:=(0,0)) (heap_alloc_new Wm _)) o.one (by omega) (by unfold maxLen;omega) (by omega) (by simp;omega) (Wm.heap.size+1) (by simp) ?_;intro gg cap' w3 hown3 hgrow hat hl3)
     go_ret
     refine⟨_,rfl,?_,((uh HKm).alloc _).grown hgrow (λj hj=>Or.inr (by have:=((uh HBm).lt j hj).1;have:=uh HRB;omega))⟩;rw[uh HPO,Pa.flatP_append,List.length_append,uh HLD,uh HRB];have e1:Pa.flatP [o]=o.cells:=by simp[Pa.flatP]
     rw[e1];exact hown3
   ·have ht':decide (t<lt)=false:=by simpa using ht
    rw[if_neg (by simp[ht])]at HPO;go_wp2
    go_ret
    refine⟨v,rfl,?_,uh HKl⟩;rw[uh HPO,List.append_nil,uh HLD,uh HRB];exact uh HBl
end
section
open Go.RowKit
theorem qNb{P:Program}{w:World}(base:Nat)(t ty e:TypeId)(i:TypeInfo)(size:Nat)(ht:P.underlying t=some (.slice e))(hi:P.info? e=some i)(v:Value)(n:Nat)(xs:List Value)(hown:w.ownsRow base e size v n xs)(ad:Option Addr)(c:Nat):
  (Builtin.append_ #[t,t] ty #[v,.slice ad 0 c]).run P w=.ok v w:=by
 rcases hown.2 with ⟨rfl,rfl⟩ | ⟨g,cap,cur,rfl,_,_,hnc,_⟩
 ·cases ad <;> simp[Builtin.append_,run_underlying ht,sizeOf,typeInfo,hi,Builtin.lenOf,Builtin.firstCells,loadCells,loadCellsFrom]
 ·cases ad <;> simp[Builtin.append_,run_underlying ht,sizeOf,typeInfo,hi,Builtin.lenOf,Builtin.firstCells,hnc,storeCells,loadCells,loadCellsFrom]
theorem qEl{P:Program}{w:World}{ops:Array Oper}{rest:List Oper}{o:Oper}{a:Act}{Q:Exit->Act->World->Prop}(hgd:o.guard=none)(s x:Operand)(t:TypeId)(ho:o.op=.call { callee:=.builtin .append,args:=#[s,x],argTypes:=#[t,t] })(base:Nat)(e:TypeId)(i:TypeInfo)(size:Nat)(ht:P.underlying t=some (.slice e))(hi:P.info? e=some i)(v:Value)(n:Nat)(xs:List Value)(hs:a.eval s=v)(hown:w.ownsRow base e size v n xs)(ad:Option Addr)(c:Nat)(hx:a.eval x=.slice ad 0 c)(h:wpList P ops Q rest (a.put o.dst v) w): wpList P ops Q (o::rest) a w:=by
 refine wpList_plain hgd λK hK=>?_
 have hrun:=qNb (P:=P) (w:=w) base t o.type e i size ht hi v n xs hown ad c;unfold Oper.wp;simp[execOp,ho,resolve,invoke,builtin,hs,hx,hrun,Result.andThen];exact hK _ _ h
end
end Go.Proofs.YtahnliehdjncdabGreatDoor
