import Derived.Test.YtahnliehdjncdabGreatDoorXBA
import Derived.Test.YtahnliehdjncdabGreatDoorXAV
import Derived.Test.YtahnliehdjncdabGreatDoorXAW
set_option maxRecDepth 100000
set_option maxHeartbeats 16000000
namespace Go.Proofs.YtahnliehdjncdabGreatDoor
section
open Go.RowKit
attribute [local go_sem ↓] qAd qAe
attribute [local go_sem] qAf qAl qAc qAb qAm qAn qAi qAj qAh qAk ix0 ix1 ix2 ix3 ix4 ix5 ix6
theorem qIl(k:Nat)(c:Cfg)(p3:qA1 k c<=3): (qBt k c).length<=14:=by
 have h1:(qBz k).length<=4:=by unfold qBz;split <;> simp
 have h2:(qBq (qA1 k c).toNat).length<=6:=by simp[qBq];omega
 simp[qBt];omega
theorem qVt(sb:SB)(x:Ser)(clock:Int)(b:Nat)(v:Value)(bs:List Nat)(w:World)(hs:SRep w sb x)(hi:SerOk x)(hw:WRep w b v bs)(hf:∀i,qCc b v i->¬sb.foot x.k i)(c0:0<=clock)(c1:clock<=4611686018427387904)(hbl:bs.length+10*x.nt.bs.length<=140737479000000):
  Calls Tryz.prog 59 #[.pointer (some ⟨sb.s,0,none⟩),.pointer (some ⟨b,0,none⟩),.int .i64 clock] w λe w'=>e=.returned (.tuple #[])/\Wrote w b v (bs++qBv (qC2 clock x)) w':=by
 have HS:=hide (show ∀w',Keeps (qCc b v) w w'->SRep w' sb x from λw' hk=>hs.keeps hk (λi hi' hm=>hf i hm hi'));have HF:=hide hf;have HI:=hide hi;have HLS:=hide (show ∀i,sb.foot x.k i->i<w.heap.size from hs.lt);have HW:=hide (Wrote.refl hw);have d0:w.cell? ⟨sb.s,0,none⟩=some (.int .i64 x.id):=hs.blk.cell rfl;obtain⟨i0,i1⟩:=hi.id0;clear hs hi hw hf;go_enter Tryz.func59,Tryz.ntmps59
 go_wp2_with fail
 refine(qB5 b v bs x.id w w (uh HW) i0 i1 (by omega)).mono ?_;rintro e w1 ⟨rfl,hw1⟩;have HO1:=hide hw1;clear hw1 d0;obtain⟨hv1,hh1⟩:=qBh (uh HS w1 (uh HO1).kp).blk 1 20 x.c.cells rfl rfl;go_wp2_with fail
 have HCL:=hide (qIl x.k x.c (uh HI).p3);obtain⟨v1,a1,a2,a3⟩:=uh HO1;refine(qNo b v1 (bs++enc x.id) x.c x.k w1 a1 (uh HI).kind (uh HI).k1 (uh HI).k5 (uh HI).p0 (uh HI).p3 (uh HI).cfg (by have:=qBs x.id;rw[List.length_append];omega)).mono ?_;rintro e w2 ⟨rfl,hw2⟩;have HO2:=hide (Wrote.then a2 a3 hw2);clear hw2 a1 a2 a3 v1 hv1 hh1 HO1;go_wp2_with fail
 refine(qQz w2).mono ?_;rintro e w3 ⟨rfl,hk3⟩;have HO3:=hide ((uh HO2).still hk3);clear hk3 HO2;have hl1:(bs++enc x.id++qBv (qBt x.k x.c)).length+10*x.nt.bs.length<=140737479000150:=by
  have h1:=qBs x.id;have h2:=qA0 (qBt x.k x.c);have h3:=uh HCL;rw[List.length_append,List.length_append];omega
 obtain⟨b1,hb1⟩:∃b1,bs++enc x.id++qBv (qBt x.k x.c)=b1:=⟨_,rfl⟩;rw[hb1]at HO3 hl1;have HB1:=hide hb1;clear hb1;go_wp2_with fail
 go_loopw [23] (λi wr=>∃k:Nat,k<=7/\i=.int .i64 k/\Hid (Wrote w b v (b1++qBv ((qCp.map (qAx x.ref)).take k)) wr)) (λi _=>7-(intOf i).toNat)
 case atStart=>exact⟨0,by omega,rfl,by show Wrote _ _ _ _ _;rw[List.take_zero,qB7,List.append_nil];exact uh HO3⟩
 case round =>
  obtain⟨k,hk,rfl,HOr⟩:=hrel
  by_cases hlt7:k<7
  ·have hk7:k=0\/k=1\/k=2\/k=3\/k=4\/k=5\/k=6:=by omega
   rcases hk7 with hk7 | hk7 | hk7 | hk7 | hk7 | hk7 | hk7
   all_goals subst hk7
   ·have hc:wr.cell? ⟨sb.s,40,none⟩=some (.int .i64 (qAx x.ref 5)):=(uh HS wr (uh HOr).kp).blk.cell (qDv sb x (uh HI).refl 5 (by omega))
    obtain⟨n0,n1⟩:=qGp (uh HI).ref 5;have HTK:=hide (qFc (qAx x.ref) 0 5 rfl);go_wp2_with fail
    refine(qB5 b v _ (qAx x.ref 5) w wr (uh HOr) n0 n1 (by have h1:=qA0 ((qCp.map (qAx x.ref)).take 0);have h2:((qCp.map (qAx x.ref)).take 0).length<=7:=(by rw[List.length_take];omega);rw[List.length_append];omega)).mono ?_;rintro e w4 ⟨rfl,hw4⟩;have HO4:=hide hw4;clear hw4 hc;go_wp2
    go_roundw
    case rel =>
     refine⟨1,by omega,rfl,?_⟩;show Wrote _ _ _ _ _;have:=uh HO4;rw[uh HTK,qAo,qC3,<-List.append_assoc];exact this
    case measure=>simp[intOf]
   ·have hc:wr.cell? ⟨sb.s,41,none⟩=some (.int .i64 (qAx x.ref 6)):=(uh HS wr (uh HOr).kp).blk.cell (qDv sb x (uh HI).refl 6 (by omega))
    obtain⟨n0,n1⟩:=qGp (uh HI).ref 6;have HTK:=hide (qFc (qAx x.ref) 1 6 rfl);go_wp2_with fail
    refine(qB5 b v _ (qAx x.ref 6) w wr (uh HOr) n0 n1 (by have h1:=qA0 ((qCp.map (qAx x.ref)).take 1);have h2:((qCp.map (qAx x.ref)).take 1).length<=7:=(by rw[List.length_take];omega);rw[List.length_append];omega)).mono ?_;rintro e w4 ⟨rfl,hw4⟩;have HO4:=hide hw4;clear hw4 hc;go_wp2
    go_roundw
    case rel =>
     refine⟨2,by omega,rfl,?_⟩;show Wrote _ _ _ _ _;have:=uh HO4;rw[uh HTK,qAo,qC3,<-List.append_assoc];exact this
    case measure=>simp[intOf]
   ·have hc:wr.cell? ⟨sb.s,42,none⟩=some (.int .i64 (qAx x.ref 7)):=(uh HS wr (uh HOr).kp).blk.cell (qDv sb x (uh HI).refl 7 (by omega))
    obtain⟨n0,n1⟩:=qGp (uh HI).ref 7;have HTK:=hide (qFc (qAx x.ref) 2 7 rfl);go_wp2_with fail
    refine(qB5 b v _ (qAx x.ref 7) w wr (uh HOr) n0 n1 (by have h1:=qA0 ((qCp.map (qAx x.ref)).take 2);have h2:((qCp.map (qAx x.ref)).take 2).length<=7:=(by rw[List.length_take];omega);rw[List.length_append];omega)).mono ?_;rintro e w4 ⟨rfl,hw4⟩;have HO4:=hide hw4;clear hw4 hc;go_wp2
    go_roundw
    case rel =>
     refine⟨3,by omega,rfl,?_⟩;show Wrote _ _ _ _ _;have:=uh HO4;rw[uh HTK,qAo,qC3,<-List.append_assoc];exact this
    case measure=>simp[intOf]
   ·have hc:wr.cell? ⟨sb.s,43,none⟩=some (.int .i64 (qAx x.ref 8)):=(uh HS wr (uh HOr).kp).blk.cell (qDv sb x (uh HI).refl 8 (by omega))
    obtain⟨n0,n1⟩:=qGp (uh HI).ref 8;have HTK:=hide (qFc (qAx x.ref) 3 8 rfl);go_wp2_with fail
    refine(qB5 b v _ (qAx x.ref 8) w wr (uh HOr) n0 n1 (by have h1:=qA0 ((qCp.map (qAx x.ref)).take 3);have h2:((qCp.map (qAx x.ref)).take 3).length<=7:=(by rw[List.length_take];omega);rw[List.length_append];omega)).mono ?_;rintro e w4 ⟨rfl,hw4⟩;have HO4:=hide hw4;clear hw4 hc;go_wp2
    go_roundw
    case rel =>
     refine⟨4,by omega,rfl,?_⟩;show Wrote _ _ _ _ _;have:=uh HO4;rw[uh HTK,qAo,qC3,<-List.append_assoc];exact this
    case measure=>simp[intOf]
   ·have hc:wr.cell? ⟨sb.s,45,none⟩=some (.int .i64 (qAx x.ref 10)):=(uh HS wr (uh HOr).kp).blk.cell (qDv sb x (uh HI).refl 10 (by omega))
    obtain⟨n0,n1⟩:=qGp (uh HI).ref 10;have HTK:=hide (qFc (qAx x.ref) 4 10 rfl);go_wp2_with fail
    refine(qB5 b v _ (qAx x.ref 10) w wr (uh HOr) n0 n1 (by have h1:=qA0 ((qCp.map (qAx x.ref)).take 4);have h2:((qCp.map (qAx x.ref)).take 4).length<=7:=(by rw[List.length_take];omega);rw[List.length_append];omega)).mono ?_;rintro e w4 ⟨rfl,hw4⟩;have HO4:=hide hw4;clear hw4 hc;go_wp2
    go_roundw
    case rel =>
     refine⟨5,by omega,rfl,?_⟩;show Wrote _ _ _ _ _;have:=uh HO4;rw[uh HTK,qAo,qC3,<-List.append_assoc];exact this
    case measure=>simp[intOf]
   ·have hc:wr.cell? ⟨sb.s,44,none⟩=some (.int .i64 (qAx x.ref 9)):=(uh HS wr (uh HOr).kp).blk.cell (qDv sb x (uh HI).refl 9 (by omega))
    obtain⟨n0,n1⟩:=qGp (uh HI).ref 9;have HTK:=hide (qFc (qAx x.ref) 5 9 rfl);go_wp2_with fail
    refine(qB5 b v _ (qAx x.ref 9) w wr (uh HOr) n0 n1 (by have h1:=qA0 ((qCp.map (qAx x.ref)).take 5);have h2:((qCp.map (qAx x.ref)).take 5).length<=7:=(by rw[List.length_take];omega);rw[List.length_append];omega)).mono ?_;rintro e w4 ⟨rfl,hw4⟩;have HO4:=hide hw4;clear hw4 hc;go_wp2
    go_roundw
    case rel =>
     refine⟨6,by omega,rfl,?_⟩;show Wrote _ _ _ _ _;have:=uh HO4;rw[uh HTK,qAo,qC3,<-List.append_assoc];exact this
    case measure=>simp[intOf]
   ·have hc:wr.cell? ⟨sb.s,46,none⟩=some (.int .i64 (qAx x.ref 11)):=(uh HS wr (uh HOr).kp).blk.cell (qDv sb x (uh HI).refl 11 (by omega))
    obtain⟨n0,n1⟩:=qGp (uh HI).ref 11;have HTK:=hide (qFc (qAx x.ref) 6 11 rfl);go_wp2_with fail
    refine(qB5 b v _ (qAx x.ref 11) w wr (uh HOr) n0 n1 (by have h1:=qA0 ((qCp.map (qAx x.ref)).take 6);have h2:((qCp.map (qAx x.ref)).take 6).length<=7:=(by rw[List.length_take];omega);rw[List.length_append];omega)).mono ?_;rintro e w4 ⟨rfl,hw4⟩;have HO4:=hide hw4;clear hw4 hc;go_wp2
    go_roundw
    case rel =>
     refine⟨7,by omega,rfl,?_⟩;show Wrote _ _ _ _ _;have:=uh HO4;rw[uh HTK,qAo,qC3,<-List.append_assoc];exact this
    case measure=>simp[intOf]
  ·have hk7:k=7:=by omega
   subst hk7;have htk:(qCp.map (qAx x.ref)).take 7=qCp.map (qAx x.ref):=rfl;rw[htk]at HOr;have hl2:(b1++qBv (qCp.map (qAx x.ref))).length+10*x.nt.bs.length<=140737479000250:=by
    have h2:=qA0 (qCp.map (qAx x.ref));have h3:(qCp.map (qAx x.ref)).length=7:=rfl;rw[List.length_append];omega
   obtain⟨b2,hb2⟩:∃b2,b1++qBv (qCp.map (qAx x.ref))=b2:=⟨_,rfl⟩;rw[hb2]at HOr hl2;have HB2:=hide hb2;clear hb2 htk;have d34:wr.cell? ⟨sb.s,34,none⟩=some (.int .i64 x.rel):=(uh HS wr (uh HOr).kp).blk.cell rfl;obtain⟨r0,r1⟩:=(uh HI).rel;go_wp2_with fail
   refine(qB5 b v b2 x.rel w wr (uh HOr) r0 r1 (by omega)).mono ?_;rintro e w4 ⟨rfl,hw4⟩;have HO4:=hide hw4;clear hw4 d34 HOr;have HS4:=hide (uh HS w4 (uh HO4).kp);have d32:w4.cell? ⟨sb.s,32,none⟩=some (.pointer (some ⟨sb.q,0,none⟩)):=(uh HS4).blk.cell rfl;have HLen:=hide (len_any sb.q sb.g x.l w4 (uh HS4).que);have hl8:=(uh HI).len;have HQA:=hide (show ∀w',Keeps (qCc b v) w w'->_ from λw' hk'=>zEi sb.q sb.g x.l w' (uh HS w' hk').que (by omega));have HBN:=hide (uh HI).buf;have HNUM:=hide (show qC2 clock x=(x.id::(qBt x.k x.c++(qCp.map (qAx x.ref)++[x.rel,(x.l.length:Int)])))++(qG2 x.k (Qi.allL (x.l.length+1) x.l)++qG4 x.k x.c x.nt (clock-x.c.lag)) from rfl);generalize Qi.allL (x.l.length+1) x.l=R at *;generalize x.l.length=n at *;go_wp2_with fail
   refine(uh HLen).mono ?_;rintro e w5 ⟨rfl,hw5⟩;rw[hw5];clear hw5 w5 HLen;go_wp2_with fail
   refine(qB5 b v _ n w w4 (uh HO4) (by omega) (by omega) (by have:=qBs x.rel;rw[List.length_append];omega)).mono ?_;rintro e w5 ⟨rfl,hw5⟩;have HO5:=hide hw5;clear hw5 d32 HS4 HO4;have d32:w5.cell? ⟨sb.s,32,none⟩=some (.pointer (some ⟨sb.q,0,none⟩)):=(uh HS w5 (uh HO5).kp).blk.cell rfl;go_wp2_with fail
   obtain⟨v6,q1,q2,q3⟩:=uh HO5;have HNF:=hide (show ∀i,sb.foot x.k i->¬qCc b v6 i from λi hi=>qFd (λh=>uh HF i h hi) q2 (uh HLS i hi));have HQ2:=hide q2;have HQ3:=hide q3;have HLT:=hide q1.lt;refine(uh HQA w5 (uh HO5).kp).mono ?_;rintro e w6 ⟨g,cp,rfl,hg,hr6,hlen,hk6⟩;have HS6:=hide (show ∀w',Keeps (qCc b v6) w6 w'->SRep w' sb x from λw' hk'=>((uh HS w5 (uh HO5).kp).still hk6).keeps hk' (uh HNF));have HG:=hide (show ¬qCc b v6 g from λh=>by have:=uh HLT g h;omega);have HR6:=hide hr6;have HLN:=hide hlen;have HW6:=hide (Wrote.refl (q1.still hk6));have HK6:=hide hk6;have hl3:(b2++enc x.rel++enc (n:Int)).length+10*x.nt.bs.length<=140737479000300:=by
    have h1:=qBs x.rel;have h2:=qBs (n:Int);rw[List.length_append,List.length_append];omega
   obtain⟨b3,hb3⟩:∃b3,b2++enc x.rel++enc (n:Int)=b3:=⟨_,rfl⟩;rw[hb3]at HW6 hl3;have HB3:=hide hb3;clear hb3 hk6 hr6 hlen q1 q2 q3 hg HO5 HQA d32 HLT;go_wp2_with fail
   go_loopw [54] (λi wr=>∃k:Nat,i=.int .i64 k/\k<=n/\Hid (Wrote w6 b v6 (b3++qBv (qG2 x.k (R.take k))) wr)) (λi _=>n-(intOf i).toNat)
   case atStart=>exact⟨0,rfl,Nat.zero_le _,by show Wrote _ _ _ _ _;simp only[List.take_zero,qG2,List.flatMap_nil,qB7,List.append_nil];exact uh HW6⟩
   case round =>
    obtain⟨k,rfl,hk2,HOr⟩:=hrel;have hk0:(0:Int)<=(k:Int):=by omega
    have HSr:=hide (uh HS6 wr (uh HOr).kp);have hlb:(b3++qBv (qG2 x.k (R.take k))).length+10*x.nt.bs.length<=140737479000620:=by
     have h1:=qA0 (qG2 x.k (R.take k));have h2:=qMe x.k (R.take k);rw[List.length_take,uh HLN]at h2;rw[List.length_append];omega
    by_cases hlk:k<n
    ·obtain⟨v',hwr,hvr,hkr⟩:=uh HOr
     have hkn:k<R.length:=by rw[uh HLN];exact hlk
     obtain⟨x0,x1,x2,x3⟩:=((uh HR6).keeps hkr (uh HG)).cells k hkn;have HTK:=hide (qR4 x.k R k hkn)
     have HNX:=hide (show ∀n,n∈qKe x.k (itAt R k)->0<=n/\n<=9223372036854775807 from λn hn=>uh HBN n (by
          have e:qG2 x.k (R.take (k+1)++R.drop (k+1))=qG2 x.k R:=by rw[List.take_append_drop]
          rw[<-e,qNe,qR4 x.k R k hkn];simp only[List.mem_append]
          exact .inl (.inr hn)))
     have HLT2:=hide hwr.lt;have HWr:=hide hwr;have HVr:=hide hvr;have HKr:=hide hkr;have hkE:(k:Int)<(n:Int):=by omega
     generalize itAt R k=y at *;clear hwr hvr hkr;obtain⟨wa,hwa⟩:∃wa,wa=wr.alloc (.cells #[.int .i64 y.t,.int .i64 y.k,.int .i64 y.d,.int .i64 y.n] 88):=⟨_,rfl⟩;have HBa:=hide (show Blk wa wr.heap.size [.int .i64 y.t,.int .i64 y.k,.int .i64 y.d,.int .i64 y.n] 88 by rw[hwa];exact Blk.new wr _ _);have HKa:=hide (show Keeps (λ_=>False) wr wa by rw[hwa];exact(Keeps.refl _ _).alloc _);have HWa:=hide ((uh HWr).still (uh HKa));have HNF1:=hide (show ¬qCc b v' wr.heap.size from λhf=>by have:=uh HLT2 _ hf;omega);obtain⟨n0,n1⟩:=uh HNX y.n (by simp[qKe]);have hc3:wa.cell? ⟨wr.heap.size,3,none⟩=some (.int .i64 y.n):=(uh HBa).cell rfl;have HEQ:=hide hwa.symm;have HSa:=hide (show ∀w',Keeps (qCc b v') wa w'->w'.cell? ⟨sb.s,25,none⟩=some (.func (.func (qA6 x.k)) #[] #[]) from λw' hk'=>hk'.cell (((uh HSr).still (uh HKa)).blk.cell rfl) (qFd (uh HNF sb.s (.inl rfl)) (uh HVr) (Nat.lt_of_lt_of_le (uh HLS sb.s (.inl rfl)) (Nat.le_trans (uh HQ3).size (uh HK6).size))));clear hwa;go_wp2_with fail
     rw[uh HEQ];refine(qDs b v' _ y.n wa (uh HWa) n0 n1 (by omega)).mono ?_;rintro e w2' ⟨rfl,v2,hw2,hv2,hk2'⟩;have hlt2:wr.heap.size<wa.heap.size:=(uh HBa).lt;have HB2':=hide ((uh HBa).keeps hk2' (uh HNF1));have HNF2:=hide (qFd (uh HNF1) hv2 hlt2);have HW2':=hide hw2;have HV2:=hide hv2;have HK2:=hide hk2';have HL2:=hide hw2.lt;have d25:w2'.cell? ⟨sb.s,25,none⟩=some (.func (.func (qA6 x.k)) #[] #[]):=uh HSa w2' hk2';have hown:=qR8 x.k (uh HI).k1 (uh HI).k5;clear hw2 hv2 hk2' hc3 HBa;go_wp2_with fail
     refine(qRb x.k wr.heap.size w2' (uh HI).k1 (uh HI).k5).mono ?_;rintro e w3' ⟨pv,rfl,hown3,hk3⟩;obtain⟨pa,pcap,hpv,_⟩:=qCh hown3;subst hpv;have HW3:=hide ((uh HW2').still hk3);have HB3':=hide ((uh HB2').keeps hk3 (λh=>h));have HO3':=hide hown3;have HK3:=hide hk3;have HAL:=hide (show((qB9 x.k).map (λj=>[y.t,y.k,y.d].getD j 0)).length<=3 by rw[List.length_map];exact qNd x.k);clear hown3 hk3 hown d25;go_wp2_with fail
     refine(qFg b v2 _ _ w2'.heap.size wr.heap.size (qB9 x.k) ((qB9 x.k).map (λj=>[y.t,y.k,y.d].getD j 0)) w3' (uh HW3) (uh HO3') (qYs (uh HB3')) (uh HNF2) (λi hi h=>by have:=uh HL2 i h;omega) (λn hn=>uh HNX n (by unfold qKe;exact List.mem_cons_of_mem _ hn)) (by have:=qBs y.n;have:=uh HAL;rw[List.length_append];omega) (by have:=uh HAL;omega)).mono ?_;rintro e w4' ⟨rfl,hw4⟩
     have HF4:=hide (show Wrote w6 b v6 (b3++qBv (qG2 x.k (R.take (k+1)))) w4' by
        have hA:=Wrote.then (uh HVr) (uh HKr) (Wrote.pre (uh HKa) (Wrote.then (uh HV2) (uh HK2) (Wrote.pre (uh HK3) hw4)));rw[uh HTK,qAo];have e:qBv (qKe x.k y)=enc y.n++qBv ((qB9 x.k).map (λj=>[y.t,y.k,y.d].getD j 0)):=qAz _ _;rw[e];simp only[List.append_assoc]at hA ⊢
        exact hA)
     clear hw4;go_wp2
     go_roundw
     case rel=>exact⟨k+1,by go_num,by omega,HF4⟩
     case measure=>simp[intOf];omega
    ·have hkE:k=n:=by omega
     subst hkE;have htk:R.take k=R:=List.take_of_length_le (by rw[uh HLN];omega);rw[htk]at HOr hlb;have hcm:0<=x.c.lag/\x.c.lag<=100:=by
      have:=(uh HI).valid;simp only[qA5,qDm,inB,Bool.and_eq_true,decide_eq_true_eq]at this;omega
     obtain⟨l0,l1⟩:=hcm;have d30:wr.cell? ⟨sb.s,30,none⟩=some (.func (.func (zIf x.k)) (qJt sb.n.d) #[]):=(uh HSr).blk.cell rfl;have d2:wr.cell? ⟨sb.s,2,none⟩=some (.int .i64 x.c.lag):=(uh HSr).blk.cell rfl;have hown:=zGi x.k (uh HI).k1 (uh HI).k5;obtain⟨v7,p1,p2,p3⟩:=uh HOr;have HP1:=hide p1;have HP2:=hide p2;have HP3:=hide p3;have HNF7:=hide (show ∀i,sb.foot x.k i->¬qCc b v7 i from λi hi=>qFd (uh HNF i hi) p2 (Nat.lt_of_lt_of_le (uh HLS i hi) (Nat.le_trans (uh HQ3).size (uh HK6).size)));clear p1 p2 p3 HOr;go_wp2_with fail
     go_region_held3 (λw'=>w'.cell? ⟨sb.s,30,none⟩=some (.func (.func (zIf x.k)) (qJt sb.n.d) #[])/\w'.cell? ⟨sb.s,2,none⟩=some (.int .i64 x.c.lag))
      (first | (simp[*];done) | (go_split_ands;exact⟨hw1.kp.cell (by assumption) (uh HNF7 sb.s (.inl rfl)),hw1.kp.cell (by assumption) (uh HNF7 sb.s (.inl rfl))⟩))
      (first | (go_at_call 54;refine(qK8 sb.s x.c.lag clock _ (by go_keep) l0 l1 c0 c1).mono ?_;rintro e w' ⟨rfl,rfl⟩) | (refine(zHj x.k sb.n x.c x.nt b v7 _ (clock-x.c.lag) _ _ (by first | rfl | simp) (by exact(uh HSr).note.still (Keeps.refl _ _).drew) (by exact(uh HP1).still (Keeps.refl _ _).drew) (λi h hn=>uh HNF7 i (.inr (.inr (.inr hn))) h) (uh HI).note (uh HI).valid (uh HI).kind (uh HI).k1 (uh HI).k5 (by omega) (by omega) (by omega)).mono ?_;rintro e w1 ⟨rfl,hw1⟩))
     go_wp2
     go_end0
     refine⟨rfl,?_⟩;have h9:=Wrote.then (uh HQ2) (uh HQ3) (Wrote.pre (uh HK6) (Wrote.then (uh HP2) (uh HP3) (Wrote.pre ((Keeps.refl (λ_=>False) wr).drew) hw1)));rw[uh HNUM];rw[<-uh HB3,<-uh HB2,<-uh HB1]at h9;rw[qAo,qAo,qAz,qAo,qAo,qAz,qC3];simp only[List.append_assoc]at h9 ⊢;exact h9
end
section
open Go.RowKit
theorem Qi.allL_length: ∀(f:Nat) (l:List It),(Qi.allL f l).length<=l.length
 | 0,_=>Nat.zero_le _
 | f+1,l=>by
  unfold Qi.allL
  split
  ·simp
  ·have:=Qi.allL_length f (takeL l)
   rw[Qi.takeL_length]at this;rw[List.length_cons];omega
theorem Dr.allL_length: ∀(f:Nat) (l:List Dr.It),(Dr.allL f l).length<=l.length
 | 0,_=>Nat.zero_le _
 | f+1,l=>by
  unfold Dr.allL
  split
  ·simp
  ·have:=Dr.allL_length f (Dr.takeL l)
   rw[Dr.takeL_length]at this;rw[List.length_cons];omega
theorem qT5(l:List Bk)(f s:Nat)(h:s<=l.length): (qX6 l f s).length<=f+(l.length-s):=by
 induction f generalizing s with
 | zero=>simp[qX6]
 | succ f ih =>
  have he:=zB8 l (2 ^ f) s h;have:=ih (qMn l (2 ^ f) s) he.2;rw[qMa,List.length_cons,List.length_append,List.length_map,List.length_take,List.length_drop];omega
theorem qZa{l:List Bk}(hsz:∀x∈l,1<=x.sz/\x.sz<4611686018427387904): qE1 l<=62:=by
 unfold qE1
 split
 ·omega
 ·rename_i h0
  have hb:=hsz (qCf l 0) (qGk (by omega));have hs:=bitLen_spec (qCf l 0).sz.toNat;have h2:=hs.2 (by omega);rcases Nat.lt_or_ge (bitLen (qCf l 0).sz.toNat-1) 62 with h3 | h3
  ·omega
  ·have:=Nat.pow_le_pow_right (show 1<=2 by omega) h3
   have e:(2:Nat) ^ 62=4611686018427387904:=by decide
   omega
theorem qTl{k:Nat}{c:Cfg}{nt:Note}(h:SavOk k c nt)(hv:qA5 c=true)(hk:c.kind=k)(m:Int): (qG4 k c nt m).length<=nt.bs.length+50000:=by
 unfold qG4
 split
 ·simp
 ·split
  ·have h1:=qT5 nt.bs (qE1 nt.bs) 0 (Nat.zero_le _)
   have h2:=qZa h.bz;unfold zD0;rw[List.length_cons];omega
  ·split
   ·rename_i h2
    obtain⟨_,a2,a3,_⟩:=qCa hv hk h2;have h1:=qL0 nt.rg (qFx c) (m-c.window) h.rl;have h3:qFx c<=2 ^ 4:=Nat.pow_le_pow_right (n:=2) (by omega) (show c.bits.toNat<=4 by omega);omega
   ·split
    ·rename_i h3
     obtain⟨_,hrw,_⟩:=qBr hv hk h3;obtain⟨o1,_⟩:=h.oc h3;have h1:=qJ0 c (qBb c nt.op nt.cl (m-c.window)) (by have:=hrw.r1;omega) (by have:=hrw.w1;omega);have h2:(qBb c nt.op nt.cl (m-c.window)).length<=1001:=by
      unfold qBb;rw[List.length_append,List.length_drop]
      split <;> simp <;> omega
     unfold zFu;rw[List.length_cons];omega
    ·split
     ·rename_i h5
      have h1:=h.tl h5;have h2:=Dr.allL_length (nt.tk.length+1) nt.tk;rw[qL4];omega
     ·simp
theorem qN5{x:Ser}(h:SerOk x)(clock:Int): (qC2 clock x).length<=x.nt.bs.length+51000:=by
 have h1:=qTl h.note h.valid h.kind (clock-x.c.lag);have h2:=qMe x.k (Qi.allL (x.l.length+1) x.l);have h3:=Qi.allL_length (x.l.length+1) x.l;have h4:=h.len;have h5:=qIl x.k x.c h.p3;unfold qC2 qIv;rw[List.length_append,List.length_append,List.length_cons,List.length_append,List.length_append,List.length_map];have h6:qCp.length=7:=rfl;simp only[List.length_cons,List.length_nil];omega
def qD5(clock:Int)(xs:List Ser): List Int:=xs.flatMap (qC2 clock)
def qEj(clock:Int)(xs:List Ser): List Int:=clock::(xs.length:Int)::qD5 clock xs
def qKc(clock:Int)(xs:List Ser): List Nat:=qFi++qBv (qEj clock xs)
def qOc(clock:Int)(xs:List Ser): List Nat:=qKc clock xs++enc (qNc (qKc clock xs))
def qFp(clock:Int)(xs:List Ser): ByteArray:=qE3 (qOc clock xs)
theorem qRd(clock:Int)(a b:List Ser): qD5 clock (a++b)=qD5 clock a++qD5 clock b:=by simp[qD5]
theorem qRw(clock:Int)(xs:List Ser)(h:∀x,x∈xs->SerOk x): (qD5 clock xs).length<=1000000051000*xs.length:=by
 induction xs with
 | nil=>simp[qD5]
 | cons x l ih =>
  have h1:=qN5 (h x (by simp)) clock;have h2:=(h x (by simp)).note.bn;have h3:=ih (λy hy=>h y (by simp[hy]));have e:qD5 clock (x::l)=qC2 clock x++qD5 clock l:=by simp[qD5]
  rw[e,List.length_append,List.length_cons];omega
theorem ERep.keepsM{M:Nat->Prop}{w w':World}{e:Nat}{v:Value}{clock:Int}{ps:List (SB×Ser)}(h:ERep w e v clock ps)(hk:Keeps M w w')(hn:∀i,EFoot e v ps i->¬M i): ERep w' e v clock ps :=
 ⟨h.blk.keeps hk (hn e (.inl rfl)),qNn h.row hk (λi hi=>hn i (.inr (.inl hi))),λp hp=>(h.reps p hp).keeps hk (λi hi=>hn i (.inr (.inr ⟨p,hp,hi⟩))),h.apart,h.ev,h.ef⟩
theorem qSc(e:Nat)(v:Value)(clock:Int)(ps:List (SB×Ser))(w:World)(h:ERep w e v clock ps)(hok:∀x,x∈ps.map (·.2)->SerOk x)(six:ps.length<=6)(c0:0<=clock)(c1:clock<=4611686018427387904):
  Calls Tryz.prog 36 #[.pointer (some ⟨e,0,none⟩)] w λr w'=>r=.returned (.string (qFp clock (ps.map (·.2))))/\Keeps (λ_=>False) w w':=by
 have HE:=hide h;have HOK:=hide hok;have HLT:=hide (show ∀i,EFoot e v ps i->i<w.heap.size from h.lt);obtain⟨va,vcap,hv,hva⟩:=qCh h.row;have HV:=hide hv;have HVA:=hide hva;have HNEW:=hide (qQn w);clear h hok hv hva;obtain⟨n,hn⟩:∃n,ps.length=n:=⟨_,rfl⟩;have HN:=hide hn;rw[hn]at six;clear hn;go_enter Tryz.func36,Tryz.ntmps36
 go_wp2_with fail
 refine(uh HNEW).mono ?_;rintro r w1 ⟨b,u,rfl,hw1,hb1,hk1⟩;have HNF:=hide (show ∀i,EFoot e v ps i->¬qCc b u i from λi hi h=>by have h1:=uh HLT i hi;have h2:=hb1 i h;omega);have HE1:=hide (show ∀w',Keeps (qCc b u) w1 w'->ERep w' e v clock ps from λw' hk'=>((uh HE).still hk1).keepsM hk' (uh HNF));have HW1:=hide (Wrote.refl hw1);have HK1:=hide hk1;have HB1:=hide hb1;have hc0:w1.cell? ⟨e,0,none⟩=some (.int .i64 clock):=(uh HE1 w1 (Keeps.refl _ _)).blk.cell rfl;clear hw1 hb1 hk1 HNEW;go_wp2_with fail
 refine(qB5 b u qFi clock w1 w1 (uh HW1) c0 (by omega) (by decide)).mono ?_;rintro r w2 ⟨rfl,hw2⟩;have HO2:=hide hw2;clear hw2 hc0 HW1;have hc1:w2.cell? ⟨e,1,none⟩=some (.slice va n vcap):=by
  have:=(uh HE1 w2 (uh HO2).kp).blk.cell (i:=1) rfl;rw[this,uh HV,uh HN]
 have hf8:qFi.length=8:=rfl;go_wp2_with fail
 refine(qB5 b u _ n w1 w2 (uh HO2) (by omega) (by omega) (by have:=qBs clock;rw[List.length_append];omega)).mono ?_;rintro r w3 ⟨rfl,hw3⟩;have HO3:=hide hw3;clear hw3 hc1 HO2;have hc1:w3.cell? ⟨e,1,none⟩=some (.slice va n vcap):=by
  have:=(uh HE1 w3 (uh HO3).kp).blk.cell (i:=1) rfl;rw[this,uh HV,uh HN]
 have hl3:(qFi++enc clock++enc (n:Int)).length<=28:=by
  have h1:=qBs clock;have h2:=qBs (n:Int);rw[List.length_append,List.length_append];omega
 obtain⟨b0,hb0⟩:∃b0,qFi++enc clock++enc (n:Int)=b0:=⟨_,rfl⟩;rw[hb0]at HO3 hl3;have HB0:=hide hb0;clear hb0;go_wp2_with fail
 clear hc1;go_loopw [25] (λi wr=>∃k:Nat,i=.int .i64 k/\k<=n/\Hid (Wrote w1 b u (b0++qBv (qD5 clock ((ps.take k).map (·.2)))) wr)) (λi _=>n-(intOf i).toNat)
 case atStart=>exact⟨0,rfl,Nat.zero_le _,by show Wrote _ _ _ _ _;simp only[List.take_zero,List.map_nil,qD5,List.flatMap_nil,qB7,List.append_nil];exact uh HO3⟩
 case round =>
  obtain⟨k,rfl,hk,HOr⟩:=hrel;have hk0:(0:Int)<=(k:Int):=by omega
  have HLB:=hide (show(b0++qBv (qD5 clock ((ps.take k).map (·.2)))).length<=28+10*(1000000051000*k) by
     have h1:=qA0 (qD5 clock ((ps.take k).map (·.2)))
     have h2:=qRw clock ((ps.take k).map (·.2)) (λx hx=>uh HOK x (by
          obtain⟨p,hp,rfl⟩:=List.mem_map.1 hx
          exact List.mem_map_of_mem (List.mem_of_mem_take hp)))
     have h3:((ps.take k).map (·.2)).length=k:=by rw[List.length_map,List.length_take,uh HN];omega
     rw[h3]at h2
     rw[List.length_append];omega)
  by_cases hlk:k<n
  ·obtain⟨g,hg,_⟩:=uh HVA (by rw[uh HN];omega)
   subst hg;have hkp:k<ps.length:=by rw[uh HN];exact hlk
   obtain⟨p,hp⟩:∃p,ps[k]?=some p:=⟨_,List.getElem?_eq_getElem hkp⟩;have HEr:=hide (uh HE1 wr (uh HOr).kp);have hcg:wr.cell? ⟨g,k,none⟩=some (.pointer (some ⟨p.1.s,0,none⟩)):=by
    rcases qM9 (uh HEr).row with ⟨h0,_⟩ | ⟨g',cap',hv',hc⟩
    ·omega
    ·rw[uh HV]at hv'
     cases hv';exact hc k _ (by unfold ptrs;rw[List.getElem?_map,hp];rfl)
   have hce:wr.cell? ⟨e,0,none⟩=some (.int .i64 clock):=(uh HEr).blk.cell rfl
   have HTK:=hide (show qD5 clock ((ps.take (k+1)).map (·.2))=qD5 clock ((ps.take k).map (·.2))++qC2 clock p.2 by
      rw[List.take_add_one,hp,List.map_append,qRd]
      simp[qD5])
   have hpm:p∈ps:=List.mem_of_getElem? hp;have HSR:=hide ((uh HEr).reps p hpm);have HSK:=hide (uh HOK p.2 (List.mem_map_of_mem hpm));have HSF:=hide (show ∀i,p.1.foot p.2.k i->EFoot e v ps i from λi hi=>.inr (.inr ⟨p,hpm,hi⟩));have hbn:=(uh HSK).note.bn;have hlb:=uh HLB;have hkE:(k:Int)<(n:Int):=by omega
   obtain⟨u',z1,z2,z3⟩:=uh HOr;have HZ2:=hide z2;have HZ3:=hide z3;have HSV:=hide (qVt p.1 p.2 clock b u' _ wr (uh HSR) (uh HSK) z1 (λi h hi=>qFd (uh HNF i (uh HSF i hi)) z2 (Nat.lt_of_lt_of_le (uh HLT i (uh HSF i hi)) (uh HK1).size) h) c0 c1 (by omega));clear hp hkp hpm z1 z2 z3;go_wp2_with fail
   refine(uh HSV).mono ?_;rintro r w4 ⟨rfl,hw4⟩;have HO4:=hide (Wrote.then (uh HZ2) (uh HZ3) hw4);clear hw4 hcg hce;go_wp2
   go_roundw
   case rel =>
    refine⟨k+1,by go_num,by omega,?_⟩;show Wrote _ _ _ _ _;have:=uh HO4;rw[uh HTK,qAo,<-List.append_assoc];exact this
   case measure=>simp[intOf];omega
  ·have hkE:k=n:=by omega
   subst hkE;have htk:ps.take k=ps:=List.take_of_length_le (by rw[uh HN];omega);rw[htk]at HOr HLB;have hlb:=uh HLB;obtain⟨u',z1,z2,z3⟩:=uh HOr;have HZ2:=hide z2;have HZ3:=hide z3;have HCL:=hide (qZr b u' _ wr z1 (by omega))
   have HSB:=hide (show qFp clock (ps.map (·.2))=qE3 (b0++qBv (qD5 clock (ps.map (·.2)))++enc (qNc (b0++qBv (qD5 clock (ps.map (·.2)))))) by
      have e1:qKc clock (ps.map (·.2))=b0++qBv (qD5 clock (ps.map (·.2))):=by
       unfold qKc qEj;rw[qAz,qAz,<-uh HB0,List.length_map,uh HN];simp only[List.append_assoc]
      unfold qFp qOc
      rw[e1])
   clear z1 z2 z3;go_wp2_with fail
   refine(uh HCL).mono ?_;rintro r w4 ⟨rfl,hk4⟩;have HK4:=hide hk4;clear hk4;go_wp2
   go_ret
   refine⟨by rw[uh HSB,List.append_assoc];rfl,?_⟩;refine(uh HK1).trans ((uh HZ3).trans (uh HK4) (λi hi hlt=>?_)) (λi hi hlt=>?_) (M':=qCc b u)
   ·rcases hi with hi | hi
    ·exact .inl hi
    ·rcases uh HZ2 i hi with h1 | h1
     ·exact .inr h1
     ·omega
   ·have:=uh HB1 i hi
    omega
structure WS where
 clock:Int
 xs:List Ser
def qNs(s:WS): ByteArray:=qFp s.clock s.xs
def zGp(_:ByteArray): Option WS:=none
def zEx(s:WS)(o:OpM): WS×Int×List Int :=
 match zGp o.bytes with
 | none=>(s,14,[])
 | some s'=>(s',0,[])
def qDj(s:WS)(o:OpM): WS×Int×List Int :=
 if inB o.id 0 99=true/\(qPr s.xs o.id).isNone=true then
  if qA5 o.cfg=true then(if s.xs.length<6 then(⟨s.clock,s.xs++[qCe o.id o.cfg o.cfg.kind.toNat]⟩,0,[]) else(s,4,[])) else(s,3,[])
 else(s,2,[])
def qTg(s:WS)(o:OpM): WS×Int×List Int :=
 match qPr s.xs o.id with
 | none=>(s,2,[])
 | some x=>if qIw x s.clock o.item=0 then(⟨s.clock,qNf s.xs o.id (qTc x o.item)⟩,0,[x.acc+1])
  else(⟨s.clock,qNf s.xs o.id (qVe x (qIw x s.clock o.item).toNat)⟩,qIw x s.clock o.item,[])
def qJn(s:WS)(o:OpM): WS×Int×List Int :=
 if inB o.a 0 4611686018427387904=true then
  if inB o.b 0 100=true then(⟨qIf s.clock o.a,(qC8 (qIf s.clock o.a) o.b (s.xs.map (qDb (qIf s.clock o.a)))).1⟩,0,[(qC8 (qIf s.clock o.a) o.b (s.xs.map (qDb (qIf s.clock o.a)))).2]) else(s,12,[])
 else(s,5,[])
def qHh(s:WS)(o:OpM): WS×Int×List Int :=
 match qPr s.xs o.id with
 | none=>(s,2,[])
 | some x=>(s,qKt x.k x.c x.nt o.a (s.clock-x.c.lag))
def qHk(s:WS)(o:OpM): WS×Int×List Int :=
 match qPr s.xs o.id with
 | none=>(s,2,[])
 | some x=>(s,0,qCu x)
def qCk(s:WS)(o:OpM): WS×Int×List Int :=
 if o.kind=1 then qDj s o else if o.kind=2 then qTg s o else if o.kind=3 then qJn s o else if o.kind=4 then qHh s o else if o.kind=5 then qHk s o else if o.kind=6 then(s,0,[]) else if o.kind=7 then zEx s o else(s,1,[])
def qEo(s:WS)(o:OpM): ByteArray:=if o.kind=6 then qNs s else qAa
theorem SInv.mono{n m:Int}{x:Ser}(h:SInv n x)(hm:n<=m): SInv m x:=by
 have h1:=h.accn;exact⟨h.valid,h.kind,h.k1,h.k5,h.acc0,by omega,h.rel0,h.rela,h.reflen,λv hv=>by have:=h.refn v hv;omega,h.cap,h.times,h.note,h.heap,h.last0,h.lastn,h.lastl,h.fits⟩
theorem qYx{n:Int}(id:Int)(c:Cfg)(h:qA5 c=true)(hn:0<=n): SInv n (qCe id c c.kind.toNat):=by
 obtain⟨k,hk,h1,h5,hc,_⟩:=qFh h;have hkn:c.kind.toNat=k:=by omega
 simp only[qDm,inB,Bool.and_eq_true,decide_eq_true_eq]at hc;refine⟨h,?_,?_,?_,by simp[qCe],by simpa[qCe] using hn,by simp[qCe],by simp[qCe],rfl,?_,?_,by simp[qCe],?_,?_,by simp[qCe],by simp[qCe],by simp[qCe],by simp[qCe]⟩
 ·show c.kind=(c.kind.toNat:Int);omega
 ·show 1<=c.kind.toNat;omega
 ·show c.kind.toNat<=5;omega
 ·intro v hv
  have:v=0:=by simpa[qCe] using hv
  omega
 ·show((0:Nat):Int)<=c.cap;omega
 ·exact NInv.zero c.kind.toNat c h (by omega)
 ·intro i h1 h2;simp[qCe]at h2
theorem qFr{xs:List Ser}{id:Int}{y z:Ser}(h:z∈qNf xs id y): z∈xs\/z=y:=by
 induction xs with
 | nil=>simp[qNf]at h
 | cons a l ih =>
  unfold qNf at h
  split at h
  ·rcases List.mem_cons.1 h with h | h
   ·exact .inr h
   ·exact .inl (by simp[h])
  ·rcases List.mem_cons.1 h with h | h
   ·exact .inl (by simp[h])
   ·rcases ih h with h | h
    ·exact .inl (by simp[h])
    ·exact .inr h
theorem qM1(xs:List Ser)(id:Int)(y:Ser): (qNf xs id y).length=xs.length:=by
 induction xs with
 | nil=>rfl
 | cons a l ih =>
  unfold qNf
  split
  ·rfl
  ·simp[ih]
theorem EInv.mono{n m clock:Int}{xs:List Ser}(h:EInv n clock xs)(hm:n<=m): EInv m clock xs:=⟨h.c0,h.c1,h.six,λx hx=>(h.sers x hx).mono hm,h.marks⟩
theorem qJo{x:Ser}{clock:Int}{y:It}(h:qIw x clock y=0): 0<=y.t/\y.t<=4611686018427387904/\(x.l.length:Int)<x.c.cap/\clock-x.c.lag<y.t/\y.t<=clock+x.c.skew/\qCy x.c x.k y=0/\x.acc<4611686018427387904:=by
 unfold qIw at h;cases h1:inB y.t 0 4611686018427387904 with
 | false=>rw[h1]at h;simp at h
 | true =>
  obtain⟨a,b⟩:=qCq h1;rw[h1]at h;simp only[if_true]at h
  split at h
  ·omega
  ·split at h
   ·omega
   ·split at h
    ·rename_i h2;exact absurd h h2
    ·rename_i h2
     split at h
     ·omega
     ·split at h
      ·omega
      ·exact⟨a,b,by omega,by omega,by omega,by simpa using h2,by omega⟩
theorem qH8{P:Ser->Prop}(clock:Int)(h:∀b x,P x->P (zCn clock b x))(b:Int)(xs:List Ser)(hx:∀x,x∈xs->P x): ∀x,x∈(qC8 clock b xs).1->P x:=by
 induction xs generalizing b with
 | nil=>intro x hx;simp[qC8]at hx
 | cons a l ih =>
  intro x hx';simp only[qC8,List.mem_cons]at hx';rcases hx' with hx' | hx'
  ·rw[hx'];exact h b a (hx a (by simp))
  ·exact ih _ (λy hy=>hx y (by simp[hy])) x hx'
theorem qQl(clock b:Int)(xs:List Ser): (qC8 clock b xs).1.length=xs.length:=by
 induction xs generalizing b with
 | nil=>rfl
 | cons a l ih=>simp[qC8,ih]
theorem qQw{clock nc:Int}{x:Ser}(hc:clock<=nc)(h:x.last=0\/x.last<=clock-x.c.lag): (qDb nc x).last=0\/(qDb nc x).last<=nc-(qDb nc x).c.lag:=by
 have h1:(qDb nc x).c=x.c:=(qW4 (x.l.length+1) x (nc-x.c.lag)).2.1;rw[h1];rcases zBm (x.l.length+1) x (nc-x.c.lag) with h2 | h2
 ·have h3:(qDb nc x).last=x.last:=h2
  rw[h3];rcases h with h | h
  ·exact .inl h
  ·exact .inr (by omega)
 ·exact .inr h2
def qWp(n:Int)(o:OpM): Prop:=o.kind=7->∀s',zGp o.bytes=some s'->EInv n s'.clock s'.xs
theorem qMm{n:Int}{o:OpM}(h:o.kind≠7): qWp n o:=λe=>(h e).elim
theorem qWt{n N:Int}{s:WS}(o:OpM)(h:EInv n s.clock s.xs)(hn:0<=n)(hN:n+1<=N\/(n<=N/\N=4611686018427387904))(hL:qWp N o): EInv N (qCk s o).1.clock (qCk s o).1.xs:=by
 have hs:EInv N s.clock s.xs:=h.mono (by omega);unfold qCk
 split
 ·unfold qDj
  split
  ·split
   ·split
    ·rename_i h2 h3
     refine⟨h.c0,h.c1,by simp;omega,λx hx=>?_,λx hx=>?_⟩
     ·rcases List.mem_append.1 hx with hx | hx
      ·exact hs.sers x hx
      ·rw[List.mem_singleton]at hx;subst hx;exact qYx _ _ h2 (by omega)
     ·rcases List.mem_append.1 hx with hx | hx
      ·exact hs.marks x hx
      ·rw[List.mem_singleton]at hx;subst hx;exact .inl rfl
    ·exact hs
   ·exact hs
  ·exact hs
 ·split
  ·unfold qTg
   split
   ·exact hs
   ·rename_i x hf
    have hx:x∈s.xs:=List.mem_of_find?_eq_some hf;have hxi:=h.sers x hx;have hxm:=h.marks x hx
    split
    ·rename_i hr
     obtain⟨t0,t1,hc,hl,_,hk,ha⟩:=qJo hr;refine⟨h.c0,h.c1,by show(qNf _ _ _).length<=6;rw[qM1];exact h.six,λz hz=>?_,λz hz=>?_⟩
     ·rcases qFr hz with hz | hz
      ·exact hs.sers z hz
      ·subst hz;exact zD7 (hxi.mono (by omega)) o.item t0 t1 hc (by have:=hxi.accn;omega) (by rcases hxm with h | h <;> omega) hk
     ·rcases qFr hz with hz | hz
      ·exact hs.marks z hz
      ·subst hz;exact hxm
    ·refine⟨h.c0,h.c1,by show(qNf _ _ _).length<=6;rw[qM1];exact h.six,λz hz=>?_,λz hz=>?_⟩
     ·rcases qFr hz with hz | hz
      ·exact hs.sers z hz
      ·subst hz
       have hrr:=qKn x s.clock o.item
       exact zDz (hxi.mono (by omega)) _ (by
          rcases hN with hN | hN
          ·exact .inl (λv hv=>by have:=hxi.refn v hv;omega)
          ·exact .inr (by omega)) (by omega)
     ·rcases qFr hz with hz | hz
      ·exact hs.marks z hz
      ·subst hz;exact hxm
  ·split
   ·unfold qJn
    split
    ·rename_i ha
     obtain⟨a0,a1⟩:=qCq ha;have hc0:=h.c0;have hc1:=h.c1;have hmx:s.clock<=qIf s.clock o.a:=by unfold qIf;split <;> omega
     split
     ·refine⟨?_,?_,by show(qC8 _ _ _).1.length<=6;rw[qQl];simpa using h.six,λz hz=>?_,λz hz=>?_⟩
      ·show 0<=qIf s.clock o.a;unfold qIf;split <;> omega
      ·show qIf s.clock o.a<=_;unfold qIf;split <;> omega
      ·refine qH8 (P:=SInv N) _ (λb x hx=>qQa _ b hx) _ _ (λz hz=>?_) z hz
       obtain⟨x,hx,rfl⟩:=List.mem_map.1 hz;exact qLq _ (hs.sers x hx) _
      ·refine qH8 (P:=λz=>z.last=0\/z.last<=qIf s.clock o.a-z.c.lag) _ (λb x hx=>hx) _ _ (λz hz=>?_) z hz
       obtain⟨x,hx,rfl⟩:=List.mem_map.1 hz;exact qQw hmx (h.marks x hx)
     ·exact hs
    ·exact hs
   ·split
    ·unfold qHh
     split
     ·exact hs
     ·exact hs
    ·split
     ·unfold qHk
      split <;> exact hs
     ·split
      ·exact hs
      ·split
       ·rename_i h7
        unfold zEx
        split
        ·exact hs
        ·rename_i s' hs'
         exact hL h7 s' hs'
       ·exact hs
theorem qSi{n:Int}{s:WS}(o:OpM)(h:EInv n s.clock s.xs)(hn:0<=n)(hL:qWp (n+1) o): EInv (n+1) (qCk s o).1.clock (qCk s o).1.xs:=qWt o h hn (.inl (Int.le_refl _)) hL
def qDr(ty:TypeId)(a x:Value): Sem Next:=do Instr.storeAt ty a x;pure .skip
theorem qDy(ρ:Operand->Value)(dst:Option Tmp)(x y:Operand)(ty:TypeId)(pos:String)(after:Array Edge)(guard:Option (Nat×Bool)):
  execOp ρ { dst,op:=.store 34 x y,type:=ty,pos,after,guard }=qDr 34 (ρ x) (ρ y):=rfl
def qE8(arr:Array Value)(o:Nat): List Value->Array Value
 | []=>arr
 | c::r=>qE8 (arr.setIfInBounds o c) (o+1) r
theorem qG5(w:World)(T:TypeId): ∀(cs:List Value) (o:Nat) (arr:Array Value),(w.alloc (.cells arr T)).setCells w.heap.size o cs=w.alloc (.cells (qE8 arr o cs) T)
 | [],_,_=>rfl
 | c::r,o,arr=>by
  unfold World.setCells qE8;rw[World.setCell_alloc_at _ _ _ _ _ rfl];exact qG5 w T r (o+1) (arr.setIfInBounds o c)
theorem qEs: ∀(cs:List Value) (pre:List Value) (rest:List Value),rest.length=cs.length->qE8 (pre++rest).toArray pre.length cs=(pre++cs).toArray
 | [],pre,rest,h=>by
  have:rest=[]:=List.length_eq_zero_iff.1 h;subst this;rfl
 | c::r,pre,rest,h=>by
  cases rest with
  | nil=>simp at h
  | cons d q =>
   unfold qE8;have h1:((pre++d::q).toArray.setIfInBounds pre.length c)=((pre++[c])++q).toArray:=by simp
   rw[h1];have:=qEs r (pre++[c]) q (by simpa using h);rw[List.length_append]at this;simpa using this
theorem qVb(w:World)(zs:List Value)(cs:List Value)(hz:zs.length=26)(hc:cs.length=26)(h1:cs.toArray.all (·.oneCell')=true):
  (qDr 34 (.pointer (some ⟨w.heap.size,0,none⟩)) (.agg cs.toArray)).run Tryz.prog (w.alloc (.cells zs.toArray 34))=.ok .skip (w.alloc (.cells cs.toArray 34)):=by
 unfold qDr;have ht:(w.alloc (.cells zs.toArray 34)).there w.heap.size 0 cs.toArray.size:=by
  intro j hj;have hj':j<26:=by simpa[hc] using hj
  rw[Nat.zero_add,World.cell?_alloc_new,World.frozen?_alloc_new];simp[hz,hj']
 rw[Sem.run_bind,run_storeAt_mid _ w.heap.size 0 34 cs.toArray ht (by rw[zFd];simp[hc]) h1];have h2:=qEs cs [] zs (by omega);simp only[List.nil_append,List.length_nil]at h2;rw[qG5,List.toList_toArray,h2];rfl
end
section
open Go.RowKit
attribute [local go_sem ↓] qAd qAe
attribute [local go_sem] qAf qAl qAc qAb qAm qAn qAi qAj
theorem qF0{w w0 w1 w9:World}{e ob:Nat}{v:Value}{ps:List (SB×Ser)}{clock':Int}{xs':List Ser}{code:Int}{nums:List Int}{nv v':Value}{ps':List (SB×Ser)}(hk0:Keeps (λ_=>False) w w0)(hob:w.heap.size=ob)(hlt:∀i,EFoot e v ps i->i<ob)(hsz:ob+1<w0.heap.size)(hE:ERep w1 e v' clock' ps')(hx:ps'.map (·.2)=xs')(hn:w1.ownsRow w0.heap.size 3 1 nv nums.length (ints nums))(hk:Keeps (EFoot e v ps) w0 w1)(hf:∀i,EFoot e v' ps' i->EFoot e v ps i\/w0.heap.size<=i)(hd:∀i,nv.ownBlock=some i->¬EFoot e v' ps' i)(hkf:Keeps (λi=>i=ob+1) w1 w9):
  StepPost w e v ps clock' xs' code nums (.returned (qC0 code nv)) w9:=by
 have hs:=hk0.size;refine⟨nv,v',ps',rfl,hE.keeps hkf (λi hi h=>?_),hx,qBk (qJd hn hs) hkf (λi hi h=>?_),?_,λi hi=>?_,hd⟩
 ·rcases hf i hi with h1 | h1
  ·have:=hlt i h1;omega
  ·omega
 ·have:=(hn.lt i hi).1;omega
 ·exact((hk0.mono (M':=EFoot e v ps) (λ_ _ h=>h.elim)).then (hk.mono (λ_ _ h=>h))).trans hkf (λi hi hlt=>by omega)
 ·rcases hf i hi with h1 | h1
  ·exact .inl h1
  ·exact .inr (by omega)
theorem qGt{w:World}{base:Nat}{nv:Value}{n:Nat}{xs:List Value}(h:w.ownsRow base 3 1 nv n xs): ∃a cap,nv=.slice a n cap:=by
 rcases h.2 with ⟨h1,h2⟩ | ⟨g,cap,cur,h1,_⟩
 ·exact⟨none,0,by rw[h1,h2]⟩
 ·exact⟨some ⟨g,0,none⟩,cap,h1⟩
theorem zJm(e:Nat)(v:Value)(clock:Int)(ps:List (SB×Ser))(o:OpM)(w:World)(h:ERep w e v clock ps)(hkind:o.kind=1)(clock':Int)(xs':List Ser)(code:Int)(nums:List Int)(hc:∀w0,ERep w0 e v clock ps->Calls Tryz.prog 31 #[.pointer (some ⟨e,0,none⟩),o.val] w0 λr w'=>StepPost w0 e v ps clock' xs' code nums r w'):
  Calls Tryz.prog 23 #[.pointer (some ⟨e,0,none⟩),o.val] w λr w'=>StepPost w e v ps clock' xs' code nums r w':=by
 have h0:o.cells[0]?=some (.int .i64 o.kind):=rfl;have hv0:qAu (w.alloc (.cells o.cells.toArray 34)) w.heap.size 0 26=.agg o.cells.toArray:=qAh w o.cells 34 26 rfl;have hh0:qA2 (w.alloc (.cells o.cells.toArray 34)) w.heap.size 0 26=true:=qDq w o.cells 34 26 rfl;have hn1:(o.kind==1)=true:=by simp[hkind]
 have HE:=hide h;have HC:=hide hc;clear h hc hkind;unfold OpM.val;go_enter Tryz.func23,Tryz.ntmps23
 go_wp2_with fail
 have hk0:Keeps (λ_=>False) w ((w.alloc (.cells o.cells.toArray 34)).alloc (.cells #[.int .i64 0,.slice none 0 0,.string ⟨#[]⟩] 38)):=((Keeps.refl (λ_=>False) w).alloc _).alloc _;have HO0:=hide (show Blk ((w.alloc (.cells o.cells.toArray 34)).alloc (.cells #[.int .i64 0,.slice none 0 0,.string ⟨#[]⟩] 38)) w.heap.size o.cells 34 from(Blk.new w o.cells 34).alloc _);have HR0:=hide (show Blk ((w.alloc (.cells o.cells.toArray 34)).alloc (.cells #[.int .i64 0,.slice none 0 0,.string ⟨#[]⟩] 38)) (w.heap.size+1) [.int .i64 0,.slice none 0 0,.string qAa] 38 from Blk.newAt (by simp) [_,_,_] 38);have HE0:=hide ((uh HE).still hk0);have HK0:=hide hk0;clear hk0;generalize(w.alloc (.cells o.cells.toArray 34)).alloc (.cells #[.int .i64 0,.slice none 0 0,.string ⟨#[]⟩] 38)=w0 at *;have HLT:=hide (show ∀i,EFoot e v ps i->i<w.heap.size from(uh HE).lt);generalize hob:w.heap.size=ob at *;have HOB:=hide hob;clear hob;have hsz0:ob+1<w0.heap.size:=(uh HR0).lt;refine(uh HC w0 (uh HE0)).mono ?_;rintro r w1 ⟨nv,v',ps',rfl,hE1,hx1,hn1,hk1,hf1,hd1⟩;obtain⟨na,ncap,hnv⟩:=qGt hn1;subst hnv;unfold qC0;have HR1:=hide ((uh HR0).keeps hk1 (λh=>by have:=uh HLT _ h;omega));have HW:=hide (show ∀w9,Keeps (λi=>i=ob+1) w1 w9->StepPost w e v ps clock' xs' code nums (.returned (qC0 code (.slice na nums.length ncap))) w9 from λw9 hkf=>qF0 (uh HK0) (uh HOB) (uh HLT) hsz0 hE1 hx1 hn1 hk1 hf1 hd1 hkf);clear hE1 hx1 hn1 hk1 hf1 hd1;have r0:w1.cell? ⟨ob+1,0,none⟩=some (.int .i64 0):=(uh HR1).cell rfl;have r1:w1.cell? ⟨ob+1,1,none⟩=some (.slice none 0 0):=(uh HR1).cell rfl;have r2:w1.cell? ⟨ob+1,2,none⟩=some (.string qAa):=(uh HR1).cell rfl;have rf:=(uh HR1).frozen;go_wp2
 have hbf:=(((uh HR1).setCell 0 (.int .i64 code)).setCell 1 (.slice na nums.length ncap)).setCell 2 (.string qAa);have HKF:=hide ((((Keeps.refl (λi=>i=ob+1) w1).setCell (p:=⟨ob+1,0,none⟩) (Or.inl rfl) (.int .i64 code)).setCell (p:=⟨ob+1,1,none⟩) (Or.inl rfl) (.slice na nums.length ncap)).setCell (p:=⟨ob+1,2,none⟩) (Or.inl rfl) (.string qAa));have e9:(((w1.setCell ⟨ob+1,0,none⟩ (.int .i64 code)).setCell ⟨ob+1,1,none⟩ (.slice na nums.length ncap)).setCell ⟨ob+1,2,none⟩ (.string ⟨#[]⟩))=(((w1.setCell ⟨ob+1,0,none⟩ (.int .i64 code)).setCell ⟨ob+1,1,none⟩ (.slice na nums.length ncap)).setCell ⟨ob+1,2,none⟩ (.string qAa)):=rfl
 first | rw[e9] | skip
 generalize(((w1.setCell ⟨ob+1,0,none⟩ (.int .i64 code)).setCell ⟨ob+1,1,none⟩ (.slice na nums.length ncap)).setCell ⟨ob+1,2,none⟩ (.string qAa))=w9 at *;have q0:w9.cell? ⟨ob+1,0,none⟩=some (.int .i64 code):=hbf.cell rfl;have q1:w9.cell? ⟨ob+1,1,none⟩=some (.slice na nums.length ncap):=hbf.cell rfl;have q2:w9.cell? ⟨ob+1,2,none⟩=some (.string qAa):=hbf.cell rfl;refine bodyPost_ret (v:=qC0 code (.slice na nums.length ncap)) (by simp[results,Tryz.results23,go_sem,q0,q1,q2,qC0]) rfl ?_;have hkf:=uh HKF;exact uh HW w9 hkf
theorem zIm(e:Nat)(v:Value)(clock:Int)(ps:List (SB×Ser))(o:OpM)(w:World)(h:ERep w e v clock ps)(hkind:o.kind=2)(clock':Int)(xs':List Ser)(code:Int)(nums:List Int)(hc:∀w0,ERep w0 e v clock ps->Calls Tryz.prog 32 #[.pointer (some ⟨e,0,none⟩),o.val] w0 λr w'=>StepPost w0 e v ps clock' xs' code nums r w'):
  Calls Tryz.prog 23 #[.pointer (some ⟨e,0,none⟩),o.val] w λr w'=>StepPost w e v ps clock' xs' code nums r w':=by
 have h0:o.cells[0]?=some (.int .i64 o.kind):=rfl;have hv0:qAu (w.alloc (.cells o.cells.toArray 34)) w.heap.size 0 26=.agg o.cells.toArray:=qAh w o.cells 34 26 rfl;have hh0:qA2 (w.alloc (.cells o.cells.toArray 34)) w.heap.size 0 26=true:=qDq w o.cells 34 26 rfl;have hn1:(o.kind==1)=false:=by simp[hkind]
 have hn2:(o.kind==2)=true:=by simp[hkind]
 have HE:=hide h;have HC:=hide hc;clear h hc hkind;unfold OpM.val;go_enter Tryz.func23,Tryz.ntmps23
 go_wp2_with fail
 have hk0:Keeps (λ_=>False) w ((w.alloc (.cells o.cells.toArray 34)).alloc (.cells #[.int .i64 0,.slice none 0 0,.string ⟨#[]⟩] 38)):=((Keeps.refl (λ_=>False) w).alloc _).alloc _;have HO0:=hide (show Blk ((w.alloc (.cells o.cells.toArray 34)).alloc (.cells #[.int .i64 0,.slice none 0 0,.string ⟨#[]⟩] 38)) w.heap.size o.cells 34 from(Blk.new w o.cells 34).alloc _);have HR0:=hide (show Blk ((w.alloc (.cells o.cells.toArray 34)).alloc (.cells #[.int .i64 0,.slice none 0 0,.string ⟨#[]⟩] 38)) (w.heap.size+1) [.int .i64 0,.slice none 0 0,.string qAa] 38 from Blk.newAt (by simp) [_,_,_] 38);have HE0:=hide ((uh HE).still hk0);have HK0:=hide hk0;clear hk0;generalize(w.alloc (.cells o.cells.toArray 34)).alloc (.cells #[.int .i64 0,.slice none 0 0,.string ⟨#[]⟩] 38)=w0 at *;have HLT:=hide (show ∀i,EFoot e v ps i->i<w.heap.size from(uh HE).lt);generalize hob:w.heap.size=ob at *;have HOB:=hide hob;clear hob;have hsz0:ob+1<w0.heap.size:=(uh HR0).lt;refine(uh HC w0 (uh HE0)).mono ?_;rintro r w1 ⟨nv,v',ps',rfl,hE1,hx1,hn1,hk1,hf1,hd1⟩;obtain⟨na,ncap,hnv⟩:=qGt hn1;subst hnv;unfold qC0;have HR1:=hide ((uh HR0).keeps hk1 (λh=>by have:=uh HLT _ h;omega));have HW:=hide (show ∀w9,Keeps (λi=>i=ob+1) w1 w9->StepPost w e v ps clock' xs' code nums (.returned (qC0 code (.slice na nums.length ncap))) w9 from λw9 hkf=>qF0 (uh HK0) (uh HOB) (uh HLT) hsz0 hE1 hx1 hn1 hk1 hf1 hd1 hkf);clear hE1 hx1 hn1 hk1 hf1 hd1;have r0:w1.cell? ⟨ob+1,0,none⟩=some (.int .i64 0):=(uh HR1).cell rfl;have r1:w1.cell? ⟨ob+1,1,none⟩=some (.slice none 0 0):=(uh HR1).cell rfl;have r2:w1.cell? ⟨ob+1,2,none⟩=some (.string qAa):=(uh HR1).cell rfl;have rf:=(uh HR1).frozen;go_wp2
 have hbf:=(((uh HR1).setCell 0 (.int .i64 code)).setCell 1 (.slice na nums.length ncap)).setCell 2 (.string qAa);have HKF:=hide ((((Keeps.refl (λi=>i=ob+1) w1).setCell (p:=⟨ob+1,0,none⟩) (Or.inl rfl) (.int .i64 code)).setCell (p:=⟨ob+1,1,none⟩) (Or.inl rfl) (.slice na nums.length ncap)).setCell (p:=⟨ob+1,2,none⟩) (Or.inl rfl) (.string qAa));have e9:(((w1.setCell ⟨ob+1,0,none⟩ (.int .i64 code)).setCell ⟨ob+1,1,none⟩ (.slice na nums.length ncap)).setCell ⟨ob+1,2,none⟩ (.string ⟨#[]⟩))=(((w1.setCell ⟨ob+1,0,none⟩ (.int .i64 code)).setCell ⟨ob+1,1,none⟩ (.slice na nums.length ncap)).setCell ⟨ob+1,2,none⟩ (.string qAa)):=rfl
 first | rw[e9] | skip
 generalize(((w1.setCell ⟨ob+1,0,none⟩ (.int .i64 code)).setCell ⟨ob+1,1,none⟩ (.slice na nums.length ncap)).setCell ⟨ob+1,2,none⟩ (.string qAa))=w9 at *;have q0:w9.cell? ⟨ob+1,0,none⟩=some (.int .i64 code):=hbf.cell rfl;have q1:w9.cell? ⟨ob+1,1,none⟩=some (.slice na nums.length ncap):=hbf.cell rfl;have q2:w9.cell? ⟨ob+1,2,none⟩=some (.string qAa):=hbf.cell rfl;refine bodyPost_ret (v:=qC0 code (.slice na nums.length ncap)) (by simp[results,Tryz.results23,go_sem,q0,q1,q2,qC0]) rfl ?_;have hkf:=uh HKF;exact uh HW w9 hkf
theorem zJz(e:Nat)(v:Value)(clock:Int)(ps:List (SB×Ser))(o:OpM)(w:World)(h:ERep w e v clock ps)(hkind:o.kind=3)(clock':Int)(xs':List Ser)(code:Int)(nums:List Int)(hc:∀w0,ERep w0 e v clock ps->Keeps (λ_=>False) w w0->Calls Tryz.prog 33 #[.pointer (some ⟨e,0,none⟩),o.val] w0 λr w'=>StepPost w0 e v ps clock' xs' code nums r w'):
  Calls Tryz.prog 23 #[.pointer (some ⟨e,0,none⟩),o.val] w λr w'=>StepPost w e v ps clock' xs' code nums r w':=by
 have h0:o.cells[0]?=some (.int .i64 o.kind):=rfl;have hv0:qAu (w.alloc (.cells o.cells.toArray 34)) w.heap.size 0 26=.agg o.cells.toArray:=qAh w o.cells 34 26 rfl;have hh0:qA2 (w.alloc (.cells o.cells.toArray 34)) w.heap.size 0 26=true:=qDq w o.cells 34 26 rfl;have hn1:(o.kind==1)=false:=by simp[hkind]
 have hn2:(o.kind==2)=false:=by simp[hkind]
 have hn3:(o.kind==3)=true:=by simp[hkind]
 have HE:=hide h;have HC:=hide hc;clear h hc hkind;unfold OpM.val;go_enter Tryz.func23,Tryz.ntmps23
 go_wp2_with fail
 have hk0:Keeps (λ_=>False) w ((w.alloc (.cells o.cells.toArray 34)).alloc (.cells #[.int .i64 0,.slice none 0 0,.string ⟨#[]⟩] 38)):=((Keeps.refl (λ_=>False) w).alloc _).alloc _;have HO0:=hide (show Blk ((w.alloc (.cells o.cells.toArray 34)).alloc (.cells #[.int .i64 0,.slice none 0 0,.string ⟨#[]⟩] 38)) w.heap.size o.cells 34 from(Blk.new w o.cells 34).alloc _);have HR0:=hide (show Blk ((w.alloc (.cells o.cells.toArray 34)).alloc (.cells #[.int .i64 0,.slice none 0 0,.string ⟨#[]⟩] 38)) (w.heap.size+1) [.int .i64 0,.slice none 0 0,.string qAa] 38 from Blk.newAt (by simp) [_,_,_] 38);have HE0:=hide ((uh HE).still hk0);have HK0:=hide hk0;clear hk0;generalize(w.alloc (.cells o.cells.toArray 34)).alloc (.cells #[.int .i64 0,.slice none 0 0,.string ⟨#[]⟩] 38)=w0 at *;have HLT:=hide (show ∀i,EFoot e v ps i->i<w.heap.size from(uh HE).lt);generalize hob:w.heap.size=ob at *;have HOB:=hide hob;clear hob;have hsz0:ob+1<w0.heap.size:=(uh HR0).lt;refine(uh HC w0 (uh HE0) (uh HK0)).mono ?_;rintro r w1 ⟨nv,v',ps',rfl,hE1,hx1,hn1,hk1,hf1,hd1⟩;obtain⟨na,ncap,hnv⟩:=qGt hn1;subst hnv;unfold qC0;have HR1:=hide ((uh HR0).keeps hk1 (λh=>by have:=uh HLT _ h;omega));have HW:=hide (show ∀w9,Keeps (λi=>i=ob+1) w1 w9->StepPost w e v ps clock' xs' code nums (.returned (qC0 code (.slice na nums.length ncap))) w9 from λw9 hkf=>qF0 (uh HK0) (uh HOB) (uh HLT) hsz0 hE1 hx1 hn1 hk1 hf1 hd1 hkf);clear hE1 hx1 hn1 hk1 hf1 hd1;have r0:w1.cell? ⟨ob+1,0,none⟩=some (.int .i64 0):=(uh HR1).cell rfl;have r1:w1.cell? ⟨ob+1,1,none⟩=some (.slice none 0 0):=(uh HR1).cell rfl;have r2:w1.cell? ⟨ob+1,2,none⟩=some (.string qAa):=(uh HR1).cell rfl;have rf:=(uh HR1).frozen;go_wp2
 have hbf:=(((uh HR1).setCell 0 (.int .i64 code)).setCell 1 (.slice na nums.length ncap)).setCell 2 (.string qAa);have HKF:=hide ((((Keeps.refl (λi=>i=ob+1) w1).setCell (p:=⟨ob+1,0,none⟩) (Or.inl rfl) (.int .i64 code)).setCell (p:=⟨ob+1,1,none⟩) (Or.inl rfl) (.slice na nums.length ncap)).setCell (p:=⟨ob+1,2,none⟩) (Or.inl rfl) (.string qAa));have e9:(((w1.setCell ⟨ob+1,0,none⟩ (.int .i64 code)).setCell ⟨ob+1,1,none⟩ (.slice na nums.length ncap)).setCell ⟨ob+1,2,none⟩ (.string ⟨#[]⟩))=(((w1.setCell ⟨ob+1,0,none⟩ (.int .i64 code)).setCell ⟨ob+1,1,none⟩ (.slice na nums.length ncap)).setCell ⟨ob+1,2,none⟩ (.string qAa)):=rfl
 first | rw[e9] | skip
 generalize(((w1.setCell ⟨ob+1,0,none⟩ (.int .i64 code)).setCell ⟨ob+1,1,none⟩ (.slice na nums.length ncap)).setCell ⟨ob+1,2,none⟩ (.string qAa))=w9 at *;have q0:w9.cell? ⟨ob+1,0,none⟩=some (.int .i64 code):=hbf.cell rfl;have q1:w9.cell? ⟨ob+1,1,none⟩=some (.slice na nums.length ncap):=hbf.cell rfl;have q2:w9.cell? ⟨ob+1,2,none⟩=some (.string qAa):=hbf.cell rfl;refine bodyPost_ret (v:=qC0 code (.slice na nums.length ncap)) (by simp[results,Tryz.results23,go_sem,q0,q1,q2,qC0]) rfl ?_;have hkf:=uh HKF;exact uh HW w9 hkf
theorem zJe(e:Nat)(v:Value)(clock:Int)(ps:List (SB×Ser))(o:OpM)(w:World)(h:ERep w e v clock ps)(hkind:o.kind=4)(clock':Int)(xs':List Ser)(code:Int)(nums:List Int)(hc:∀w0,ERep w0 e v clock ps->Calls Tryz.prog 34 #[.pointer (some ⟨e,0,none⟩),o.val] w0 λr w'=>StepPost w0 e v ps clock' xs' code nums r w'):
  Calls Tryz.prog 23 #[.pointer (some ⟨e,0,none⟩),o.val] w λr w'=>StepPost w e v ps clock' xs' code nums r w':=by
 have h0:o.cells[0]?=some (.int .i64 o.kind):=rfl;have hv0:qAu (w.alloc (.cells o.cells.toArray 34)) w.heap.size 0 26=.agg o.cells.toArray:=qAh w o.cells 34 26 rfl;have hh0:qA2 (w.alloc (.cells o.cells.toArray 34)) w.heap.size 0 26=true:=qDq w o.cells 34 26 rfl;have hn1:(o.kind==1)=false:=by simp[hkind]
 have hn2:(o.kind==2)=false:=by simp[hkind]
 have hn3:(o.kind==3)=false:=by simp[hkind]
 have hn4:(o.kind==4)=true:=by simp[hkind]
 have HE:=hide h;have HC:=hide hc;clear h hc hkind;unfold OpM.val;go_enter Tryz.func23,Tryz.ntmps23
 go_wp2_with fail
 have hk0:Keeps (λ_=>False) w ((w.alloc (.cells o.cells.toArray 34)).alloc (.cells #[.int .i64 0,.slice none 0 0,.string ⟨#[]⟩] 38)):=((Keeps.refl (λ_=>False) w).alloc _).alloc _;have HO0:=hide (show Blk ((w.alloc (.cells o.cells.toArray 34)).alloc (.cells #[.int .i64 0,.slice none 0 0,.string ⟨#[]⟩] 38)) w.heap.size o.cells 34 from(Blk.new w o.cells 34).alloc _);have HR0:=hide (show Blk ((w.alloc (.cells o.cells.toArray 34)).alloc (.cells #[.int .i64 0,.slice none 0 0,.string ⟨#[]⟩] 38)) (w.heap.size+1) [.int .i64 0,.slice none 0 0,.string qAa] 38 from Blk.newAt (by simp) [_,_,_] 38);have HE0:=hide ((uh HE).still hk0);have HK0:=hide hk0;clear hk0;generalize(w.alloc (.cells o.cells.toArray 34)).alloc (.cells #[.int .i64 0,.slice none 0 0,.string ⟨#[]⟩] 38)=w0 at *;have HLT:=hide (show ∀i,EFoot e v ps i->i<w.heap.size from(uh HE).lt);generalize hob:w.heap.size=ob at *;have HOB:=hide hob;clear hob;have hsz0:ob+1<w0.heap.size:=(uh HR0).lt;refine(uh HC w0 (uh HE0)).mono ?_;rintro r w1 ⟨nv,v',ps',rfl,hE1,hx1,hn1,hk1,hf1,hd1⟩;obtain⟨na,ncap,hnv⟩:=qGt hn1;subst hnv;unfold qC0;have HR1:=hide ((uh HR0).keeps hk1 (λh=>by have:=uh HLT _ h;omega));have HW:=hide (show ∀w9,Keeps (λi=>i=ob+1) w1 w9->StepPost w e v ps clock' xs' code nums (.returned (qC0 code (.slice na nums.length ncap))) w9 from λw9 hkf=>qF0 (uh HK0) (uh HOB) (uh HLT) hsz0 hE1 hx1 hn1 hk1 hf1 hd1 hkf);clear hE1 hx1 hn1 hk1 hf1 hd1;have r0:w1.cell? ⟨ob+1,0,none⟩=some (.int .i64 0):=(uh HR1).cell rfl;have r1:w1.cell? ⟨ob+1,1,none⟩=some (.slice none 0 0):=(uh HR1).cell rfl;have r2:w1.cell? ⟨ob+1,2,none⟩=some (.string qAa):=(uh HR1).cell rfl;have rf:=(uh HR1).frozen;go_wp2
 have hbf:=(((uh HR1).setCell 0 (.int .i64 code)).setCell 1 (.slice na nums.length ncap)).setCell 2 (.string qAa);have HKF:=hide ((((Keeps.refl (λi=>i=ob+1) w1).setCell (p:=⟨ob+1,0,none⟩) (Or.inl rfl) (.int .i64 code)).setCell (p:=⟨ob+1,1,none⟩) (Or.inl rfl) (.slice na nums.length ncap)).setCell (p:=⟨ob+1,2,none⟩) (Or.inl rfl) (.string qAa));have e9:(((w1.setCell ⟨ob+1,0,none⟩ (.int .i64 code)).setCell ⟨ob+1,1,none⟩ (.slice na nums.length ncap)).setCell ⟨ob+1,2,none⟩ (.string ⟨#[]⟩))=(((w1.setCell ⟨ob+1,0,none⟩ (.int .i64 code)).setCell ⟨ob+1,1,none⟩ (.slice na nums.length ncap)).setCell ⟨ob+1,2,none⟩ (.string qAa)):=rfl
 first | rw[e9] | skip
 generalize(((w1.setCell ⟨ob+1,0,none⟩ (.int .i64 code)).setCell ⟨ob+1,1,none⟩ (.slice na nums.length ncap)).setCell ⟨ob+1,2,none⟩ (.string qAa))=w9 at *;have q0:w9.cell? ⟨ob+1,0,none⟩=some (.int .i64 code):=hbf.cell rfl;have q1:w9.cell? ⟨ob+1,1,none⟩=some (.slice na nums.length ncap):=hbf.cell rfl;have q2:w9.cell? ⟨ob+1,2,none⟩=some (.string qAa):=hbf.cell rfl;refine bodyPost_ret (v:=qC0 code (.slice na nums.length ncap)) (by simp[results,Tryz.results23,go_sem,q0,q1,q2,qC0]) rfl ?_;have hkf:=uh HKF;exact uh HW w9 hkf
theorem zIi(e:Nat)(v:Value)(clock:Int)(ps:List (SB×Ser))(o:OpM)(w:World)(h:ERep w e v clock ps)(hkind:o.kind=5)(clock':Int)(xs':List Ser)(code:Int)(nums:List Int)(hc:∀w0,ERep w0 e v clock ps->Calls Tryz.prog 35 #[.pointer (some ⟨e,0,none⟩),o.val] w0 λr w'=>StepPost w0 e v ps clock' xs' code nums r w'):
  Calls Tryz.prog 23 #[.pointer (some ⟨e,0,none⟩),o.val] w λr w'=>StepPost w e v ps clock' xs' code nums r w':=by
 have h0:o.cells[0]?=some (.int .i64 o.kind):=rfl;have hv0:qAu (w.alloc (.cells o.cells.toArray 34)) w.heap.size 0 26=.agg o.cells.toArray:=qAh w o.cells 34 26 rfl;have hh0:qA2 (w.alloc (.cells o.cells.toArray 34)) w.heap.size 0 26=true:=qDq w o.cells 34 26 rfl;have hn1:(o.kind==1)=false:=by simp[hkind]
 have hn2:(o.kind==2)=false:=by simp[hkind]
 have hn3:(o.kind==3)=false:=by simp[hkind]
 have hn4:(o.kind==4)=false:=by simp[hkind]
 have hn5:(o.kind==5)=true:=by simp[hkind]
 have HE:=hide h;have HC:=hide hc;clear h hc hkind;unfold OpM.val;go_enter Tryz.func23,Tryz.ntmps23
 go_wp2_with fail
 have hk0:Keeps (λ_=>False) w ((w.alloc (.cells o.cells.toArray 34)).alloc (.cells #[.int .i64 0,.slice none 0 0,.string ⟨#[]⟩] 38)):=((Keeps.refl (λ_=>False) w).alloc _).alloc _;have HO0:=hide (show Blk ((w.alloc (.cells o.cells.toArray 34)).alloc (.cells #[.int .i64 0,.slice none 0 0,.string ⟨#[]⟩] 38)) w.heap.size o.cells 34 from(Blk.new w o.cells 34).alloc _);have HR0:=hide (show Blk ((w.alloc (.cells o.cells.toArray 34)).alloc (.cells #[.int .i64 0,.slice none 0 0,.string ⟨#[]⟩] 38)) (w.heap.size+1) [.int .i64 0,.slice none 0 0,.string qAa] 38 from Blk.newAt (by simp) [_,_,_] 38);have HE0:=hide ((uh HE).still hk0);have HK0:=hide hk0;clear hk0;generalize(w.alloc (.cells o.cells.toArray 34)).alloc (.cells #[.int .i64 0,.slice none 0 0,.string ⟨#[]⟩] 38)=w0 at *;have HLT:=hide (show ∀i,EFoot e v ps i->i<w.heap.size from(uh HE).lt);generalize hob:w.heap.size=ob at *;have HOB:=hide hob;clear hob;have hsz0:ob+1<w0.heap.size:=(uh HR0).lt;refine(uh HC w0 (uh HE0)).mono ?_;rintro r w1 ⟨nv,v',ps',rfl,hE1,hx1,hn1,hk1,hf1,hd1⟩;obtain⟨na,ncap,hnv⟩:=qGt hn1;subst hnv;unfold qC0;have HR1:=hide ((uh HR0).keeps hk1 (λh=>by have:=uh HLT _ h;omega));have HW:=hide (show ∀w9,Keeps (λi=>i=ob+1) w1 w9->StepPost w e v ps clock' xs' code nums (.returned (qC0 code (.slice na nums.length ncap))) w9 from λw9 hkf=>qF0 (uh HK0) (uh HOB) (uh HLT) hsz0 hE1 hx1 hn1 hk1 hf1 hd1 hkf);clear hE1 hx1 hn1 hk1 hf1 hd1;have r0:w1.cell? ⟨ob+1,0,none⟩=some (.int .i64 0):=(uh HR1).cell rfl;have r1:w1.cell? ⟨ob+1,1,none⟩=some (.slice none 0 0):=(uh HR1).cell rfl;have r2:w1.cell? ⟨ob+1,2,none⟩=some (.string qAa):=(uh HR1).cell rfl;have rf:=(uh HR1).frozen;go_wp2
 have hbf:=(((uh HR1).setCell 0 (.int .i64 code)).setCell 1 (.slice na nums.length ncap)).setCell 2 (.string qAa);have HKF:=hide ((((Keeps.refl (λi=>i=ob+1) w1).setCell (p:=⟨ob+1,0,none⟩) (Or.inl rfl) (.int .i64 code)).setCell (p:=⟨ob+1,1,none⟩) (Or.inl rfl) (.slice na nums.length ncap)).setCell (p:=⟨ob+1,2,none⟩) (Or.inl rfl) (.string qAa));have e9:(((w1.setCell ⟨ob+1,0,none⟩ (.int .i64 code)).setCell ⟨ob+1,1,none⟩ (.slice na nums.length ncap)).setCell ⟨ob+1,2,none⟩ (.string ⟨#[]⟩))=(((w1.setCell ⟨ob+1,0,none⟩ (.int .i64 code)).setCell ⟨ob+1,1,none⟩ (.slice na nums.length ncap)).setCell ⟨ob+1,2,none⟩ (.string qAa)):=rfl
 first | rw[e9] | skip
 generalize(((w1.setCell ⟨ob+1,0,none⟩ (.int .i64 code)).setCell ⟨ob+1,1,none⟩ (.slice na nums.length ncap)).setCell ⟨ob+1,2,none⟩ (.string qAa))=w9 at *;have q0:w9.cell? ⟨ob+1,0,none⟩=some (.int .i64 code):=hbf.cell rfl;have q1:w9.cell? ⟨ob+1,1,none⟩=some (.slice na nums.length ncap):=hbf.cell rfl;have q2:w9.cell? ⟨ob+1,2,none⟩=some (.string qAa):=hbf.cell rfl;refine bodyPost_ret (v:=qC0 code (.slice na nums.length ncap)) (by simp[results,Tryz.results23,go_sem,q0,q1,q2,qC0]) rfl ?_;have hkf:=uh HKF;exact uh HW w9 hkf
theorem zGs(e:Nat)(v:Value)(clock:Int)(ps:List (SB×Ser))(o:OpM)(w:World)(h:ERep w e v clock ps)(hkind:o.kind<1\/7<o.kind):
  Calls Tryz.prog 23 #[.pointer (some ⟨e,0,none⟩),o.val] w λr w'=>StepPost w e v ps clock (ps.map (·.2)) 1 [] r w':=by
 have h0:o.cells[0]?=some (.int .i64 o.kind):=rfl;have hn1:(o.kind==1)=false:=by simp;omega
 have hn2:(o.kind==2)=false:=by simp;omega
 have hn3:(o.kind==3)=false:=by simp;omega
 have hn4:(o.kind==4)=false:=by simp;omega
 have hn5:(o.kind==5)=false:=by simp;omega
 have hn6:(o.kind==6)=false:=by simp;omega
 have hn7:(o.kind==7)=false:=by simp;omega
 have HE:=hide h;clear h hkind;unfold OpM.val;go_enter Tryz.func23,Tryz.ntmps23
 go_wp2_with fail
 have hk0:Keeps (λ_=>False) w ((w.alloc (.cells o.cells.toArray 34)).alloc (.cells #[.int .i64 0,.slice none 0 0,.string ⟨#[]⟩] 38)):=((Keeps.refl (λ_=>False) w).alloc _).alloc _;have HO0:=hide (show Blk ((w.alloc (.cells o.cells.toArray 34)).alloc (.cells #[.int .i64 0,.slice none 0 0,.string ⟨#[]⟩] 38)) w.heap.size o.cells 34 from(Blk.new w o.cells 34).alloc _);have HR0:=hide (show Blk ((w.alloc (.cells o.cells.toArray 34)).alloc (.cells #[.int .i64 0,.slice none 0 0,.string ⟨#[]⟩] 38)) (w.heap.size+1) [.int .i64 0,.slice none 0 0,.string qAa] 38 from Blk.newAt (by simp) [_,_,_] 38);have HE0:=hide ((uh HE).still hk0);have HK0:=hide hk0;clear hk0;generalize(w.alloc (.cells o.cells.toArray 34)).alloc (.cells #[.int .i64 0,.slice none 0 0,.string ⟨#[]⟩] 38)=w0 at *;have HLT:=hide (show ∀i,EFoot e v ps i->i<w.heap.size from(uh HE).lt);generalize hob:w.heap.size=ob at *;have HOB:=hide hob;clear hob;have hsz0:ob+1<w0.heap.size:=(uh HR0).lt;refine(qGg 1 w0).mono ?_;rintro r w1 ⟨rfl,hk1⟩;unfold qC0;have HR1:=hide ((uh HR0).keeps hk1 (λh=>h));have HK1:=hide ((uh HK0).then hk1);clear hk1;have r0:w1.cell? ⟨ob+1,0,none⟩=some (.int .i64 0):=(uh HR1).cell rfl;have r1:w1.cell? ⟨ob+1,1,none⟩=some (.slice none 0 0):=(uh HR1).cell rfl;have r2:w1.cell? ⟨ob+1,2,none⟩=some (.string qAa):=(uh HR1).cell rfl;have rf:=(uh HR1).frozen;go_wp2
 have hbf:=(((uh HR1).setCell 0 (.int .i64 1)).setCell 1 (.slice none 0 0)).setCell 2 (.string qAa);have HKF:=hide ((((Keeps.refl (λi=>i=ob+1) w1).setCell (p:=⟨ob+1,0,none⟩) (Or.inl rfl) (.int .i64 1)).setCell (p:=⟨ob+1,1,none⟩) (Or.inl rfl) (.slice none 0 0)).setCell (p:=⟨ob+1,2,none⟩) (Or.inl rfl) (.string qAa));have e9:(((w1.setCell ⟨ob+1,0,none⟩ (.int .i64 1)).setCell ⟨ob+1,1,none⟩ (.slice none 0 0)).setCell ⟨ob+1,2,none⟩ (.string ⟨#[]⟩))=(((w1.setCell ⟨ob+1,0,none⟩ (.int .i64 1)).setCell ⟨ob+1,1,none⟩ (.slice none 0 0)).setCell ⟨ob+1,2,none⟩ (.string qAa)):=rfl
 first | rw[e9] | skip
 generalize(((w1.setCell ⟨ob+1,0,none⟩ (.int .i64 1)).setCell ⟨ob+1,1,none⟩ (.slice none 0 0)).setCell ⟨ob+1,2,none⟩ (.string qAa))=w9 at *;have q0:w9.cell? ⟨ob+1,0,none⟩=some (.int .i64 1):=hbf.cell rfl;have q1:w9.cell? ⟨ob+1,1,none⟩=some (.slice none 0 0):=hbf.cell rfl;have q2:w9.cell? ⟨ob+1,2,none⟩=some (.string qAa):=hbf.cell rfl;refine bodyPost_ret (v:=qC0 1 (.slice none 0 0)) (by simp[results,Tryz.results23,go_sem,q0,q1,q2,qC0]) rfl ?_;have hkf:=uh HKF;have hob:=uh HOB;have hkk:Keeps (λ_=>False) w w9:=(uh HK1).trans hkf (λi hi hlt=>by omega);exact qB8 (uh HE) hkk (World.ownsRow_nil _ _ _ _)
end
section
open Go.RowKit
structure Ans where
 code:Int
 nv:Value
 nums:List Int
 bs:ByteArray
def Ans.cells(x:Ans): List Value:=[.int .i64 x.code,x.nv,.string x.bs]
def qEt(l:List Ans): List Value:=l.flatMap Ans.cells
structure ARep (w:World) (base:Nat) (v:Value) (l:List Ans):Prop where
 row:w.ownsRow base 38 3 v l.length (qEt l)
 nums:∀x,x∈l->w.ownsRow base 3 1 x.nv x.nums.length (ints x.nums)
 apart:∀x,x∈l->∀i,x.nv.ownBlock=some i->v.ownBlock≠some i
def qZ1(v:Value)(l:List Ans)(i:Nat): Prop:=v.ownBlock=some i\/∃x,x∈l/\x.nv.ownBlock=some i
theorem ARep.keeps{M:Nat->Prop}{w w':World}{base:Nat}{v:Value}{l:List Ans}(h:ARep w base v l)(hk:Keeps M w w')(hn:∀i,qZ1 v l i->¬M i): ARep w' base v l :=
 ⟨qBk h.row hk (λi hi=>hn i (.inl hi)),λx hx=>qBk (h.nums x hx) hk (λi hi=>hn i (.inr ⟨x,hx,hi⟩)),h.apart⟩
theorem ARep.lt{w:World}{base:Nat}{v:Value}{l:List Ans}(h:ARep w base v l)(i:Nat)(hi:qZ1 v l i): base<=i/\i<w.heap.size:=by
 rcases hi with hi | ⟨x,hx,hi⟩
 ·exact h.row.lt i hi
 ·exact(h.nums x hx).lt i hi
def qM7: WS->List OpM->List (Int×List Int)
 | _,[]=>[]
 | s,o::r=>(qCk s o).2::qM7 (qCk s o).1 r
def zCv: WS->List OpM->WS
 | s,[]=>s
 | s,o::r=>zCv (qCk s o).1 r
theorem qC5(s:WS)(l:List OpM): (qM7 s l).length=l.length:=by
 induction l generalizing s with
 | nil=>rfl
 | cons a l ih=>simp[qM7,ih]
theorem qTi(s:WS)(a b:List OpM): qM7 s (a++b)=qM7 s a++qM7 (zCv s a) b:=by
 induction a generalizing s with
 | nil=>rfl
 | cons x l ih=>simp[qM7,zCv,ih]
def qQ4: WS->List OpM->List ByteArray
 | _,[]=>[]
 | s,o::r=>qEo s o::qQ4 (qCk s o).1 r
theorem qE9(s:WS)(l:List OpM): (qQ4 s l).length=l.length:=by
 induction l generalizing s with
 | nil=>rfl
 | cons a l ih=>simp[qQ4,ih]
theorem qU3(s:WS)(a b:List OpM): qQ4 s (a++b)=qQ4 s a++qQ4 (zCv s a) b:=by
 induction a generalizing s with
 | nil=>rfl
 | cons x l ih=>simp[qQ4,zCv,ih]
def ws0: WS:=⟨0,[]⟩
theorem inv0: EInv 0 ws0.clock ws0.xs:=⟨by simp[ws0],by simp[ws0],by simp[ws0],λx hx=>by simp[ws0]at hx,λx hx=>by simp[ws0]at hx⟩
def ScriptAt(w:World)(sb so:Nat)(ops:List OpM): Prop:=∀i o,ops[i]?=some o->w.rangeAt sb (so+i*26) o.cells
theorem zFb: (Tryz.prog.info? 38).map (λi=>(i.zero,i.size,i.bytes))=some (some (.agg #[.int .i64 0,.slice none 0 0,.string ⟨#[]⟩]),3,48):=by kernel_rfl
theorem qOy(o:OpM): o.cells.toArray.all (·.oneCell')=true:=by simp[OpM.cells,Cfg.vals,Value.oneCell']
theorem qNw(a b:List Ans): qEt (a++b)=qEt a++qEt b:=by simp[qEt]
theorem qZd{w wr w2 w3:World}{P O:Obj}{e:Nat}{v v' av av':Value}{clock':Int}{ps ps':List (SB×Ser)}{l:List Ans}{code:Int}{nv:Value}{nums:List Int}{bs:ByteArray}{gg cap':Nat}(hKr:Keeps (λ_=>False) w wr)(hA:ARep wr w.heap.size av l)(hL:∀i,EFoot e v ps i->w.heap.size<=i)(hD:∀i,qZ1 av l i->¬EFoot e v ps i)(hE2:ERep w2 e v' clock' ps')(hn2:w2.ownsRow (wr.alloc P).heap.size 3 1 nv nums.length (ints nums))(hk2:Keeps (EFoot e v ps) (wr.alloc P) w2)(hf2:∀i,EFoot e v' ps' i->EFoot e v ps i\/(wr.alloc P).heap.size<=i)(hd2:∀i,nv.ownBlock=some i->¬EFoot e v' ps' i)(hav:av'=.slice (some ⟨gg,0,none⟩) (l.length+1) cap')(hown:w3.ownsRow w.heap.size 38 3 av' (l.length+1) (qEt l++[.int .i64 code,nv,.string bs]))(hgrow:(w2.alloc O).grownBy w3 av.ownBlock)(hat:av.ownBlock=some gg\/gg=w2.heap.size+1):
  ERep w3 e v' clock' ps'/\ARep w3 w.heap.size av' (l++[⟨code,nv,nums,bs⟩])/\Keeps (λ_=>False) w w3/\(∀i,EFoot e v' ps' i->w.heap.size<=i)/\(∀i,qZ1 av' (l++[⟨code,nv,nums,bs⟩]) i->¬EFoot e v' ps' i):=by
 rw[World.size_alloc]at hn2 hf2;have hsr:=hKr.size;have hs2:wr.heap.size+1<=w2.heap.size:=by have:=hk2.size;rwa [World.size_alloc]at this
 have hnb:av'.ownBlock=some gg:=by rw[hav];rfl
 have hkg:Keeps (λi=>av.ownBlock=some i) (w2.alloc O) w3:=⟨hgrow.os,hgrow.tape,hgrow.output,hgrow.size,λk hk hn=>hgrow.block k hk (λh=>hn h.symm)⟩;have hka:Keeps (λi=>av.ownBlock=some i) w2 w3:=((Keeps.refl (λi=>av.ownBlock=some i) w2).alloc O).then hkg;have hkr2:Keeps (EFoot e v ps) wr w2:=((Keeps.refl (EFoot e v ps) wr).alloc P).then hk2;have hAlt:=hA.lt;have hE2lt:=hE2.lt;have hnlt:∀i,nv.ownBlock=some i->wr.heap.size+1<=i/\i<w2.heap.size:=λi hi=>hn2.lt i hi
 have hA2:ARep w2 w.heap.size av l:=hA.keeps hkr2 (λi hi=>hD i hi);have hav2:∀i,av.ownBlock=some i->¬EFoot e v' ps' i:=λi hi hf=>by
  rcases hf2 i hf with h | h
  ·exact hD i (.inl hi) h
  ·have:=(hAlt i (.inl hi)).2;omega
 refine⟨hE2.keeps hka (λi hi h=>hav2 i h hi),⟨?_,?_,?_⟩,?_,?_,?_⟩
 ·rw[qNw,List.length_append];exact hown
 ·intro x hx
  rcases List.mem_append.1 hx with hx | hx
  ·exact qBk (hA2.nums x hx) hka (λi hi h=>hA.apart x hx i hi h)
  ·rw[List.mem_singleton]at hx;subst hx
   exact qBk (qJd hn2 (by omega)) hka (λi hi h=>by have h1:=hnlt i hi;have h2:=(hAlt i (.inl h)).2;omega)
 ·intro x hx i hi h
  rw[hnb]at h;injection h with h;rcases List.mem_append.1 hx with hx | hx
  ·rcases hat with h2 | h2
   ·exact hA.apart x hx i hi (by rw[h2,h])
   ·have:=(hAlt i (.inr ⟨x,hx,hi⟩)).2;omega
  ·rw[List.mem_singleton]at hx;subst hx
   have h1:=hnlt i hi;rcases hat with h2 | h2
   ·have:=(hAlt gg (.inl h2)).2;omega
   ·omega
 ·refine((hKr.trans (M':=EFoot e v ps) hkr2 (λi hi hlt=>by have:=hL i hi;omega)).trans hka (λi hi hlt=>by have:=(hAlt i (.inl hi)).1;omega))
 ·intro i hi
  rcases hf2 i hi with h | h
  ·exact hL i h
  ·omega
 ·intro i hi hf
  rcases hi with hi | ⟨x,hx,hi⟩
  ·rw[hnb]at hi;injection hi with hi
   rcases hat with h2 | h2
   ·exact hav2 i (by rw[h2,hi]) hf
   ·have:=hE2lt i hf;omega
  ·rcases List.mem_append.1 hx with hx | hx
   ·rcases hf2 i hf with h | h
    ·exact hD i (.inr ⟨x,hx,hi⟩) h
    ·have:=(hAlt i (.inr ⟨x,hx,hi⟩)).2;omega
   ·rw[List.mem_singleton]at hx;subst hx
    exact hd2 i hi hf
theorem qHf{w:World}{base:Nat}{v:Value}{l:List Int}(h:w.ownsRow base 3 1 v l.length (ints l)): (l=[]/\∃a c,v=.slice a 0 c)\/∃g c,v=.slice (some ⟨g,0,none⟩) l.length c/\∀i,i<l.length->w.cell? ⟨g,i,none⟩=some (.int .i64 (l.getD i 0)):=by
 rcases h.2 with ⟨h1,h2⟩ | ⟨g,cap,cur,h1,_,h3,h4,h5,h6,h7⟩
 ·exact .inl ⟨List.length_eq_zero_iff.1 h2,none,0,h1⟩
 ·refine .inr ⟨g,cap,h1,λi hi=>?_⟩
  have hc:cur[i]?=(ints l)[i]?:=by
   rw[<-h7,List.getElem?_take,if_pos (by omega)];simp
  have:cur[i]?=some (.int .i64 (l.getD i 0)):=by
   rw[hc];unfold ints;rw[List.getElem?_map,List.getElem?_eq_getElem hi,List.getD_eq_getElem?_getD,List.getElem?_eq_getElem hi];rfl
  simp[World.cell?,h3,this]
theorem zCd(b1 b2:Nat)(v1 v2:Value)(l:List Int)(w:World)(h1:w.ownsRow b1 3 1 v1 l.length (ints l))(h2:w.ownsRow b2 3 1 v2 l.length (ints l))(hl:l.length<=1000):
  Calls Tryz.prog 24 #[v1,v2] w λe w'=>e=.returned (.bool true)/\Keeps (λ_=>False) w w':=by
 rcases qHf h1 with ⟨rfl,a1,c1,rfl⟩ | ⟨g1,c1,rfl,hc1⟩
 ·rcases qHf h2 with ⟨_,a2,c2,rfl⟩ | ⟨g2,c2,rfl,hc2⟩
  all_goals
   clear h1 h2;go_enter Tryz.func24,Tryz.ntmps24
   go_wp2
   go_loopw [5] (λi wr=>i=.int .i64 0/\wr=w) (λ_ _=>0)
   case atStart=>exact⟨rfl,rfl⟩
   case round =>
    obtain⟨rfl,rfl⟩:=hrel;go_wp2
    go_ret
    exact⟨rfl,Keeps.refl _ _⟩
 ·rcases qHf h2 with ⟨h0,a2,c2,rfl⟩ | ⟨g2,c2,rfl,hc2⟩
  ·subst h0
   clear h1 h2 hc1;go_enter Tryz.func24,Tryz.ntmps24
   go_wp2
   go_loopw [5] (λi wr=>i=.int .i64 0/\wr=w) (λ_ _=>0)
   case atStart=>exact⟨rfl,rfl⟩
   case round =>
    obtain⟨rfl,rfl⟩:=hrel;go_wp2
    go_ret
    exact⟨rfl,Keeps.refl _ _⟩
  ·have HC1:=hide hc1
   have HC2:=hide hc2;clear h1 h2 hc1 hc2;generalize hn:l.length=n at *;clear hn;go_enter Tryz.func24,Tryz.ntmps24
   go_wp2
   go_loopw [5] (λi wr=>∃k:Nat,k<=n/\i=.int .i64 k/\Hid (Keeps (λ_=>False) w wr)) (λi _=>n-(intOf i).toNat)
   case atStart=>exact⟨0,by omega,rfl,Keeps.refl _ _⟩
   case round =>
    obtain⟨k,hk,rfl,HK⟩:=hrel
    by_cases hlt:k<n
    ·have x1:wr.cell? ⟨g1,k,none⟩=some (.int .i64 (l.getD k 0)):=(uh HK).cell (uh HC1 k hlt) (λh=>h)
     have x2:wr.cell? ⟨g2,k,none⟩=some (.int .i64 (l.getD k 0)):=(uh HK).cell (uh HC2 k hlt) (λh=>h);generalize l.getD k 0=y at *;have hk0:(0:Int)<=(k:Int):=by omega
     have hkn:(k:Int)<(n:Int):=by omega
     have hne:(y !=y)=false:=by simp
     go_wp2
     go_quiet (fail)
     go_wp2
     go_roundw
     case rel=>exact⟨k+1,by omega,by go_num,hide ((uh HK).then (Keeps.drewN _ _ _))⟩
     case measure=>simp[intOf];omega
    ·go_wp2
     go_ret
     exact⟨rfl,uh HK⟩
theorem zDx(c n:Int)(w:World)(hn:1<=n)(hn':n<=4611686018427387904)(c0:-9223372036854775808<=c)(c1:c<=9223372036854775807):
  Calls Tryz.prog 10 #[.int .i64 c,.int .i64 n] w λe w'=>∃k:Nat,(k:Int)<n/\e=.returned (.int .i64 k)/\w'=w:=by
 by_cases h:c<0
 ·obtain⟨k,hk⟩:∃k:Nat,(k:Int)=(-(c+1))%n:=⟨((-(c+1))%n).toNat,Int.toNat_of_nonneg (Int.emod_nonneg _ (by omega))⟩
  have hlt:=Int.emod_lt_of_pos (-(c+1)) (show 0<n by omega);have HK:=hide hk;clear hk;go_enter Tryz.func10,Tryz.ntmps10
  go_wp2
  go_ret
  exact⟨k,by rw[uh HK];exact hlt,qBa ((Int.neg_tmod (c+1) n).symm.trans ((Int.tmod_eq_emod_of_nonneg (by omega)).trans (uh HK).symm)),rfl⟩
 ·obtain⟨k,hk⟩:∃k:Nat,(k:Int)=c%n:=⟨(c%n).toNat,Int.toNat_of_nonneg (Int.emod_nonneg _ (by omega))⟩
  have hlt:=Int.emod_lt_of_pos c (show 0<n by omega);have HK:=hide hk;clear hk;go_enter Tryz.func10,Tryz.ntmps10
  go_wp2
  go_ret
  exact⟨k,by rw[uh HK];exact hlt,qBa (uh HK).symm,rfl⟩
theorem qYk{wa w2 w3:World}{O:Obj}{e:Nat}{v nv:Value}{clock:Int}{ps:List (SB×Ser)}{b2:SB}{x:Ser}{gg m cap':Nat}(hE:ERep wa e v clock ps)(hm:ps.length=m)(hnv:nv=.slice (some ⟨gg,0,none⟩) (m+1) cap')(hs2:SRep w2 b2 x)(hft:∀i,b2.foot x.k i->wa.heap.size<=i)(hk2:Keeps (λ_=>False) wa w2)(hown:w3.ownsRow 0 74 1 nv (m+1) (ptrs ps++[.pointer (some ⟨b2.s,0,none⟩)]))(hgrow:(w2.alloc O).grownBy w3 v.ownBlock)(hat:v.ownBlock=some gg\/gg=w2.heap.size+1):
  ERep (w3.setCell ⟨e,1,none⟩ nv) e nv clock (ps++[(b2,x)])/\Keeps (EFoot e v ps) wa (w3.setCell ⟨e,1,none⟩ nv)/\(∀i,EFoot e nv (ps++[(b2,x)]) i->EFoot e v ps i\/wa.heap.size<=i):=by
 have hsz:=hk2.size;have hnb:nv.ownBlock=some gg:=by rw[hnv];rfl
 have hk3:Keeps (λi=>v.ownBlock=some i) wa w3:=((hk2.mono (M':=λi=>v.ownBlock=some i) (λ_ _ h=>h.elim)).alloc O).grown hgrow (λk hk=>Or.inl hk);have hk4:Keeps (λi=>i=e) w3 (w3.setCell ⟨e,1,none⟩ nv):=(Keeps.refl (λi=>i=e) w3).setCell (p:=⟨e,1,none⟩) (Or.inl rfl) _;have hele:=hE.blk.lt;have hge:gg≠e:=by
  rcases hat with h | h
  ·intro he;exact hE.ev (by rw[h,he])
  ·omega
 have hrowlt:∀i,v.ownBlock=some i->i<wa.heap.size:=λi hi=>hE.lt i (.inr (.inl hi))
 have hsnew:SRep w3 b2 x:=(hs2.still ((Keeps.refl (λ_=>False) w2).alloc O)).keeps (M:=λi=>v.ownBlock=some i) ⟨hgrow.os,hgrow.tape,hgrow.output,hgrow.size,λk hk hn=>hgrow.block k hk (λh=>hn h.symm)⟩ (λi hi h=>by have h1:=hft i hi;have h2:=hrowlt i h;omega);refine⟨⟨?_,?_,?_,?_,?_,?_⟩,?_,?_⟩
 ·exact(hE.blk.keeps hk3 (λh=>hE.ev h)).setCell 1 nv
 ·have:=qBk hown hk4 (λi hi h=>by rw[hnb]at hi;injection hi with hi;omega)
  rw[qMx,List.length_append,hm];exact this
 ·intro p hp
  rcases List.mem_append.1 hp with hp | hp
  ·exact((hE.reps p hp).keeps hk3 (λi hi h=>(hE.ef p hp i hi).2 h)).keeps hk4 (λi hi h=>(hE.ef p hp i hi).1 h)
  ·rw[List.mem_singleton]at hp;subst hp
   exact hsnew.keeps hk4 (λi hi h=>by have:=hft i hi;omega)
 ·refine List.pairwise_append.2 ⟨hE.apart,List.pairwise_singleton _ _,?_⟩
  intro p hp q hq i hi hqi;rw[List.mem_singleton]at hq;subst hq;have h1:=(hE.reps p hp).lt i hi;have h2:=hft i hqi;omega
 ·rw[hnb];intro h;injection h with h;exact hge h
 ·intro p hp i hi
  rw[hnb];rcases List.mem_append.1 hp with hp | hp
  ·refine⟨(hE.ef p hp i hi).1,λh=>?_⟩
   injection h with h;have h1:=(hE.reps p hp).lt i hi;rcases hat with h2 | h2
   ·exact(hE.ef p hp i hi).2 (by rw[h2,h])
   ·omega
  ·rw[List.mem_singleton]at hp;subst hp
   have h1:=hft i hi;have h2:=hs2.lt i hi;refine⟨by omega,λh=>?_⟩;injection h with h;rcases hat with h3 | h3
   ·have:=hrowlt gg h3;omega
   ·omega
 ·exact(hk3.mono (M':=EFoot e v ps) (λi _ h=>.inr (.inl h))).trans hk4 (λi hi _=>.inl hi)
 ·intro i hi
  rcases hi with hi | hi | ⟨p,hp,hi⟩
  ·exact .inl (.inl hi)
  ·rw[hnb]at hi;injection hi with hi
   rcases hat with h | h
   ·exact .inl (.inr (.inl (by rw[h,hi])))
   ·exact .inr (by omega)
  ·rcases List.mem_append.1 hp with hp | hp
   ·exact .inl (.inr (.inr ⟨p,hp,hi⟩))
   ·rw[List.mem_singleton]at hp;subst hp
    exact .inr (hft i hi)
end
end Go.Proofs.YtahnliehdjncdabGreatDoor
