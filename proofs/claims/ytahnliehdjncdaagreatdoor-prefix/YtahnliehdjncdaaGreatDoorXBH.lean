import Derived.Test.YtahnliehdjncdaaGreatDoorXBG
import Derived.Test.YtahnliehdjncdaaGreatDoorXBB
import Derived.Test.YtahnliehdjncdaaGreatDoorXBD
set_option maxRecDepth 100000
set_option maxHeartbeats 16000000
namespace Go.Proofs.YtahnliehdjncdaaGreatDoor
section
open Go.RowKit
attribute [local go_sem ↓] qAd qAe
attribute [local go_sem] qAh qAl qAb qAc qAm qAn qAi qAj qAg qAk ix0 ix1 ix2 ix3 ix4 ix5 ix6
theorem qHb(k:Nat)(c:Cfg)(p3:qBi k c<=3): (qCg k c).length<=14:=by
 have h1:(qB2 k).length<=4:=by unfold qB2;split <;> simp
 have h2:(qBr (qBi k c).toNat).length<=6:=by simp[qBr];omega
 simp[qCg];omega
theorem qRi(sb:SB)(x:Ser)(clock:Int)(b:Nat)(v:Value)(bs:List Nat)(w:World)(hs:SRep w sb x)(hi:SerOk x)(hw:WRep w b v bs)(hf:∀i,qBz b v i->¬sb.foot x.k i)(c0:0<=clock)(c1:clock<=4611686018427387904)(hbl:bs.length+10*x.nt.bs.length<=140737479000000):
  Calls Tryz.prog 72 #[.pointer (some ⟨sb.s,0,none⟩),.pointer (some ⟨b,0,none⟩),.int .i64 clock] w λe w'=>e=.returned (.tuple #[])/\Wrote w b v (bs++qC0 (qHl clock x)) w':=by
 have HS:=hide (show ∀w',Keeps (qBz b v) w w'->SRep w' sb x from λw' hk=>hs.keeps hk (λi hi' hm=>hf i hm hi'))
 have HF:=hide hf
 have HI:=hide hi
 have HLS:=hide (show ∀i,sb.foot x.k i->i<w.heap.size from hs.lt)
 have HW:=hide (Wrote.refl hw)
 have d0:w.cell? ⟨sb.s,0,none⟩=some (.int .i64 x.id):=hs.blk.cell rfl
 obtain⟨i0,i1⟩:=hi.id0
 clear hs hi hw hf
 go_enter Tryz.func72,Tryz.ntmps72
 go_wp2_with fail
 refine(qBt b v bs x.id w w (uh HW) i0 i1 (by omega)).mono ?_
 rintro e w1 ⟨rfl,hw1⟩
 have HO1:=hide hw1
 clear hw1 d0
 obtain⟨hv1,hh1⟩:=qBa (uh HS w1 (uh HO1).kp).blk 1 20 x.c.cells rfl rfl
 go_wp2_with fail
 have HCL:=hide (qHb x.k x.c (uh HI).p3)
 obtain⟨v1,a1,a2,a3⟩:=uh HO1
 refine(qLs b v1 (bs++enc x.id) x.c x.k w1 a1 (uh HI).kind (uh HI).k1 (uh HI).k5 (uh HI).p0 (uh HI).p3 (uh HI).cfg (by have:=qBj x.id;rw[List.length_append];omega)).mono ?_
 rintro e w2 ⟨rfl,hw2⟩
 have HO2:=hide (Wrote.then a2 a3 hw2)
 clear hw2 a1 a2 a3 v1 hv1 hh1 HO1
 go_wp2_with fail
 refine(qNd w2).mono ?_
 rintro e w3 ⟨rfl,hk3⟩
 have HO3:=hide ((uh HO2).still hk3)
 clear hk3 HO2
 have hl1:(bs++enc x.id++qC0 (qCg x.k x.c)).length+10*x.nt.bs.length<=140737479000150:=by
  have h1:=qBj x.id
  have h2:=qAv (qCg x.k x.c)
  have h3:=uh HCL
  rw[List.length_append,List.length_append];omega
 obtain⟨b1,hb1⟩:∃b1,bs++enc x.id++qC0 (qCg x.k x.c)=b1:=⟨_,rfl⟩
 rw[hb1]at HO3 hl1
 have HB1:=hide hb1
 clear hb1
 go_wp2_with fail
 go_loopw [23] (λi wr=>∃k:Nat,k<=7/\i=.int .i64 k/\Hid (Wrote w b v (b1++qC0 ((qCx.map (qA0 x.ref)).take k)) wr)) (λi _=>7-(intOf i).toNat)
 case atStart=>exact⟨0,by omega,rfl,by show Wrote _ _ _ _ _;rw[List.take_zero,qC8,List.append_nil];exact uh HO3⟩
 case round =>
  obtain⟨k,hk,rfl,HOr⟩:=hrel
  by_cases hlt7:k<7
  ·have hk7:k=0\/k=1\/k=2\/k=3\/k=4\/k=5\/k=6:=by omega
   rcases hk7 with hk7 | hk7 | hk7 | hk7 | hk7 | hk7 | hk7
   all_goals subst hk7
   ·have hc:wr.cell? ⟨sb.s,40,none⟩=some (.int .i64 (qA0 x.ref 5)):=(uh HS wr (uh HOr).kp).blk.cell (qDd sb x (uh HI).refl 5 (by omega))
    obtain⟨n0,n1⟩:=qFv (uh HI).ref 5
    have HTK:=hide (qEu (qA0 x.ref) 0 5 rfl)
    go_wp2_with fail
    refine(qBt b v _ (qA0 x.ref 5) w wr (uh HOr) n0 n1 (by have h1:=qAv ((qCx.map (qA0 x.ref)).take 0);have h2:((qCx.map (qA0 x.ref)).take 0).length<=7:=(by rw[List.length_take];omega);rw[List.length_append];omega)).mono ?_
    rintro e w4 ⟨rfl,hw4⟩
    have HO4:=hide hw4
    clear hw4 hc
    go_wp2
    go_roundw
    case rel =>
     refine⟨1,by omega,rfl,?_⟩
     show Wrote _ _ _ _ _
     have:=uh HO4
     rw[uh HTK,qAx,qCv,<-List.append_assoc]
     exact this
    case measure=>simp[intOf]
   ·have hc:wr.cell? ⟨sb.s,41,none⟩=some (.int .i64 (qA0 x.ref 6)):=(uh HS wr (uh HOr).kp).blk.cell (qDd sb x (uh HI).refl 6 (by omega))
    obtain⟨n0,n1⟩:=qFv (uh HI).ref 6
    have HTK:=hide (qEu (qA0 x.ref) 1 6 rfl)
    go_wp2_with fail
    refine(qBt b v _ (qA0 x.ref 6) w wr (uh HOr) n0 n1 (by have h1:=qAv ((qCx.map (qA0 x.ref)).take 1);have h2:((qCx.map (qA0 x.ref)).take 1).length<=7:=(by rw[List.length_take];omega);rw[List.length_append];omega)).mono ?_
    rintro e w4 ⟨rfl,hw4⟩
    have HO4:=hide hw4
    clear hw4 hc
    go_wp2
    go_roundw
    case rel =>
     refine⟨2,by omega,rfl,?_⟩
     show Wrote _ _ _ _ _
     have:=uh HO4
     rw[uh HTK,qAx,qCv,<-List.append_assoc]
     exact this
    case measure=>simp[intOf]
   ·have hc:wr.cell? ⟨sb.s,42,none⟩=some (.int .i64 (qA0 x.ref 7)):=(uh HS wr (uh HOr).kp).blk.cell (qDd sb x (uh HI).refl 7 (by omega))
    obtain⟨n0,n1⟩:=qFv (uh HI).ref 7
    have HTK:=hide (qEu (qA0 x.ref) 2 7 rfl)
    go_wp2_with fail
    refine(qBt b v _ (qA0 x.ref 7) w wr (uh HOr) n0 n1 (by have h1:=qAv ((qCx.map (qA0 x.ref)).take 2);have h2:((qCx.map (qA0 x.ref)).take 2).length<=7:=(by rw[List.length_take];omega);rw[List.length_append];omega)).mono ?_
    rintro e w4 ⟨rfl,hw4⟩
    have HO4:=hide hw4
    clear hw4 hc
    go_wp2
    go_roundw
    case rel =>
     refine⟨3,by omega,rfl,?_⟩
     show Wrote _ _ _ _ _
     have:=uh HO4
     rw[uh HTK,qAx,qCv,<-List.append_assoc]
     exact this
    case measure=>simp[intOf]
   ·have hc:wr.cell? ⟨sb.s,43,none⟩=some (.int .i64 (qA0 x.ref 8)):=(uh HS wr (uh HOr).kp).blk.cell (qDd sb x (uh HI).refl 8 (by omega))
    obtain⟨n0,n1⟩:=qFv (uh HI).ref 8
    have HTK:=hide (qEu (qA0 x.ref) 3 8 rfl)
    go_wp2_with fail
    refine(qBt b v _ (qA0 x.ref 8) w wr (uh HOr) n0 n1 (by have h1:=qAv ((qCx.map (qA0 x.ref)).take 3);have h2:((qCx.map (qA0 x.ref)).take 3).length<=7:=(by rw[List.length_take];omega);rw[List.length_append];omega)).mono ?_
    rintro e w4 ⟨rfl,hw4⟩
    have HO4:=hide hw4
    clear hw4 hc
    go_wp2
    go_roundw
    case rel =>
     refine⟨4,by omega,rfl,?_⟩
     show Wrote _ _ _ _ _
     have:=uh HO4
     rw[uh HTK,qAx,qCv,<-List.append_assoc]
     exact this
    case measure=>simp[intOf]
   ·have hc:wr.cell? ⟨sb.s,45,none⟩=some (.int .i64 (qA0 x.ref 10)):=(uh HS wr (uh HOr).kp).blk.cell (qDd sb x (uh HI).refl 10 (by omega))
    obtain⟨n0,n1⟩:=qFv (uh HI).ref 10
    have HTK:=hide (qEu (qA0 x.ref) 4 10 rfl)
    go_wp2_with fail
    refine(qBt b v _ (qA0 x.ref 10) w wr (uh HOr) n0 n1 (by have h1:=qAv ((qCx.map (qA0 x.ref)).take 4);have h2:((qCx.map (qA0 x.ref)).take 4).length<=7:=(by rw[List.length_take];omega);rw[List.length_append];omega)).mono ?_
    rintro e w4 ⟨rfl,hw4⟩
    have HO4:=hide hw4
    clear hw4 hc
    go_wp2
    go_roundw
    case rel =>
     refine⟨5,by omega,rfl,?_⟩
     show Wrote _ _ _ _ _
     have:=uh HO4
     rw[uh HTK,qAx,qCv,<-List.append_assoc]
     exact this
    case measure=>simp[intOf]
   ·have hc:wr.cell? ⟨sb.s,44,none⟩=some (.int .i64 (qA0 x.ref 9)):=(uh HS wr (uh HOr).kp).blk.cell (qDd sb x (uh HI).refl 9 (by omega))
    obtain⟨n0,n1⟩:=qFv (uh HI).ref 9
    have HTK:=hide (qEu (qA0 x.ref) 5 9 rfl)
    go_wp2_with fail
    refine(qBt b v _ (qA0 x.ref 9) w wr (uh HOr) n0 n1 (by have h1:=qAv ((qCx.map (qA0 x.ref)).take 5);have h2:((qCx.map (qA0 x.ref)).take 5).length<=7:=(by rw[List.length_take];omega);rw[List.length_append];omega)).mono ?_
    rintro e w4 ⟨rfl,hw4⟩
    have HO4:=hide hw4
    clear hw4 hc
    go_wp2
    go_roundw
    case rel =>
     refine⟨6,by omega,rfl,?_⟩
     show Wrote _ _ _ _ _
     have:=uh HO4
     rw[uh HTK,qAx,qCv,<-List.append_assoc]
     exact this
    case measure=>simp[intOf]
   ·have hc:wr.cell? ⟨sb.s,46,none⟩=some (.int .i64 (qA0 x.ref 11)):=(uh HS wr (uh HOr).kp).blk.cell (qDd sb x (uh HI).refl 11 (by omega))
    obtain⟨n0,n1⟩:=qFv (uh HI).ref 11
    have HTK:=hide (qEu (qA0 x.ref) 6 11 rfl)
    go_wp2_with fail
    refine(qBt b v _ (qA0 x.ref 11) w wr (uh HOr) n0 n1 (by have h1:=qAv ((qCx.map (qA0 x.ref)).take 6);have h2:((qCx.map (qA0 x.ref)).take 6).length<=7:=(by rw[List.length_take];omega);rw[List.length_append];omega)).mono ?_
    rintro e w4 ⟨rfl,hw4⟩
    have HO4:=hide hw4
    clear hw4 hc
    go_wp2
    go_roundw
    case rel =>
     refine⟨7,by omega,rfl,?_⟩
     show Wrote _ _ _ _ _
     have:=uh HO4
     rw[uh HTK,qAx,qCv,<-List.append_assoc]
     exact this
    case measure=>simp[intOf]
  ·have hk7:k=7:=by omega
   subst hk7
   have htk:(qCx.map (qA0 x.ref)).take 7=qCx.map (qA0 x.ref):=rfl
   rw[htk]at HOr
   have hl2:(b1++qC0 (qCx.map (qA0 x.ref))).length+10*x.nt.bs.length<=140737479000250:=by
    have h2:=qAv (qCx.map (qA0 x.ref))
    have h3:(qCx.map (qA0 x.ref)).length=7:=rfl
    rw[List.length_append];omega
   obtain⟨b2,hb2⟩:∃b2,b1++qC0 (qCx.map (qA0 x.ref))=b2:=⟨_,rfl⟩
   rw[hb2]at HOr hl2
   have HB2:=hide hb2
   clear hb2 htk
   have d34:wr.cell? ⟨sb.s,34,none⟩=some (.int .i64 x.rel):=(uh HS wr (uh HOr).kp).blk.cell rfl
   obtain⟨r0,r1⟩:=(uh HI).rel
   go_wp2_with fail
   refine(qBt b v b2 x.rel w wr (uh HOr) r0 r1 (by omega)).mono ?_
   rintro e w4 ⟨rfl,hw4⟩
   have HO4:=hide hw4
   clear hw4 d34 HOr
   have HS4:=hide (uh HS w4 (uh HO4).kp)
   have d32:w4.cell? ⟨sb.s,32,none⟩=some (.pointer (some ⟨sb.q,0,none⟩)):=(uh HS4).blk.cell rfl
   have HLen:=hide (len_any sb.q sb.g x.l w4 (uh HS4).que)
   have hl8:=(uh HI).len
   have HQA:=hide (show ∀w',Keeps (qBz b v) w w'->_ from λw' hk'=>qY7 sb.q sb.g x.l w' (uh HS w' hk').que (by omega))
   have HBN:=hide (uh HI).buf
   have HNUM:=hide (show qHl clock x=(x.id::(qCg x.k x.c++(qCx.map (qA0 x.ref)++[x.rel,(x.l.length:Int)])))++(qLb x.k (Qi.allL (x.l.length+1) x.l)++zD2 x.k x.c x.nt (clock-x.c.lag)) from rfl)
   generalize Qi.allL (x.l.length+1) x.l=R at *
   generalize x.l.length=n at *
   go_wp2_with fail
   refine(uh HLen).mono ?_
   rintro e w5 ⟨rfl,hw5⟩
   rw[hw5]
   clear hw5 w5 HLen
   go_wp2_with fail
   refine(qBt b v _ n w w4 (uh HO4) (by omega) (by omega) (by have:=qBj x.rel;rw[List.length_append];omega)).mono ?_
   rintro e w5 ⟨rfl,hw5⟩
   have HO5:=hide hw5
   clear hw5 d32 HS4 HO4
   have d32:w5.cell? ⟨sb.s,32,none⟩=some (.pointer (some ⟨sb.q,0,none⟩)):=(uh HS w5 (uh HO5).kp).blk.cell rfl
   go_wp2_with fail
   obtain⟨v6,q1,q2,q3⟩:=uh HO5
   have HNF:=hide (show ∀i,sb.foot x.k i->¬qBz b v6 i from λi hi=>qEm (λh=>uh HF i h hi) q2 (uh HLS i hi))
   have HQ2:=hide q2
   have HQ3:=hide q3
   have HLT:=hide q1.lt
   refine(uh HQA w5 (uh HO5).kp).mono ?_
   rintro e w6 ⟨g,cp,rfl,hg,hr6,hlen,hk6⟩
   have HS6:=hide (show ∀w',Keeps (qBz b v6) w6 w'->SRep w' sb x from λw' hk'=>((uh HS w5 (uh HO5).kp).still hk6).keeps hk' (uh HNF))
   have HG:=hide (show ¬qBz b v6 g from λh=>by have:=uh HLT g h;omega)
   have HR6:=hide hr6
   have HLN:=hide hlen
   have HW6:=hide (Wrote.refl (q1.still hk6))
   have HK6:=hide hk6
   have hl3:(b2++enc x.rel++enc (n:Int)).length+10*x.nt.bs.length<=140737479000300:=by
    have h1:=qBj x.rel
    have h2:=qBj (n:Int)
    rw[List.length_append,List.length_append];omega
   obtain⟨b3,hb3⟩:∃b3,b2++enc x.rel++enc (n:Int)=b3:=⟨_,rfl⟩
   rw[hb3]at HW6 hl3
   have HB3:=hide hb3
   clear hb3 hk6 hr6 hlen q1 q2 q3 hg HO5 HQA d32 HLT
   go_wp2_with fail
   go_loopw [54] (λi wr=>∃k:Nat,i=.int .i64 k/\k<=n/\Hid (Wrote w6 b v6 (b3++qC0 (qLb x.k (R.take k))) wr)) (λi _=>n-(intOf i).toNat)
   case atStart=>exact⟨0,rfl,Nat.zero_le _,by show Wrote _ _ _ _ _;simp only[List.take_zero,qLb,List.flatMap_nil,qC8,List.append_nil];exact uh HW6⟩
   case round =>
    obtain⟨k,rfl,hk2,HOr⟩:=hrel
    have hk0:(0:Int)<=(k:Int):=by omega
    have HSr:=hide (uh HS6 wr (uh HOr).kp)
    have hlb:(b3++qC0 (qLb x.k (R.take k))).length+10*x.nt.bs.length<=140737479000620:=by
     have h1:=qAv (qLb x.k (R.take k))
     have h2:=qKp x.k (R.take k)
     rw[List.length_take,uh HLN]at h2
     rw[List.length_append];omega
    by_cases hlk:k<n
    ·obtain⟨v',hwr,hvr,hkr⟩:=uh HOr
     have hkn:k<R.length:=by rw[uh HLN];exact hlk
     obtain⟨x0,x1,x2,x3⟩:=((uh HR6).keeps hkr (uh HG)).cells k hkn
     have HTK:=hide (qQ0 x.k R k hkn)
     have HNX:=hide (show ∀n,n∈qNp x.k (itAt R k)->0<=n/\n<=9223372036854775807 from λn hn=>uh HBN n (by
          have e:qLb x.k (R.take (k+1)++R.drop (k+1))=qLb x.k R:=by rw[List.take_append_drop]
          rw[<-e,qJ7,qQ0 x.k R k hkn]
          simp only[List.mem_append]
          exact .inl (.inr hn)))
     have HLT2:=hide hwr.lt
     have HWr:=hide hwr
     have HVr:=hide hvr
     have HKr:=hide hkr
     have hkE:(k:Int)<(n:Int):=by omega
     generalize itAt R k=y at *
     clear hwr hvr hkr
     obtain⟨wa,hwa⟩:∃wa,wa=wr.alloc (.cells #[.int .i64 y.t,.int .i64 y.k,.int .i64 y.d,.int .i64 y.n] 87):=⟨_,rfl⟩
     have HBa:=hide (show Blk wa wr.heap.size [.int .i64 y.t,.int .i64 y.k,.int .i64 y.d,.int .i64 y.n] 87 by rw[hwa];exact Blk.new wr _ _)
     have HKa:=hide (show Keeps (λ_=>False) wr wa by rw[hwa];exact(Keeps.refl _ _).alloc _)
     have HWa:=hide ((uh HWr).still (uh HKa))
     have HNF1:=hide (show ¬qBz b v' wr.heap.size from λhf=>by have:=uh HLT2 _ hf;omega)
     obtain⟨n0,n1⟩:=uh HNX y.n (by simp[qNp])
     have hc3:wa.cell? ⟨wr.heap.size,3,none⟩=some (.int .i64 y.n):=(uh HBa).cell rfl
     have HEQ:=hide hwa.symm
     have HSa:=hide (show ∀w',Keeps (qBz b v') wa w'->w'.cell? ⟨sb.s,25,none⟩=some (.func (.func (qA1 x.k)) #[] #[]) from λw' hk'=>hk'.cell (((uh HSr).still (uh HKa)).blk.cell rfl) (qEm (uh HNF sb.s (.inl rfl)) (uh HVr) (Nat.lt_of_lt_of_le (uh HLS sb.s (.inl rfl)) (Nat.le_trans (uh HQ3).size (uh HK6).size))))
     clear hwa
     go_wp2_with fail
     rw[uh HEQ]
     refine(qC3 b v' _ y.n wa (uh HWa) n0 n1 (by omega)).mono ?_
     rintro e w2' ⟨rfl,v2,hw2,hv2,hk2'⟩
     have hlt2:wr.heap.size<wa.heap.size:=(uh HBa).lt
     have HB2':=hide ((uh HBa).keeps hk2' (uh HNF1))
     have HNF2:=hide (qEm (uh HNF1) hv2 hlt2)
     have HW2':=hide hw2
     have HV2:=hide hv2
     have HK2:=hide hk2'
     have HL2:=hide hw2.lt
     have d25:w2'.cell? ⟨sb.s,25,none⟩=some (.func (.func (qA1 x.k)) #[] #[]):=uh HSa w2' hk2'
     have hown:=qPy x.k (uh HI).k1 (uh HI).k5
     clear hw2 hv2 hk2' hc3 HBa
     go_wp2_with fail
     refine(qPn x.k wr.heap.size w2' (uh HI).k1 (uh HI).k5).mono ?_
     rintro e w3' ⟨pv,rfl,hown3,hk3⟩
     obtain⟨pa,pcap,hpv,_⟩:=qB4 hown3
     subst hpv
     have HW3:=hide ((uh HW2').still hk3)
     have HB3':=hide ((uh HB2').keeps hk3 (λh=>h))
     have HO3':=hide hown3
     have HK3:=hide hk3
     have HAL:=hide (show((qCn x.k).map (λj=>[y.t,y.k,y.d].getD j 0)).length<=3 by rw[List.length_map];exact qJx x.k)
     clear hown3 hk3 hown d25
     go_wp2_with fail
     refine(qEo b v2 _ _ w2'.heap.size wr.heap.size (qCn x.k) ((qCn x.k).map (λj=>[y.t,y.k,y.d].getD j 0)) w3' (uh HW3) (uh HO3') (qVf (uh HB3')) (uh HNF2) (λi hi h=>by have:=uh HL2 i h;omega) (λn hn=>uh HNX n (by unfold qNp;exact List.mem_cons_of_mem _ hn)) (by have:=qBj y.n;have:=uh HAL;rw[List.length_append];omega) (by have:=uh HAL;omega)).mono ?_
     rintro e w4' ⟨rfl,hw4⟩
     have HF4:=hide (show Wrote w6 b v6 (b3++qC0 (qLb x.k (R.take (k+1)))) w4' by
        have hA:=Wrote.then (uh HVr) (uh HKr) (Wrote.pre (uh HKa) (Wrote.then (uh HV2) (uh HK2) (Wrote.pre (uh HK3) hw4)))
        rw[uh HTK,qAx]
        have e:qC0 (qNp x.k y)=enc y.n++qC0 ((qCn x.k).map (λj=>[y.t,y.k,y.d].getD j 0)):=qB0 _ _
        rw[e]
        simp only[List.append_assoc]at hA ⊢
        exact hA)
     clear hw4
     go_wp2
     go_roundw
     case rel=>exact⟨k+1,by go_num,by omega,HF4⟩
     case measure=>simp[intOf];omega
    ·have hkE:k=n:=by omega
     subst hkE
     have htk:R.take k=R:=List.take_of_length_le (by rw[uh HLN];omega)
     rw[htk]at HOr hlb
     have hcm:0<=x.c.lag/\x.c.lag<=100:=by
      have:=(uh HI).valid
      simp only[qBg,qD7,inB,Bool.and_eq_true,decide_eq_true_eq]at this
      omega
     obtain⟨l0,l1⟩:=hcm
     have d30:wr.cell? ⟨sb.s,30,none⟩=some (.func (.func (zDn x.k)) (qHs sb.n.d) #[]):=(uh HSr).blk.cell rfl
     have d2:wr.cell? ⟨sb.s,2,none⟩=some (.int .i64 x.c.lag):=(uh HSr).blk.cell rfl
     have hown:=zDc x.k (uh HI).k1 (uh HI).k5
     obtain⟨v7,p1,p2,p3⟩:=uh HOr
     have HP1:=hide p1
     have HP2:=hide p2
     have HP3:=hide p3
     have HNF7:=hide (show ∀i,sb.foot x.k i->¬qBz b v7 i from λi hi=>qEm (uh HNF i hi) p2 (Nat.lt_of_lt_of_le (uh HLS i hi) (Nat.le_trans (uh HQ3).size (uh HK6).size)))
     clear p1 p2 p3 HOr
     go_wp2_with fail
     go_region_held3 (λw'=>w'.cell? ⟨sb.s,30,none⟩=some (.func (.func (zDn x.k)) (qHs sb.n.d) #[])/\w'.cell? ⟨sb.s,2,none⟩=some (.int .i64 x.c.lag))
      (first | (simp[*];done) | (go_split_ands;exact⟨hw1.kp.cell (by assumption) (uh HNF7 sb.s (.inl rfl)),hw1.kp.cell (by assumption) (uh HNF7 sb.s (.inl rfl))⟩))
      (first | (go_at_call 67;refine(qI7 sb.s x.c.lag clock _ (by go_keep) l0 l1 c0 c1).mono ?_;rintro e w' ⟨rfl,rfl⟩) | (refine(zBo x.k sb.n x.c x.nt b v7 _ (clock-x.c.lag) _ _ (by first | rfl | simp) (by exact(uh HSr).note.still (Keeps.refl _ _).drew) (by exact(uh HP1).still (Keeps.refl _ _).drew) (λi h hn=>uh HNF7 i (.inr (.inr (.inr hn))) h) (uh HI).note (uh HI).valid (uh HI).kind (uh HI).k1 (uh HI).k5 (by omega) (by omega) (by omega)).mono ?_;rintro e w1 ⟨rfl,hw1⟩))
     go_wp2
     go_end0
     refine⟨rfl,?_⟩
     have h9:=Wrote.then (uh HQ2) (uh HQ3) (Wrote.pre (uh HK6) (Wrote.then (uh HP2) (uh HP3) (Wrote.pre ((Keeps.refl (λ_=>False) wr).drew) hw1)))
     rw[uh HNUM]
     rw[<-uh HB3,<-uh HB2,<-uh HB1]at h9
     rw[qAx,qAx,qB0,qAx,qAx,qB0,qCv]
     simp only[List.append_assoc]at h9 ⊢
     exact h9
end
section
open Go.RowKit
theorem Qi.allL_length: ∀(f:Nat) (l:List It),(Qi.allL f l).length<=l.length
 | 0,_=>Nat.zero_le _
 | f+1,l=>by
  unfold Qi.allL
  split
  ·simp
  ·have:=Qi.allL_length f (takeL l)
   rw[Qi.takeL_length]at this
   rw[List.length_cons];omega
theorem Dr.allL_length: ∀(f:Nat) (l:List Dr.It),(Dr.allL f l).length<=l.length
 | 0,_=>Nat.zero_le _
 | f+1,l=>by
  unfold Dr.allL
  split
  ·simp
  ·have:=Dr.allL_length f (Dr.takeL l)
   rw[Dr.takeL_length]at this
   rw[List.length_cons];omega
theorem qRe(l:List Bk)(f s:Nat)(h:s<=l.length): (qWt l f s).length<=f+(l.length-s):=by
 induction f generalizing s with
 | zero=>simp[qWt]
 | succ f ih =>
  have he:=qX9 l (2 ^ f) s h
  have:=ih (qLf l (2 ^ f) s) he.2
  rw[qPs,List.length_cons,List.length_append,List.length_map,List.length_take,List.length_drop]
  omega
theorem qXp{l:List Bk}(hsz:∀x∈l,1<=x.sz/\x.sz<4611686018427387904): qEy l<=62:=by
 unfold qEy
 split
 ·omega
 ·rename_i h0
  have hb:=hsz (qB8 l 0) (qFr (by omega))
  have hs:=bitLen_spec (qB8 l 0).sz.toNat
  have h2:=hs.2 (by omega)
  rcases Nat.lt_or_ge (bitLen (qB8 l 0).sz.toNat-1) 62 with h3 | h3
  ·omega
  ·have:=Nat.pow_le_pow_right (show 1<=2 by omega) h3
   have e:(2:Nat) ^ 62=4611686018427387904:=by decide
   omega
theorem qRl{k:Nat}{c:Cfg}{nt:Note}(h:SavOk k c nt)(hv:qBg c=true)(hk:c.kind=k)(m:Int): (zD2 k c nt m).length<=nt.bs.length+50000:=by
 unfold zD2
 split
 ·simp
 ·split
  ·have h1:=qRe nt.bs (qEy nt.bs) 0 (Nat.zero_le _)
   have h2:=qXp h.bz
   unfold savC
   rw[List.length_cons];omega
  ·split
   ·rename_i h2
    obtain⟨_,a2,a3,_⟩:=qBx hv hk h2
    have h1:=qJ3 nt.rg (qMi c) (m-c.window) h.rl
    have h3:qMi c<=2 ^ 4:=Nat.pow_le_pow_right (n:=2) (by omega) (show c.bits.toNat<=4 by omega)
    omega
   ·split
    ·rename_i h3
     obtain⟨_,hrw,_⟩:=qB9 hv hk h3
     obtain⟨o1,_⟩:=h.oc h3
     have h1:=qHq c (qCu c nt.op nt.cl (m-c.window)) (by have:=hrw.r1;omega) (by have:=hrw.w1;omega)
     have h2:(qCu c nt.op nt.cl (m-c.window)).length<=1001:=by
      unfold qCu
      rw[List.length_append,List.length_drop]
      split <;> simp <;> omega
     unfold savO
     rw[List.length_cons];omega
    ·split
     ·rename_i h5
      have h1:=h.tl h5
      have h2:=Dr.allL_length (nt.tk.length+1) nt.tk
      rw[qJy];omega
     ·simp
theorem qK8{x:Ser}(h:SerOk x)(clock:Int): (qHl clock x).length<=x.nt.bs.length+51000:=by
 have h1:=qRl h.note h.valid h.kind (clock-x.c.lag)
 have h2:=qKp x.k (Qi.allL (x.l.length+1) x.l)
 have h3:=Qi.allL_length (x.l.length+1) x.l
 have h4:=h.len
 have h5:=qHb x.k x.c h.p3
 unfold qHl qV7
 rw[List.length_append,List.length_append,List.length_cons,List.length_append,List.length_append,List.length_map]
 have h6:qCx.length=7:=rfl
 simp only[List.length_cons,List.length_nil]
 omega
def qE5(clock:Int)(xs:List Ser): List Int:=xs.flatMap (qHl clock)
def qP6(clock:Int)(xs:List Ser): List Int:=clock::(xs.length:Int)::qE5 clock xs
def zAd(clock:Int)(xs:List Ser): List Nat:=qIu++qC0 (qP6 clock xs)
def zA5(clock:Int)(xs:List Ser): List Nat:=zAd clock xs++enc (qN2 (zAd clock xs))
def qGk(clock:Int)(xs:List Ser): ByteArray:=qFy (zA5 clock xs)
theorem qPl(clock:Int)(a b:List Ser): qE5 clock (a++b)=qE5 clock a++qE5 clock b:=by simp[qE5]
theorem qOl(clock:Int)(xs:List Ser)(h:∀x,x∈xs->SerOk x): (qE5 clock xs).length<=1000000051000*xs.length:=by
 induction xs with
 | nil=>simp[qE5]
 | cons x l ih =>
  have h1:=qK8 (h x (by simp)) clock
  have h2:=(h x (by simp)).note.bn
  have h3:=ih (λy hy=>h y (by simp[hy]))
  have e:qE5 clock (x::l)=qHl clock x++qE5 clock l:=by simp[qE5]
  rw[e,List.length_append,List.length_cons];omega
theorem ERep.keepsM{M:Nat->Prop}{w w':World}{e:Nat}{v:Value}{clock:Int}{ps:List (SB×Ser)}(h:ERep w e v clock ps)(hk:Keeps M w w')(hn:∀i,EFoot e v ps i->¬M i): ERep w' e v clock ps :=
 ⟨h.blk.keeps hk (hn e (.inl rfl)),qLg h.row hk (λi hi=>hn i (.inr (.inl hi))),λp hp=>(h.reps p hp).keeps hk (λi hi=>hn i (.inr (.inr ⟨p,hp,hi⟩))),h.apart,h.ev,h.ef⟩
theorem qP0(e:Nat)(v:Value)(clock:Int)(ps:List (SB×Ser))(w:World)(h:ERep w e v clock ps)(hok:∀x,x∈ps.map (·.2)->SerOk x)(six:ps.length<=6)(c0:0<=clock)(c1:clock<=4611686018427387904):
  Calls Tryz.prog 47 #[.pointer (some ⟨e,0,none⟩)] w λr w'=>r=.returned (.string (qGk clock (ps.map (·.2))))/\Keeps (λ_=>False) w w':=by
 have HE:=hide h
 have HOK:=hide hok
 have HLT:=hide (show ∀i,EFoot e v ps i->i<w.heap.size from h.lt)
 obtain⟨va,vcap,hv,hva⟩:=qB4 h.row
 have HV:=hide hv
 have HVA:=hide hva
 have HNEW:=hide (qNr w)
 clear h hok hv hva
 obtain⟨n,hn⟩:∃n,ps.length=n:=⟨_,rfl⟩
 have HN:=hide hn
 rw[hn]at six
 clear hn
 go_enter Tryz.func47,Tryz.ntmps47
 go_wp2_with fail
 refine(uh HNEW).mono ?_
 rintro r w1 ⟨b,u,rfl,hw1,hb1,hk1⟩
 have HNF:=hide (show ∀i,EFoot e v ps i->¬qBz b u i from λi hi h=>by have h1:=uh HLT i hi;have h2:=hb1 i h;omega)
 have HE1:=hide (show ∀w',Keeps (qBz b u) w1 w'->ERep w' e v clock ps from λw' hk'=>((uh HE).still hk1).keepsM hk' (uh HNF))
 have HW1:=hide (Wrote.refl hw1)
 have HK1:=hide hk1
 have HB1:=hide hb1
 have hc0:w1.cell? ⟨e,0,none⟩=some (.int .i64 clock):=(uh HE1 w1 (Keeps.refl _ _)).blk.cell rfl
 clear hw1 hb1 hk1 HNEW
 go_wp2_with fail
 refine(qBt b u qIu clock w1 w1 (uh HW1) c0 (by omega) (by decide)).mono ?_
 rintro r w2 ⟨rfl,hw2⟩
 have HO2:=hide hw2
 clear hw2 hc0 HW1
 have hc1:w2.cell? ⟨e,1,none⟩=some (.slice va n vcap):=by
  have:=(uh HE1 w2 (uh HO2).kp).blk.cell (i:=1) rfl
  rw[this,uh HV,uh HN]
 have hf8:qIu.length=8:=rfl
 go_wp2_with fail
 refine(qBt b u _ n w1 w2 (uh HO2) (by omega) (by omega) (by have:=qBj clock;rw[List.length_append];omega)).mono ?_
 rintro r w3 ⟨rfl,hw3⟩
 have HO3:=hide hw3
 clear hw3 hc1 HO2
 have hc1:w3.cell? ⟨e,1,none⟩=some (.slice va n vcap):=by
  have:=(uh HE1 w3 (uh HO3).kp).blk.cell (i:=1) rfl
  rw[this,uh HV,uh HN]
 have hl3:(qIu++enc clock++enc (n:Int)).length<=28:=by
  have h1:=qBj clock
  have h2:=qBj (n:Int)
  rw[List.length_append,List.length_append];omega
 obtain⟨b0,hb0⟩:∃b0,qIu++enc clock++enc (n:Int)=b0:=⟨_,rfl⟩
 rw[hb0]at HO3 hl3
 have HB0:=hide hb0
 clear hb0
 go_wp2_with fail
 clear hc1
 go_loopw [25] (λi wr=>∃k:Nat,i=.int .i64 k/\k<=n/\Hid (Wrote w1 b u (b0++qC0 (qE5 clock ((ps.take k).map (·.2)))) wr)) (λi _=>n-(intOf i).toNat)
 case atStart=>exact⟨0,rfl,Nat.zero_le _,by show Wrote _ _ _ _ _;simp only[List.take_zero,List.map_nil,qE5,List.flatMap_nil,qC8,List.append_nil];exact uh HO3⟩
 case round =>
  obtain⟨k,rfl,hk,HOr⟩:=hrel
  have hk0:(0:Int)<=(k:Int):=by omega
  have HLB:=hide (show(b0++qC0 (qE5 clock ((ps.take k).map (·.2)))).length<=28+10*(1000000051000*k) by
     have h1:=qAv (qE5 clock ((ps.take k).map (·.2)))
     have h2:=qOl clock ((ps.take k).map (·.2)) (λx hx=>uh HOK x (by
          obtain⟨p,hp,rfl⟩:=List.mem_map.1 hx
          exact List.mem_map_of_mem (List.mem_of_mem_take hp)))
     have h3:((ps.take k).map (·.2)).length=k:=by rw[List.length_map,List.length_take,uh HN];omega
     rw[h3]at h2
     rw[List.length_append];omega)
  by_cases hlk:k<n
  ·obtain⟨g,hg,_⟩:=uh HVA (by rw[uh HN];omega)
   subst hg
   have hkp:k<ps.length:=by rw[uh HN];exact hlk
   obtain⟨p,hp⟩:∃p,ps[k]?=some p:=⟨_,List.getElem?_eq_getElem hkp⟩
   have HEr:=hide (uh HE1 wr (uh HOr).kp)
   have hcg:wr.cell? ⟨g,k,none⟩=some (.pointer (some ⟨p.1.s,0,none⟩)):=by
    rcases qJt (uh HEr).row with ⟨h0,_⟩ | ⟨g',cap',hv',hc⟩
    ·omega
    ·rw[uh HV]at hv'
     cases hv'
     exact hc k _ (by unfold ptrs;rw[List.getElem?_map,hp];rfl)
   have hce:wr.cell? ⟨e,0,none⟩=some (.int .i64 clock):=(uh HEr).blk.cell rfl
   have HTK:=hide (show qE5 clock ((ps.take (k+1)).map (·.2))=qE5 clock ((ps.take k).map (·.2))++qHl clock p.2 by
      rw[List.take_add_one,hp,List.map_append,qPl]
      simp[qE5])
   have hpm:p∈ps:=List.mem_of_getElem? hp
   have HSR:=hide ((uh HEr).reps p hpm)
   have HSK:=hide (uh HOK p.2 (List.mem_map_of_mem hpm))
   have HSF:=hide (show ∀i,p.1.foot p.2.k i->EFoot e v ps i from λi hi=>.inr (.inr ⟨p,hpm,hi⟩))
   have hbn:=(uh HSK).note.bn
   have hlb:=uh HLB
   have hkE:(k:Int)<(n:Int):=by omega
   obtain⟨u',z1,z2,z3⟩:=uh HOr
   have HZ2:=hide z2
   have HZ3:=hide z3
   have HSV:=hide (qRi p.1 p.2 clock b u' _ wr (uh HSR) (uh HSK) z1 (λi h hi=>qEm (uh HNF i (uh HSF i hi)) z2 (Nat.lt_of_lt_of_le (uh HLT i (uh HSF i hi)) (uh HK1).size) h) c0 c1 (by omega))
   clear hp hkp hpm z1 z2 z3
   go_wp2_with fail
   refine(uh HSV).mono ?_
   rintro r w4 ⟨rfl,hw4⟩
   have HO4:=hide (Wrote.then (uh HZ2) (uh HZ3) hw4)
   clear hw4 hcg hce
   go_wp2
   go_roundw
   case rel =>
    refine⟨k+1,by go_num,by omega,?_⟩
    show Wrote _ _ _ _ _
    have:=uh HO4
    rw[uh HTK,qAx,<-List.append_assoc]
    exact this
   case measure=>simp[intOf];omega
  ·have hkE:k=n:=by omega
   subst hkE
   have htk:ps.take k=ps:=List.take_of_length_le (by rw[uh HN];omega)
   rw[htk]at HOr HLB
   have hlb:=uh HLB
   obtain⟨u',z1,z2,z3⟩:=uh HOr
   have HZ2:=hide z2
   have HZ3:=hide z3
   have HCL:=hide (qX0 b u' _ wr z1 (by omega))
   have HSB:=hide (show qGk clock (ps.map (·.2))=qFy (b0++qC0 (qE5 clock (ps.map (·.2)))++enc (qN2 (b0++qC0 (qE5 clock (ps.map (·.2)))))) by
      have e1:zAd clock (ps.map (·.2))=b0++qC0 (qE5 clock (ps.map (·.2))):=by
       unfold zAd qP6
       rw[qB0,qB0,<-uh HB0,List.length_map,uh HN]
       simp only[List.append_assoc]
      unfold qGk zA5
      rw[e1])
   clear z1 z2 z3
   go_wp2_with fail
   refine(uh HCL).mono ?_
   rintro r w4 ⟨rfl,hk4⟩
   have HK4:=hide hk4
   clear hk4
   go_wp2
   go_ret
   refine⟨by rw[uh HSB,List.append_assoc];rfl,?_⟩
   refine(uh HK1).trans ((uh HZ3).trans (uh HK4) (λi hi hlt=>?_)) (λi hi hlt=>?_) (M':=qBz b u)
   ·rcases hi with hi | hi
    ·exact .inl hi
    ·rcases uh HZ2 i hi with h1 | h1
     ·exact .inr h1
     ·omega
   ·have:=uh HB1 i hi
    omega
structure WS where
 clock:Int
 xs:List Ser
def zCv(s:WS): ByteArray:=qGk s.clock s.xs
def zB1(_:ByteArray): Option WS:=none
def zAl(s:WS)(o:OpM): WS×Int×List Int :=
 match zB1 o.bytes with
 | none=>(s,14,[])
 | some s'=>(s',0,[])
def qDr(s:WS)(o:OpM): WS×Int×List Int :=
 if inB o.id 0 99=true/\(qRs s.xs o.id).isNone=true then
  if qBg o.cfg=true then(if s.xs.length<6 then(⟨s.clock,s.xs++[qCe o.id o.cfg o.cfg.kind.toNat]⟩,0,[]) else(s,4,[])) else(s,3,[])
 else(s,2,[])
def qYf(s:WS)(o:OpM): WS×Int×List Int :=
 match qRs s.xs o.id with
 | none=>(s,2,[])
 | some x=>if qJq x s.clock o.item=0 then(⟨s.clock,qPu s.xs o.id (qYv x o.item)⟩,0,[x.acc+1])
  else(⟨s.clock,qPu s.xs o.id (qV3 x (qJq x s.clock o.item).toNat)⟩,qJq x s.clock o.item,[])
def qKy(s:WS)(o:OpM): WS×Int×List Int :=
 if inB o.a 0 4611686018427387904=true then
  if inB o.b 0 100=true then(⟨qIr s.clock o.a,(qDa (qIr s.clock o.a) o.b (s.xs.map (qDb (qIr s.clock o.a)))).1⟩,0,[(qDa (qIr s.clock o.a) o.b (s.xs.map (qDb (qIr s.clock o.a)))).2]) else(s,12,[])
 else(s,5,[])
def qH0(s:WS)(o:OpM): WS×Int×List Int :=
 match qRs s.xs o.id with
 | none=>(s,2,[])
 | some x=>(s,qIg x.k x.c x.nt o.a (s.clock-x.c.lag))
def qHo(s:WS)(o:OpM): WS×Int×List Int :=
 match qRs s.xs o.id with
 | none=>(s,2,[])
 | some x=>(s,0,qCc x)
def qCd(s:WS)(o:OpM): WS×Int×List Int :=
 if o.kind=1 then qDr s o else if o.kind=2 then qYf s o else if o.kind=3 then qKy s o else if o.kind=4 then qH0 s o else if o.kind=5 then qHo s o else if o.kind=6 then(s,0,[]) else if o.kind=7 then zAl s o else(s,1,[])
def qD3(s:WS)(o:OpM): ByteArray:=if o.kind=6 then zCv s else qAa
theorem SInv.mono{n m:Int}{x:Ser}(h:SInv n x)(hm:n<=m): SInv m x:=by
 have h1:=h.accn
 exact⟨h.valid,h.kind,h.k1,h.k5,h.acc0,by omega,h.rel0,h.rela,h.reflen,λv hv=>by have:=h.refn v hv;omega,h.cap,h.times,h.note,h.heap,h.last0,h.lastn,h.lastl,h.fits⟩
theorem qUn{n:Int}(id:Int)(c:Cfg)(h:qBg c=true)(hn:0<=n): SInv n (qCe id c c.kind.toNat):=by
 obtain⟨k,hk,h1,h5,hc,_⟩:=qFs h
 have hkn:c.kind.toNat=k:=by omega
 simp only[qD7,inB,Bool.and_eq_true,decide_eq_true_eq]at hc
 refine⟨h,?_,?_,?_,by simp[qCe],by simpa[qCe] using hn,by simp[qCe],by simp[qCe],rfl,?_,?_,by simp[qCe],?_,?_,by simp[qCe],by simp[qCe],by simp[qCe],by simp[qCe]⟩
 ·show c.kind=(c.kind.toNat:Int);omega
 ·show 1<=c.kind.toNat;omega
 ·show c.kind.toNat<=5;omega
 ·intro v hv
  have:v=0:=by simpa[qCe] using hv
  omega
 ·show((0:Nat):Int)<=c.cap;omega
 ·exact NInv.zero c.kind.toNat c h (by omega)
 ·intro i h1 h2;simp[qCe]at h2
theorem qG4{xs:List Ser}{id:Int}{y z:Ser}(h:z∈qPu xs id y): z∈xs\/z=y:=by
 induction xs with
 | nil=>simp[qPu]at h
 | cons a l ih =>
  unfold qPu at h
  split at h
  ·rcases List.mem_cons.1 h with h | h
   ·exact .inr h
   ·exact .inl (by simp[h])
  ·rcases List.mem_cons.1 h with h | h
   ·exact .inl (by simp[h])
   ·rcases ih h with h | h
    ·exact .inl (by simp[h])
    ·exact .inr h
theorem qKd(xs:List Ser)(id:Int)(y:Ser): (qPu xs id y).length=xs.length:=by
 induction xs with
 | nil=>rfl
 | cons a l ih =>
  unfold qPu
  split
  ·rfl
  ·simp[ih]
theorem EInv.mono{n m clock:Int}{xs:List Ser}(h:EInv n clock xs)(hm:n<=m): EInv m clock xs:=⟨h.c0,h.c1,h.six,λx hx=>(h.sers x hx).mono hm,h.marks⟩
theorem qJ0{x:Ser}{clock:Int}{y:It}(h:qJq x clock y=0): 0<=y.t/\y.t<=4611686018427387904/\(x.l.length:Int)<x.c.cap/\clock-x.c.lag<y.t/\y.t<=clock+x.c.skew/\qEb x.c x.k y=0/\x.acc<4611686018427387904:=by
 unfold qJq at h
 cases h1:inB y.t 0 4611686018427387904 with
 | false=>rw[h1]at h;simp at h
 | true =>
  obtain⟨a,b⟩:=qCh h1
  rw[h1]at h
  simp only[if_true]at h
  split at h
  ·omega
  ·split at h
   ·omega
   ·split at h
    ·rename_i h2;exact absurd h h2
    ·rename_i h2
     split at h
     ·omega
     ·split at h
      ·omega
      ·exact⟨a,b,by omega,by omega,by omega,by simpa using h2,by omega⟩
theorem qIe{P:Ser->Prop}(clock:Int)(h:∀b x,P x->P (qZd clock b x))(b:Int)(xs:List Ser)(hx:∀x,x∈xs->P x): ∀x,x∈(qDa clock b xs).1->P x:=by
 induction xs generalizing b with
 | nil=>intro x hx;simp[qDa]at hx
 | cons a l ih =>
  intro x hx'
  simp only[qDa,List.mem_cons]at hx'
  rcases hx' with hx' | hx'
  ·rw[hx'];exact h b a (hx a (by simp))
  ·exact ih _ (λy hy=>hx y (by simp[hy])) x hx'
theorem qN4(clock b:Int)(xs:List Ser): (qDa clock b xs).1.length=xs.length:=by
 induction xs generalizing b with
 | nil=>rfl
 | cons a l ih=>simp[qDa,ih]
theorem qNs{clock nc:Int}{x:Ser}(hc:clock<=nc)(h:x.last=0\/x.last<=clock-x.c.lag): (qDb nc x).last=0\/(qDb nc x).last<=nc-(qDb nc x).c.lag:=by
 have h1:(qDb nc x).c=x.c:=(zAx (x.l.length+1) x (nc-x.c.lag)).2.1
 rw[h1]
 rcases qW7 (x.l.length+1) x (nc-x.c.lag) with h2 | h2
 ·have h3:(qDb nc x).last=x.last:=h2
  rw[h3]
  rcases h with h | h
  ·exact .inl h
  ·exact .inr (by omega)
 ·exact .inr h2
def qOq(n:Int)(o:OpM): Prop:=o.kind=7->∀s',zB1 o.bytes=some s'->EInv n s'.clock s'.xs
theorem qJw{n:Int}{o:OpM}(h:o.kind≠7): qOq n o:=λe=>(h e).elim
theorem qTo{n N:Int}{s:WS}(o:OpM)(h:EInv n s.clock s.xs)(hn:0<=n)(hN:n+1<=N\/(n<=N/\N=4611686018427387904))(hL:qOq N o): EInv N (qCd s o).1.clock (qCd s o).1.xs:=by
 have hs:EInv N s.clock s.xs:=h.mono (by omega)
 unfold qCd
 split
 ·unfold qDr
  split
  ·split
   ·split
    ·rename_i h2 h3
     refine⟨h.c0,h.c1,by simp;omega,λx hx=>?_,λx hx=>?_⟩
     ·rcases List.mem_append.1 hx with hx | hx
      ·exact hs.sers x hx
      ·rw[List.mem_singleton]at hx;subst hx;exact qUn _ _ h2 (by omega)
     ·rcases List.mem_append.1 hx with hx | hx
      ·exact hs.marks x hx
      ·rw[List.mem_singleton]at hx;subst hx;exact .inl rfl
    ·exact hs
   ·exact hs
  ·exact hs
 ·split
  ·unfold qYf
   split
   ·exact hs
   ·rename_i x hf
    have hx:x∈s.xs:=List.mem_of_find?_eq_some hf
    have hxi:=h.sers x hx
    have hxm:=h.marks x hx
    split
    ·rename_i hr
     obtain⟨t0,t1,hc,hl,_,hk,ha⟩:=qJ0 hr
     refine⟨h.c0,h.c1,by show(qPu _ _ _).length<=6;rw[qKd];exact h.six,λz hz=>?_,λz hz=>?_⟩
     ·rcases qG4 hz with hz | hz
      ·exact hs.sers z hz
      ·subst hz;exact qZj (hxi.mono (by omega)) o.item t0 t1 hc (by have:=hxi.accn;omega) (by rcases hxm with h | h <;> omega) hk
     ·rcases qG4 hz with hz | hz
      ·exact hs.marks z hz
      ·subst hz;exact hxm
    ·refine⟨h.c0,h.c1,by show(qPu _ _ _).length<=6;rw[qKd];exact h.six,λz hz=>?_,λz hz=>?_⟩
     ·rcases qG4 hz with hz | hz
      ·exact hs.sers z hz
      ·subst hz
       have hrr:=qIp x s.clock o.item
       exact qZ3 (hxi.mono (by omega)) _ (by
          rcases hN with hN | hN
          ·exact .inl (λv hv=>by have:=hxi.refn v hv;omega)
          ·exact .inr (by omega)) (by omega)
     ·rcases qG4 hz with hz | hz
      ·exact hs.marks z hz
      ·subst hz;exact hxm
  ·split
   ·unfold qKy
    split
    ·rename_i ha
     obtain⟨a0,a1⟩:=qCh ha
     have hc0:=h.c0
     have hc1:=h.c1
     have hmx:s.clock<=qIr s.clock o.a:=by unfold qIr;split <;> omega
     split
     ·refine⟨?_,?_,by show(qDa _ _ _).1.length<=6;rw[qN4];simpa using h.six,λz hz=>?_,λz hz=>?_⟩
      ·show 0<=qIr s.clock o.a;unfold qIr;split <;> omega
      ·show qIr s.clock o.a<=_;unfold qIr;split <;> omega
      ·refine qIe (P:=SInv N) _ (λb x hx=>qT3 _ b hx) _ _ (λz hz=>?_) z hz
       obtain⟨x,hx,rfl⟩:=List.mem_map.1 hz
       exact qTx _ (hs.sers x hx) _
      ·refine qIe (P:=λz=>z.last=0\/z.last<=qIr s.clock o.a-z.c.lag) _ (λb x hx=>hx) _ _ (λz hz=>?_) z hz
       obtain⟨x,hx,rfl⟩:=List.mem_map.1 hz
       exact qNs hmx (h.marks x hx)
     ·exact hs
    ·exact hs
   ·split
    ·unfold qH0
     split
     ·exact hs
     ·exact hs
    ·split
     ·unfold qHo
      split <;> exact hs
     ·split
      ·exact hs
      ·split
       ·rename_i h7
        unfold zAl
        split
        ·exact hs
        ·rename_i s' hs'
         exact hL h7 s' hs'
       ·exact hs
theorem qQs{n:Int}{s:WS}(o:OpM)(h:EInv n s.clock s.xs)(hn:0<=n)(hL:qOq (n+1) o): EInv (n+1) (qCd s o).1.clock (qCd s o).1.xs:=qTo o h hn (.inl (Int.le_refl _)) hL
def qC7(ty:TypeId)(a x:Value): Sem Next:=do Instr.storeAt ty a x;pure .skip
theorem qDe(ρ:Operand->Value)(dst:Option Tmp)(x y:Operand)(ty:TypeId)(pos:String)(after:Array Edge)(guard:Option (Nat×Bool)):
  execOp ρ { dst,op:=.store 40 x y,type:=ty,pos,after,guard }=qC7 40 (ρ x) (ρ y):=rfl
def qEs(arr:Array Value)(o:Nat): List Value->Array Value
 | []=>arr
 | c::r=>qEs (arr.setIfInBounds o c) (o+1) r
theorem qGj(w:World)(T:TypeId): ∀(cs:List Value) (o:Nat) (arr:Array Value),(w.alloc (.cells arr T)).setCells w.heap.size o cs=w.alloc (.cells (qEs arr o cs) T)
 | [],_,_=>rfl
 | c::r,o,arr=>by
  unfold World.setCells qEs
  rw[World.setCell_alloc_at _ _ _ _ _ rfl]
  exact qGj w T r (o+1) (arr.setIfInBounds o c)
theorem qD8: ∀(cs:List Value) (pre:List Value) (rest:List Value),rest.length=cs.length->qEs (pre++rest).toArray pre.length cs=(pre++cs).toArray
 | [],pre,rest,h=>by
  have:rest=[]:=List.length_eq_zero_iff.1 h
  subst this;rfl
 | c::r,pre,rest,h=>by
  cases rest with
  | nil=>simp at h
  | cons d q =>
   unfold qEs
   have h1:((pre++d::q).toArray.setIfInBounds pre.length c)=((pre++[c])++q).toArray:=by simp
   rw[h1]
   have:=qD8 r (pre++[c]) q (by simpa using h)
   rw[List.length_append]at this
   simpa using this
theorem qKz(w:World)(zs:List Value)(cs:List Value)(hz:zs.length=26)(hc:cs.length=26)(h1:cs.toArray.all (·.oneCell')=true):
  (qC7 40 (.pointer (some ⟨w.heap.size,0,none⟩)) (.agg cs.toArray)).run Tryz.prog (w.alloc (.cells zs.toArray 40))=.ok .skip (w.alloc (.cells cs.toArray 40)):=by
 unfold qC7
 have ht:(w.alloc (.cells zs.toArray 40)).there w.heap.size 0 cs.toArray.size:=by
  intro j hj
  have hj':j<26:=by simpa[hc] using hj
  rw[Nat.zero_add,World.cell?_alloc_new,World.frozen?_alloc_new]
  simp[hz,hj']
 rw[Sem.run_bind,run_storeAt_mid _ w.heap.size 0 40 cs.toArray ht (by rw[zBc];simp[hc]) h1]
 have h2:=qD8 cs [] zs (by omega)
 simp only[List.nil_append,List.length_nil]at h2
 rw[qGj,List.toList_toArray,h2]
 rfl
end
end Go.Proofs.YtahnliehdjncdaaGreatDoor
