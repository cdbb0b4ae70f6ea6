import Derived.Test.YtahnliehdjncdaaGreatDoorXBI
import Derived.Test.YtahnliehdjncdaaGreatDoorXBB
import Derived.Test.YtahnliehdjncdaaGreatDoorXBH
import Derived.Test.YtahnliehdjncdaaGreatDoorXBD
set_option maxRecDepth 100000
set_option maxHeartbeats 16000000
namespace Go.Proofs.YtahnliehdjncdaaGreatDoor.Qi
open Go.RowKit
theorem all_none(q:Nat)(w:World)(h:QRep w q none []):
  Calls Tryz.prog 97 #[.pointer (some ⟨q,0,none⟩)] w λe w'=>∃g cp,e=.returned (.slice (some ⟨g,0,none⟩) 0 cp)/\w.heap.size<=g/\IRow w' g cp []/\Keeps (λ_=>False) w w':=by
 obtain⟨i0,hi0,hz0,hz1,hz2⟩:=info_parts qF3
 have HQ:=hide h
 have hb:=h.2
 have hq0:w.cell? ⟨q,0,none⟩=some (.func (.func 90) #[] #[]):=hb.cell rfl
 have hq1:w.cell? ⟨q,1,none⟩=some (.slice none 0 0):=hb.cell rfl
 clear hb h
 go_enter Tryz.func97,Tryz.ntmps97
 go_wp2_with fail
 go_region_held3 (λw'=>w'.cell? ⟨q,0,none⟩=some (.func (.func 90) #[] #[])/\w'.cell? ⟨q,1,none⟩=some (.slice none 0 0))
  (first | (go_split_ands;exact⟨by assumption,by assumption⟩) | (go_split_ands;exact⟨((Keeps.refl (λ_=>False) _).alloc _).cell (by assumption) (λh=>h),((Keeps.refl (λ_=>False) _).alloc _).cell (by assumption) (λh=>h)⟩))
  (first | (go_at_call 144;refine(qF9 _).mono ?_;rintro e w' ⟨rfl,rfl⟩))
 obtain⟨W2,hW2⟩:∃W2,W2=(w.alloc (.cells #[.func (.func 90) #[] #[],.slice none 0 0] 163)).drew:=⟨_,rfl⟩
 have HB2:=hide (show Blk W2 w.heap.size [qCe,.slice none 0 0] 163 by rw[hW2];exact(Blk.new w _ _).drew)
 have HK2:=hide (show Keeps (λ_=>False) w W2 by rw[hW2];exact((Keeps.refl (λ_=>False) w).alloc _).drew)
 have HW2:=hide hW2
 clear hW2
 have HQR:=hide (show QRep W2 w.heap.size none [] from⟨rfl,uh HB2⟩)
 obtain⟨wm,hmk,hown,hgr⟩:=run_make_own (P:=Tryz.prog) W2 w.heap.size 139 87 i0 _ 4 Tryz.underlying139 hi0 hz0 hz1 .i64 .i64 0 (by rw[hz2];omega) (by unfold maxLen;omega) (uh HK2).size
 have HKM:=hide (show Keeps (λ_=>False) W2 wm from(Keeps.refl (λ_=>False) W2).grown hgr (λk hk=>by cases hk))
 have HOM:=hide (show Own wm w.heap.size (.slice (some ⟨W2.heap.size,0,none⟩) 0 0) [] from hown)
 have hmk2:(Instr.makeSlice 139 (.int .i64 0) (.int .i64 0)).run Tryz.prog W2=.ok (.slice (some ⟨W2.heap.size,0,none⟩) 0 0) wm:=hmk
 clear hown hgr hmk
 go_wp2_with fail
 rw[show(w.alloc (.cells #[.func (.func 90) #[] #[],.slice none 0 0] 163)).drew=W2 from(uh HW2).symm]
 refine(qEp q none [] 0 W2 ((uh HQ).keeps (uh HK2) (λh=>h) (λ_ h=>by cases h)) rfl).mono ?_
 rintro e w' ⟨rfl,hw'⟩
 rw[hw']
 clear hw' w'
 generalize hrb:w.heap.size=rb at *
 go_wp2_with fail
 go_loopg [4] (0) (λgk v wr=>v=.slice (some ⟨W2.heap.size,0,none⟩) 0 0/\wr=wm)
 case atStart=>exact⟨rfl,rfl⟩
 case round =>
  obtain⟨rfl,hwr⟩:=hrel
  rw[hwr]
  clear hwr wr
  go_wp2_with (go_at_call 91;refine(qEp rb none [] 0 _ ((uh HQR).keeps (uh HKM) (λh=>h) (λ_ h=>by cases h)) rfl).mono ?_;rintro e w' ⟨rfl,hw'⟩;rw[hw'];clear hw' w')
  go_ret
  have ho:=Own.row rfl (uh HOM)
  exact⟨W2.heap.size,0,rfl,by rw[hrb];exact ho.2,ho.1,(uh HK2).then (uh HKM)⟩
end Go.Proofs.YtahnliehdjncdaaGreatDoor.Qi
namespace Go.Proofs.YtahnliehdjncdaaGreatDoor
section
open Go.RowKit
def qM8(k:Nat)(y:It): List Int:=y.n::(qEw k).map (λj=>[y.t,y.k,y.d].getD j 0)
def qK9(k:Nat)(l:List It): List Int:=l.flatMap (qM8 k)
def qT8(x:Ser): List Int:=x.id::(qCf x.k x.c++(qDt.map (qAx x.ref)++[x.rel,(x.l.length:Int)]))
def qHj(clock:Int)(x:Ser): List Int:=qT8 x++(qK9 x.k (Qi.allL (x.l.length+1) x.l)++zBm x.k x.c x.nt (clock-x.c.lag))
theorem qO4(k:Nat): (qEw k).length<=3:=by unfold qEw;split <;> simp
theorem qOc(k:Nat)(y:It): (qM8 k y).length<=4:=by have:=qO4 k;simp[qM8];omega
theorem qJi(k:Nat)(l:List It): (qK9 k l).length<=4*l.length:=by
 induction l with
 | nil=>simp[qK9]
 | cons y l ih=>have:=qOc k y;simp[qK9]at ih ⊢;omega
theorem qJm(k:Nat)(a b:List It): qK9 k (a++b)=qK9 k a++qK9 k b:=by simp[qK9]
theorem qPb(k:Nat)(r:List It)(i:Nat)(h:i<r.length): qK9 k (r.take (i+1))=qK9 k (r.take i)++qM8 k (itAt r i):=by
 rw[List.take_add_one,qJm,List.getElem?_eq_getElem h]
 simp[qK9,itAt,List.getD_eq_getElem?_getD,List.getElem?_eq_getElem h]
theorem qSu{w:World}{cb k:Nat}{y:It}{T:Nat}(h:Blk w cb [.int .i64 y.t,.int .i64 y.k,.int .i64 y.d,.int .i64 y.n] T): PartsAt w (at' cb (qEw k)) ((qEw k).map (λj=>[y.t,y.k,y.d].getD j 0)):=by
 refine⟨by simp[at'],λi p n hp hn=>?_⟩
 have hall:∀j,j∈qEw k->w.cell? ⟨cb,j,none⟩=some (.int .i64 ([y.t,y.k,y.d].getD j 0)):=by
  intro j hj
  have:j=0\/j=1\/j=2:=by unfold qEw at hj;split at hj <;> simp at hj <;> omega
  rcases this with e | e | e <;> subst e <;> exact h.cell rfl
 unfold at' at hp
 rw[List.getElem?_map]at hp hn
 cases ho:(qEw k)[i]? with
 | none=>rw[ho]at hp;cases hp
 | some o =>
  rw[ho]at hp hn
  simp only[Option.map_some,Option.some.injEq]at hp hn
  subst hp hn
  exact hall o (List.mem_of_getElem? ho)
theorem qW4(q:Nat)(og:Option Nat)(l:List It)(w:World)(h:QRep w q og l)(hl:l.length<=900):
  Calls Tryz.prog 97 #[.pointer (some ⟨q,0,none⟩)] w λe w'=>∃g cp,e=.returned (.slice (some ⟨g,0,none⟩) l.length cp)/\w.heap.size<=g/\IRow w' g cp (Qi.allL (l.length+1) l)/\(Qi.allL (l.length+1) l).length=l.length/\Keeps (λ_=>False) w w':=by
 cases og with
 | none =>
  obtain⟨rfl,hb⟩:=h
  refine(Qi.all_none q w ⟨rfl,hb⟩).mono ?_
  rintro e w' ⟨g,cp,rfl,hg,hr,hk⟩
  exact⟨g,cp,rfl,hg,hr,rfl,hk⟩
 | some g=>exact Qi.all_some q g l w h hl
structure SerOk (x:Ser):Prop where
 id0:0<=x.id/\x.id<=9223372036854775807
 cfg:∀n,n∈qCf x.k x.c->0<=n/\n<=9223372036854775807
 p0:0<=qB1 x.k x.c
 p3:qB1 x.k x.c<=3
 refl:x.ref.length=12
 ref:∀v,v∈x.ref->0<=v/\v<=9223372036854775807
 rel:0<=x.rel/\x.rel<=9223372036854775807
 len:x.l.length<=8
 buf:∀n,n∈qK9 x.k (Qi.allL (x.l.length+1) x.l)->0<=n/\n<=9223372036854775807
 note:SavOk x.k x.c x.nt
 valid:qA4 x.c=true
 kind:x.c.kind=x.k
 k1:1<=x.k
 k5:x.k<=5
theorem qFx{l:List Int}(h:∀v,v∈l->0<=v/\v<=9223372036854775807)(j:Nat): 0<=qAx l j/\qAx l j<=9223372036854775807:=by
 unfold qAx
 rw[List.getD_eq_getElem?_getD]
 cases hj:l[j]? with
 | none=>simp
 | some v=>exact h v (List.mem_of_getElem? hj)
theorem qEk(f:Nat->Int)(k j:Nat)(h:qDt[k]?=some j): (qDt.map f).take (k+1)=(qDt.map f).take k++[f j]:=by
 rw[List.take_add_one,List.getElem?_map,h]
 rfl
end
section
open Go.RowKit
attribute [local go_sem ↓] qAd qAe
attribute [local go_sem] qAh qAi qAb qAc qAp qAo qAk qAj qAf qAl ix0 ix1 ix2 ix3 ix4 ix5 ix6
theorem qHa(k:Nat)(c:Cfg)(p3:qB1 k c<=3): (qCf k c).length<=14:=by
 have h1:(qDg k).length<=4:=by unfold qDg;split <;> simp
 have h2:(qB8 (qB1 k c).toNat).length<=6:=by simp[qB8];omega
 simp[qCf];omega
theorem qQ7(sb:SB)(x:Ser)(clock:Int)(b:Nat)(v:Value)(bs:List Nat)(w:World)(hs:SRep w sb x)(hi:SerOk x)(hw:WRep w b v bs)(hf:∀i,qBv b v i->¬sb.foot x.k i)(c0:0<=clock)(c1:clock<=4611686018427387904)(hbl:bs.length+10*x.nt.bs.length<=140737479000000):
  Calls Tryz.prog 72 #[.pointer (some ⟨sb.s,0,none⟩),.pointer (some ⟨b,0,none⟩),.int .i64 clock] w λe w'=>e=.returned (.tuple #[])/\Wrote w b v (bs++qCv (qHj clock x)) w':=by
 have HS:=hide (show ∀w',Keeps (qBv b v) w w'->SRep w' sb x from λw' hk=>hs.keeps hk (λi hi' hm=>hf i hm hi'))
 have HF:=hide hf
 have HI:=hide hi
 have HLS:=hide (show ∀i,sb.foot x.k i->i<w.heap.size from hs.lt)
 have HW:=hide (Wrote.refl hw)
 have d0:w.cell? ⟨sb.s,0,none⟩=some (.int .i64 x.id):=hs.blk.cell rfl
 obtain⟨i0,i1⟩:=hi.id0
 clear hs hi hw hf
 go_enter Tryz.func72,Tryz.ntmps72
 go_wp2_with fail
 refine(qBp b v bs x.id w w (uh HW) i0 i1 (by omega)).mono ?_
 rintro e w1 ⟨rfl,hw1⟩
 have HO1:=hide hw1
 clear hw1 d0
 obtain⟨hv1,hh1⟩:=qA0 (uh HS w1 (uh HO1).kp).blk 1 20 x.c.cells rfl rfl
 go_wp2_with fail
 have HCL:=hide (qHa x.k x.c (uh HI).p3)
 obtain⟨v1,a1,a2,a3⟩:=uh HO1
 refine(qK8 b v1 (bs++enc x.id) x.c x.k w1 a1 (uh HI).kind (uh HI).k1 (uh HI).k5 (uh HI).p0 (uh HI).p3 (uh HI).cfg (by have:=qBc x.id;rw[List.length_append];omega)).mono ?_
 rintro e w2 ⟨rfl,hw2⟩
 have HO2:=hide (Wrote.then a2 a3 hw2)
 clear hw2 a1 a2 a3 v1 hv1 hh1 HO1
 go_wp2_with fail
 refine(qRr w2).mono ?_
 rintro e w3 ⟨rfl,hk3⟩
 have HO3:=hide ((uh HO2).still hk3)
 clear hk3 HO2
 have hl1:(bs++enc x.id++qCv (qCf x.k x.c)).length+10*x.nt.bs.length<=140737479000150:=by
  have h1:=qBc x.id
  have h2:=qAv (qCf x.k x.c)
  have h3:=uh HCL
  rw[List.length_append,List.length_append];omega
 obtain⟨b1,hb1⟩:∃b1,bs++enc x.id++qCv (qCf x.k x.c)=b1:=⟨_,rfl⟩
 rw[hb1]at HO3 hl1
 have HB1:=hide hb1
 clear hb1
 go_wp2_with fail
 go_loopw [23] (λi wr=>∃k:Nat,k<=7/\i=.int .i64 k/\Hid (Wrote w b v (b1++qCv ((qDt.map (qAx x.ref)).take k)) wr)) (λi _=>7-(intOf i).toNat)
 case atStart=>exact⟨0,by omega,rfl,by show Wrote _ _ _ _ _;rw[List.take_zero,qC1,List.append_nil];exact uh HO3⟩
 case round =>
  obtain⟨k,hk,rfl,HOr⟩:=hrel
  by_cases hlt7:k<7
  ·have hk7:k=0\/k=1\/k=2\/k=3\/k=4\/k=5\/k=6:=by omega
   rcases hk7 with hk7 | hk7 | hk7 | hk7 | hk7 | hk7 | hk7
   all_goals subst hk7
   ·have hc:wr.cell? ⟨sb.s,40,none⟩=some (.int .i64 (qAx x.ref 5)):=(uh HS wr (uh HOr).kp).blk.cell (qDe sb x (uh HI).refl 5 (by omega))
    obtain⟨n0,n1⟩:=qFx (uh HI).ref 5
    have HTK:=hide (qEk (qAx x.ref) 0 5 rfl)
    go_wp2_with fail
    refine(qBp b v _ (qAx x.ref 5) w wr (uh HOr) n0 n1 (by have h1:=qAv ((qDt.map (qAx x.ref)).take 0);have h2:((qDt.map (qAx x.ref)).take 0).length<=7:=(by rw[List.length_take];omega);rw[List.length_append];omega)).mono ?_
    rintro e w4 ⟨rfl,hw4⟩
    have HO4:=hide hw4
    clear hw4 hc
    go_wp2
    go_roundw
    case rel =>
     refine⟨1,by omega,rfl,?_⟩
     show Wrote _ _ _ _ _
     have:=uh HO4
     rw[uh HTK,qAw,qCp,<-List.append_assoc]
     exact this
    case measure=>simp[intOf]
   ·have hc:wr.cell? ⟨sb.s,41,none⟩=some (.int .i64 (qAx x.ref 6)):=(uh HS wr (uh HOr).kp).blk.cell (qDe sb x (uh HI).refl 6 (by omega))
    obtain⟨n0,n1⟩:=qFx (uh HI).ref 6
    have HTK:=hide (qEk (qAx x.ref) 1 6 rfl)
    go_wp2_with fail
    refine(qBp b v _ (qAx x.ref 6) w wr (uh HOr) n0 n1 (by have h1:=qAv ((qDt.map (qAx x.ref)).take 1);have h2:((qDt.map (qAx x.ref)).take 1).length<=7:=(by rw[List.length_take];omega);rw[List.length_append];omega)).mono ?_
    rintro e w4 ⟨rfl,hw4⟩
    have HO4:=hide hw4
    clear hw4 hc
    go_wp2
    go_roundw
    case rel =>
     refine⟨2,by omega,rfl,?_⟩
     show Wrote _ _ _ _ _
     have:=uh HO4
     rw[uh HTK,qAw,qCp,<-List.append_assoc]
     exact this
    case measure=>simp[intOf]
   ·have hc:wr.cell? ⟨sb.s,42,none⟩=some (.int .i64 (qAx x.ref 7)):=(uh HS wr (uh HOr).kp).blk.cell (qDe sb x (uh HI).refl 7 (by omega))
    obtain⟨n0,n1⟩:=qFx (uh HI).ref 7
    have HTK:=hide (qEk (qAx x.ref) 2 7 rfl)
    go_wp2_with fail
    refine(qBp b v _ (qAx x.ref 7) w wr (uh HOr) n0 n1 (by have h1:=qAv ((qDt.map (qAx x.ref)).take 2);have h2:((qDt.map (qAx x.ref)).take 2).length<=7:=(by rw[List.length_take];omega);rw[List.length_append];omega)).mono ?_
    rintro e w4 ⟨rfl,hw4⟩
    have HO4:=hide hw4
    clear hw4 hc
    go_wp2
    go_roundw
    case rel =>
     refine⟨3,by omega,rfl,?_⟩
     show Wrote _ _ _ _ _
     have:=uh HO4
     rw[uh HTK,qAw,qCp,<-List.append_assoc]
     exact this
    case measure=>simp[intOf]
   ·have hc:wr.cell? ⟨sb.s,43,none⟩=some (.int .i64 (qAx x.ref 8)):=(uh HS wr (uh HOr).kp).blk.cell (qDe sb x (uh HI).refl 8 (by omega))
    obtain⟨n0,n1⟩:=qFx (uh HI).ref 8
    have HTK:=hide (qEk (qAx x.ref) 3 8 rfl)
    go_wp2_with fail
    refine(qBp b v _ (qAx x.ref 8) w wr (uh HOr) n0 n1 (by have h1:=qAv ((qDt.map (qAx x.ref)).take 3);have h2:((qDt.map (qAx x.ref)).take 3).length<=7:=(by rw[List.length_take];omega);rw[List.length_append];omega)).mono ?_
    rintro e w4 ⟨rfl,hw4⟩
    have HO4:=hide hw4
    clear hw4 hc
    go_wp2
    go_roundw
    case rel =>
     refine⟨4,by omega,rfl,?_⟩
     show Wrote _ _ _ _ _
     have:=uh HO4
     rw[uh HTK,qAw,qCp,<-List.append_assoc]
     exact this
    case measure=>simp[intOf]
   ·have hc:wr.cell? ⟨sb.s,45,none⟩=some (.int .i64 (qAx x.ref 10)):=(uh HS wr (uh HOr).kp).blk.cell (qDe sb x (uh HI).refl 10 (by omega))
    obtain⟨n0,n1⟩:=qFx (uh HI).ref 10
    have HTK:=hide (qEk (qAx x.ref) 4 10 rfl)
    go_wp2_with fail
    refine(qBp b v _ (qAx x.ref 10) w wr (uh HOr) n0 n1 (by have h1:=qAv ((qDt.map (qAx x.ref)).take 4);have h2:((qDt.map (qAx x.ref)).take 4).length<=7:=(by rw[List.length_take];omega);rw[List.length_append];omega)).mono ?_
    rintro e w4 ⟨rfl,hw4⟩
    have HO4:=hide hw4
    clear hw4 hc
    go_wp2
    go_roundw
    case rel =>
     refine⟨5,by omega,rfl,?_⟩
     show Wrote _ _ _ _ _
     have:=uh HO4
     rw[uh HTK,qAw,qCp,<-List.append_assoc]
     exact this
    case measure=>simp[intOf]
   ·have hc:wr.cell? ⟨sb.s,44,none⟩=some (.int .i64 (qAx x.ref 9)):=(uh HS wr (uh HOr).kp).blk.cell (qDe sb x (uh HI).refl 9 (by omega))
    obtain⟨n0,n1⟩:=qFx (uh HI).ref 9
    have HTK:=hide (qEk (qAx x.ref) 5 9 rfl)
    go_wp2_with fail
    refine(qBp b v _ (qAx x.ref 9) w wr (uh HOr) n0 n1 (by have h1:=qAv ((qDt.map (qAx x.ref)).take 5);have h2:((qDt.map (qAx x.ref)).take 5).length<=7:=(by rw[List.length_take];omega);rw[List.length_append];omega)).mono ?_
    rintro e w4 ⟨rfl,hw4⟩
    have HO4:=hide hw4
    clear hw4 hc
    go_wp2
    go_roundw
    case rel =>
     refine⟨6,by omega,rfl,?_⟩
     show Wrote _ _ _ _ _
     have:=uh HO4
     rw[uh HTK,qAw,qCp,<-List.append_assoc]
     exact this
    case measure=>simp[intOf]
   ·have hc:wr.cell? ⟨sb.s,46,none⟩=some (.int .i64 (qAx x.ref 11)):=(uh HS wr (uh HOr).kp).blk.cell (qDe sb x (uh HI).refl 11 (by omega))
    obtain⟨n0,n1⟩:=qFx (uh HI).ref 11
    have HTK:=hide (qEk (qAx x.ref) 6 11 rfl)
    go_wp2_with fail
    refine(qBp b v _ (qAx x.ref 11) w wr (uh HOr) n0 n1 (by have h1:=qAv ((qDt.map (qAx x.ref)).take 6);have h2:((qDt.map (qAx x.ref)).take 6).length<=7:=(by rw[List.length_take];omega);rw[List.length_append];omega)).mono ?_
    rintro e w4 ⟨rfl,hw4⟩
    have HO4:=hide hw4
    clear hw4 hc
    go_wp2
    go_roundw
    case rel =>
     refine⟨7,by omega,rfl,?_⟩
     show Wrote _ _ _ _ _
     have:=uh HO4
     rw[uh HTK,qAw,qCp,<-List.append_assoc]
     exact this
    case measure=>simp[intOf]
  ·have hk7:k=7:=by omega
   subst hk7
   have htk:(qDt.map (qAx x.ref)).take 7=qDt.map (qAx x.ref):=rfl
   rw[htk]at HOr
   have hl2:(b1++qCv (qDt.map (qAx x.ref))).length+10*x.nt.bs.length<=140737479000250:=by
    have h2:=qAv (qDt.map (qAx x.ref))
    have h3:(qDt.map (qAx x.ref)).length=7:=rfl
    rw[List.length_append];omega
   obtain⟨b2,hb2⟩:∃b2,b1++qCv (qDt.map (qAx x.ref))=b2:=⟨_,rfl⟩
   rw[hb2]at HOr hl2
   have HB2:=hide hb2
   clear hb2 htk
   have d34:wr.cell? ⟨sb.s,34,none⟩=some (.int .i64 x.rel):=(uh HS wr (uh HOr).kp).blk.cell rfl
   obtain⟨r0,r1⟩:=(uh HI).rel
   go_wp2_with fail
   refine(qBp b v b2 x.rel w wr (uh HOr) r0 r1 (by omega)).mono ?_
   rintro e w4 ⟨rfl,hw4⟩
   have HO4:=hide hw4
   clear hw4 d34 HOr
   have HS4:=hide (uh HS w4 (uh HO4).kp)
   have d32:w4.cell? ⟨sb.s,32,none⟩=some (.pointer (some ⟨sb.q,0,none⟩)):=(uh HS4).blk.cell rfl
   have HLen:=hide (len_any sb.q sb.g x.l w4 (uh HS4).que)
   have hl8:=(uh HI).len
   have HQA:=hide (show ∀w',Keeps (qBv b v) w w'->_ from λw' hk'=>qW4 sb.q sb.g x.l w' (uh HS w' hk').que (by omega))
   have HBN:=hide (uh HI).buf
   have HNUM:=hide (show qHj clock x=(x.id::(qCf x.k x.c++(qDt.map (qAx x.ref)++[x.rel,(x.l.length:Int)])))++(qK9 x.k (Qi.allL (x.l.length+1) x.l)++zBm x.k x.c x.nt (clock-x.c.lag)) from rfl)
   generalize Qi.allL (x.l.length+1) x.l=R at *
   generalize x.l.length=n at *
   go_wp2_with fail
   refine(uh HLen).mono ?_
   rintro e w5 ⟨rfl,hw5⟩
   rw[hw5]
   clear hw5 w5 HLen
   go_wp2_with fail
   refine(qBp b v _ n w w4 (uh HO4) (by omega) (by omega) (by have:=qBc x.rel;rw[List.length_append];omega)).mono ?_
   rintro e w5 ⟨rfl,hw5⟩
   have HO5:=hide hw5
   clear hw5 d32 HS4 HO4
   have d32:w5.cell? ⟨sb.s,32,none⟩=some (.pointer (some ⟨sb.q,0,none⟩)):=(uh HS w5 (uh HO5).kp).blk.cell rfl
   go_wp2_with fail
   obtain⟨v6,q1,q2,q3⟩:=uh HO5
   have HNF:=hide (show ∀i,sb.foot x.k i->¬qBv b v6 i from λi hi=>qEm (λh=>uh HF i h hi) q2 (uh HLS i hi))
   have HQ2:=hide q2
   have HQ3:=hide q3
   have HLT:=hide q1.lt
   refine(uh HQA w5 (uh HO5).kp).mono ?_
   rintro e w6 ⟨g,cp,rfl,hg,hr6,hlen,hk6⟩
   have HS6:=hide (show ∀w',Keeps (qBv b v6) w6 w'->SRep w' sb x from λw' hk'=>((uh HS w5 (uh HO5).kp).still hk6).keeps hk' (uh HNF))
   have HG:=hide (show ¬qBv b v6 g from λh=>by have:=uh HLT g h;omega)
   have HR6:=hide hr6
   have HLN:=hide hlen
   have HW6:=hide (Wrote.refl (q1.still hk6))
   have HK6:=hide hk6
   have hl3:(b2++enc x.rel++enc (n:Int)).length+10*x.nt.bs.length<=140737479000300:=by
    have h1:=qBc x.rel
    have h2:=qBc (n:Int)
    rw[List.length_append,List.length_append];omega
   obtain⟨b3,hb3⟩:∃b3,b2++enc x.rel++enc (n:Int)=b3:=⟨_,rfl⟩
   rw[hb3]at HW6 hl3
   have HB3:=hide hb3
   clear hb3 hk6 hr6 hlen q1 q2 q3 hg HO5 HQA d32 HLT
   go_wp2_with fail
   go_loopw [54] (λi wr=>∃k:Nat,i=.int .i64 k/\k<=n/\Hid (Wrote w6 b v6 (b3++qCv (qK9 x.k (R.take k))) wr)) (λi _=>n-(intOf i).toNat)
   case atStart=>exact⟨0,rfl,Nat.zero_le _,by show Wrote _ _ _ _ _;simp only[List.take_zero,qK9,List.flatMap_nil,qC1,List.append_nil];exact uh HW6⟩
   case round =>
    obtain⟨k,rfl,hk2,HOr⟩:=hrel
    have hk0:(0:Int)<=(k:Int):=by omega
    have HSr:=hide (uh HS6 wr (uh HOr).kp)
    have hlb:(b3++qCv (qK9 x.k (R.take k))).length+10*x.nt.bs.length<=140737479000620:=by
     have h1:=qAv (qK9 x.k (R.take k))
     have h2:=qJi x.k (R.take k)
     rw[List.length_take,uh HLN]at h2
     rw[List.length_append];omega
    by_cases hlk:k<n
    ·obtain⟨v',hwr,hvr,hkr⟩:=uh HOr
     have hkn:k<R.length:=by rw[uh HLN];exact hlk
     obtain⟨x0,x1,x2,x3⟩:=((uh HR6).keeps hkr (uh HG)).cells k hkn
     have HTK:=hide (qPb x.k R k hkn)
     have HNX:=hide (show ∀n,n∈qM8 x.k (itAt R k)->0<=n/\n<=9223372036854775807 from λn hn=>uh HBN n (by
          have e:qK9 x.k (R.take (k+1)++R.drop (k+1))=qK9 x.k R:=by rw[List.take_append_drop]
          rw[<-e,qJm,qPb x.k R k hkn]
          simp only[List.mem_append]
          exact .inl (.inr hn)))
     have HLT2:=hide hwr.lt
     have HWr:=hide hwr
     have HVr:=hide hvr
     have HKr:=hide hkr
     have hkE:(k:Int)<(n:Int):=by omega
     generalize itAt R k=y at *
     clear hwr hvr hkr
     obtain⟨wa,hwa⟩:∃wa,wa=wr.alloc (.cells #[.int .i64 y.t,.int .i64 y.k,.int .i64 y.d,.int .i64 y.n] 87):=⟨_,rfl⟩
     have HBa:=hide (show Blk wa wr.heap.size [.int .i64 y.t,.int .i64 y.k,.int .i64 y.d,.int .i64 y.n] 87 by rw[hwa];exact Blk.new wr _ _)
     have HKa:=hide (show Keeps (λ_=>False) wr wa by rw[hwa];exact(Keeps.refl _ _).alloc _)
     have HWa:=hide ((uh HWr).still (uh HKa))
     have HNF1:=hide (show ¬qBv b v' wr.heap.size from λhf=>by have:=uh HLT2 _ hf;omega)
     obtain⟨n0,n1⟩:=uh HNX y.n (by simp[qM8])
     have hc3:wa.cell? ⟨wr.heap.size,3,none⟩=some (.int .i64 y.n):=(uh HBa).cell rfl
     have HEQ:=hide hwa.symm
     have HSa:=hide (show ∀w',Keeps (qBv b v') wa w'->w'.cell? ⟨sb.s,25,none⟩=some (.func (.func (qBd x.k)) #[] #[]) from λw' hk'=>hk'.cell (((uh HSr).still (uh HKa)).blk.cell rfl) (qEm (uh HNF sb.s (.inl rfl)) (uh HVr) (Nat.lt_of_lt_of_le (uh HLS sb.s (.inl rfl)) (Nat.le_trans (uh HQ3).size (uh HK6).size))))
     clear hwa
     go_wp2_with fail
     rw[uh HEQ]
     refine(qC2 b v' _ y.n wa (uh HWa) n0 n1 (by omega)).mono ?_
     rintro e w2' ⟨rfl,v2,hw2,hv2,hk2'⟩
     have hlt2:wr.heap.size<wa.heap.size:=(uh HBa).lt
     have HB2':=hide ((uh HBa).keeps hk2' (uh HNF1))
     have HNF2:=hide (qEm (uh HNF1) hv2 hlt2)
     have HW2':=hide hw2
     have HV2:=hide hv2
     have HK2:=hide hk2'
     have HL2:=hide hw2.lt
     have d25:w2'.cell? ⟨sb.s,25,none⟩=some (.func (.func (qBd x.k)) #[] #[]):=uh HSa w2' hk2'
     have hown:=qV5 x.k (uh HI).k1 (uh HI).k5
     clear hw2 hv2 hk2' hc3 HBa
     go_wp2_with fail
     refine(qWh x.k wr.heap.size w2' (uh HI).k1 (uh HI).k5).mono ?_
     rintro e w3' ⟨pv,rfl,hown3,hk3⟩
     obtain⟨pa,pcap,hpv,_⟩:=qDb hown3
     subst hpv
     have HW3:=hide ((uh HW2').still hk3)
     have HB3':=hide ((uh HB2').keeps hk3 (λh=>h))
     have HO3':=hide hown3
     have HK3:=hide hk3
     have HAL:=hide (show((qEw x.k).map (λj=>[y.t,y.k,y.d].getD j 0)).length<=3 by rw[List.length_map];exact qO4 x.k)
     clear hown3 hk3 hown d25
     go_wp2_with fail
     refine(qEs b v2 _ _ w2'.heap.size wr.heap.size (qEw x.k) ((qEw x.k).map (λj=>[y.t,y.k,y.d].getD j 0)) w3' (uh HW3) (uh HO3') (qSu (uh HB3')) (uh HNF2) (λi hi h=>by have:=uh HL2 i h;omega) (λn hn=>uh HNX n (by unfold qM8;exact List.mem_cons_of_mem _ hn)) (by have:=qBc y.n;have:=uh HAL;rw[List.length_append];omega) (by have:=uh HAL;omega)).mono ?_
     rintro e w4' ⟨rfl,hw4⟩
     have HF4:=hide (show Wrote w6 b v6 (b3++qCv (qK9 x.k (R.take (k+1)))) w4' by
        have hA:=Wrote.then (uh HVr) (uh HKr) (Wrote.pre (uh HKa) (Wrote.then (uh HV2) (uh HK2) (Wrote.pre (uh HK3) hw4)))
        rw[uh HTK,qAw]
        have e:qCv (qM8 x.k y)=enc y.n++qCv ((qEw x.k).map (λj=>[y.t,y.k,y.d].getD j 0)):=qBz _ _
        rw[e]
        simp only[List.append_assoc]at hA ⊢
        exact hA)
     clear hw4
     go_wp2
     go_roundw
     case rel=>exact⟨k+1,by go_num,by omega,HF4⟩
     case measure=>simp[intOf];omega
    ·have hkE:k=n:=by omega
     subst hkE
     have htk:R.take k=R:=List.take_of_length_le (by rw[uh HLN];omega)
     rw[htk]at HOr hlb
     have hcm:0<=x.c.lag/\x.c.lag<=100:=by
      have:=(uh HI).valid
      simp only[qA4,qEb,inB,Bool.and_eq_true,decide_eq_true_eq]at this
      omega
     obtain⟨l0,l1⟩:=hcm
     have d30:wr.cell? ⟨sb.s,30,none⟩=some (.func (.func (zAu x.k)) (qI8 sb.n.d) #[]):=(uh HSr).blk.cell rfl
     have d2:wr.cell? ⟨sb.s,2,none⟩=some (.int .i64 x.c.lag):=(uh HSr).blk.cell rfl
     have hown:=qZ4 x.k (uh HI).k1 (uh HI).k5
     obtain⟨v7,p1,p2,p3⟩:=uh HOr
     have HP1:=hide p1
     have HP2:=hide p2
     have HP3:=hide p3
     have HNF7:=hide (show ∀i,sb.foot x.k i->¬qBv b v7 i from λi hi=>qEm (uh HNF i hi) p2 (Nat.lt_of_lt_of_le (uh HLS i hi) (Nat.le_trans (uh HQ3).size (uh HK6).size)))
     clear p1 p2 p3 HOr
     go_wp2_with fail
     go_region_held3 (λw'=>w'.cell? ⟨sb.s,30,none⟩=some (.func (.func (zAu x.k)) (qI8 sb.n.d) #[])/\w'.cell? ⟨sb.s,2,none⟩=some (.int .i64 x.c.lag))
      (first | (simp[*];done) | (go_split_ands;exact⟨hw1.kp.cell (by assumption) (uh HNF7 sb.s (.inl rfl)),hw1.kp.cell (by assumption) (uh HNF7 sb.s (.inl rfl))⟩))
      (first | (go_at_call 67;refine(qPg sb.s x.c.lag clock _ (by go_keep) l0 l1 c0 c1).mono ?_;rintro e w' ⟨rfl,rfl⟩) | (refine(zAi x.k sb.n x.c x.nt b v7 _ (clock-x.c.lag) _ _ (by first | rfl | simp) (by exact(uh HSr).note.still (Keeps.refl _ _).drew) (by exact(uh HP1).still (Keeps.refl _ _).drew) (λi h hn=>uh HNF7 i (.inr (.inr (.inr hn))) h) (uh HI).note (uh HI).valid (uh HI).kind (uh HI).k1 (uh HI).k5 (by omega) (by omega) (by omega)).mono ?_;rintro e w1 ⟨rfl,hw1⟩))
     go_wp2
     go_end0
     refine⟨rfl,?_⟩
     have h9:=Wrote.then (uh HQ2) (uh HQ3) (Wrote.pre (uh HK6) (Wrote.then (uh HP2) (uh HP3) (Wrote.pre ((Keeps.refl (λ_=>False) wr).drew) hw1)))
     rw[uh HNUM]
     rw[<-uh HB3,<-uh HB2,<-uh HB1]at h9
     rw[qAw,qAw,qBz,qAw,qAw,qBz,qCp]
     simp only[List.append_assoc]at h9 ⊢
     exact h9
end
section
open Go.RowKit
theorem Qi.allL_length: ∀(f:Nat) (l:List It),(Qi.allL f l).length<=l.length
 | 0,_=>Nat.zero_le _
 | f+1,l=>by
  unfold Qi.allL
  split
  ·simp
  ·have:=Qi.allL_length f (takeL l)
   rw[Qi.takeL_length]at this
   rw[List.length_cons];omega
theorem Dr.allL_length: ∀(f:Nat) (l:List Dr.It),(Dr.allL f l).length<=l.length
 | 0,_=>Nat.zero_le _
 | f+1,l=>by
  unfold Dr.allL
  split
  ·simp
  ·have:=Dr.allL_length f (Dr.takeL l)
   rw[Dr.takeL_length]at this
   rw[List.length_cons];omega
theorem qQ9(l:List Bk)(f s:Nat)(h:s<=l.length): (qVj l f s).length<=f+(l.length-s):=by
 induction f generalizing s with
 | zero=>simp[qVj]
 | succ f ih =>
  have he:=qVn l (2 ^ f) s h
  have:=ih (qK4 l (2 ^ f) s) he.2
  rw[qOa,List.length_cons,List.length_append,List.length_map,List.length_take,List.length_drop]
  omega
theorem qVg{l:List Bk}(hsz:∀x∈l,1<=x.sz/\x.sz<4611686018427387904): qEz l<=62:=by
 unfold qEz
 split
 ·omega
 ·rename_i h0
  have hb:=hsz (qCh l 0) (qEt (by omega))
  have hs:=bitLen_spec (qCh l 0).sz.toNat
  have h2:=hs.2 (by omega)
  rcases Nat.lt_or_ge (bitLen (qCh l 0).sz.toNat-1) 62 with h3 | h3
  ·omega
  ·have:=Nat.pow_le_pow_right (show 1<=2 by omega) h3
   have e:(2:Nat) ^ 62=4611686018427387904:=by decide
   omega
theorem qPu{k:Nat}{c:Cfg}{nt:Note}(h:SavOk k c nt)(hv:qA4 c=true)(hk:c.kind=k)(m:Int): (zBm k c nt m).length<=nt.bs.length+50000:=by
 unfold zBm
 split
 ·simp
 ·split
  ·have h1:=qQ9 nt.bs (qEz nt.bs) 0 (Nat.zero_le _)
   have h2:=qVg h.bz
   unfold savC
   rw[List.length_cons];omega
  ·split
   ·rename_i h2
    obtain⟨_,a2,a3,_⟩:=qCm hv hk h2
    have h1:=qKf nt.rg (qV0 c) (m-c.window) h.rl
    have h3:qV0 c<=2 ^ 4:=Nat.pow_le_pow_right (n:=2) (by omega) (show c.bits.toNat<=4 by omega)
    omega
   ·split
    ·rename_i h3
     obtain⟨_,hrw,_⟩:=qCu hv hk h3
     obtain⟨o1,_⟩:=h.oc h3
     have h1:=qH5 c (qC4 c nt.op nt.cl (m-c.window)) (by have:=hrw.r1;omega) (by have:=hrw.w1;omega)
     have h2:(qC4 c nt.op nt.cl (m-c.window)).length<=1001:=by
      unfold qC4
      rw[List.length_append,List.length_drop]
      split <;> simp <;> omega
     unfold savO
     rw[List.length_cons];omega
    ·split
     ·rename_i h5
      have h1:=h.tl h5
      have h2:=Dr.allL_length (nt.tk.length+1) nt.tk
      rw[qKh];omega
     ·simp
theorem qKx{x:Ser}(h:SerOk x)(clock:Int): (qHj clock x).length<=x.nt.bs.length+51000:=by
 have h1:=qPu h.note h.valid h.kind (clock-x.c.lag)
 have h2:=qJi x.k (Qi.allL (x.l.length+1) x.l)
 have h3:=Qi.allL_length (x.l.length+1) x.l
 have h4:=h.len
 have h5:=qHa x.k x.c h.p3
 unfold qHj qT8
 rw[List.length_append,List.length_append,List.length_cons,List.length_append,List.length_append,List.length_map]
 have h6:qDt.length=7:=rfl
 simp only[List.length_cons,List.length_nil]
 omega
def qE9(clock:Int)(xs:List Ser): List Int:=xs.flatMap (qHj clock)
def qO1(clock:Int)(xs:List Ser): List Int:=clock::(xs.length:Int)::qE9 clock xs
def qXd(clock:Int)(xs:List Ser): List Nat:=qN3++qCv (qO1 clock xs)
def qYj(clock:Int)(xs:List Ser): List Nat:=qXd clock xs++enc (qMl (qXd clock xs))
def qKs(clock:Int)(xs:List Ser): ByteArray:=strB (qYj clock xs)
theorem qPm(clock:Int)(a b:List Ser): qE9 clock (a++b)=qE9 clock a++qE9 clock b:=by simp[qE9]
theorem qO5(clock:Int)(xs:List Ser)(h:∀x,x∈xs->SerOk x): (qE9 clock xs).length<=1000000051000*xs.length:=by
 induction xs with
 | nil=>simp[qE9]
 | cons x l ih =>
  have h1:=qKx (h x (by simp)) clock
  have h2:=(h x (by simp)).note.bn
  have h3:=ih (λy hy=>h y (by simp[hy]))
  have e:qE9 clock (x::l)=qHj clock x++qE9 clock l:=by simp[qE9]
  rw[e,List.length_append,List.length_cons];omega
theorem ERep.keepsM{M:Nat->Prop}{w w':World}{e:Nat}{v:Value}{clock:Int}{ps:List (SB×Ser)}(h:ERep w e v clock ps)(hk:Keeps M w w')(hn:∀i,EFoot e v ps i->¬M i): ERep w' e v clock ps :=
 ⟨h.blk.keeps hk (hn e (.inl rfl)),qTr h.row hk (λi hi=>hn i (.inr (.inl hi))),λp hp=>(h.reps p hp).keeps hk (λi hi=>hn i (.inr (.inr ⟨p,hp,hi⟩))),h.apart,h.ev,h.ef⟩
theorem qVy(e:Nat)(v:Value)(clock:Int)(ps:List (SB×Ser))(w:World)(h:ERep w e v clock ps)(hok:∀x,x∈ps.map (·.2)->SerOk x)(six:ps.length<=6)(c0:0<=clock)(c1:clock<=4611686018427387904):
  Calls Tryz.prog 47 #[.pointer (some ⟨e,0,none⟩)] w λr w'=>r=.returned (.string (qKs clock (ps.map (·.2))))/\Keeps (λ_=>False) w w':=by
 have HE:=hide h
 have HOK:=hide hok
 have HLT:=hide (show ∀i,EFoot e v ps i->i<w.heap.size from h.lt)
 obtain⟨va,vcap,hv,hva⟩:=qDb h.row
 have HV:=hide hv
 have HVA:=hide hva
 have HNEW:=hide (qM4 w)
 clear h hok hv hva
 obtain⟨n,hn⟩:∃n,ps.length=n:=⟨_,rfl⟩
 have HN:=hide hn
 rw[hn]at six
 clear hn
 go_enter Tryz.func47,Tryz.ntmps47
 go_wp2_with fail
 refine(uh HNEW).mono ?_
 rintro r w1 ⟨b,u,rfl,hw1,hb1,hk1⟩
 have HNF:=hide (show ∀i,EFoot e v ps i->¬qBv b u i from λi hi h=>by have h1:=uh HLT i hi;have h2:=hb1 i h;omega)
 have HE1:=hide (show ∀w',Keeps (qBv b u) w1 w'->ERep w' e v clock ps from λw' hk'=>((uh HE).still hk1).keepsM hk' (uh HNF))
 have HW1:=hide (Wrote.refl hw1)
 have HK1:=hide hk1
 have HB1:=hide hb1
 have hc0:w1.cell? ⟨e,0,none⟩=some (.int .i64 clock):=(uh HE1 w1 (Keeps.refl _ _)).blk.cell rfl
 clear hw1 hb1 hk1 HNEW
 go_wp2_with fail
 refine(qBp b u qN3 clock w1 w1 (uh HW1) c0 (by omega) (by decide)).mono ?_
 rintro r w2 ⟨rfl,hw2⟩
 have HO2:=hide hw2
 clear hw2 hc0 HW1
 have hc1:w2.cell? ⟨e,1,none⟩=some (.slice va n vcap):=by
  have:=(uh HE1 w2 (uh HO2).kp).blk.cell (i:=1) rfl
  rw[this,uh HV,uh HN]
 have hf8:qN3.length=8:=rfl
 go_wp2_with fail
 refine(qBp b u _ n w1 w2 (uh HO2) (by omega) (by omega) (by have:=qBc clock;rw[List.length_append];omega)).mono ?_
 rintro r w3 ⟨rfl,hw3⟩
 have HO3:=hide hw3
 clear hw3 hc1 HO2
 have hc1:w3.cell? ⟨e,1,none⟩=some (.slice va n vcap):=by
  have:=(uh HE1 w3 (uh HO3).kp).blk.cell (i:=1) rfl
  rw[this,uh HV,uh HN]
 have hl3:(qN3++enc clock++enc (n:Int)).length<=28:=by
  have h1:=qBc clock
  have h2:=qBc (n:Int)
  rw[List.length_append,List.length_append];omega
 obtain⟨b0,hb0⟩:∃b0,qN3++enc clock++enc (n:Int)=b0:=⟨_,rfl⟩
 rw[hb0]at HO3 hl3
 have HB0:=hide hb0
 clear hb0
 go_wp2_with fail
 clear hc1
 go_loopw [25] (λi wr=>∃k:Nat,i=.int .i64 k/\k<=n/\Hid (Wrote w1 b u (b0++qCv (qE9 clock ((ps.take k).map (·.2)))) wr)) (λi _=>n-(intOf i).toNat)
 case atStart=>exact⟨0,rfl,Nat.zero_le _,by show Wrote _ _ _ _ _;simp only[List.take_zero,List.map_nil,qE9,List.flatMap_nil,qC1,List.append_nil];exact uh HO3⟩
 case round =>
  obtain⟨k,rfl,hk,HOr⟩:=hrel
  have hk0:(0:Int)<=(k:Int):=by omega
  have HLB:=hide (show(b0++qCv (qE9 clock ((ps.take k).map (·.2)))).length<=28+10*(1000000051000*k) by
     have h1:=qAv (qE9 clock ((ps.take k).map (·.2)))
     have h2:=qO5 clock ((ps.take k).map (·.2)) (λx hx=>uh HOK x (by
          obtain⟨p,hp,rfl⟩:=List.mem_map.1 hx
          exact List.mem_map_of_mem (List.mem_of_mem_take hp)))
     have h3:((ps.take k).map (·.2)).length=k:=by rw[List.length_map,List.length_take,uh HN];omega
     rw[h3]at h2
     rw[List.length_append];omega)
  by_cases hlk:k<n
  ·obtain⟨g,hg,_⟩:=uh HVA (by rw[uh HN];omega)
   subst hg
   have hkp:k<ps.length:=by rw[uh HN];exact hlk
   obtain⟨p,hp⟩:∃p,ps[k]?=some p:=⟨_,List.getElem?_eq_getElem hkp⟩
   have HEr:=hide (uh HE1 wr (uh HOr).kp)
   have hcg:wr.cell? ⟨g,k,none⟩=some (.pointer (some ⟨p.1.s,0,none⟩)):=by
    rcases qJv (uh HEr).row with ⟨h0,_⟩ | ⟨g',cap',hv',hc⟩
    ·omega
    ·rw[uh HV]at hv'
     cases hv'
     exact hc k _ (by unfold ptrs;rw[List.getElem?_map,hp];rfl)
   have hce:wr.cell? ⟨e,0,none⟩=some (.int .i64 clock):=(uh HEr).blk.cell rfl
   have HTK:=hide (show qE9 clock ((ps.take (k+1)).map (·.2))=qE9 clock ((ps.take k).map (·.2))++qHj clock p.2 by
      rw[List.take_add_one,hp,List.map_append,qPm]
      simp[qE9])
   have hpm:p∈ps:=List.mem_of_getElem? hp
   have HSR:=hide ((uh HEr).reps p hpm)
   have HSK:=hide (uh HOK p.2 (List.mem_map_of_mem hpm))
   have HSF:=hide (show ∀i,p.1.foot p.2.k i->EFoot e v ps i from λi hi=>.inr (.inr ⟨p,hpm,hi⟩))
   have hbn:=(uh HSK).note.bn
   have hlb:=uh HLB
   have hkE:(k:Int)<(n:Int):=by omega
   obtain⟨u',z1,z2,z3⟩:=uh HOr
   have HZ2:=hide z2
   have HZ3:=hide z3
   have HSV:=hide (qQ7 p.1 p.2 clock b u' _ wr (uh HSR) (uh HSK) z1 (λi h hi=>qEm (uh HNF i (uh HSF i hi)) z2 (Nat.lt_of_lt_of_le (uh HLT i (uh HSF i hi)) (uh HK1).size) h) c0 c1 (by omega))
   clear hp hkp hpm z1 z2 z3
   go_wp2_with fail
   refine(uh HSV).mono ?_
   rintro r w4 ⟨rfl,hw4⟩
   have HO4:=hide (Wrote.then (uh HZ2) (uh HZ3) hw4)
   clear hw4 hcg hce
   go_wp2
   go_roundw
   case rel =>
    refine⟨k+1,by go_num,by omega,?_⟩
    show Wrote _ _ _ _ _
    have:=uh HO4
    rw[uh HTK,qAw,<-List.append_assoc]
    exact this
   case measure=>simp[intOf];omega
  ·have hkE:k=n:=by omega
   subst hkE
   have htk:ps.take k=ps:=List.take_of_length_le (by rw[uh HN];omega)
   rw[htk]at HOr HLB
   have hlb:=uh HLB
   obtain⟨u',z1,z2,z3⟩:=uh HOr
   have HZ2:=hide z2
   have HZ3:=hide z3
   have HCL:=hide (qVe b u' _ wr z1 (by omega))
   have HSB:=hide (show qKs clock (ps.map (·.2))=strB (b0++qCv (qE9 clock (ps.map (·.2)))++enc (qMl (b0++qCv (qE9 clock (ps.map (·.2)))))) by
      have e1:qXd clock (ps.map (·.2))=b0++qCv (qE9 clock (ps.map (·.2))):=by
       unfold qXd qO1
       rw[qBz,qBz,<-uh HB0,List.length_map,uh HN]
       simp only[List.append_assoc]
      unfold qKs qYj
      rw[e1])
   clear z1 z2 z3
   go_wp2_with fail
   refine(uh HCL).mono ?_
   rintro r w4 ⟨rfl,hk4⟩
   have HK4:=hide hk4
   clear hk4
   go_wp2
   go_ret
   refine⟨by rw[uh HSB,List.append_assoc];rfl,?_⟩
   refine(uh HK1).trans ((uh HZ3).trans (uh HK4) (λi hi hlt=>?_)) (λi hi hlt=>?_) (M':=qBv b u)
   ·rcases hi with hi | hi
    ·exact .inl hi
    ·rcases uh HZ2 i hi with h1 | h1
     ·exact .inr h1
     ·omega
   ·have:=uh HB1 i hi
    omega
structure WS where
 clock:Int
 xs:List Ser
def zB3(s:WS): ByteArray:=qKs s.clock s.xs
def zAc(_:ByteArray): Option WS:=none
def qZd(s:WS)(o:OpM): WS×Int×List Int :=
 match zAc o.bytes with
 | none=>(s,14,[])
 | some s'=>(s',0,[])
def qCo(s:WS)(o:OpM): WS×Int×List Int :=
 if inB o.id 0 99=true/\(qDk s.xs o.id).isNone=true then
  if qA4 o.cfg=true then(if s.xs.length<6 then(⟨s.clock,s.xs++[qBt o.id o.cfg o.cfg.kind.toNat]⟩,0,[]) else(s,4,[])) else(s,3,[])
 else(s,2,[])
def qMt(s:WS)(o:OpM): WS×Int×List Int :=
 match qDk s.xs o.id with
 | none=>(s,2,[])
 | some x=>if qKv x s.clock o.item=0 then(⟨s.clock,qIx s.xs o.id (qR1 x o.item)⟩,0,[x.acc+1])
  else(⟨s.clock,qIx s.xs o.id (qS1 x (qKv x s.clock o.item).toNat)⟩,qKv x s.clock o.item,[])
def qH7(s:WS)(o:OpM): WS×Int×List Int :=
 if inB o.a 0 4611686018427387904=true then
  if inB o.b 0 100=true then(⟨qF0 s.clock o.a,(qBy (qF0 s.clock o.a) o.b (s.xs.map (qBr (qF0 s.clock o.a)))).1⟩,0,[(qBy (qF0 s.clock o.a) o.b (s.xs.map (qBr (qF0 s.clock o.a)))).2]) else(s,12,[])
 else(s,5,[])
def qFz(s:WS)(o:OpM): WS×Int×List Int :=
 match qDk s.xs o.id with
 | none=>(s,2,[])
 | some x=>(s,qH9 x.k x.c x.nt o.a (s.clock-x.c.lag))
def qGg(s:WS)(o:OpM): WS×Int×List Int :=
 match qDk s.xs o.id with
 | none=>(s,2,[])
 | some x=>(s,0,qCc x)
def qBg(s:WS)(o:OpM): WS×Int×List Int :=
 if o.kind=1 then qCo s o else if o.kind=2 then qMt s o else if o.kind=3 then qH7 s o else if o.kind=4 then qFz s o else if o.kind=5 then qGg s o else if o.kind=6 then(s,0,[]) else if o.kind=7 then qZd s o else(s,1,[])
def qG7(s:WS)(o:OpM): ByteArray:=if o.kind=6 then zB3 s else qAa
theorem SInv.mono{n m:Int}{x:Ser}(h:SInv n x)(hm:n<=m): SInv m x:=by
 have h1:=h.accn
 exact⟨h.valid,h.kind,h.k1,h.k5,h.acc0,by omega,h.rel0,h.rela,h.reflen,λv hv=>by have:=h.refn v hv;omega,h.cap,h.times,h.note,h.heap,h.last0,h.lastn,h.lastl,h.fits⟩
theorem qLw{n:Int}(id:Int)(c:Cfg)(h:qA4 c=true)(hn:0<=n): SInv n (qBt id c c.kind.toNat):=by
 obtain⟨k,hk,h1,h5,hc,_⟩:=qHf h
 have hkn:c.kind.toNat=k:=by omega
 simp only[qEb,inB,Bool.and_eq_true,decide_eq_true_eq]at hc
 refine⟨h,?_,?_,?_,by simp[qBt],by simpa[qBt] using hn,by simp[qBt],by simp[qBt],rfl,?_,?_,by simp[qBt],?_,?_,by simp[qBt],by simp[qBt],by simp[qBt],by simp[qBt]⟩
 ·show c.kind=(c.kind.toNat:Int);omega
 ·show 1<=c.kind.toNat;omega
 ·show c.kind.toNat<=5;omega
 ·intro v hv
  have:v=0:=by simpa[qBt] using hv
  omega
 ·show((0:Nat):Int)<=c.cap;omega
 ·exact NInv.zero c.kind.toNat c h (by omega)
 ·intro i h1 h2;simp[qBt]at h2
theorem qGx{xs:List Ser}{id:Int}{y z:Ser}(h:z∈qIx xs id y): z∈xs\/z=y:=by
 induction xs with
 | nil=>simp[qIx]at h
 | cons a l ih =>
  unfold qIx at h
  split at h
  ·rcases List.mem_cons.1 h with h | h
   ·exact .inr h
   ·exact .inl (by simp[h])
  ·rcases List.mem_cons.1 h with h | h
   ·exact .inl (by simp[h])
   ·rcases ih h with h | h
    ·exact .inl (by simp[h])
    ·exact .inr h
theorem qKp(xs:List Ser)(id:Int)(y:Ser): (qIx xs id y).length=xs.length:=by
 induction xs with
 | nil=>rfl
 | cons a l ih =>
  unfold qIx
  split
  ·rfl
  ·simp[ih]
theorem EInv.mono{n m clock:Int}{xs:List Ser}(h:EInv n clock xs)(hm:n<=m): EInv m clock xs:=⟨h.c0,h.c1,h.six,λx hx=>(h.sers x hx).mono hm,h.marks⟩
theorem qJj{x:Ser}{clock:Int}{y:It}(h:qKv x clock y=0): 0<=y.t/\y.t<=4611686018427387904/\(x.l.length:Int)<x.c.cap/\clock-x.c.lag<y.t/\y.t<=clock+x.c.skew/\qFn x.c x.k y=0/\x.acc<4611686018427387904:=by
 unfold qKv at h
 cases h1:inB y.t 0 4611686018427387904 with
 | false=>rw[h1]at h;simp at h
 | true =>
  obtain⟨a,b⟩:=qDp h1
  rw[h1]at h
  simp only[if_true]at h
  split at h
  ·omega
  ·split at h
   ·omega
   ·split at h
    ·rename_i h2;exact absurd h h2
    ·rename_i h2
     split at h
     ·omega
     ·split at h
      ·omega
      ·exact⟨a,b,by omega,by omega,by omega,by simpa using h2,by omega⟩
theorem qIa{P:Ser->Prop}(clock:Int)(h:∀b x,P x->P (qTw clock b x))(b:Int)(xs:List Ser)(hx:∀x,x∈xs->P x): ∀x,x∈(qBy clock b xs).1->P x:=by
 induction xs generalizing b with
 | nil=>intro x hx;simp[qBy]at hx
 | cons a l ih =>
  intro x hx'
  simp only[qBy,List.mem_cons]at hx'
  rcases hx' with hx' | hx'
  ·rw[hx'];exact h b a (hx a (by simp))
  ·exact ih _ (λy hy=>hx y (by simp[hy])) x hx'
theorem qNb(clock b:Int)(xs:List Ser): (qBy clock b xs).1.length=xs.length:=by
 induction xs generalizing b with
 | nil=>rfl
 | cons a l ih=>simp[qBy,ih]
theorem qMh{clock nc:Int}{x:Ser}(hc:clock<=nc)(h:x.last=0\/x.last<=clock-x.c.lag): (qBr nc x).last=0\/(qBr nc x).last<=nc-(qBr nc x).c.lag:=by
 have h1:(qBr nc x).c=x.c:=(qKo (x.l.length+1) x (nc-x.c.lag)).2.1
 rw[h1]
 rcases qU7 (x.l.length+1) x (nc-x.c.lag) with h2 | h2
 ·have h3:(qBr nc x).last=x.last:=h2
  rw[h3]
  rcases h with h | h
  ·exact .inl h
  ·exact .inr (by omega)
 ·exact .inr h2
def qRi(n:Int)(o:OpM): Prop:=o.kind=7->∀s',zAc o.bytes=some s'->EInv n s'.clock s'.xs
theorem qFl{n:Int}{o:OpM}(h:o.kind≠7): qRi n o:=λe=>(h e).elim
theorem qJ9{n:Int}{s:WS}(o:OpM)(h:EInv n s.clock s.xs)(hn:0<=n)(hL:qRi (n+1) o): EInv (n+1) (qBg s o).1.clock (qBg s o).1.xs:=by
 have hs:EInv (n+1) s.clock s.xs:=h.mono (by omega)
 unfold qBg
 split
 ·unfold qCo
  split
  ·split
   ·split
    ·rename_i h2 h3
     refine⟨h.c0,h.c1,by simp;omega,λx hx=>?_,λx hx=>?_⟩
     ·rcases List.mem_append.1 hx with hx | hx
      ·exact hs.sers x hx
      ·rw[List.mem_singleton]at hx;subst hx;exact qLw _ _ h2 (by omega)
     ·rcases List.mem_append.1 hx with hx | hx
      ·exact hs.marks x hx
      ·rw[List.mem_singleton]at hx;subst hx;exact .inl rfl
    ·exact hs
   ·exact hs
  ·exact hs
 ·split
  ·unfold qMt
   split
   ·exact hs
   ·rename_i x hf
    have hx:x∈s.xs:=List.mem_of_find?_eq_some hf
    have hxi:=h.sers x hx
    have hxm:=h.marks x hx
    split
    ·rename_i hr
     obtain⟨t0,t1,hc,hl,_,hk,_⟩:=qJj hr
     refine⟨h.c0,h.c1,by show(qIx _ _ _).length<=6;rw[qKp];exact h.six,λz hz=>?_,λz hz=>?_⟩
     ·rcases qGx hz with hz | hz
      ·exact hs.sers z hz
      ·subst hz;exact qXj (hxi.mono (by omega)) o.item t0 t1 hc (by have:=hxi.accn;omega) (by rcases hxm with h | h <;> omega) hk
     ·rcases qGx hz with hz | hz
      ·exact hs.marks z hz
      ·subst hz;exact hxm
    ·refine⟨h.c0,h.c1,by show(qIx _ _ _).length<=6;rw[qKp];exact h.six,λz hz=>?_,λz hz=>?_⟩
     ·rcases qGx hz with hz | hz
      ·exact hs.sers z hz
      ·subst hz
       have hrr:=qIg x s.clock o.item
       exact qX1 (hxi.mono (by omega)) _ (λv hv=>by have:=hxi.refn v hv;omega) (by omega)
     ·rcases qGx hz with hz | hz
      ·exact hs.marks z hz
      ·subst hz;exact hxm
  ·split
   ·unfold qH7
    split
    ·rename_i ha
     obtain⟨a0,a1⟩:=qDp ha
     have hc0:=h.c0
     have hc1:=h.c1
     have hmx:s.clock<=qF0 s.clock o.a:=by unfold qF0;split <;> omega
     split
     ·refine⟨?_,?_,by show(qBy _ _ _).1.length<=6;rw[qNb];simpa using h.six,λz hz=>?_,λz hz=>?_⟩
      ·show 0<=qF0 s.clock o.a;unfold qF0;split <;> omega
      ·show qF0 s.clock o.a<=_;unfold qF0;split <;> omega
      ·refine qIa (P:=SInv (n+1)) _ (λb x hx=>qRs _ b hx) _ _ (λz hz=>?_) z hz
       obtain⟨x,hx,rfl⟩:=List.mem_map.1 hz
       exact qRv _ (hs.sers x hx) _
      ·refine qIa (P:=λz=>z.last=0\/z.last<=qF0 s.clock o.a-z.c.lag) _ (λb x hx=>hx) _ _ (λz hz=>?_) z hz
       obtain⟨x,hx,rfl⟩:=List.mem_map.1 hz
       exact qMh hmx (h.marks x hx)
     ·exact hs
    ·exact hs
   ·split
    ·unfold qFz
     split
     ·exact hs
     ·exact hs
    ·split
     ·unfold qGg
      split <;> exact hs
     ·split
      ·exact hs
      ·split
       ·rename_i h7
        unfold qZd
        split
        ·exact hs
        ·rename_i s' hs'
         exact hL h7 s' hs'
       ·exact hs
def qCq(ty:TypeId)(a x:Value): Sem Next:=do Instr.storeAt ty a x;pure .skip
theorem qB6(ρ:Operand->Value)(dst:Option Tmp)(x y:Operand)(ty:TypeId)(pos:String)(after:Array Edge)(guard:Option (Nat×Bool)):
  execOp ρ { dst,op:=.store 40 x y,type:=ty,pos,after,guard }=qCq 40 (ρ x) (ρ y):=rfl
def qEi(arr:Array Value)(o:Nat): List Value->Array Value
 | []=>arr
 | c::r=>qEi (arr.setIfInBounds o c) (o+1) r
theorem qF7(w:World)(T:TypeId): ∀(cs:List Value) (o:Nat) (arr:Array Value),(w.alloc (.cells arr T)).setCells w.heap.size o cs=w.alloc (.cells (qEi arr o cs) T)
 | [],_,_=>rfl
 | c::r,o,arr=>by
  unfold World.setCells qEi
  rw[World.setCell_alloc_at _ _ _ _ _ rfl]
  exact qF7 w T r (o+1) (arr.setIfInBounds o c)
theorem qDy: ∀(cs:List Value) (pre:List Value) (rest:List Value),rest.length=cs.length->qEi (pre++rest).toArray pre.length cs=(pre++cs).toArray
 | [],pre,rest,h=>by
  have:rest=[]:=List.length_eq_zero_iff.1 h
  subst this;rfl
 | c::r,pre,rest,h=>by
  cases rest with
  | nil=>simp at h
  | cons d q =>
   unfold qEi
   have h1:((pre++d::q).toArray.setIfInBounds pre.length c)=((pre++[c])++q).toArray:=by simp
   rw[h1]
   have:=qDy r (pre++[c]) q (by simpa using h)
   rw[List.length_append]at this
   simpa using this
theorem qKm(w:World)(zs:List Value)(cs:List Value)(hz:zs.length=26)(hc:cs.length=26)(h1:cs.toArray.all (·.oneCell')=true):
  (qCq 40 (.pointer (some ⟨w.heap.size,0,none⟩)) (.agg cs.toArray)).run Tryz.prog (w.alloc (.cells zs.toArray 40))=.ok .skip (w.alloc (.cells cs.toArray 40)):=by
 unfold qCq
 have ht:(w.alloc (.cells zs.toArray 40)).there w.heap.size 0 cs.toArray.size:=by
  intro j hj
  have hj':j<26:=by simpa[hc] using hj
  rw[Nat.zero_add,World.cell?_alloc_new,World.frozen?_alloc_new]
  simp[hz,hj']
 rw[Sem.run_bind,run_storeAt_mid _ w.heap.size 0 40 cs.toArray ht (by rw[qYo];simp[hc]) h1]
 have h2:=qDy cs [] zs (by omega)
 simp only[List.nil_append,List.length_nil]at h2
 rw[qF7,List.toList_toArray,h2]
 rfl
end
end Go.Proofs.YtahnliehdjncdaaGreatDoor
