import Derived.Test.YtahnliehdjncdabGreatDoorXBK
import Derived.Test.YtahnliehdjncdabGreatDoorXBG
set_option maxRecDepth 100000
set_option maxHeartbeats 16000000
namespace Go.Proofs.YtahnliehdjncdabGreatDoor
section
open Go.RowKit
attribute [local go_sem ↓] qAd qC9
attribute [local go_sem] qAg qAb qAc qAn qAo qAi qAh qAf qAl
def qDo(l:List Int): Nat->List Int
 | 0=>[0,0,0,0,0,0,0,0,0,0,0,0]
 | k+1=>(qDo l k).set (qB1.getD k 0) (qAs l (qB1.getD k 0))
theorem qHk(l:List Int)(k:Nat): (qDo l k).length=12:=by
 induction k with
 | zero=>rfl
 | succ k ih=>unfold qDo;rw[List.length_set,ih]
theorem qJg(r:Nat)(l:List Nat)(w:World)(h:RdRep w r l): Calls Tryz.prog 90 #[.pointer (some ⟨r,0,none⟩)] w λe w'=>e=.returned (.bool false)/\w'=w:=by
 have hc:w.cell? ⟨r,1,none⟩=some (.bool false):=h.blk.cell rfl
 clear h
 go_enter Tryz.func90,Tryz.ntmps90
 go_wp2
 go_ret
 exact⟨rfl,rfl⟩
structure LdOk (x:Ser) (clock:Int):Prop where
 id0:0<=x.id/\x.id<=99
 cfg:∀n,n∈qBo x.k x.c->0<=n/\n<=9223372036854775807
 p0:0<=qBt x.k x.c
 p3:qBt x.k x.c<=3
 kind:x.c.kind=x.k
 k1:1<=x.k
 k5:x.k<=5
 valid:qA7 (qCd x.k x.c)=true
 ref:∀j,0<=qAs x.ref j/\qAs x.ref j<=4611686018427387904
 rel0:0<=x.rel
 rel1:x.rel<=qGg (qCd x.k x.c) clock
 rel2:x.rel<=4611686018427387000
 c0:0<=clock
 c1:clock<=4611686018427387904
 lag:0<=(qCd x.k x.c).lag/\(qCd x.k x.c).lag<=100
 cap:1<=(qCd x.k x.c).cap/\(qCd x.k x.c).cap<=8
theorem qQp(r:Nat)(x:Ser)(clock:Int)(nt':Note)(nn:List Nat)(tl:List Nat)(w:World)(h:RdRep w r (qBe (qE7 x)++(nn++tl)))(hi:LdOk x clock)(hx:x.l=[])(HL:∀(nb:NB) (kn:Nat) (w1:World),NRep w1 x.k nb (qCd x.k x.c) qFy->RdRep w1 r (nn++tl)->Blk w1 kn (qEl (clock-(qCd x.k x.c).lag) x.rel x.rel (.slice none 0 0)) 184->¬qCz x.k nb r->¬qCz x.k nb kn->kn≠r ->
     Calls Tryz.prog (zCz x.k) (qHa nb.d++#[.pointer (some ⟨r,0,none⟩),.pointer (some ⟨kn,0,none⟩)]) w1 λe w2=>e=.returned (.tuple #[])/\∃nb':NB,nb'.d=nb.d/\NRep w2 x.k nb' (qCd x.k x.c) nt'/\(∀i,qCz x.k nb' i->qCz x.k nb i\/w1.heap.size<=i)/\RdRep w2 r tl/\Keeps (λi=>i=r\/i=kn\/qCz x.k nb i) w1 w2):
  Calls Tryz.prog 89 #[.pointer (some ⟨r,0,none⟩),.int .i64 clock] w λe w'=>∃sb:SB,e=.returned (.pointer (some ⟨sb.s,0,none⟩))/\SRep w' sb ⟨x.id,qCd x.k x.c,x.k,x.rel,x.rel,qDo x.ref 7,[],nt',0⟩/\RdRep w' r tl/\(∀i,sb.foot x.k i->w.heap.size<=i)/\Keeps (λi=>i=r) w w':=by
 have HI:=hide hi
 have HHL:=hide HL
 obtain⟨i0,i1⟩:=hi.id0
 have h1:=hi.k1
 have h5:=hi.k5
 have hrl:=h.blk.lt
 have hh:qBe (qE7 x)++(nn++tl)=enc x.id++(qBe (qBo x.k x.c)++(qBe (qB1.map (qAs x.ref))++(enc x.rel++(enc 0++(nn++tl))))):=by
  unfold qE7
  rw[hx]
  simp only[qAy,qAk,List.append_assoc,List.length_nil]
  rfl
 rw[hh]at h
 have HR:=hide h
 clear h hi HL hh
 obtain⟨ck,hck⟩:∃ck,qCd x.k x.c=ck:=⟨_,rfl⟩
 go_enter Tryz.func89,Tryz.ntmps89
 go_wp2_with fail
 refine(qB3 r x.id 0 99 _ w (uh HR) i0 (by omega) i0 i1).mono ?_
 rintro e w1 ⟨rfl,hr1,hk1⟩
 have HR1:=hide hr1
 have HK1:=hide hk1
 clear hr1 hk1 HR
 go_wp2_with fail
 refine(qIk r x.c x.k _ w1 (uh HR1) (uh HI).kind h1 h5 (uh HI).p0 (uh HI).p3 (uh HI).cfg (uh HI).valid).mono ?_
 rintro e w2 ⟨rfl,hr2,hk2⟩
 have HR2:=hide hr2
 have HK2:=hide ((uh HK1).then hk2)
 have hs2:=(uh HK2).size
 clear hr2 hk2 HK1 HR1
 rw[hck]at HHL ⊢
 have HCK:=hide hck
 have hval:ck.val=.agg ck.cells.toArray:=rfl
 rw[hval]
 unfold qBa fn
 clear hck hval
 have HC0:=hide (show Blk ((w2.alloc (.cells #[.int .i64 0,.int .i64 0,.int .i64 0,.int .i64 0,.int .i64 0,.int .i64 0,.int .i64 0,.int .i64 0,.int .i64 0,.int .i64 0,.int .i64 0,.int .i64 0,.int .i64 0,.int .i64 0,.int .i64 0,.int .i64 0,.int .i64 0,.int .i64 0,.int .i64 0,.int .i64 0] 32)).alloc (.cells #[.nilFunc,.nilFunc,.nilFunc,.nilFunc,.nilFunc,.nilFunc] 83)) w2.heap.size qU1.cells 32 from(Blk.new w2 _ _).alloc _)
 have HN0:=hide (show Blk ((w2.alloc (.cells #[.int .i64 0,.int .i64 0,.int .i64 0,.int .i64 0,.int .i64 0,.int .i64 0,.int .i64 0,.int .i64 0,.int .i64 0,.int .i64 0,.int .i64 0,.int .i64 0,.int .i64 0,.int .i64 0,.int .i64 0,.int .i64 0,.int .i64 0,.int .i64 0,.int .i64 0,.int .i64 0] 32)).alloc (.cells #[.nilFunc,.nilFunc,.nilFunc,.nilFunc,.nilFunc,.nilFunc] 83)) (w2.heap.size+1) [.nilFunc,.nilFunc,.nilFunc,.nilFunc,.nilFunc,.nilFunc] 83 from Blk.newAt (by simp) _ _)
 have HKW:=hide (show Keeps (λ_=>False) w2 ((w2.alloc (.cells #[.int .i64 0,.int .i64 0,.int .i64 0,.int .i64 0,.int .i64 0,.int .i64 0,.int .i64 0,.int .i64 0,.int .i64 0,.int .i64 0,.int .i64 0,.int .i64 0,.int .i64 0,.int .i64 0,.int .i64 0,.int .i64 0,.int .i64 0,.int .i64 0,.int .i64 0,.int .i64 0] 32)).alloc (.cells #[.nilFunc,.nilFunc,.nilFunc,.nilFunc,.nilFunc,.nilFunc] 83)) from((Keeps.refl _ _).alloc _).alloc _)
 obtain⟨WA,hWA⟩:∃WA,WA=((w2.alloc (.cells #[.int .i64 0,.int .i64 0,.int .i64 0,.int .i64 0,.int .i64 0,.int .i64 0,.int .i64 0,.int .i64 0,.int .i64 0,.int .i64 0,.int .i64 0,.int .i64 0,.int .i64 0,.int .i64 0,.int .i64 0,.int .i64 0,.int .i64 0,.int .i64 0,.int .i64 0,.int .i64 0] 32)).alloc (.cells #[.nilFunc,.nilFunc,.nilFunc,.nilFunc,.nilFunc,.nilFunc] 83)).setCells w2.heap.size 0 ck.cells:=⟨_,rfl⟩
 have hst:(qDc 32 (.pointer (some ⟨w2.heap.size,0,none⟩)) (.agg ck.cells.toArray)).run Tryz.prog ((w2.alloc (.cells #[.int .i64 0,.int .i64 0,.int .i64 0,.int .i64 0,.int .i64 0,.int .i64 0,.int .i64 0,.int .i64 0,.int .i64 0,.int .i64 0,.int .i64 0,.int .i64 0,.int .i64 0,.int .i64 0,.int .i64 0,.int .i64 0,.int .i64 0,.int .i64 0,.int .i64 0,.int .i64 0] 32)).alloc (.cells #[.nilFunc,.nilFunc,.nilFunc,.nilFunc,.nilFunc,.nilFunc] 83))=.ok .skip WA:=by
  rw[hWA];exact qHg ck (uh HC0) rfl
 have HCA:=hide (show Blk WA w2.heap.size ck.cells 32 by
    have:=Blk.setCells ck.cells 0 _ _ (uh HC0) (by show 0+20<=20;omega)
    rw[qQc _ _ (by rfl),<-hWA]at this
    exact this)
 have hkA:Keeps (λi=>i=w2.heap.size) ((w2.alloc (.cells #[.int .i64 0,.int .i64 0,.int .i64 0,.int .i64 0,.int .i64 0,.int .i64 0,.int .i64 0,.int .i64 0,.int .i64 0,.int .i64 0,.int .i64 0,.int .i64 0,.int .i64 0,.int .i64 0,.int .i64 0,.int .i64 0,.int .i64 0,.int .i64 0,.int .i64 0,.int .i64 0] 32)).alloc (.cells #[.nilFunc,.nilFunc,.nilFunc,.nilFunc,.nilFunc,.nilFunc] 83)) WA:=by
  rw[hWA];exact Keeps.setCells (M:=λi=>i=w2.heap.size) (b:=w2.heap.size) (Or.inl rfl) _ _ _ (Keeps.refl _ _)
 have HKA:=hide ((uh HN0).keeps hkA (show ¬(w2.heap.size+1=w2.heap.size) by omega))
 have HPA:=hide (show Keeps (λ_=>False) w2 WA from(uh HKW).trans hkA (λi hi hlt=>by have hi2:i=w2.heap.size:=hi;omega))
 have n0:=(uh HKA).cell (i:=0) rfl
 have n1:=(uh HKA).cell (i:=1) rfl
 have n2:=(uh HKA).cell (i:=2) rfl
 have n3:=(uh HKA).cell (i:=3) rfl
 have n4:=(uh HKA).cell (i:=4) rfl
 have n5:=(uh HKA).cell (i:=5) rfl
 have nf:=(uh HKA).frozen
 have HTB:=hide (show Blk _ (w2.heap.size+1) [.func (.func (qBn x.k)) #[] #[],.func (.func (qA1 x.k)) #[] #[],.func (.func (qA0 x.k)) #[] #[],.func (.func (qAq x.k)) #[] #[],.func (.func (qAz x.k)) #[] #[],.func (.func (qA4 x.k)) #[] #[]] 83 from(((((((uh HKA).setCell 0 (.func (.func (qBn x.k)) #[] #[])).setCell 1 (.func (.func (qA1 x.k)) #[] #[])).setCell 2 (.func (.func (qA0 x.k)) #[] #[])).setCell 3 (.func (.func (qAq x.k)) #[] #[])).setCell 4 (.func (.func (qAz x.k)) #[] #[])).setCell 5 (.func (.func (qA4 x.k)) #[] #[])))
 have HPB:=hide (show Keeps (λi=>i=w2.heap.size+1) WA _ from(((((((Keeps.refl (λi=>i=w2.heap.size+1) WA).setCell (p:=⟨w2.heap.size+1,0,none⟩) (Or.inl rfl) (.func (.func (qBn x.k)) #[] #[])).setCell (p:=⟨w2.heap.size+1,1,none⟩) (Or.inl rfl) (.func (.func (qA1 x.k)) #[] #[])).setCell (p:=⟨w2.heap.size+1,2,none⟩) (Or.inl rfl) (.func (.func (qA0 x.k)) #[] #[])).setCell (p:=⟨w2.heap.size+1,3,none⟩) (Or.inl rfl) (.func (.func (qAq x.k)) #[] #[])).setCell (p:=⟨w2.heap.size+1,4,none⟩) (Or.inl rfl) (.func (.func (qAz x.k)) #[] #[])).setCell (p:=⟨w2.heap.size+1,5,none⟩) (Or.inl rfl) (.func (.func (qA4 x.k)) #[] #[])))
 clear hWA hkA HC0 HN0 HKW
 obtain⟨WB,hWB⟩:∃WB,WB=((((((WA.setCell ⟨w2.heap.size+1,0,none⟩ (.func (.func (qBn x.k)) #[] #[])).setCell ⟨w2.heap.size+1,1,none⟩ (.func (.func (qA1 x.k)) #[] #[])).setCell ⟨w2.heap.size+1,2,none⟩ (.func (.func (qA0 x.k)) #[] #[])).setCell ⟨w2.heap.size+1,3,none⟩ (.func (.func (qAq x.k)) #[] #[])).setCell ⟨w2.heap.size+1,4,none⟩ (.func (.func (qAz x.k)) #[] #[])).setCell ⟨w2.heap.size+1,5,none⟩ (.func (.func (qA4 x.k)) #[] #[])):=⟨_,rfl⟩
 rw[<-hWB]at HTB HPB
 have HCB:=hide ((uh HCA).keeps (uh HPB) (show ¬(w2.heap.size=w2.heap.size+1) by omega))
 have HPC:=hide (show Keeps (λ_=>False) w2 WB from(uh HPA).trans (uh HPB) (λi hi hlt=>by have hi2:i=w2.heap.size+1:=hi;omega))
 have hWB':=hWB.symm
 clear hWB HPA HPB HCA HKA
 obtain⟨hva,hha⟩:=qBm (uh HCB) 20 rfl
 have t0:=(uh HTB).cell (i:=0) rfl
 have t1:=(uh HTB).cell (i:=1) rfl
 have t2:=(uh HTB).cell (i:=2) rfl
 have t3:=(uh HTB).cell (i:=3) rfl
 have t4:=(uh HTB).cell (i:=4) rfl
 have t5:=(uh HTB).cell (i:=5) rfl
 have HVK:=hide (show ck.kind=x.k by rw[<-uh HCK];have:=(uh HI).kind;rcases five h1 h5 with e | e | e | e | e <;> rw[e]at this ⊢ <;> exact this)
 go_wp2_with fail
 refine(qGz x.id ck x.k WB h1 h5 (by rw[<-uh HCK];exact(uh HI).valid) (uh HVK)).mono ?_
 rintro e w3 ⟨sb,rfl,hs3,hn3,hk3⟩
 have hkr:=hs2
 have HL3:=hide (show LSt w r sb (qBk x.id ck x.k) (qBe (qB1.map (qAs x.ref))++(enc x.rel++(enc 0++(nn++tl)))) w3 from
    ⟨hs3,(uh HR2).keeps ((uh HPC).then hk3) (λh=>h),(uh HK2).trans ((uh HPC).then hk3) (λ_ h _=>h.elim),λi hi=>by have h1:=hn3 i hi;have h2:=(uh HPC).size;omega,hrl⟩)
 have HC3:=hide ((uh HCB).keeps hk3 (λh=>h))
 have HSN:=hide (show sb.s≠w2.heap.size by have h1:=hn3 sb.s (.inl rfl);have h2:=(uh HCB).lt;omega)
 have HCR:=hide (show w2.heap.size≠r by omega)
 clear hs3 hn3 hk3 hst hWB' n0 n1 n2 n3 n4 n5 nf t0 t1 t2 t3 t4 t5 hva hha HR2 HPC HCB HTB HK2
 generalize hcb:w2.heap.size=cb at *
 clear hcb
 go_wp2_with fail
 refine(qK9 w3).mono ?_
 rintro e w4 ⟨rfl,hk4⟩
 have HL4:=hide ((uh HL3).still hk4)
 have HC4:=hide ((uh HC3).keeps hk4 (λh=>h))
 clear hk4 HL3 HC3
 go_wp2_with fail
 go_loopw [30] (λiv wr=>∃k:Nat,k<=7/\iv=.int .i64 k/\Hid (LSt w r sb { qBk x.id ck x.k with ref:=qDo x.ref k } (qBe ((qB1.map (qAs x.ref)).drop k)++(enc x.rel++(enc 0++(nn++tl)))) wr)/\Hid (Blk wr cb ck.cells 32)) (λiv _=>7-(intOf iv).toNat)
 case atStart=>exact⟨0,by omega,rfl,HL4,HC4⟩
 case round =>
  clear HL4 HC4
  obtain⟨k,hk,rfl,HLr,HCr⟩:=hrel
  by_cases hk7:k<7
  ·obtain⟨j,hj⟩:∃j,qB1[k]?=some j:=⟨_,List.getElem?_eq_getElem (show k<qB1.length from hk7)⟩
   have hix:=ixk k j hj
   have hj12:j<12:=by
    have hm:=List.mem_of_getElem? hj
    simp[qB1]at hm
    omega
   have hgd:qB1.getD k 0=j:=by rw[List.getD_eq_getElem?_getD,hj];rfl
   have HRN:=hide (show { qBk x.id ck x.k with ref:=qDo x.ref (k+1) }={ ({ qBk x.id ck x.k with ref:=qDo x.ref k }:Ser) with ref:=(qDo x.ref k).set j (qAs x.ref j) } by show _=_;simp only[qDo,hgd])
   have HDR:=hide (show qBe ((qB1.map (qAs x.ref)).drop k)++(enc x.rel++(enc 0++(nn++tl)))=enc (qAs x.ref j)++(qBe ((qB1.map (qAs x.ref)).drop (k+1))++(enc x.rel++(enc 0++(nn++tl)))) by
      have hlt:k<(qB1.map (qAs x.ref)).length:=by rw[List.length_map];exact hk7
      rw[List.drop_eq_getElem_cons hlt,qAy,List.append_assoc]
      congr 2
      rw[List.getElem_map]
      congr 1
      have:=List.getElem?_eq_getElem (show k<qB1.length from hk7)
      rw[hj]at this
      exact(Option.some.inj this).symm)
   obtain⟨v0,v1⟩:=(uh HI).ref j
   have HL5:=hide (show LSt w r sb { qBk x.id ck x.k with ref:=qDo x.ref k } (enc (qAs x.ref j)++(qBe ((qB1.map (qAs x.ref)).drop (k+1))++(enc x.rel++(enc 0++(nn++tl))))) wr by rw[<-uh HDR];exact uh HLr)
   clear HLr HDR hgd
   have hki:(k:Int)<7:=by omega
   have hj0:(0:Int)<=(j:Int):=by omega
   have hj1:(j:Int)<12:=by omega
   go_wp2_with fail
   go_region_with (first | (go_at_call 88;refine(((uh HL5).still ((Keeps.refl (λ_=>False) wr).drew)).number v0 (by omega) v0 v1).mono ?_;rintro e w6 ⟨rfl,hl6,hk6⟩;have hc6:=hl6.ser.blk.cell (qDe sb _ (qHk x.ref k) j hj12);have hf6:=hl6.ser.blk.frozen))
   have HL7:=hide (hl6.set (x2:={ qBk x.id ck x.k with ref:=(qDo x.ref k).set j (qAs x.ref j) }) (35+j) (.int .i64 (qAs x.ref j)) (qKb sb _ j _) rfl rfl rfl rfl)
   have HC6:=hide ((uh HCr).keeps (((Keeps.refl (λ_=>False) wr).drew.mono (M':=λi=>i=r) (λ_ _ h=>h.elim)).then hk6) (uh HCR))
   have HC7:=hide ((uh HC6).setCell_far (p:=⟨sb.s,35+j,none⟩) (uh HSN) (.int .i64 (qAs x.ref j)))
   clear hc6 hf6 hl6 hk6
   go_wp2
   go_roundw
   case rel=>exact⟨k+1,by omega,by go_num,by show LSt _ _ _ _ _ _;rw[uh HRN];exact uh HL7,HC7⟩
   case measure=>simp[intOf];omega
  ·have hk7e:k=7:=by omega
   subst hk7e
   have HL5:=hide (show LSt w r sb { qBk x.id ck x.k with ref:=qDo x.ref 7 } (enc x.rel++(enc 0++(nn++tl))) wr from uh HLr)
   clear HLr
   obtain⟨lg0,lg1⟩:=(uh HI).lag
   obtain⟨cp0,cp1⟩:=(uh HI).cap
   rw[uh HCK]at lg0 lg1 cp0 cp1
   have rl0:=(uh HI).rel0
   have rl2:=(uh HI).rel2
   have HMR:=hide (show x.rel<=qGg ck clock by rw[<-uh HCK];exact(uh HI).rel1)
   have cl0:=(uh HI).c0
   have cl1:=(uh HI).c1
   have HMO:=hide (qR1 sb { qBk x.id ck x.k with ref:=qDo x.ref 7 } clock wr (uh HL5).ser lg0 lg1 cp0 cp1 cl0 cl1)
   go_wp2_with fail
   refine(uh HMO).mono ?_
   rintro e w5 ⟨rfl,hw5⟩
   rw[hw5]
   clear hw5 w5 HMO
   go_wp2_with fail
   refine((uh HL5).number rl0 (by omega) rl0 (uh HMR)).mono ?_
   rintro e w6 ⟨rfl,hl6,hk6⟩
   have hc6:w6.cell? ⟨sb.s,34,none⟩=some (.int .i64 0):=hl6.ser.blk.cell rfl
   have hf6:=hl6.ser.blk.frozen
   have HL7:=hide (hl6.set (x2:={ qBk x.id ck x.k with ref:=qDo x.ref 7,rel:=x.rel }) 34 (.int .i64 x.rel) rfl rfl rfl rfl rfl)
   have HC7:=hide (((uh HCr).keeps hk6 (uh HCR)).setCell_far (p:=⟨sb.s,34,none⟩) (uh HSN) (.int .i64 x.rel))
   clear hl6 hk6 HL5 HCr
   go_wp2_with fail
   clear hc6 hf6
   generalize w6.setCell ⟨sb.s,34,none⟩ (.int .i64 x.rel)=w7 at *
   have hcp:w7.cell? ⟨cb,3,none⟩=some (.int .i64 ck.cap):=(uh HC7).cell rfl
   have hrc:w7.cell? ⟨sb.s,34,none⟩=some (.int .i64 x.rel):=(uh HL7).ser.blk.cell rfl
   have hlc:w7.cell? ⟨sb.s,2,none⟩=some (.int .i64 ck.lag):=(uh HL7).ser.blk.cell rfl
   have wsb:IntKind.i64.wrap (4611686018427387904-x.rel)=4611686018427387904-x.rel:=by rw[IntKind.wrap_i64];omega
   have hmn:¬(4611686018427387904-x.rel<ck.cap):=by omega
   have HSR:=hide (show sb.s≠r from(uh HL7).apart sb.s (.inl rfl))
   have HS:=hide (show ∀w',Keeps (λi=>i=r) w7 w'->w'.cell? ⟨cb,3,none⟩=some (.int .i64 ck.cap)/\w'.cell? ⟨sb.s,34,none⟩=some (.int .i64 x.rel) from λw' hk=>⟨hk.cell hcp (uh HCR),hk.cell hrc (uh HSR)⟩)
   go_region_held3 (λw'=>w'.cell? ⟨cb,3,none⟩=some (.int .i64 ck.cap)/\w'.cell? ⟨sb.s,34,none⟩=some (.int .i64 x.rel))
    (first | exact uh HS _ (uh HKs) | exact uh HS _ ((Keeps.refl (λi=>i=r) w7).drew) | exact uh HS _ (Keeps.refl (λi=>i=r) w7) | (simp[*];done))
    (first | (go_at_call 88;refine(((uh HL7).still ((Keeps.refl (λ_=>False) w7).drew)).number (n:=0) (by omega) (by omega) (by omega) (by omega)).mono ?_;rintro e w8 ⟨rfl,hl8,hk8⟩;have HKs:=hide (((Keeps.refl (λi=>i=r) w7).drew).then hk8)))
   have HL8:=hide hl8
   have HC8:=hide ((uh HC7).keeps (uh HKs) (uh HCR))
   clear hl8 hk8 hcp hrc hlc wsb hmn HL7 HC7 HKs HS
   have hrc:w8.cell? ⟨sb.s,34,none⟩=some (.int .i64 x.rel):=(uh HL8).ser.blk.cell rfl
   have hlc:w8.cell? ⟨sb.s,2,none⟩=some (.int .i64 ck.lag):=(uh HL8).ser.blk.cell rfl
   have HWM:=hide (show ∀w0,Keeps (λ_=>False) w8 w0->Calls Tryz.prog 54 #[.pointer (some ⟨sb.s,0,none⟩),.int .i64 clock] w0 λe w'=>e=.returned (.int .i64 (clock-ck.lag))/\w'=w0 from λw0 hk=>qI3 sb.s ck.lag clock w0 (hk.cell hlc (λh=>h)) lg0 lg1 cl0 cl1)
   have HS8:=hide (show ∀w',Keeps (λ_=>False) w8 w'->w'.cell? ⟨sb.s,34,none⟩=some (.int .i64 x.rel) from λw' hk=>hk.cell hrc (λh=>h))
   have hwr:IntKind.i64.wrap x.rel=x.rel:=by rw[IntKind.wrap_i64];omega
   go_wp2_with fail
   go_region_held3 (λw'=>w'.cell? ⟨sb.s,34,none⟩=some (.int .i64 x.rel))
    (first | exact uh HS8 _ ((Keeps.refl (λ_=>False) w8).drew) | exact uh HS8 _ (Keeps.refl (λ_=>False) w8) | exact uh HS8 _ (((Keeps.refl (λ_=>False) w8).drew).alloc _) | (simp[*];done))
    (first | (go_at_call 54;refine(uh HWM _ ((Keeps.refl (λ_=>False) w8).drew)).mono ?_;rintro e w9 ⟨rfl,rfl⟩))
   have hk9:Keeps (λ_=>False) w8 ((w8.alloc (.cells #[.int .i64 (clock-ck.lag),.int .i64 x.rel,.int .i64 x.rel,.slice none 0 0] 184)).drew):=((Keeps.refl _ _).alloc _).drew
   have HB9:=hide (show Blk ((w8.alloc (.cells #[.int .i64 (clock-ck.lag),.int .i64 x.rel,.int .i64 x.rel,.slice none 0 0] 184)).drew) w8.heap.size (qEl (clock-ck.lag) x.rel x.rel (.slice none 0 0)) 184 from Blk.new w8 [_,_,_,_] _)
   have HL9:=hide ((uh HL8).still hk9)
   have hz8:r<w8.heap.size/\(∀i,sb.foot x.k i->i<w8.heap.size)/\w.heap.size<=w8.heap.size:=⟨(uh HL8).rd.blk.lt,λi hi=>(uh HL8).ser.lt i hi,(uh HL8).kp.size⟩
   have HZ8:=hide hz8
   clear hk9 hrc hlc HWM HS8 HL8 HC8 hz8
   generalize(w8.alloc (.cells #[.int .i64 (clock-ck.lag),.int .i64 x.rel,.int .i64 x.rel,.slice none 0 0] 184)).drew=w9 at *
   generalize w8.heap.size=kn at *
   go_wp2_with fail
   go_loopw [75] (λiv wr=>iv=.int .i64 0/\wr=w9) (λ_ _=>0)
   case atStart=>exact⟨rfl,rfl⟩
   case round =>
    obtain⟨rfl,rfl⟩:=hrel
    have hka:wr.cell? ⟨kn,1,none⟩=some (.int .i64 x.rel):=(uh HB9).cell rfl
    have hca:wr.cell? ⟨sb.s,33,none⟩=some (.int .i64 0):=(uh HL9).ser.blk.cell rfl
    have hfa:=(uh HL9).ser.blk.frozen
    have HLA:=hide ((uh HL9).set (x2:={ qBk x.id ck x.k with ref:=qDo x.ref 7,rel:=x.rel,acc:=x.rel }) 33 (.int .i64 x.rel) rfl rfl rfl rfl rfl)
    have HBA:=hide ((uh HB9).setCell_far (p:=⟨sb.s,33,none⟩) (show sb.s≠kn by have:=(uh HZ8).2.1 sb.s (.inl rfl);omega) (.int .i64 x.rel))
    obtain⟨wa,hwa⟩:∃wa,wr.setCell ⟨sb.s,33,none⟩ (.int .i64 x.rel)=wa:=⟨_,rfl⟩
    rw[hwa]at HLA HBA
    have d31:wa.cell? ⟨sb.s,31,none⟩=some (.func (.func (zCz x.k)) (qHa sb.n.d) #[]):=(uh HLA).ser.blk.cell rfl
    have hown:=qX4 x.k h1 h5
    go_wp2_with fail
    clear hka hca hfa hwa d31 hown
    refine(uh HHL sb.n kn wa (uh HLA).ser.note (uh HLA).rd (uh HBA) (λh=>(uh HLA).apart r (.inr (.inr (.inr h))) rfl) (λh=>by have:=(uh HZ8).2.1 kn (.inr (.inr (.inr h)));omega) (by have:=(uh HZ8).1;omega)).mono ?_
    rintro e wb ⟨rfl,nb',hd',hN',hf',hr',hk'⟩
    have HKB:=hide hk'
    have HRB:=hide hr'
    have hsn:=(uh HLA).ser.sn
    have hz:=uh HZ8
    have HSB:=hide (show SRep wb { sb with n:=nb' } ⟨x.id,ck,x.k,x.rel,x.rel,qDo x.ref 7,[],nt',0⟩ from by
       have hS:=(uh HLA).ser
       have hne:∀i,sb.foot x.k i->¬qCz x.k sb.n i->¬(i=r\/i=kn\/qCz x.k sb.n i):=λi hi hn h=>by
        rcases h with h | h | h
        ·exact(uh HLA).apart i hi h
        ·have:=hz.2.1 i hi;omega
        ·exact hn h
       have hlt:∀i,sb.foot x.k i->i<wa.heap.size:=λi hi=>hS.lt i hi
       refine⟨?_,?_,hN',hS.sq,hS.sg,λi hi=>?_⟩
       ·have h1:=hS.blk.keeps hk' (hne sb.s (.inl rfl) (λh=>(hsn _ h).1 rfl))
        unfold qB9 at h1 ⊢
        simp only at h1 ⊢
        rw[hd']
        exact h1
       ·exact hS.que.keeps hk' (hne sb.q (.inr (.inl rfl)) (λh=>(hsn _ h).2.1 rfl)) (λg hg=>hne g (.inr (.inr (.inl hg))) (λh=>(hsn _ h).2.2 hg))
       ·rcases hf' i hi with h | h
        ·exact hsn i h
        ·refine⟨λe=>?_,λe=>?_,λe=>?_⟩
         ·have e2:i=sb.s:=e
          have:=hlt sb.s (.inl rfl);omega
         ·have e2:i=sb.q:=e
          have:=hlt sb.q (.inr (.inl rfl));omega
         ·have:=hlt i (.inr (.inr (.inl e)));omega)
    have HNW:=hide (show ∀i,({ sb with n:=nb' }:SB).foot x.k i->w.heap.size<=i from λi hi=>by
       rcases hi with h | h | h | h
       ·exact(uh HLA).new i (.inl h)
       ·exact(uh HLA).new i (.inr (.inl h))
       ·exact(uh HLA).new i (.inr (.inr (.inl h)))
       ·rcases hf' i h with h | h
        ·exact(uh HLA).new i (.inr (.inr (.inr h)))
        ·have:=(uh HLA).kp.size;omega)
    have HKF:=hide (show Keeps (λi=>i=r) w wb from(uh HLA).kp.trans hk' (λi hi hlt=>by
         rcases hi with h | h | h
         ·exact h
         ·have:=hz.2.2;omega
         ·have:=(uh HLA).new i (.inr (.inr (.inr h)));omega))
    clear hN' hf' hr' hk' hsn hz hd'
    go_wp2_with fail
    refine(qJg r tl wb (uh HRB)).mono ?_
    rintro e wc ⟨rfl,hwc⟩
    rw[hwc]
    clear hwc wc
    go_wp2
    go_ret
    exact⟨{ sb with n:=nb' },rfl,by rw[uh HCK];exact uh HSB,uh HRB,uh HNW,uh HKF⟩
end
section
open Go.RowKit
theorem zA7{w2 w3:World}{O:Obj}{e:Nat}{v nv:Value}{clock:Int}{ps:List (SB×Ser)}{b2:SB}{x:Ser}{gg m cap':Nat}(hE:ERep w2 e v clock ps)(hm:ps.length=m)(hnv:nv=.slice (some ⟨gg,0,none⟩) (m+1) cap')(hs2:SRep w2 b2 x)(hap:∀i,b2.foot x.k i->¬EFoot e v ps i)(hown:w3.ownsRow 0 74 1 nv (m+1) (ptrs ps++[.pointer (some ⟨b2.s,0,none⟩)]))(hgrow:(w2.alloc O).grownBy w3 v.ownBlock)(hat:v.ownBlock=some gg\/gg=w2.heap.size+1):
  ERep (w3.setCell ⟨e,1,none⟩ nv) e nv clock (ps++[(b2,x)])/\Keeps (EFoot e v ps) w2 (w3.setCell ⟨e,1,none⟩ nv)/\(∀i,EFoot e nv (ps++[(b2,x)]) i->EFoot e v ps i\/b2.foot x.k i\/w2.heap.size<=i):=by
 have hnb:nv.ownBlock=some gg:=by rw[hnv];rfl
 have hk3:Keeps (λi=>v.ownBlock=some i) w2 w3:=((Keeps.refl (λi=>v.ownBlock=some i) w2).alloc O).grown hgrow (λk hk=>Or.inl hk)
 have hk4:Keeps (λi=>i=e) w3 (w3.setCell ⟨e,1,none⟩ nv):=(Keeps.refl (λi=>i=e) w3).setCell (p:=⟨e,1,none⟩) (Or.inl rfl) _
 have hele:=hE.blk.lt
 have hge:gg≠e:=by
  rcases hat with h | h
  ·intro he;exact hE.ev (by rw[h,he])
  ·omega
 have hsnew:SRep w3 b2 x:=hs2.keeps hk3 (λi hi h=>hap i hi (.inr (.inl h)))
 refine⟨⟨?_,?_,?_,?_,?_,?_⟩,?_,?_⟩
 ·exact(hE.blk.keeps hk3 (λh=>hE.ev h)).setCell 1 nv
 ·have:=qBd hown hk4 (λi hi h=>by rw[hnb]at hi;injection hi with hi;omega)
  rw[qLj,List.length_append,hm]
  exact this
 ·intro p hp
  rcases List.mem_append.1 hp with hp | hp
  ·exact((hE.reps p hp).keeps hk3 (λi hi h=>(hE.ef p hp i hi).2 h)).keeps hk4 (λi hi h=>(hE.ef p hp i hi).1 h)
  ·rw[List.mem_singleton]at hp;subst hp
   exact hsnew.keeps hk4 (λi hi h=>hap i hi (.inl h))
 ·refine List.pairwise_append.2 ⟨hE.apart,List.pairwise_singleton _ _,?_⟩
  intro p hp q hq i hi hqi
  rw[List.mem_singleton]at hq;subst hq
  exact hap i hqi (.inr (.inr ⟨p,hp,hi⟩))
 ·rw[hnb];intro h;injection h with h;exact hge h
 ·intro p hp i hi
  rw[hnb]
  rcases List.mem_append.1 hp with hp | hp
  ·refine⟨(hE.ef p hp i hi).1,λh=>?_⟩
   injection h with h
   have h1:=(hE.reps p hp).lt i hi
   rcases hat with h2 | h2
   ·exact(hE.ef p hp i hi).2 (by rw[h2,h])
   ·omega
  ·rw[List.mem_singleton]at hp;subst hp
   have h2:=hs2.lt i hi
   refine⟨λh=>hap i hi (.inl h),λh=>?_⟩
   injection h with h
   rcases hat with h3 | h3
   ·exact hap i hi (.inr (.inl (by rw[h3,h])))
   ·omega
 ·exact(hk3.mono (M':=EFoot e v ps) (λi _ h=>.inr (.inl h))).trans hk4 (λi hi _=>.inl hi)
 ·intro i hi
  rcases hi with hi | hi | ⟨p,hp,hi⟩
  ·exact .inl (.inl hi)
  ·rw[hnb]at hi;injection hi with hi
   rcases hat with h | h
   ·exact .inl (.inr (.inl (by rw[h,hi])))
   ·exact .inr (.inr (by omega))
  ·rcases List.mem_append.1 hp with hp | hp
   ·exact .inl (.inr (.inr ⟨p,hp,hi⟩))
   ·rw[List.mem_singleton]at hp;subst hp
    exact .inr (.inl hi)
structure LdAll (xs:List Ser) (can:Ser->Ser) (clock:Int):Prop where
 six:xs.length<=6
 c0:0<=clock
 c1:clock<=4611686018427387904
 ids:(xs.map (·.id)).Nodup
 cid:∀x,x∈xs->(can x).id=x.id
 nums:∀x,x∈xs->qCx clock (can x)=qCx clock x
 ok:∀x,x∈xs->SerOk (can x)
 len:(qHc clock xs).length<=140737488355328
 sum:0<=qLb (qF2 clock xs)/\qLb (qF2 clock xs)<=9223372036854775807
 ld:∀x,x∈xs->∀(r:Nat) (tl:List Nat) (w:World),RdRep w r (qBe (qCx clock x)++tl)->Calls Tryz.prog 89 #[.pointer (some ⟨r,0,none⟩),.int .i64 clock] w λe w'=>∃sb:SB,e=.returned (.pointer (some ⟨sb.s,0,none⟩))/\SRep w' sb (can x)/\RdRep w' r tl/\(∀i,sb.foot (can x).k i->w.heap.size<=i)/\Keeps (λi=>i=r) w w'
theorem qVw{xs:List Ser}{can:Ser->Ser}{clock:Int}(h:∀x,x∈xs->qCx clock (can x)=qCx clock x): qD1 clock (xs.map can)=qD1 clock xs:=by
 have h1:qC5 clock (xs.map can)=qC5 clock xs:=by
  unfold qC5
  rw[List.flatMap_map]
  induction xs with
  | nil=>rfl
  | cons x l ih =>
   rw[List.flatMap_cons,List.flatMap_cons,h x (by simp),ih (λy hy=>h y (by simp[hy]))]
 unfold qD1 qHc qF2 qCs
 rw[h1,List.length_map]
attribute [local go_sem ↓ 2000] qKy
theorem qV9(xs:List Ser)(can:Ser->Ser)(clock:Int)(w:World)(h:LdAll xs can clock):
  Calls Tryz.prog 61 #[.string (qD1 clock xs)] w λres w'=>∃(e:Nat) (v:Value) (ps:List (SB×Ser)),res=.returned (.pointer (some ⟨e,0,none⟩))/\ERep w' e v clock ps/\ps.map (·.2)=xs.map can/\(∀i,EFoot e v ps i->w.heap.size<=i)/\Keeps (λ_=>False) w w':=by
 have HH:=hide h
 have c0:=h.c0
 have c1:=h.c1
 have six:=h.six
 obtain⟨sm,hsm⟩:∃sm,enc (qLb (qF2 clock xs))=sm:=⟨_,rfl⟩
 have hsv:qHc clock xs=qC0++(enc clock++(enc (xs.length:Int)++(qBe (qC5 clock xs)++sm))):=by
  unfold qHc
  rw[hsm]
  unfold qF2 qCs
  rw[qAy,qAy]
  simp only[List.append_assoc]
 have hlen:=h.len
 rw[hsv]at hlen
 have hB:qD1 clock xs=qFk (qC0++(enc clock++(enc (xs.length:Int)++(qBe (qC5 clock xs)++sm)))):=by unfold qD1;rw[hsv]
 have HB:=hide hB
 have HNR:=hide (qPx (enc clock++(enc (xs.length:Int)++(qBe (qC5 clock xs)++sm))) w (by rw[List.length_append]at hlen;omega))
 rw[<-hB]at HNR
 clear h hsm hsv hlen hB
 generalize hst:qD1 clock xs=st at *
 have HST:=hide hst
 clear hst
 generalize hn:xs.length=n at *
 have HN:=hide hn
 clear hn
 go_enter Tryz.func61,Tryz.ntmps61
 go_wp2_with fail
 refine(uh HNR).mono ?_
 rintro res w1 ⟨r,rfl,hrw,hr1,hk1⟩
 have HK1:=hide hk1
 have hr1l:=hr1.blk.lt
 have HR1:=hide hr1
 clear hr1 hk1 HNR
 go_wp2_with fail
 refine(qB3 r clock 0 4611686018427387904 _ w1 (uh HR1) c0 (by omega) c0 c1).mono ?_
 rintro res w2 ⟨rfl,hr2,hk2⟩
 have hs2:=hk2.size
 have HE3:=hide (show ERep (w2.alloc (.cells #[.int .i64 clock,.slice none 0 0] 60)) w2.heap.size (.slice none 0 0) clock [] from⟨Blk.new w2 [_,_] _,World.ownsRow_nil _ _ _ _,λp hp=>by simp at hp,List.Pairwise.nil,by simp[Value.ownBlock],λp hp=>by simp at hp⟩)
 have HR3:=hide (hr2.keeps ((Keeps.refl (λ_=>False) w2).alloc (.cells #[.int .i64 clock,.slice none 0 0] 60)) (λh=>h))
 have HK3:=hide (show Keeps (λ_=>False) w (w2.alloc (.cells #[.int .i64 clock,.slice none 0 0] 60)) from((uh HK1).trans hk2 (λi hi hlt=>by have h2:i=r:=hi;omega)).alloc _)
 have her:w2.heap.size≠r:=by omega
 have hwe:w.heap.size<=w2.heap.size:=by have:=(uh HK1).size;omega
 clear hr2 hk2 HR1 HK1
 go_wp2_with fail
 generalize w2.alloc (.cells #[.int .i64 clock,.slice none 0 0] 60)=w3 at *
 generalize w2.heap.size=e at *
 refine(qB3 r (n:Int) 0 6 _ w3 (uh HR3) (by omega) (by omega) (by omega) (by omega)).mono ?_
 rintro res w4 ⟨rfl,hr4,hk4⟩
 have HE4:=hide ((uh HE3).keepsM hk4 (λi hi=>by
      rcases hi with h | h | ⟨p,hp,_⟩
      ·intro h2;have h3:i=r:=h2;omega
      ·simp[Value.ownBlock]at h
      ·simp at hp))
 have HR4:=hide hr4
 have HK4:=hide (show Keeps (λ_=>False) w w4 from(uh HK3).trans hk4 (λi hi hlt=>by have h2:i=r:=hi;omega))
 clear hr4 hk4 HE3 HR3 HK3
 go_wp2_with fail
 go_loopw [14] (λiv wr=>∃(i:Nat) (v:Value) (ps:List (SB×Ser)),i<=n/\iv=.int .i64 i/\Hid (ERep wr e v clock ps)/\Hid (ps.map (·.2)=(xs.take i).map can)/\Hid (RdRep wr r (qBe (qC5 clock (xs.drop i))++sm))/\Hid (∀j,EFoot e v ps j->w.heap.size<=j/\j≠r)/\Hid (Keeps (λ_=>False) w wr)) (λiv _=>n-(intOf iv).toNat)
 case atStart=>exact⟨0,.slice none 0 0,[],by omega,rfl,HE4,rfl,HR4,(λj hj=>by
      rcases hj with h | h | ⟨p,hp,_⟩
      ·exact⟨by omega,by omega⟩
      ·simp[Value.ownBlock]at h
      ·simp at hp),HK4⟩
 case round =>
  clear HE4 HR4 HK4
  obtain⟨i,v,ps,hi,rfl,HE,HPS,HR,HF,HK⟩:=hrel
  have HPL:=hide (show ps.length=i by
     have:=congrArg List.length (uh HPS)
     rw[List.length_map,List.length_map,List.length_take,uh HN]at this
     omega)
  by_cases hin:i<n
  ·have hix:i<xs.length:=by rw[uh HN];exact hin
   obtain⟨x,hx⟩:∃x,xs[i]?=some x:=⟨_,List.getElem?_eq_getElem hix⟩
   have hxm:=List.mem_of_getElem? hx
   have HLD:=hide ((uh HH).ld x hxm r (qBe (qC5 clock (xs.drop (i+1)))++sm) wr (by
        have h1:qC5 clock (xs.drop i)=qCx clock x++qC5 clock (xs.drop (i+1)):=by
         rw[List.drop_eq_getElem_cons hix]
         rw[List.getElem?_eq_getElem hix]at hx
         injection hx with hx
         rw[hx];simp[qC5]
        have h2:=uh HR
        rw[h1,qAk,List.append_assoc]at h2
        exact h2))
   have HTK:=hide (show(xs.take (i+1)).map can=(xs.take i).map can++[can x] by
      rw[List.take_add_one,hx,List.map_append];rfl)
   have HFN:=hide (show qEh ps (can x).id=none by
      unfold qEh
      rw[List.find?_eq_none]
      intro p hp hpe
      have hid:p.2.id=(can x).id:=by simpa using hpe
      have hpm:p.2∈(xs.take i).map can:=by rw[<-uh HPS];exact List.mem_map_of_mem hp
      obtain⟨y,hy,hyp⟩:=List.mem_map.1 hpm
      rw[<-hyp,(uh HH).cid y (List.mem_of_mem_take hy),(uh HH).cid x hxm]at hid
      obtain⟨j,hj,hjy⟩:=List.mem_iff_getElem.1 hy
      rw[List.length_take]at hj
      rw[List.getElem_take]at hjy
      rw[List.getElem?_eq_getElem hix]at hx
      injection hx with hx
      have hnd:=List.pairwise_iff_getElem.1 (uh HH).ids j i (by rw[List.length_map];omega) (by rw[List.length_map];exact hix) (by omega)
      rw[List.getElem_map,List.getElem_map,hjy,hx]at hnd
      exact hnd hid)
   have hcl:wr.cell? ⟨e,0,none⟩=some (.int .i64 clock):=(uh HE).blk.cell rfl
   have hii:(i:Int)<(n:Int):=by omega
   go_wp2_with fail
   refine(uh HLD).mono ?_
   rintro res w5 ⟨sb,rfl,hs5,hr5,hn5,hk5⟩
   have HE5:=hide ((uh HE).keepsM hk5 (λj hj=>(uh HF j hj).2))
   have HS5:=hide hs5
   have HR5:=hide hr5
   have hid5:w5.cell? ⟨sb.s,0,none⟩=some (.int .i64 (can x).id):=hs5.blk.cell rfl
   have HAP:=hide (show ∀j,sb.foot (can x).k j->¬EFoot e v ps j from λj hj hE=>by
      have h1:=hn5 j hj
      have h2:=(uh HE).lt j hE
      omega)
   have HNW:=hide (show ∀j,sb.foot (can x).k j->w.heap.size<=j/\j≠r from λj hj=>by
      have h1:=hn5 j hj
      have h2:=(uh HK).size
      have h3:=(uh HR).blk.lt
      omega)
   have HK5:=hide (show Keeps (λ_=>False) w w5 from(uh HK).trans hk5 (λj hj hlt=>by have h2:j=r:=hj;omega))
   have HFA:=hide (qD4 e v clock (can x).id ps w5 (uh HE5) (by rw[uh HPL];omega))
   rw[uh HFN]at HFA
   clear hs5 hr5 hn5 hk5 hcl HLD HE HR HK hx
   go_wp2_with fail
   refine(uh HFA).mono ?_
   rintro res w6 ⟨rfl,hw6⟩
   rw[hw6]
   clear hw6 w6 HFA
   obtain⟨va,vcap,hv,hva⟩:=qCi (uh HE5).row
   rw[uh HPL]at hv
   subst hv
   have hv5:w5.cell? ⟨e,1,none⟩=some (.slice va i vcap):=(uh HE5).blk.cell rfl
   have hfe:=(uh HE5).blk.frozen
   obtain⟨gg,cap',w7,hrun7,hown7,hgrow,hat,hlt7⟩:=qKl w5 va i vcap (ptrs ps) (.pointer (some ⟨sb.s,0,none⟩)) rfl (by have:=(uh HE5).row;rw[uh HPL]at this;exact this) (by omega)
   have hel:=(uh HE5).blk.lt
   have hc7:w7.cell? ⟨e,1,none⟩=some (.slice va i vcap):=by
    rw[hgrow.cell_far ⟨e,1,none⟩ (by simp;omega) (λh=>(uh HE5).ev h.symm),World.cell?_alloc_lt _ _ _ hel];exact hv5
   have hf7:∀j,w7.frozen? ⟨e,j,none⟩=false:=λj=>by
    rw[hgrow.frozen_far ⟨e,j,none⟩ (by simp;omega) (λh=>(uh HE5).ev h.symm),World.frozen?_alloc_old _ _ _ (by show e≠_;omega)];exact hfe j
   have HPU:=hide (zA7 (nv:=.slice (some ⟨gg,0,none⟩) (i+1) cap') (uh HE5) (uh HPL) rfl (uh HS5) (uh HAP) hown7 hgrow hat)
   have hs57:=hgrow.size
   clear hown7 hgrow hat
   unfold qKe
   go_wp2
   go_roundw
   case rel =>
    obtain⟨p1,p2,p3⟩:=uh HPU
    refine⟨i+1,_,ps++[(sb,can x)],by omega,by go_num,hide p1,hide (by rw[List.map_append,uh HPS,uh HTK];rfl),hide ((uh HR5).keeps p2 (λh=>(uh HF r h).2 rfl)),hide (λj hj=>?_),hide ((uh HK5).trans p2 (λj hj hlt=>by have:=(uh HF j hj).1;omega))⟩
    rcases p3 j hj with h | h | h
    ·exact uh HF j h
    ·exact uh HNW j h
    ·have h1:=(uh HK5).size
     have h2:=(uh HR5).blk.lt
     omega
   case measure=>simp[intOf];omega
  ·have hie:i=n:=by omega
   subst hie
   have hff:decide ((i:Int)<(i:Int))=false:=by simp
   have HPX:=hide (show ps.map (·.2)=xs.map can by
      have:=uh HPS
      rw[List.take_of_length_le (by rw[uh HN];exact Nat.le_refl _)]at this
      exact this)
   have HSV:=hide (show Calls Tryz.prog 36 #[.pointer (some ⟨e,0,none⟩)] wr λr w'=>r=.returned (.string st)/\Keeps (λ_=>False) wr w' by
      have:=qQ6 e v clock ps wr (uh HE) (λy hy=>by
         rw[uh HPX]at hy
         obtain⟨x,hx,rfl⟩:=List.mem_map.1 hy
         exact(uh HH).ok x hx) (by rw[uh HPL];omega) c0 c1
      rw[uh HPX,qVw (uh HH).nums,uh HST]at this
      exact this)
   go_wp2_with fail
   refine(qJg r _ wr (uh HR)).mono ?_
   rintro res w5 ⟨rfl,hw5⟩
   rw[hw5]
   clear hw5 w5
   go_wp2_with fail
   refine(uh HSV).mono ?_
   rintro res w5 ⟨rfl,hk5⟩
   have HE5:=hide ((uh HE).still hk5)
   have HK5:=hide ((uh HK).then hk5)
   clear hk5 HSV
   go_wp2
   go_ret
   exact⟨e,v,ps,rfl,uh HE5,uh HPX,λj hj=>(uh HF j hj).1,uh HK5⟩
end
section
open Go.RowKit
attribute [local go_sem ↓] qAd qAe
attribute [local go_sem] qAg qAm qAb qAc qAn qAo qAi qAh
theorem zCv(e:Nat)(v:Value)(clock:Int)(ps:List (SB×Ser))(o:OpM)(w:World)(h:ERep w e v clock ps)(hkind:o.kind=7)(clock':Int)(xs':List Ser)(code:Int)(nums:List Int)(hc:∀w0,ERep w0 e v clock ps->Calls Tryz.prog 37 #[.pointer (some ⟨e,0,none⟩),o.val] w0 λr w'=>StepPost w0 e v ps clock' xs' code nums r w'):
  Calls Tryz.prog 23 #[.pointer (some ⟨e,0,none⟩),o.val] w λr w'=>StepPost w e v ps clock' xs' code nums r w':=by
 have h0:o.cells[0]?=some (.int .i64 o.kind):=rfl
 have hv0:qAv (w.alloc (.cells o.cells.toArray 34)) w.heap.size 0 26=.agg o.cells.toArray:=qAf w o.cells 34 26 rfl
 have hh0:qA3 (w.alloc (.cells o.cells.toArray 34)) w.heap.size 0 26=true:=qC8 w o.cells 34 26 rfl
 have hn1:(o.kind==1)=false:=by simp[hkind]
 have hn2:(o.kind==2)=false:=by simp[hkind]
 have hn3:(o.kind==3)=false:=by simp[hkind]
 have hn4:(o.kind==4)=false:=by simp[hkind]
 have hn5:(o.kind==5)=false:=by simp[hkind]
 have hn6:(o.kind==6)=false:=by simp[hkind]
 have hn7:(o.kind==7)=true:=by simp[hkind]
 have HE:=hide h
 have HC:=hide hc
 clear h hc hkind
 unfold OpM.val
 go_enter Tryz.func23,Tryz.ntmps23
 go_wp2_with fail
 have hk0:Keeps (λ_=>False) w ((w.alloc (.cells o.cells.toArray 34)).alloc (.cells #[.int .i64 0,.slice none 0 0,.string ⟨#[]⟩] 38)):=((Keeps.refl (λ_=>False) w).alloc _).alloc _
 have HO0:=hide (show Blk ((w.alloc (.cells o.cells.toArray 34)).alloc (.cells #[.int .i64 0,.slice none 0 0,.string ⟨#[]⟩] 38)) w.heap.size o.cells 34 from(Blk.new w o.cells 34).alloc _)
 have HR0:=hide (show Blk ((w.alloc (.cells o.cells.toArray 34)).alloc (.cells #[.int .i64 0,.slice none 0 0,.string ⟨#[]⟩] 38)) (w.heap.size+1) [.int .i64 0,.slice none 0 0,.string qAa] 38 from Blk.newAt (by simp) [_,_,_] 38)
 have HE0:=hide ((uh HE).still hk0)
 have HK0:=hide hk0
 clear hk0
 generalize(w.alloc (.cells o.cells.toArray 34)).alloc (.cells #[.int .i64 0,.slice none 0 0,.string ⟨#[]⟩] 38)=w0 at *
 have HLT:=hide (show ∀i,EFoot e v ps i->i<w.heap.size from(uh HE).lt)
 generalize hob:w.heap.size=ob at *
 have HOB:=hide hob
 clear hob
 have hsz0:ob+1<w0.heap.size:=(uh HR0).lt
 refine(uh HC w0 (uh HE0)).mono ?_
 rintro r w1 ⟨nv,v',ps',rfl,hE1,hx1,hn1,hk1,hf1,hd1⟩
 obtain⟨na,ncap,hnv⟩:=qFw hn1
 subst hnv
 unfold qC1
 have HR1:=hide ((uh HR0).keeps hk1 (λh=>by have:=uh HLT _ h;omega))
 have HW:=hide (show ∀w9,Keeps (λi=>i=ob+1) w1 w9->StepPost w e v ps clock' xs' code nums (.returned (qC1 code (.slice na nums.length ncap))) w9 from λw9 hkf=>qF3 (uh HK0) (uh HOB) (uh HLT) hsz0 hE1 hx1 hn1 hk1 hf1 hd1 hkf)
 clear hE1 hx1 hn1 hk1 hf1 hd1
 have r0:w1.cell? ⟨ob+1,0,none⟩=some (.int .i64 0):=(uh HR1).cell rfl
 have r1:w1.cell? ⟨ob+1,1,none⟩=some (.slice none 0 0):=(uh HR1).cell rfl
 have r2:w1.cell? ⟨ob+1,2,none⟩=some (.string qAa):=(uh HR1).cell rfl
 have rf:=(uh HR1).frozen
 go_wp2
 have hbf:=(((uh HR1).setCell 0 (.int .i64 code)).setCell 1 (.slice na nums.length ncap)).setCell 2 (.string qAa)
 have HKF:=hide ((((Keeps.refl (λi=>i=ob+1) w1).setCell (p:=⟨ob+1,0,none⟩) (Or.inl rfl) (.int .i64 code)).setCell (p:=⟨ob+1,1,none⟩) (Or.inl rfl) (.slice na nums.length ncap)).setCell (p:=⟨ob+1,2,none⟩) (Or.inl rfl) (.string qAa))
 have e9:(((w1.setCell ⟨ob+1,0,none⟩ (.int .i64 code)).setCell ⟨ob+1,1,none⟩ (.slice na nums.length ncap)).setCell ⟨ob+1,2,none⟩ (.string ⟨#[]⟩))=(((w1.setCell ⟨ob+1,0,none⟩ (.int .i64 code)).setCell ⟨ob+1,1,none⟩ (.slice na nums.length ncap)).setCell ⟨ob+1,2,none⟩ (.string qAa)):=rfl
 first | rw[e9] | skip
 generalize(((w1.setCell ⟨ob+1,0,none⟩ (.int .i64 code)).setCell ⟨ob+1,1,none⟩ (.slice na nums.length ncap)).setCell ⟨ob+1,2,none⟩ (.string qAa))=w9 at *
 have q0:w9.cell? ⟨ob+1,0,none⟩=some (.int .i64 code):=hbf.cell rfl
 have q1:w9.cell? ⟨ob+1,1,none⟩=some (.slice na nums.length ncap):=hbf.cell rfl
 have q2:w9.cell? ⟨ob+1,2,none⟩=some (.string qAa):=hbf.cell rfl
 refine bodyPost_ret (v:=qC1 code (.slice na nums.length ncap)) (by simp[results,Tryz.results23,go_sem,q0,q1,q2,qC1]) rfl ?_
 have hkf:=uh HKF
 exact uh HW w9 hkf
theorem zAt(e:Nat)(v:Value)(clock clock':Int)(ps:List (SB×Ser))(o:OpM)(xs:List Ser)(can:Ser->Ser)(w:World)(h:ERep w e v clock ps)(hb:o.bytes=qD1 clock' xs)(hA:LdAll xs can clock'):
  Calls Tryz.prog 37 #[.pointer (some ⟨e,0,none⟩),o.val] w λr w'=>StepPost w e v ps clock' (xs.map can) 0 [] r w':=by
 have HE:=hide h
 have HA:=hide hA
 have hele:=h.blk.lt
 have hk0:Keeps (λ_=>False) w ((w.alloc (.cells o.cells.toArray 34)).alloc (.cells #[.int .i64 0,.slice none 0 0,.string ⟨#[]⟩] 38)):=((Keeps.refl (λ_=>False) w).alloc _).alloc _
 have HO0:=hide (show Blk ((w.alloc (.cells o.cells.toArray 34)).alloc (.cells #[.int .i64 0,.slice none 0 0,.string ⟨#[]⟩] 38)) w.heap.size o.cells 34 from(Blk.new w o.cells 34).alloc _)
 have HR0:=hide (show Blk ((w.alloc (.cells o.cells.toArray 34)).alloc (.cells #[.int .i64 0,.slice none 0 0,.string ⟨#[]⟩] 38)) (w.heap.size+1) [.int .i64 0,.slice none 0 0,.string qAa] 38 from Blk.newAt (by simp) [_,_,_] 38)
 have h25:((w.alloc (.cells o.cells.toArray 34)).alloc (.cells #[.int .i64 0,.slice none 0 0,.string ⟨#[]⟩] 38)).cell? ⟨w.heap.size,25,none⟩=some (.string (qD1 clock' xs)):=by rw[<-hb];exact(uh HO0).cell rfl
 have HK0:=hide hk0
 clear h hA hb hk0
 unfold OpM.val
 go_enter Tryz.func37,Tryz.ntmps37
 go_wp2_with fail
 generalize(w.alloc (.cells o.cells.toArray 34)).alloc (.cells #[.int .i64 0,.slice none 0 0,.string ⟨#[]⟩] 38)=w0 at *
 refine(qV9 xs can clock' w0 (uh HA)).mono ?_
 rintro r w1 ⟨e2,v2,p2,rfl,hE2,hx2,hf2,hk1⟩
 obtain⟨va,vcap,hv2,_⟩:=qCi hE2.row
 obtain⟨m2,hm2⟩:∃m2,p2.length=m2:=⟨_,rfl⟩
 rw[hm2]at hv2
 clear hm2
 subst hv2
 obtain⟨v2,hv2⟩:∃v2,v2=Value.slice va m2 vcap:=⟨_,rfl⟩
 have hz0:=(uh HK0).size
 have hzr:=(uh HR0).lt
 have HR1:=hide ((uh HR0).keeps hk1 (λh=>h))
 have HK1:=hide ((uh HK0).then hk1)
 have HE1:=hide ((uh HE).still (uh HK1))
 have HE2:=hide hE2
 have HX2:=hide hx2
 have HF2:=hide hf2
 have a0:w1.cell? ⟨e2,0,none⟩=some (.int .i64 clock'):=hE2.blk.cell rfl
 have a1:w1.cell? ⟨e2,1,none⟩=some (.slice va m2 vcap):=hE2.blk.cell rfl
 have b0:w1.cell? ⟨e,0,none⟩=some (.int .i64 clock):=(uh HE1).blk.cell rfl
 have b1:w1.cell? ⟨e,1,none⟩=some v:=(uh HE1).blk.cell rfl
 have bf:=(uh HE1).blk.frozen
 have HBE:=hide (((uh HE1).blk.setCell 0 (.int .i64 clock')).setCell 1 (.slice va m2 vcap))
 have HKE:=hide (show Keeps (λi=>i=e) w1 _ from((Keeps.refl (λi=>i=e) w1).setCell (p:=⟨e,0,none⟩) (Or.inl rfl) (.int .i64 clock')).setCell (p:=⟨e,1,none⟩) (Or.inl rfl) (.slice va m2 vcap))
 have HR2:=hide (((uh HR1).setCell_far (p:=⟨e,0,none⟩) (show e≠w.heap.size+1 by omega) (.int .i64 clock')).setCell_far (p:=⟨e,1,none⟩) (show e≠w.heap.size+1 by omega) (.slice va m2 vcap))
 have r0:=(uh HR2).cell (i:=0) rfl
 have r1:=(uh HR2).cell (i:=1) rfl
 have r2:=(uh HR2).cell (i:=2) rfl
 have rf:=(uh HR2).frozen
 clear hE2 hx2 hf2 hk1 h25
 have HF1:=hide ((((uh HR2).setCell 0 (.int .i64 0)).setCell 1 (.slice none 0 0)).setCell 2 (.string qAa))
 have HKF:=hide (show Keeps (λi=>i=w.heap.size+1) ((w1.setCell ⟨e,0,none⟩ (.int .i64 clock')).setCell ⟨e,1,none⟩ (.slice va m2 vcap)) _ from(((Keeps.refl (λi=>i=w.heap.size+1) ((w1.setCell ⟨e,0,none⟩ (.int .i64 clock')).setCell ⟨e,1,none⟩ (.slice va m2 vcap))).setCell (p:=⟨w.heap.size+1,0,none⟩) (Or.inl rfl) (.int .i64 0)).setCell (p:=⟨w.heap.size+1,1,none⟩) (Or.inl rfl) (.slice none 0 0)).setCell (p:=⟨w.heap.size+1,2,none⟩) (Or.inl rfl) (.string qAa))
 clear hv2 v2
 go_wp2
 have e9:((((w1.setCell ⟨e,0,none⟩ (.int .i64 clock')).setCell ⟨e,1,none⟩ (.slice va m2 vcap)).setCell ⟨w.heap.size+1,0,none⟩ (.int .i64 0)).setCell ⟨w.heap.size+1,1,none⟩ (.slice none 0 0)).setCell ⟨w.heap.size+1,2,none⟩ (.string ⟨#[]⟩)=((((w1.setCell ⟨e,0,none⟩ (.int .i64 clock')).setCell ⟨e,1,none⟩ (.slice va m2 vcap)).setCell ⟨w.heap.size+1,0,none⟩ (.int .i64 0)).setCell ⟨w.heap.size+1,1,none⟩ (.slice none 0 0)).setCell ⟨w.heap.size+1,2,none⟩ (.string qAa):=rfl
 first | rw[e9] | skip
 clear e9
 have HKT:=hide (((uh HKE).mono (M':=λi=>i=e\/i=w.heap.size+1) (λ_ _ h=>.inl h)).trans (uh HKF) (λi hi _=>.inr hi))
 have hBK:=(uh HBE).keeps (uh HKF) (show ¬(e=w.heap.size+1) by omega)
 have HBK:=hide hBK
 clear hBK HBE HKE HKF HR2 r0 r1 r2 rf
 generalize((((w1.setCell ⟨e,0,none⟩ (.int .i64 clock')).setCell ⟨e,1,none⟩ (.slice va m2 vcap)).setCell ⟨w.heap.size+1,0,none⟩ (.int .i64 0)).setCell ⟨w.heap.size+1,1,none⟩ (.slice none 0 0)).setCell ⟨w.heap.size+1,2,none⟩ (.string qAa)=w9 at *
 have q0:w9.cell? ⟨w.heap.size+1,0,none⟩=some (.int .i64 0):=(uh HF1).cell rfl
 have q1:w9.cell? ⟨w.heap.size+1,1,none⟩=some (.slice none 0 0):=(uh HF1).cell rfl
 have q2:w9.cell? ⟨w.heap.size+1,2,none⟩=some (.string qAa):=(uh HF1).cell rfl
 refine bodyPost_ret (v:=qC1 0 (.slice none 0 0)) (by simp[results,Tryz.results37,go_sem,q0,q1,q2,qC1]) rfl ?_
 have hE:=uh HE2
 have hF:∀i,EFoot e2 (.slice va m2 vcap) p2 i->¬(i=e\/i=w.heap.size+1):=λi hi h=>by
  have h1:=uh HF2 i hi
  rcases h with h | h <;> omega
 have hne:∀i,EFoot e2 (.slice va m2 vcap) p2 i->i≠e:=λi hi h=>hF i hi (.inl h)
 refine⟨.slice none 0 0,.slice va m2 vcap,p2,rfl,⟨uh HBK,qNq hE.row (uh HKT) (λi hi=>hF i (.inr (.inl hi))),λp hp=>(hE.reps p hp).keeps (uh HKT) (λi hi=>hF i (.inr (.inr ⟨p,hp,hi⟩))),hE.apart,λh=>hne e (.inr (.inl h)) rfl,λp hp i hi=>⟨hne i (.inr (.inr ⟨p,hp,hi⟩)),(hE.ef p hp i hi).2⟩⟩,uh HX2,World.ownsRow_nil _ _ _ _,?_,?_,λi hi=>by cases hi⟩
 ·exact(uh HK1).mono (M':=EFoot e v ps) (λ_ _ h=>h.elim) |>.trans (uh HKT) (λi hi hlt=>by
     rcases hi with h | h
     ·exact .inl h
     ·omega)
 ·intro i hi
  rcases hi with h | h | ⟨p,hp,h⟩
  ·exact .inl (.inl h)
  ·have:=uh HF2 i (.inr (.inl h));exact .inr (by omega)
  ·have:=uh HF2 i (.inr (.inr ⟨p,hp,h⟩));exact .inr (by omega)
end
end Go.Proofs.YtahnliehdjncdabGreatDoor
