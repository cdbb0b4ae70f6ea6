import Derived.Test.YtahnliehdjncdabGreatDoorXBN
set_option maxRecDepth 100000
set_option maxHeartbeats 16000000
namespace Go.Proofs.YtahnliehdjncdabGreatDoor
section
open Go.RowKit
attribute [local go_sem ↓] qAd qC9
attribute [local go_sem] qAg qAb qAc qAn qAo qAi qAh qAf qAl
structure LdIt (x:Ser) (its:List It) (clock:Int):Prop where
 len:its.length=x.l.length
 cap:(its.length:Int)<=(qCd x.k x.c).cap
 num:∀y,y∈its->1<=y.n/\y.n<=x.rel+(its.length:Int)
 nod:(its.map (·.n)).Nodup
 bd:∀n,n∈qGr x.k its->0<=n/\n<=9223372036854775807
 ref:∀(i:Nat) (y:It),its[i]?=some y->refE (zFq x (qCd x.k x.c) (its.take i)) clock (itK x.k y)=0
theorem qUc(r:Nat)(x:Ser)(clock:Int)(its:List It)(nt':Note)(nn:List Nat)(tl:List Nat)(w:World)(h:RdRep w r (qBe (qE7 x)++(qBe (qGr x.k its)++(nn++tl))))(hi:LdOk x clock)(hx:LdIt x its clock)(HL:∀(nb:NB) (kn:Nat) (nv:Value) (w1:World),NRep w1 x.k nb (qCd x.k x.c) qFy->RdRep w1 r (nn++tl)->KnRep w1 kn (clock-(qCd x.k x.c).lag) (x.rel+(its.length:Int)) x.rel nv (its.map (·.n))->¬qCz x.k nb r->¬qCz x.k nb kn->(∀i,nv.ownBlock=some i->¬qCz x.k nb i)->r<kn ->
     Calls Tryz.prog (zCz x.k) (qHa nb.d++#[.pointer (some ⟨r,0,none⟩),.pointer (some ⟨kn,0,none⟩)]) w1 λe w2=>e=.returned (.tuple #[])/\∃nb':NB,nb'.d=nb.d/\NRep w2 x.k nb' (qCd x.k x.c) nt'/\(∀i,qCz x.k nb' i->qCz x.k nb i\/w1.heap.size<=i)/\RdRep w2 r tl/\Keeps (λi=>i=r\/i=kn\/nv.ownBlock=some i\/qCz x.k nb i) w1 w2):
  Calls Tryz.prog 89 #[.pointer (some ⟨r,0,none⟩),.int .i64 clock] w λe w'=>∃sb:SB,e=.returned (.pointer (some ⟨sb.s,0,none⟩))/\SRep w' sb ⟨x.id,qCd x.k x.c,x.k,x.rel+(its.length:Int),x.rel,qDo x.ref 7,qKt x.k its,nt',0⟩/\RdRep w' r tl/\(∀i,sb.foot x.k i->w.heap.size<=i)/\Keeps (λi=>i=r) w w':=by
 have HI:=hide hi
 have HHL:=hide HL
 obtain⟨i0,i1⟩:=hi.id0
 have h1:=hi.k1
 have h5:=hi.k5
 have hrl:=h.blk.lt
 obtain⟨L,hL⟩:∃L,its.length=L:=⟨_,rfl⟩
 obtain⟨NN,hNN⟩:∃NN,qBe (qGr x.k its)++(nn++tl)=NN:=⟨_,rfl⟩
 have hh:qBe (qE7 x)++(qBe (qGr x.k its)++(nn++tl))=enc x.id++(qBe (qBo x.k x.c)++(qBe (qB1.map (qAs x.ref))++(enc x.rel++(enc (L:Int)++NN)))):=by
  unfold qE7
  rw[hNN,<-hL,hx.len]
  simp only[qAy,qAk,List.append_assoc,qB8,List.nil_append]
 have HX:=hide hx
 have HLL:=hide hL
 have HNN:=hide hNN
 rw[hh]at h
 have HR:=hide h
 clear h hi HL hh hx hL hNN
 obtain⟨ck,hck⟩:∃ck,qCd x.k x.c=ck:=⟨_,rfl⟩
 go_enter Tryz.func89,Tryz.ntmps89
 go_wp2_with fail
 refine(qB3 r x.id 0 99 _ w (uh HR) i0 (by omega) i0 i1).mono ?_
 rintro e w1 ⟨rfl,hr1,hk1⟩
 have HR1:=hide hr1
 have HK1:=hide hk1
 clear hr1 hk1 HR
 go_wp2_with fail
 refine(qIk r x.c x.k _ w1 (uh HR1) (uh HI).kind h1 h5 (uh HI).p0 (uh HI).p3 (uh HI).cfg (uh HI).valid).mono ?_
 rintro e w2 ⟨rfl,hr2,hk2⟩
 have HR2:=hide hr2
 have HK2:=hide ((uh HK1).then hk2)
 have hs2:=(uh HK2).size
 clear hr2 hk2 HK1 HR1
 rw[hck]at HHL ⊢
 have HCK:=hide hck
 have hval:ck.val=.agg ck.cells.toArray:=rfl
 rw[hval]
 unfold qBa fn
 clear hck hval
 have HC0:=hide (show Blk ((w2.alloc (.cells #[.int .i64 0,.int .i64 0,.int .i64 0,.int .i64 0,.int .i64 0,.int .i64 0,.int .i64 0,.int .i64 0,.int .i64 0,.int .i64 0,.int .i64 0,.int .i64 0,.int .i64 0,.int .i64 0,.int .i64 0,.int .i64 0,.int .i64 0,.int .i64 0,.int .i64 0,.int .i64 0] 32)).alloc (.cells #[.nilFunc,.nilFunc,.nilFunc,.nilFunc,.nilFunc,.nilFunc] 83)) w2.heap.size qU1.cells 32 from(Blk.new w2 _ _).alloc _)
 have HN0:=hide (show Blk ((w2.alloc (.cells #[.int .i64 0,.int .i64 0,.int .i64 0,.int .i64 0,.int .i64 0,.int .i64 0,.int .i64 0,.int .i64 0,.int .i64 0,.int .i64 0,.int .i64 0,.int .i64 0,.int .i64 0,.int .i64 0,.int .i64 0,.int .i64 0,.int .i64 0,.int .i64 0,.int .i64 0,.int .i64 0] 32)).alloc (.cells #[.nilFunc,.nilFunc,.nilFunc,.nilFunc,.nilFunc,.nilFunc] 83)) (w2.heap.size+1) [.nilFunc,.nilFunc,.nilFunc,.nilFunc,.nilFunc,.nilFunc] 83 from Blk.newAt (by simp) _ _)
 have HKW:=hide (show Keeps (λ_=>False) w2 ((w2.alloc (.cells #[.int .i64 0,.int .i64 0,.int .i64 0,.int .i64 0,.int .i64 0,.int .i64 0,.int .i64 0,.int .i64 0,.int .i64 0,.int .i64 0,.int .i64 0,.int .i64 0,.int .i64 0,.int .i64 0,.int .i64 0,.int .i64 0,.int .i64 0,.int .i64 0,.int .i64 0,.int .i64 0] 32)).alloc (.cells #[.nilFunc,.nilFunc,.nilFunc,.nilFunc,.nilFunc,.nilFunc] 83)) from((Keeps.refl _ _).alloc _).alloc _)
 obtain⟨WA,hWA⟩:∃WA,WA=((w2.alloc (.cells #[.int .i64 0,.int .i64 0,.int .i64 0,.int .i64 0,.int .i64 0,.int .i64 0,.int .i64 0,.int .i64 0,.int .i64 0,.int .i64 0,.int .i64 0,.int .i64 0,.int .i64 0,.int .i64 0,.int .i64 0,.int .i64 0,.int .i64 0,.int .i64 0,.int .i64 0,.int .i64 0] 32)).alloc (.cells #[.nilFunc,.nilFunc,.nilFunc,.nilFunc,.nilFunc,.nilFunc] 83)).setCells w2.heap.size 0 ck.cells:=⟨_,rfl⟩
 have hst:(qDc 32 (.pointer (some ⟨w2.heap.size,0,none⟩)) (.agg ck.cells.toArray)).run Tryz.prog ((w2.alloc (.cells #[.int .i64 0,.int .i64 0,.int .i64 0,.int .i64 0,.int .i64 0,.int .i64 0,.int .i64 0,.int .i64 0,.int .i64 0,.int .i64 0,.int .i64 0,.int .i64 0,.int .i64 0,.int .i64 0,.int .i64 0,.int .i64 0,.int .i64 0,.int .i64 0,.int .i64 0,.int .i64 0] 32)).alloc (.cells #[.nilFunc,.nilFunc,.nilFunc,.nilFunc,.nilFunc,.nilFunc] 83))=.ok .skip WA:=by
  rw[hWA];exact qHg ck (uh HC0) rfl
 have HCA:=hide (show Blk WA w2.heap.size ck.cells 32 by
    have:=Blk.setCells ck.cells 0 _ _ (uh HC0) (by show 0+20<=20;omega)
    rw[qQc _ _ (by rfl),<-hWA]at this
    exact this)
 have hkA:Keeps (λi=>i=w2.heap.size) ((w2.alloc (.cells #[.int .i64 0,.int .i64 0,.int .i64 0,.int .i64 0,.int .i64 0,.int .i64 0,.int .i64 0,.int .i64 0,.int .i64 0,.int .i64 0,.int .i64 0,.int .i64 0,.int .i64 0,.int .i64 0,.int .i64 0,.int .i64 0,.int .i64 0,.int .i64 0,.int .i64 0,.int .i64 0] 32)).alloc (.cells #[.nilFunc,.nilFunc,.nilFunc,.nilFunc,.nilFunc,.nilFunc] 83)) WA:=by
  rw[hWA];exact Keeps.setCells (M:=λi=>i=w2.heap.size) (b:=w2.heap.size) (Or.inl rfl) _ _ _ (Keeps.refl _ _)
 have HKA:=hide ((uh HN0).keeps hkA (show ¬(w2.heap.size+1=w2.heap.size) by omega))
 have HPA:=hide (show Keeps (λ_=>False) w2 WA from(uh HKW).trans hkA (λi hi hlt=>by have hi2:i=w2.heap.size:=hi;omega))
 have n0:=(uh HKA).cell (i:=0) rfl
 have n1:=(uh HKA).cell (i:=1) rfl
 have n2:=(uh HKA).cell (i:=2) rfl
 have n3:=(uh HKA).cell (i:=3) rfl
 have n4:=(uh HKA).cell (i:=4) rfl
 have n5:=(uh HKA).cell (i:=5) rfl
 have nf:=(uh HKA).frozen
 have HTB:=hide (show Blk _ (w2.heap.size+1) [.func (.func (qBn x.k)) #[] #[],.func (.func (qA1 x.k)) #[] #[],.func (.func (qA0 x.k)) #[] #[],.func (.func (qAq x.k)) #[] #[],.func (.func (qAz x.k)) #[] #[],.func (.func (qA4 x.k)) #[] #[]] 83 from(((((((uh HKA).setCell 0 (.func (.func (qBn x.k)) #[] #[])).setCell 1 (.func (.func (qA1 x.k)) #[] #[])).setCell 2 (.func (.func (qA0 x.k)) #[] #[])).setCell 3 (.func (.func (qAq x.k)) #[] #[])).setCell 4 (.func (.func (qAz x.k)) #[] #[])).setCell 5 (.func (.func (qA4 x.k)) #[] #[])))
 have HPB:=hide (show Keeps (λi=>i=w2.heap.size+1) WA _ from(((((((Keeps.refl (λi=>i=w2.heap.size+1) WA).setCell (p:=⟨w2.heap.size+1,0,none⟩) (Or.inl rfl) (.func (.func (qBn x.k)) #[] #[])).setCell (p:=⟨w2.heap.size+1,1,none⟩) (Or.inl rfl) (.func (.func (qA1 x.k)) #[] #[])).setCell (p:=⟨w2.heap.size+1,2,none⟩) (Or.inl rfl) (.func (.func (qA0 x.k)) #[] #[])).setCell (p:=⟨w2.heap.size+1,3,none⟩) (Or.inl rfl) (.func (.func (qAq x.k)) #[] #[])).setCell (p:=⟨w2.heap.size+1,4,none⟩) (Or.inl rfl) (.func (.func (qAz x.k)) #[] #[])).setCell (p:=⟨w2.heap.size+1,5,none⟩) (Or.inl rfl) (.func (.func (qA4 x.k)) #[] #[])))
 clear hWA hkA HC0 HN0 HKW
 obtain⟨WB,hWB⟩:∃WB,WB=((((((WA.setCell ⟨w2.heap.size+1,0,none⟩ (.func (.func (qBn x.k)) #[] #[])).setCell ⟨w2.heap.size+1,1,none⟩ (.func (.func (qA1 x.k)) #[] #[])).setCell ⟨w2.heap.size+1,2,none⟩ (.func (.func (qA0 x.k)) #[] #[])).setCell ⟨w2.heap.size+1,3,none⟩ (.func (.func (qAq x.k)) #[] #[])).setCell ⟨w2.heap.size+1,4,none⟩ (.func (.func (qAz x.k)) #[] #[])).setCell ⟨w2.heap.size+1,5,none⟩ (.func (.func (qA4 x.k)) #[] #[])):=⟨_,rfl⟩
 rw[<-hWB]at HTB HPB
 have HCB:=hide ((uh HCA).keeps (uh HPB) (show ¬(w2.heap.size=w2.heap.size+1) by omega))
 have HPC:=hide (show Keeps (λ_=>False) w2 WB from(uh HPA).trans (uh HPB) (λi hi hlt=>by have hi2:i=w2.heap.size+1:=hi;omega))
 have hWB':=hWB.symm
 clear hWB HPA HPB HCA HKA
 obtain⟨hva,hha⟩:=qBm (uh HCB) 20 rfl
 have t0:=(uh HTB).cell (i:=0) rfl
 have t1:=(uh HTB).cell (i:=1) rfl
 have t2:=(uh HTB).cell (i:=2) rfl
 have t3:=(uh HTB).cell (i:=3) rfl
 have t4:=(uh HTB).cell (i:=4) rfl
 have t5:=(uh HTB).cell (i:=5) rfl
 have HVK:=hide (show ck.kind=x.k by rw[<-uh HCK];have:=(uh HI).kind;rcases five h1 h5 with e | e | e | e | e <;> rw[e]at this ⊢ <;> exact this)
 go_wp2_with fail
 refine(qGz x.id ck x.k WB h1 h5 (by rw[<-uh HCK];exact(uh HI).valid) (uh HVK)).mono ?_
 rintro e w3 ⟨sb,rfl,hs3,hn3,hk3⟩
 have hkr:=hs2
 have HL3:=hide (show LSt w r sb (qBk x.id ck x.k) (qBe (qB1.map (qAs x.ref))++(enc x.rel++(enc (L:Int)++NN))) w3 from
    ⟨hs3,(uh HR2).keeps ((uh HPC).then hk3) (λh=>h),(uh HK2).trans ((uh HPC).then hk3) (λ_ h _=>h.elim),λi hi=>by have h1:=hn3 i hi;have h2:=(uh HPC).size;omega,hrl⟩)
 have HC3:=hide ((uh HCB).keeps hk3 (λh=>h))
 have HT3:=hide ((uh HTB).keeps hk3 (λh=>h))
 have HSN1:=hide (show sb.s≠w2.heap.size+1 by have h1:=hn3 sb.s (.inl rfl);have h2:=(uh HTB).lt;omega)
 have HFT:=hide (show ∀i,sb.foot x.k i->w2.heap.size+1<i from λi hi=>by have h1:=hn3 i hi;have h2:=(uh HTB).lt;omega)
 have HRC:=hide (show r<w2.heap.size by omega)
 have HSN:=hide (show sb.s≠w2.heap.size by have h1:=hn3 sb.s (.inl rfl);have h2:=(uh HCB).lt;omega)
 have HCR:=hide (show w2.heap.size≠r by omega)
 clear hs3 hn3 hk3 hst hWB' n0 n1 n2 n3 n4 n5 nf t0 t1 t2 t3 t4 t5 hva hha HR2 HPC HCB HTB HK2
 generalize hcb:w2.heap.size=cb at *
 clear hcb
 go_wp2_with fail
 refine(qK9 w3).mono ?_
 rintro e w4 ⟨rfl,hk4⟩
 have HL4:=hide ((uh HL3).still hk4)
 have HC4:=hide ((uh HC3).keeps hk4 (λh=>h))
 have HT4:=hide ((uh HT3).keeps hk4 (λh=>h))
 clear hk4 HL3 HC3
 go_wp2_with fail
 go_loopw [30] (λiv wr=>∃k:Nat,k<=7/\iv=.int .i64 k/\Hid (LSt w r sb { qBk x.id ck x.k with ref:=qDo x.ref k } (qBe ((qB1.map (qAs x.ref)).drop k)++(enc x.rel++(enc (L:Int)++NN))) wr)/\Hid (Blk wr cb ck.cells 32)/\Hid (Blk wr (cb+1) [.func (.func (qBn x.k)) #[] #[],.func (.func (qA1 x.k)) #[] #[],.func (.func (qA0 x.k)) #[] #[],.func (.func (qAq x.k)) #[] #[],.func (.func (qAz x.k)) #[] #[],.func (.func (qA4 x.k)) #[] #[]] 83)) (λiv _=>7-(intOf iv).toNat)
 case atStart=>exact⟨0,by omega,rfl,HL4,HC4,HT4⟩
 case round =>
  clear HL4 HC4 HT4
  obtain⟨k,hk,rfl,HLr,HCr,HTr⟩:=hrel
  by_cases hk7:k<7
  ·obtain⟨j,hj⟩:∃j,qB1[k]?=some j:=⟨_,List.getElem?_eq_getElem (show k<qB1.length from hk7)⟩
   have hix:=ixk k j hj
   have hj12:j<12:=by
    have hm:=List.mem_of_getElem? hj
    simp[qB1]at hm
    omega
   have hgd:qB1.getD k 0=j:=by rw[List.getD_eq_getElem?_getD,hj];rfl
   have HRN:=hide (show { qBk x.id ck x.k with ref:=qDo x.ref (k+1) }={ ({ qBk x.id ck x.k with ref:=qDo x.ref k }:Ser) with ref:=(qDo x.ref k).set j (qAs x.ref j) } by show _=_;simp only[qDo,hgd])
   have HDR:=hide (show qBe ((qB1.map (qAs x.ref)).drop k)++(enc x.rel++(enc (L:Int)++NN))=enc (qAs x.ref j)++(qBe ((qB1.map (qAs x.ref)).drop (k+1))++(enc x.rel++(enc (L:Int)++NN))) by
      have hlt:k<(qB1.map (qAs x.ref)).length:=by rw[List.length_map];exact hk7
      rw[List.drop_eq_getElem_cons hlt,qAy,List.append_assoc]
      congr 2
      rw[List.getElem_map]
      congr 1
      have:=List.getElem?_eq_getElem (show k<qB1.length from hk7)
      rw[hj]at this
      exact(Option.some.inj this).symm)
   obtain⟨v0,v1⟩:=(uh HI).ref j
   have HL5:=hide (show LSt w r sb { qBk x.id ck x.k with ref:=qDo x.ref k } (enc (qAs x.ref j)++(qBe ((qB1.map (qAs x.ref)).drop (k+1))++(enc x.rel++(enc (L:Int)++NN)))) wr by rw[<-uh HDR];exact uh HLr)
   clear HLr HDR hgd
   have hki:(k:Int)<7:=by omega
   have hj0:(0:Int)<=(j:Int):=by omega
   have hj1:(j:Int)<12:=by omega
   go_wp2_with fail
   go_region_with (first | (go_at_call 88;refine(((uh HL5).still ((Keeps.refl (λ_=>False) wr).drew)).number v0 (by omega) v0 v1).mono ?_;rintro e w6 ⟨rfl,hl6,hk6⟩;have hc6:=hl6.ser.blk.cell (qDe sb _ (qHk x.ref k) j hj12);have hf6:=hl6.ser.blk.frozen))
   have HL7:=hide (hl6.set (x2:={ qBk x.id ck x.k with ref:=(qDo x.ref k).set j (qAs x.ref j) }) (35+j) (.int .i64 (qAs x.ref j)) (qKb sb _ j _) rfl rfl rfl rfl)
   have HC6:=hide ((uh HCr).keeps (((Keeps.refl (λ_=>False) wr).drew.mono (M':=λi=>i=r) (λ_ _ h=>h.elim)).then hk6) (uh HCR))
   have HT7:=hide (((uh HTr).keeps (((Keeps.refl (λ_=>False) wr).drew.mono (M':=λi=>i=r) (λ_ _ h=>h.elim)).then hk6) (show ¬(cb+1=r) by have:=uh HRC;omega)).setCell_far (p:=⟨sb.s,35+j,none⟩) (uh HSN1) (.int .i64 (qAs x.ref j)))
   have HC7:=hide ((uh HC6).setCell_far (p:=⟨sb.s,35+j,none⟩) (uh HSN) (.int .i64 (qAs x.ref j)))
   clear hc6 hf6 hl6 hk6
   go_wp2
   go_roundw
   case rel=>exact⟨k+1,by omega,by go_num,by show LSt _ _ _ _ _ _;rw[uh HRN];exact uh HL7,HC7,HT7⟩
   case measure=>simp[intOf];omega
  ·have hk7e:k=7:=by omega
   subst hk7e
   have HL5:=hide (show LSt w r sb { qBk x.id ck x.k with ref:=qDo x.ref 7 } (enc x.rel++(enc (L:Int)++NN)) wr from uh HLr)
   clear HLr
   obtain⟨lg0,lg1⟩:=(uh HI).lag
   obtain⟨cp0,cp1⟩:=(uh HI).cap
   rw[uh HCK]at lg0 lg1 cp0 cp1
   have rl0:=(uh HI).rel0
   have rl2:=(uh HI).rel2
   have HMR:=hide (show x.rel<=qGg ck clock by rw[<-uh HCK];exact(uh HI).rel1)
   have cl0:=(uh HI).c0
   have cl1:=(uh HI).c1
   have HMO:=hide (qR1 sb { qBk x.id ck x.k with ref:=qDo x.ref 7 } clock wr (uh HL5).ser lg0 lg1 cp0 cp1 cl0 cl1)
   go_wp2_with fail
   refine(uh HMO).mono ?_
   rintro e w5 ⟨rfl,hw5⟩
   rw[hw5]
   clear hw5 w5 HMO
   go_wp2_with fail
   refine((uh HL5).number rl0 (by omega) rl0 (uh HMR)).mono ?_
   rintro e w6 ⟨rfl,hl6,hk6⟩
   have hc6:w6.cell? ⟨sb.s,34,none⟩=some (.int .i64 0):=hl6.ser.blk.cell rfl
   have hf6:=hl6.ser.blk.frozen
   have HL7:=hide (hl6.set (x2:={ qBk x.id ck x.k with ref:=qDo x.ref 7,rel:=x.rel }) 34 (.int .i64 x.rel) rfl rfl rfl rfl rfl)
   have HT7:=hide (((uh HTr).keeps hk6 (show ¬(cb+1=r) by have:=uh HRC;omega)).setCell_far (p:=⟨sb.s,34,none⟩) (uh HSN1) (.int .i64 x.rel))
   have HC7:=hide (((uh HCr).keeps hk6 (uh HCR)).setCell_far (p:=⟨sb.s,34,none⟩) (uh HSN) (.int .i64 x.rel))
   clear hl6 hk6 HL5 HCr HTr
   go_wp2_with fail
   clear hc6 hf6
   generalize w6.setCell ⟨sb.s,34,none⟩ (.int .i64 x.rel)=w7 at *
   have hcp:w7.cell? ⟨cb,3,none⟩=some (.int .i64 ck.cap):=(uh HC7).cell rfl
   have hrc:w7.cell? ⟨sb.s,34,none⟩=some (.int .i64 x.rel):=(uh HL7).ser.blk.cell rfl
   have hlc:w7.cell? ⟨sb.s,2,none⟩=some (.int .i64 ck.lag):=(uh HL7).ser.blk.cell rfl
   have wsb:IntKind.i64.wrap (4611686018427387904-x.rel)=4611686018427387904-x.rel:=by rw[IntKind.wrap_i64];omega
   have hLc:(L:Int)<=ck.cap:=by rw[<-uh HCK,<-uh HLL];exact(uh HX).cap
   have hmn:¬(4611686018427387904-x.rel<ck.cap):=by omega
   have HSR:=hide (show sb.s≠r from(uh HL7).apart sb.s (.inl rfl))
   have HS:=hide (show ∀w',Keeps (λi=>i=r) w7 w'->w'.cell? ⟨cb,3,none⟩=some (.int .i64 ck.cap)/\w'.cell? ⟨sb.s,34,none⟩=some (.int .i64 x.rel) from λw' hk=>⟨hk.cell hcp (uh HCR),hk.cell hrc (uh HSR)⟩)
   go_region_held3 (λw'=>w'.cell? ⟨cb,3,none⟩=some (.int .i64 ck.cap)/\w'.cell? ⟨sb.s,34,none⟩=some (.int .i64 x.rel))
    (first | exact uh HS _ (uh HKs) | exact uh HS _ ((Keeps.refl (λi=>i=r) w7).drew) | exact uh HS _ (Keeps.refl (λi=>i=r) w7) | (simp[*];done))
    (first | (go_at_call 88;refine(((uh HL7).still ((Keeps.refl (λ_=>False) w7).drew)).number (n:=(L:Int)) (by omega) (by omega) (by omega) (by omega)).mono ?_;rintro e w8 ⟨rfl,hl8,hk8⟩;have HKs:=hide (((Keeps.refl (λi=>i=r) w7).drew).then hk8)))
   have HL8:=hide hl8
   have HT8:=hide ((uh HT7).keeps (uh HKs) (show ¬(cb+1=r) by have:=uh HRC;omega))
   clear hl8 hk8 hcp hrc hlc wsb hmn HL7 HC7 HT7 HKs HS
   have hrc:w8.cell? ⟨sb.s,34,none⟩=some (.int .i64 x.rel):=(uh HL8).ser.blk.cell rfl
   have hlc:w8.cell? ⟨sb.s,2,none⟩=some (.int .i64 ck.lag):=(uh HL8).ser.blk.cell rfl
   have HWM:=hide (show ∀w0,Keeps (λ_=>False) w8 w0->Calls Tryz.prog 54 #[.pointer (some ⟨sb.s,0,none⟩),.int .i64 clock] w0 λe w'=>e=.returned (.int .i64 (clock-ck.lag))/\w'=w0 from λw0 hk=>qI3 sb.s ck.lag clock w0 (hk.cell hlc (λh=>h)) lg0 lg1 cl0 cl1)
   have HS8:=hide (show ∀w',Keeps (λ_=>False) w8 w'->w'.cell? ⟨sb.s,34,none⟩=some (.int .i64 x.rel) from λw' hk=>hk.cell hrc (λh=>h))
   obtain⟨A,hA⟩:∃A,x.rel+(L:Int)=A:=⟨_,rfl⟩
   have hwr:IntKind.i64.wrap (x.rel+(L:Int))=A:=by rw[hA,IntKind.wrap_i64];omega
   have HA:=hide hA
   have hA0:A<=4611686018427387904:=by omega
   clear hA
   go_wp2_with fail
   go_region_held3 (λw'=>w'.cell? ⟨sb.s,34,none⟩=some (.int .i64 x.rel))
    (first | exact uh HS8 _ ((Keeps.refl (λ_=>False) w8).drew) | exact uh HS8 _ (Keeps.refl (λ_=>False) w8) | exact uh HS8 _ (((Keeps.refl (λ_=>False) w8).drew).alloc _) | (simp[*];done))
    (first | (go_at_call 54;refine(uh HWM _ ((Keeps.refl (λ_=>False) w8).drew)).mono ?_;rintro e w9 ⟨rfl,rfl⟩))
   have hk9:Keeps (λ_=>False) w8 ((w8.alloc (.cells #[.int .i64 (clock-ck.lag),.int .i64 A,.int .i64 x.rel,.slice none 0 0] 184)).drew):=((Keeps.refl _ _).alloc _).drew
   have HQ9:=hide (show KnRep ((w8.alloc (.cells #[.int .i64 (clock-ck.lag),.int .i64 A,.int .i64 x.rel,.slice none 0 0] 184)).drew) w8.heap.size (clock-ck.lag) A x.rel (.slice none 0 0) [] from⟨Blk.new w8 [_,_,_,_] _,World.ownsRow_nil _ _ _ _⟩)
   have HL9:=hide (show LSt w r sb (zFq x ck []) (NN) ((w8.alloc (.cells #[.int .i64 (clock-ck.lag),.int .i64 A,.int .i64 x.rel,.slice none 0 0] 184)).drew) from(uh HL8).still hk9)
   have HT9:=hide ((uh HT8).keeps hk9 (λh=>h))
   have HZC:=hide (show cb+1<w8.heap.size from(uh HT8).lt)
   have hz8:r<w8.heap.size/\(∀i,sb.foot x.k i->i<w8.heap.size)/\w.heap.size<=w8.heap.size:=⟨(uh HL8).rd.blk.lt,λi hi=>(uh HL8).ser.lt i hi,(uh HL8).kp.size⟩
   have HZ8:=hide hz8
   clear hk9 hrc hlc HWM HS8 HL8 HT8 hz8
   generalize(w8.alloc (.cells #[.int .i64 (clock-ck.lag),.int .i64 A,.int .i64 x.rel,.slice none 0 0] 184)).drew=w9 at *
   generalize w8.heap.size=kn at *
   have HI9:=hide (show LIx w r sb x ck clock A kn cb (its.take 0) (qBe (qGr x.k (its.drop 0))++(nn++tl)) ((its.take 0).map (·.n)) sb.g (.slice none 0 0) w9 from
      ⟨by rw[List.drop_zero,uh HNN];exact uh HL9,uh HQ9,uh HT9,λj hj=>⟨uh HFT j hj,by have:=(uh HZ8).2.1 j hj;omega,by simp[Value.ownBlock]⟩,uh HRC,by have:=(uh HT9).lt;have:=uh HZC;omega,(uh HZ8).2.2⟩)
   clear HL9 HQ9 HT9
   go_wp2_with fail
   go_loopw [75] (λiv wr=>∃i:Nat,i<=L/\iv=.int .i64 i/\∃og nv,Hid (LIx w r sb x ck clock A kn cb (its.take i) (qBe (qGr x.k (its.drop i))++(nn++tl)) ((its.take i).map (·.n)) og nv wr)) (λiv _=>L-(intOf iv).toNat)
   case atStart=>exact⟨0,by omega,rfl,_,_,HI9⟩
   case round =>
    clear HI9
    obtain⟨i,hi,rfl,og,nv,HIr⟩:=hrel
    by_cases hiL:i<L
    ·obtain⟨y,hy⟩:∃y,its[i]?=some y:=⟨_,List.getElem?_eq_getElem (by rw[uh HLL];exact hiL)⟩
     have hiI:(i:Int)<(L:Int):=by omega
     have HTK:=hide (show its.take (i+1)=its.take i++[y] by rw[List.take_add_one,hy];rfl)
     have HDR:=hide (show qGr x.k (its.drop i)=[y.n]++((qD2 x.k).map (λj=>[y.t,y.k,y.d].getD j 0)++qGr x.k (its.drop (i+1))) by
        have hlt:=(List.getElem?_eq_some_iff.1 hy)
        rw[List.drop_eq_getElem_cons hlt.1,hlt.2]
        simp[qGr,qK8,List.flatMap_cons])
     have HIa:=hide (show LIx w r sb x ck clock A kn cb (its.take i) (enc y.n++(qBe ((qD2 x.k).map (λj=>[y.t,y.k,y.d].getD j 0))++(qBe (qGr x.k (its.drop (i+1)))++(nn++tl)))) ((its.take i).map (·.n)) og nv wr by
        have h:=uh HIr
        rw[uh HDR]at h
        simpa only[qAy,qAk,List.append_assoc,qB8,List.nil_append,List.singleton_append] using h)
     have hym:=List.mem_of_getElem? hy
     have hyn:=(uh HX).num y hym
     rw[uh HLL,uh HA]at hyn
     have HNI:=hide (show y.n ∉ (its.take i).map (·.n) by
        have h:=(uh HX).nod
        rw[show its=its.take i++its.drop i from(List.take_append_drop i its).symm,List.map_append]at h
        have hlt:=(List.getElem?_eq_some_iff.1 hy)
        rw[List.drop_eq_getElem_cons hlt.1,hlt.2]at h
        intro hm
        exact(List.nodup_append.1 h).2.2 _ hm _ (by simp) rfl)
     clear HIr
     go_wp2_with fail
     refine((uh HIa).num hyn.1 hyn.2 hA0 (uh HNI) (by simp;omega)).mono ?_
     rintro e w10 ⟨rfl,nv2,hI⟩
     have HIb:=hide hI
     clear hI HIa HNI
     have k4:w10.cell? ⟨cb+1,4,none⟩=some (.func (.func (qAz x.k)) #[] #[]):=(uh HIb).kd.cell rfl
     have klt:=(uh HIb).kd.lt
     have hown:=qSd x.k h1 h5
     go_wp2_with fail
     have HBX:=hide (show Blk (w10.alloc (.cells #[.int .i64 0,.int .i64 0,.int .i64 0,.int .i64 y.n] 88)) w10.heap.size [.int .i64 0,.int .i64 0,.int .i64 0,.int .i64 y.n] 88 from Blk.new w10 [_,_,_,_] _)
     have HIc:=hide ((uh HIb).still ((Keeps.refl (λ_=>False) w10).alloc (.cells #[.int .i64 0,.int .i64 0,.int .i64 0,.int .i64 y.n] 88)))
     have HZX:=hide (show(∀j,({ sb with g:=og }:SB).foot x.k j->j<w10.heap.size)/\kn<w10.heap.size/\(∀j,nv2.ownBlock=some j->j<w10.heap.size)/\cb+1<w10.heap.size/\w.heap.size<=w10.heap.size/\r<w10.heap.size from⟨λj hj=>(uh HIb).ls.ser.lt j hj,(uh HIb).kr.blk.lt,λj hj=>((uh HIb).kr.row.lt j hj).2,(uh HIb).kd.lt,(uh HIb).ls.kp.size,(uh HIb).ls.rd.blk.lt⟩)
     clear HIb k4 klt hown
     generalize(w10.alloc (.cells #[.int .i64 0,.int .i64 0,.int .i64 0,.int .i64 y.n] 88))=w11 at *
     generalize w10.heap.size=bx at *
     refine(qRz x.k bx w11 h1 h5).mono ?_
     rintro e w12 ⟨pv,rfl,hp,hk12⟩
     have HP:=hide hp
     have HId:=hide ((uh HIc).still hk12)
     have HBd:=hide ((uh HBX).keeps hk12 (λh=>h))
     have HPV:=hide (show ∀i,pv.ownBlock=some i->i≠r/\i≠bx from λi hi=>by
        have h1:=(hp.lt i hi).1
        have h2:=(uh HBX).lt
        have h3:=(uh HZX).2.2.2.2.2
        omega)
     clear hp hk12 HIc HBX
     go_wp2_with fail
     have HBD:=hide (show ∀n,n∈(qD2 x.k).map (λj=>[y.t,y.k,y.d].getD j 0)->0<=n/\n<=9223372036854775807 from λn hn=>(uh HX).bd n (by
          unfold qGr
          exact List.mem_flatMap.2 ⟨y,hym,List.mem_cons_of_mem _ hn⟩))
     refine(qJx r bx (qD2 x.k) _ [.int .i64 0,.int .i64 0,.int .i64 0,.int .i64 y.n] 88 pv _ _ w12 (uh HId).ls.rd (by have:=uh HP;unfold at' at this ⊢;rw[List.length_map]at this;exact this) (uh HBd) (by rw[List.length_map]) (λo hm=>by rcases five h1 h5 with e | e | e | e | e <;> rw[e]at hm <;> simp[qD2]at hm ⊢ <;> omega) (by have:=(uh HZX).2.2.2.2.2;omega) (uh HPV) (uh HBD) (by have:=qLr x.k;omega)).mono ?_
     rintro e w13 ⟨rfl,hr13,hb13,hk13⟩
     rw[qZh x.k y h1 h5]at hb13
     have HIe:=hide ((uh HId).rd (bx:=bx) hk13 hr13 (λj hj=>by have:=(uh HZX).1 j hj;omega) (by have:=(uh HZX).2.1;omega) (λe=>by have:=(uh HZX).2.2.1 _ e;omega) (by have:=(uh HZX).2.2.2.1;omega) (uh HZX).2.2.2.2.1)
     have HBe:=hide hb13
     clear hr13 hb13 hk13 HId HBd HP HPV HBD
     have b0:w13.cell? ⟨bx,0,none⟩=some (.int .i64 (itK x.k y).t):=(uh HBe).cell rfl
     have b1:w13.cell? ⟨bx,1,none⟩=some (.int .i64 (itK x.k y).k):=(uh HBe).cell rfl
     have b2:w13.cell? ⟨bx,2,none⟩=some (.int .i64 (itK x.k y).d):=(uh HBe).cell rfl
     have b3:w13.cell? ⟨bx,3,none⟩=some (.int .i64 (itK x.k y).n):=(uh HBe).cell rfl
     have HRF:=hide ((uh HX).ref i y hy)
     rw[uh HCK]at HRF
     go_wp2_with fail
     refine(qYr _ (zFq x ck (its.take i)) (itK x.k y) clock w13 (uh HIe).ls.ser (by show qA7 ck=true;rw[<-uh HCK];exact(uh HI).valid) (uh HVK) h1 h5 cl0 cl1).mono ?_
     rintro e w14 ⟨rfl,hk14⟩
     rw[uh HRF]
     have HIf:=hide ((uh HIe).still hk14)
     have HBf:=hide ((uh HBe).keeps hk14 (λh=>h))
     clear hk14 HIe HBe b0 b1 b2 b3
     go_wp2_with fail
     refine(qEr r _).mono ?_
     rintro e w15 ⟨rfl,hw15⟩
     rw[hw15]
     clear hw15 w15
     have b0:w14.cell? ⟨bx,0,none⟩=some (.int .i64 (itK x.k y).t):=(uh HBf).cell rfl
     have b1:w14.cell? ⟨bx,1,none⟩=some (.int .i64 (itK x.k y).k):=(uh HBf).cell rfl
     have b2:w14.cell? ⟨bx,2,none⟩=some (.int .i64 (itK x.k y).d):=(uh HBf).cell rfl
     have b3:w14.cell? ⟨bx,3,none⟩=some (.int .i64 (itK x.k y).n):=(uh HBf).cell rfl
     have hc26:w14.cell? ⟨sb.s,32,none⟩=some (.pointer (some ⟨sb.q,0,none⟩)):=(uh HIf).ls.ser.blk.cell rfl
     have HNS:=hide (show ¬(sb.s=sb.q\/og=some sb.s) from λh=>h.elim (uh HIf).ls.ser.sq (λh=>(uh HIf).ls.ser.sg sb.s h rfl))
     have HNX:=hide (show ¬(bx=sb.q\/og=some bx) from λh=>h.elim (λh=>by have:=(uh HZX).1 sb.q (.inr (.inl rfl));omega) (λh=>by have:=(uh HZX).1 bx (.inr (.inr (.inl h)));omega))
     have hl9:(qKt x.k (its.take i)).length<=900:=by rw[qL8];simp;omega
     go_wp2_with fail
     go_region_held3 (λw'=>w'.cell? ⟨sb.s,32,none⟩=some (.pointer (some ⟨sb.q,0,none⟩))/\w'.cell? ⟨bx,0,none⟩=some (.int .i64 (itK x.k y).t)/\w'.cell? ⟨bx,1,none⟩=some (.int .i64 (itK x.k y).k)/\w'.cell? ⟨bx,2,none⟩=some (.int .i64 (itK x.k y).d)/\w'.cell? ⟨bx,3,none⟩=some (.int .i64 (itK x.k y).n))
      (first | (simp[*];done) | (go_split_ands;exact⟨hk.cell (by assumption) (uh HNS),hk.cell (by assumption) (uh HNX),hk.cell (by assumption) (uh HNX),hk.cell (by assumption) (uh HNX),hk.cell (by assumption) (uh HNX)⟩))
      (first | (go_at_call 79;refine(put_any sb.q og (qKt x.k (its.take i)) (itK x.k y) _ (by exact((uh HIf).ls.ser.que.keeps ((Keeps.refl (λ_=>False) w14).drew) (λh=>h) (λ_ _ h=>h))) hl9).mono ?_;rintro e w' ⟨rfl,og2,hq,hk,hog⟩))
     have HIg:=hide (show LIx w r sb x ck clock A kn cb (its.take (i+1)) (qBe (qGr x.k (its.drop (i+1)))++(nn++tl)) ((its.take (i+1)).map (·.n)) og2 nv2 w' by
        rw[uh HTK]
        have:=((uh HIf).still ((Keeps.refl (λ_=>False) w14).drew)).put (y:=y) hq hk hog
        rw[List.map_append,List.map_singleton]
        exact this)
     clear hq hk hog b0 b1 b2 b3 hc26 HIf HBf
     go_wp2
     go_roundw
     case rel=>exact⟨i+1,by omega,by go_num,_,_,HIg⟩
     case measure=>simp[intOf];omega
    ·have hie:i=L:=by omega
     subst hie
     have HIz:=hide (show LIx w r sb x ck clock A kn cb its (nn++tl) (its.map (·.n)) og nv wr by
        have h:=uh HIr
        rw[show its.take i=its from by rw[<-uh HLL];exact List.take_length,show its.drop i=[] from by rw[<-uh HLL];exact List.drop_length]at h
        exact h)
     clear HIr
     obtain⟨sc,hsc⟩:∃sc:SB,({ sb with g:=og }:SB)=sc:=⟨_,rfl⟩
     have hsS:sb.s=sc.s:=by rw[<-hsc]
     have HLz:=hide (show LSt w r sc (zFq x ck its) (nn++tl) wr by rw[<-hsc];exact(uh HIz).ls)
     have HKz:=hide (uh HIz).kr
     have HAP:=hide (show ∀j,sc.foot x.k j->j≠kn/\nv.ownBlock≠some j by rw[<-hsc];exact λj hj=>((uh HIz).ap j hj).2)
     have HNL:=hide (show(∀j,nv.ownBlock=some j->kn+1<=j)/\w.heap.size<=kn/\r<kn from⟨λj hj=>(uh HIz).nvlt j hj,(uh HIz).wk,by have:=(uh HIz).rc;have:=(uh HIz).kc;omega⟩)
     clear HIz hsc
     have hka:wr.cell? ⟨kn,1,none⟩=some (.int .i64 A):=(uh HKz).blk.cell rfl
     have hca:wr.cell? ⟨sc.s,33,none⟩=some (.int .i64 0):=(uh HLz).ser.blk.cell rfl
     have hfa:=(uh HLz).ser.blk.frozen
     have HLA:=hide ((uh HLz).set (x2:={ zFq x ck its with acc:=A }) 33 (.int .i64 A) rfl rfl rfl rfl rfl)
     have HBA:=hide (show KnRep (wr.setCell ⟨sc.s,33,none⟩ (.int .i64 A)) kn (clock-ck.lag) A x.rel nv (its.map (·.n)) from(uh HKz).keeps ((Keeps.refl (λi=>i=sc.s) wr).setCell (p:=⟨sc.s,33,none⟩) (Or.inl rfl) _) (λe=>(uh HAP sc.s (.inl rfl)).1 e.symm) (λi hi e=>(uh HAP sc.s (.inl rfl)).2 (by rw[<-show i=sc.s from e];exact hi)))
     obtain⟨wa,hwa⟩:∃wa,wr.setCell ⟨sc.s,33,none⟩ (.int .i64 A)=wa:=⟨_,rfl⟩
     rw[hwa]at HLA HBA
     have d31:wa.cell? ⟨sc.s,31,none⟩=some (.func (.func (zCz x.k)) (qHa sc.n.d) #[]):=(uh HLA).ser.blk.cell rfl
     have hown:=qX4 x.k h1 h5
     go_wp2_with fail
     clear hka hca hfa hwa d31 hown
     have HHM:=hide (uh HHL sc.n kn nv wa (uh HLA).ser.note (uh HLA).rd (by rw[uh HLL,uh HA];exact uh HBA) (λh=>(uh HLA).apart r (.inr (.inr (.inr h))) rfl) (λh=>(uh HAP kn (.inr (.inr (.inr h)))).1 rfl) (λi hi h=>(uh HAP i (.inr (.inr (.inr h)))).2 hi) (uh HNL).2.2)
     refine(uh HHM).mono ?_
     rintro e wb ⟨rfl,nb',hd',hN',hf',hr',hk'⟩
     have HKB:=hide hk'
     have HRB:=hide hr'
     have hsn:=(uh HLA).ser.sn
     have hz:=uh HNL
     have HSB:=hide (show SRep wb { sc with n:=nb' } ⟨x.id,ck,x.k,A,x.rel,qDo x.ref 7,qKt x.k its,nt',0⟩ from by
        have hS:=(uh HLA).ser
        have hne:∀i,sc.foot x.k i->¬qCz x.k sc.n i->¬(i=r\/i=kn\/nv.ownBlock=some i\/qCz x.k sc.n i):=λi hi hn h=>by
         rcases h with h | h | h | h
         ·exact(uh HLA).apart i hi h
         ·exact(uh HAP i hi).1 h
         ·exact(uh HAP i hi).2 h
         ·exact hn h
        have hlt:∀i,sc.foot x.k i->i<wa.heap.size:=λi hi=>hS.lt i hi
        refine⟨?_,?_,hN',hS.sq,hS.sg,λi hi=>?_⟩
        ·have h1:=hS.blk.keeps hk' (hne sc.s (.inl rfl) (λh=>(hsn _ h).1 rfl))
         unfold qB9 at h1 ⊢
         simp only at h1 ⊢
         rw[hd']
         exact h1
        ·exact hS.que.keeps hk' (hne sc.q (.inr (.inl rfl)) (λh=>(hsn _ h).2.1 rfl)) (λg hg=>hne g (.inr (.inr (.inl hg))) (λh=>(hsn _ h).2.2 hg))
        ·rcases hf' i hi with h | h
         ·exact hsn i h
         ·refine⟨λe=>?_,λe=>?_,λe=>?_⟩
          ·have e2:i=sc.s:=e
           have:=hlt sc.s (.inl rfl);omega
          ·have e2:i=sc.q:=e
           have:=hlt sc.q (.inr (.inl rfl));omega
          ·have:=hlt i (.inr (.inr (.inl e)));omega)
     have HNW:=hide (show ∀i,({ sc with n:=nb' }:SB).foot x.k i->w.heap.size<=i from λi hi=>by
        rcases hi with h | h | h | h
        ·exact(uh HLA).new i (.inl h)
        ·exact(uh HLA).new i (.inr (.inl h))
        ·exact(uh HLA).new i (.inr (.inr (.inl h)))
        ·rcases hf' i h with h | h
         ·exact(uh HLA).new i (.inr (.inr (.inr h)))
         ·have:=(uh HLA).kp.size;omega)
     have HKF:=hide (show Keeps (λi=>i=r) w wb from(uh HLA).kp.trans hk' (λi hi hlt=>by
          rcases hi with h | h | h | h
          ·exact h
          ·have:=hz.2.1;omega
          ·have:=hz.1 i h;have:=hz.2.1;omega
          ·have:=(uh HLA).new i (.inr (.inr (.inr h)));omega))
     clear hN' hf' hr' hk' hsn hz hd'
     go_wp2_with fail
     refine(qJg r tl wb (uh HRB)).mono ?_
     rintro e wc ⟨rfl,hwc⟩
     rw[hwc]
     clear hwc wc
     go_wp2
     go_ret
     exact⟨{ sc with n:=nb' },rfl,by rw[uh HCK,uh HLL,uh HA];exact uh HSB,uh HRB,uh HNW,uh HKF⟩
end
end Go.Proofs.YtahnliehdjncdabGreatDoor
