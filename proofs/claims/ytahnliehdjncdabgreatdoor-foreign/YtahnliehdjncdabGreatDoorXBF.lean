import Derived.Test.YtahnliehdjncdabGreatDoorXBE
import Derived.Test.YtahnliehdjncdabGreatDoorXAZ
import Derived.Test.YtahnliehdjncdabGreatDoorXBC
set_option maxRecDepth 100000
set_option maxHeartbeats 16000000
namespace Go.Proofs.YtahnliehdjncdabGreatDoor
section
open Go.RowKit
attribute [local go_sem ↓] qAd qCs
attribute [local go_sem] qAf
theorem zCu(q:Int)(k:Nat)(a b d:List Int)(h1:1<=k)(h5:k<=5): qA1 k (qEd q k a b d)=qA1 k (qEd q k a b []):=by
 rcases five h1 h5 with e | e | e | e | e <;> subst e <;> rfl
theorem qZo(k:Nat): ∀st,∀n,n∈(qAy k st).1->0<=n:=by
 induction k with
 | zero=>intro st n hn;cases hn
 | succ k ih =>
  intro st n hn;unfold qAy at hn;rcases List.mem_cons.1 hn with e | e
  ·rw[e];exact(qB4 0 9223372036854775807 st).1
  ·exact ih _ n e
theorem zGh{l:List Int}(h:∀n,n∈l->0<=n)(i:Nat): 0<=l.getD i 0:=by
 rw[List.getD_eq_getElem?_getD];cases hi:l[i]? with
 | none=>exact Int.le_refl _
 | some v=>exact h v (List.mem_of_getElem? hi)
theorem zDg(q:Int)(k:Nat)(a b d:List Int)(h1:1<=k)(h5:k<=5)(hb:∀n,n∈b->0<=n): 0<=qA1 k (qEd q k a b d):=by
 rcases five h1 h5 with e | e | e | e | e <;> subst e
 ·exact Int.le_refl _
 ·show(0:Int)<=1;omega
 ·exact zGh hb 0
 ·exact Int.le_refl _
 ·exact Int.le_refl _
def qMv(D:CfgD)(e:Ending): Prop:=e=.returned (.tuple #[D.c.val,.agg (if D.good then qBc D.k else[.nilFunc,.nilFunc,.nilFunc,.nilFunc,.nilFunc,.nilFunc]).toArray,.bool D.good])
theorem qR3(r:Nat)(k:Nat)(st:Option (List Nat))(w:World)(h:RdS w r st)(hq:(qAs 0 9223372036854775807 st).1=(k:Int))(h1:1<=k)(h5:k<=5):
  Calls Tryz.prog 136 #[.pointer (some ⟨r,0,none⟩)] w λe w'=>qMv (qUc (k:Int) k (qAs 0 9223372036854775807 st).2) e/\RdS w' r (qUc (k:Int) k (qAs 0 9223372036854775807 st).2).st/\Keeps (λi=>i=r) w w':=by
 obtain⟨st1,hst1⟩:∃st1,(qAs 0 9223372036854775807 st).2=st1:=⟨_,rfl⟩;obtain⟨A,hA⟩:∃A,(qAy 3 st1).1=A:=⟨_,rfl⟩;obtain⟨st2,hst2⟩:∃st2,(qAy 3 st1).2=st2:=⟨_,rfl⟩;obtain⟨B,hB⟩:∃B,(qAy (qBz k).length st2).1=B:=⟨_,rfl⟩;obtain⟨st3,hst3⟩:∃st3,(qAy (qBz k).length st2).2=st3:=⟨_,rfl⟩;obtain⟨pn,hpn⟩:∃pn,qO0 (qEd (k:Int) k A B []) k=pn:=⟨_,rfl⟩;obtain⟨S,hS⟩:∃S,(qAy (2*pn) st3).1=S:=⟨_,rfl⟩;obtain⟨st4,hst4⟩:∃st4,(qAy (2*pn) st3).2=st4:=⟨_,rfl⟩;obtain⟨c,hc⟩:∃c,qEd (k:Int) k A B S=c:=⟨_,rfl⟩;obtain⟨D,hD⟩:∃D,qVj pn (qL1 k c) c=D:=⟨_,rfl⟩;have hR:qUc (k:Int) k (qAs 0 9223372036854775807 st).2=⟨D,k,st4,qA5 D⟩:=by
  unfold qUc;simp only;rw[hst1,hA,hst2,hB,hst3,hpn,hS,hst4,hc,hD]
 have hkd:c.kind=k:=by rw[<-hc];rfl
 have hP0:0<=qA1 k c:=by rw[<-hc];exact zDg _ k A B S h1 h5 (by rw[<-hB];exact qZo _ st2)
 have hPe:qA1 k (qEd (k:Int) k A B [])=qA1 k c:=by rw[<-hc];exact(zCu _ k A B S h1 h5).symm
 have hpn3:pn<=3:=by
  rw[<-hpn];unfold qO0
  split
  ·omega
  ·rw[hPe]at *;omega
 have hpnP:(pn:Int)=if (3:Int)<qA1 k c then 3 else qA1 k c:=by
  rw[<-hpn];unfold qO0;rw[hPe]
  split
  ·rfl
  ·omega
 have HC1:=hide (show qLj qKz.cells [0] (qAy [0].length st).1=(zDd c).cells by
    show qLj qKz.cells [0] [(qAs 0 9223372036854775807 st).1]=_
    rw[hq,<-hkd];exact zBq c)
 have HS1:=hide (show(qAy [0].length st).2=st1 from hst1)
 have HC2:=hide (show qLj (zDd c).cells [1,2,3] (qAy [1,2,3].length st1).1=(zCb c).cells by
    rw[<-qUn c]
    congr 1
    show(qAy 3 st1).1=_;rw[hA,<-hc]
    exact(zE2 (by rw[<-hA];exact qEf 3 st1)).symm)
 have HS2:=hide (show(qAy [1,2,3].length st1).2=st2 from hst2)
 have HC3:=hide (show qLj (zCb c).cells (qBz k) (qAy (qBz k).length st2).1=(qL1 k c).cells by
    rw[<-qY3 k c h1 h5]
    congr 1
    rw[hB,<-hc]
    exact(zEd h1 h5 (by rw[<-hB];exact qEf _ st2)).symm)
 have HS3:=hide hst3
 have HC4:=hide (show qLj (qL1 k c).cells (qBq pn) (qAy (qBq pn).length st3).1=D.cells by
    rw[<-hD,<-qXl k pn c h1 h5 hpn3,qE2]
    congr 1
    rw[hS,<-hc]
    exact(zDi hpn3 (by rw[<-hS];exact qEf _ st3)).symm)
 have HS4:=hide (show(qAy (qBq pn).length st3).2=st4 by rw[qE2];exact hst4);have HDK:=hide (show D.kind=k by rw[<-hD];have:=hkd;rcases five h1 h5 with e | e | e | e | e <;> subst e <;> exact this);have HPP:=hide hpnP;have HPK:=hide (show qA1 k (qL1 k c)=qA1 k c from qUg k c h1 h5);rw[hR];clear hR hD hst4 hS hpn hst3 hB hst2 hA hst1 hPe hpnP;generalize hPi:qA1 k c=P at *;clear hPi;have HKD:=hide hkd;obtain⟨W,hW⟩:∃W,W=(((w.alloc (.cells qKz.cells.toArray 32)).alloc (.cells #[.nilFunc,.nilFunc,.nilFunc,.nilFunc,.nilFunc,.nilFunc] 83)).alloc (.cells qKz.cells.toArray 32)).alloc (.cells (qC7 (at' (w.heap.size+1+1) [0])).toArray 170):=⟨_,rfl⟩;have hkW:Keeps (λ_=>False) w W:=by rw[hW];exact((((Keeps.refl _ _).alloc _).alloc _).alloc _).alloc _
 have HLC:=hide (show LCS w r (w.heap.size+1+1) qKz st W from
    ⟨by rw[hW];exact(Blk.newAt (by simp) _ _).alloc _,by rw[hW];exact(((Blk.new w _ _).alloc _).alloc _).alloc _,by rw[hW];exact((Blk.newAt (by simp) _ _).alloc _).alloc _,h.keeps hkW (λh=>h),hkW.mono (λ_ _ h=>h.elim),rfl,h.lt⟩)
 have HOW:=hide (show W.ownsRow (w.heap.size+1+1+1) 170 1 (.slice (some ⟨w.heap.size+1+1+1,0,none⟩) 1 1) (at' (w.heap.size+1+1) [0]).length (qC7 (at' (w.heap.size+1+1) [0])) by
    have hz:(((w.alloc (.cells qKz.cells.toArray 32)).alloc (.cells #[.nilFunc,.nilFunc,.nilFunc,.nilFunc,.nilFunc,.nilFunc] 83)).alloc (.cells qKz.cells.toArray 32)).heap.size=w.heap.size+1+1+1:=by simp
    have:=qD0 (w:=((w.alloc (.cells qKz.cells.toArray 32)).alloc (.cells #[.nilFunc,.nilFunc,.nilFunc,.nilFunc,.nilFunc,.nilFunc] 83)).alloc (.cells qKz.cells.toArray 32)) (w':=W) (ps:=at' (w.heap.size+1+1) [0]) (n:=1) rfl (by omega) (by rw[hW];exact heap_alloc_new _ _);rw[hz]at this
    exact this)
 have HW0:=hide (show(((w.alloc (.cells #[.int .i64 0,.int .i64 0,.int .i64 0,.int .i64 0,.int .i64 0,.int .i64 0,.int .i64 0,.int .i64 0,.int .i64 0,.int .i64 0,.int .i64 0,.int .i64 0,.int .i64 0,.int .i64 0,.int .i64 0,.int .i64 0,.int .i64 0,.int .i64 0,.int .i64 0,.int .i64 0] 32)).alloc (.cells #[.nilFunc,.nilFunc,.nilFunc,.nilFunc,.nilFunc,.nilFunc] 83)).alloc (.cells #[.int .i64 0,.int .i64 0,.int .i64 0,.int .i64 0,.int .i64 0,.int .i64 0,.int .i64 0,.int .i64 0,.int .i64 0,.int .i64 0,.int .i64 0,.int .i64 0,.int .i64 0,.int .i64 0,.int .i64 0,.int .i64 0,.int .i64 0,.int .i64 0,.int .i64 0,.int .i64 0] 32)).alloc (.cells #[.pointer (some ⟨w.heap.size+1+1,0,none⟩)] 170)=W from hW.symm);clear hW hkW h hkd hq;go_enter Tryz.func136,Tryz.ntmps136
 go_wp2_with fail
 rw[uh HW0];refine(qHp (d':=zDd c) (uh HLC) (uh HOW) (uh HC1) (by simp) (λi hi=>by have:w.heap.size+1+1+1=i:=(by simpa[Value.ownBlock] using hi);omega) (by simp)).mono ?_;rintro e w1 ⟨rfl,hl1,hk1⟩;rw[uh HS1]at hl1;have HL1:=hide hl1;clear hl1 hk1 HLC HOW HW0;generalize hcb:w.heap.size+1+1=cb at *;have HCB:=hide hcb;have c0:w1.cell? ⟨cb,0,none⟩=some (.int .i64 c.kind):=(uh HL1).cfg.cell rfl;clear hcb;go_wp2_with fail
 refine(qHt c.kind k w1 (uh HKD) h1 h5).mono ?_;rintro e w2 ⟨rfl,hk2⟩;unfold qBc fn;have HT2:=hide (Blk.new w2 [.func (.func (qBw k)) #[] #[],.func (.func (qA7 k)) #[] #[],.func (.func (qA8 k)) #[] #[],.func (.func (qAr k)) #[] #[],.func (.func (qA6 k)) #[] #[],.func (.func (qA9 k)) #[] #[]] 83);have HL2:=hide ((uh HL1).still (hk2.alloc (.cells #[.func (.func (qBw k)) #[] #[],.func (.func (qA7 k)) #[] #[],.func (.func (qA8 k)) #[] #[],.func (.func (qAr k)) #[] #[],.func (.func (qA6 k)) #[] #[],.func (.func (qA9 k)) #[] #[]] 83)));have hlt2:cb<w2.heap.size:=((uh HL1).cfg.keeps hk2 (λh=>h)).lt;have HKB:=hide (show cb+1<=w2.heap.size by omega);clear hk2 c0 HL1;go_wp2_with fail
 generalize hkb:w2.heap.size=kb at *;generalize w2.alloc (.cells #[.func (.func (qBw k)) #[] #[],.func (.func (qA7 k)) #[] #[],.func (.func (qA8 k)) #[] #[],.func (.func (qAr k)) #[] #[],.func (.func (qA6 k)) #[] #[],.func (.func (qA9 k)) #[] #[]] 83)=w3 at *;clear hkb w2;refine(qK4 cb w3).mono ?_;rintro e w4 ⟨pv,rfl,hown4,hk4⟩;obtain⟨pa,pcap,hpv,_⟩:=qCh hown4;subst hpv;have HLT4:=hide (show ∀i,(Value.slice pa (at' cb [1,2,3]).length pcap).ownBlock=some i->w3.heap.size<=i from λi hi=>(hown4.lt i hi).1);have HL4:=hide ((uh HL2).still hk4);have HT4:=hide ((uh HT2).keeps hk4 (λh=>h));have HZ4:=hide (show cb+1<w3.heap.size from by have:=(uh HT2).lt;omega);have HO4:=hide hown4;clear hown4 hk4 HL2 HT2;go_wp2_with fail
 refine(qHp (d':=zCb c) (uh HL4) (uh HO4) (uh HC2) (by simp) (λi hi=>by have h1:=uh HLT4 i hi;have h2:=uh HZ4;have h3:=uh HCB;omega) (by simp)).mono ?_;rintro e w5 ⟨rfl,hl5,hk5⟩;rw[uh HS2]at hl5;have HL5:=hide hl5;have HT5:=hide ((uh HT4).keeps hk5 (by have h1:=uh HKB;have h2:=hl5.rl;have h3:=uh HCB;omega));clear hl5 hk5 HL4 HT4 HO4 HLT4 HZ4;have k1:w5.cell? ⟨kb,1,none⟩=some (.func (.func (qA7 k)) #[] #[]):=(uh HT5).cell rfl;have hown1:=qR7 k h1 h5;go_wp2_with fail
 refine(qR2 k cb w5 h1 h5).mono ?_;rintro e w6 ⟨pv,rfl,hown6,hk6⟩;obtain⟨pa6,pcap6,hpv,_⟩:=qCh hown6;subst hpv;have HLT6:=hide (show ∀i,(Value.slice pa6 (at' cb (qBz k)).length pcap6).ownBlock=some i->w5.heap.size<=i from λi hi=>(hown6.lt i hi).1);have HL6:=hide ((uh HL5).still hk6);have HT6:=hide ((uh HT5).keeps hk6 (λh=>h));have HZ6:=hide (show cb<w5.heap.size from(uh HL5).cfg.lt);have HO6:=hide hown6;clear hown6 hk6 HL5 HT5 k1 hown1;go_wp2_with fail
 refine(qHp (d':=qL1 k c) (uh HL6) (by have:=uh HO6;exact this) (uh HC3) (qSx k) (λi hi=>by have h1:=uh HLT6 i hi;have h2:=uh HZ6;have h3:=uh HCB;omega) (by have:(qBz k).length<=4:=(by rcases five h1 h5 with e | e | e | e | e <;> subst e <;> decide);omega)).mono ?_;rintro e w7 ⟨rfl,hl7,hk7⟩;rw[uh HS3]at hl7;have HL7:=hide hl7;have HT7:=hide ((uh HT6).keeps hk7 (by have h1:=uh HKB;have h2:=hl7.rl;have h3:=uh HCB;omega));clear hl7 hk7 HL6 HT6 HO6 HLT6 HZ6;have k2:w7.cell? ⟨kb,2,none⟩=some (.func (.func (qA8 k)) #[] #[]):=(uh HT7).cell rfl;obtain⟨hv7,hh7⟩:=qBl (uh HL7).cfg 20 rfl;have hown2:=qRz k h1 h5;have hmin:(if (3:Int)<P then(3:Int) else P)=(pn:Int):=(uh HPP).symm;go_wp2_with fail
 refine(qQ6 k (qL1 k c) w7 h1 h5).mono ?_;rintro e w8 ⟨rfl,hk8⟩;rw[uh HPK];have HL8:=hide ((uh HL7).still hk8);have HT8:=hide ((uh HT7).keeps hk8 (λh=>h));clear hk8 HL7 HT7 k2 hown2 hv7 hh7;have HSD:=hide (λw=>qR6 cb pn w hpn3)
 by_cases h3P:(3:Int)<P
 all_goals
  first
   | (rw[if_pos h3P]at hmin)
   | (rw[if_neg h3P]at hmin)
  go_wp2_with fail
  refine(uh HSD w8).mono ?_;rintro e w9 ⟨pv,rfl,hown9,hk9⟩;obtain⟨pa9,pcap9,hpv,_⟩:=qCh hown9;subst hpv;have HLT9:=hide (show ∀i,(Value.slice pa9 (at' cb (qBq pn)).length pcap9).ownBlock=some i->w8.heap.size<=i from λi hi=>(hown9.lt i hi).1);have HL9:=hide ((uh HL8).still hk9);have HT9:=hide ((uh HT8).keeps hk9 (λh=>h));have HZ9:=hide (show cb<w8.heap.size from(uh HL8).cfg.lt);have HO9:=hide hown9;clear hown9 hk9 HL8 HT8 hmin;go_wp2_with fail
  refine(qHp (d':=D) (uh HL9) (by have:=uh HO9;exact this) (uh HC4) (qSs pn hpn3) (λi hi=>by have h1:=uh HLT9 i hi;have h2:=uh HZ9;have h3:=uh HCB;omega) (by rw[qE2];omega)).mono ?_;rintro e wa ⟨rfl,hla,hka⟩;rw[uh HS4]at hla;have HLA:=hide hla;have HTA:=hide ((uh HT9).keeps hka (by have h1:=uh HKB;have h2:=hla.rl;have h3:=uh HCB;omega));clear hla hka HL9 HT9 HO9 HLT9 HZ9;obtain⟨hva,hha⟩:=qBl (uh HLA).cfg 20 rfl;clear h3P;cases hvD:qA5 D
  ·have HVD:=hide hvD
   clear hvD;go_wp2_with fail
   refine(qOu D wa (uh HVD)).mono ?_;rintro e wb ⟨rfl,hkb⟩;have HLB:=hide ((uh HLA).still hkb);have HTB:=hide ((uh HTA).keeps hkb (λh=>h));clear hkb hva hha HLA HTA;have t0:=(uh HTB).cell (i:=0) rfl;have t1:=(uh HTB).cell (i:=1) rfl;have t2:=(uh HTB).cell (i:=2) rfl;have t3:=(uh HTB).cell (i:=3) rfl;have t4:=(uh HTB).cell (i:=4) rfl;have t5:=(uh HTB).cell (i:=5) rfl;have tf:=(uh HTB).frozen;have hKB:=uh HKB;have hCB:=uh HCB;have hRL:=(uh HLB).rl;have HTC:=hide ((((((((uh HTB).setCell 0 (.nilFunc)).setCell 1 (.nilFunc)).setCell 2 (.nilFunc)).setCell 3 (.nilFunc)).setCell 4 (.nilFunc)).setCell 5 (.nilFunc)));have HKC2:=hide (show Keeps (λi=>i=kb) wb _ from(((((((Keeps.refl (λi=>i=kb) wb).setCell (p:=⟨kb,0,none⟩) (Or.inl rfl) (.nilFunc)).setCell (p:=⟨kb,1,none⟩) (Or.inl rfl) (.nilFunc)).setCell (p:=⟨kb,2,none⟩) (Or.inl rfl) (.nilFunc)).setCell (p:=⟨kb,3,none⟩) (Or.inl rfl) (.nilFunc)).setCell (p:=⟨kb,4,none⟩) (Or.inl rfl) (.nilFunc)).setCell (p:=⟨kb,5,none⟩) (Or.inl rfl) (.nilFunc)));go_wp2_with fail
   generalize(((((wb.setCell ⟨kb,0,none⟩ (.nilFunc)).setCell ⟨kb,1,none⟩ (.nilFunc)).setCell ⟨kb,2,none⟩ (.nilFunc)).setCell ⟨kb,3,none⟩ (.nilFunc)).setCell ⟨kb,4,none⟩ (.nilFunc)).setCell ⟨kb,5,none⟩ (.nilFunc)=wc at *;clear t0 t1 t2 t3 t4 t5 tf;have HKC3:=hide ((uh HKC2).drew);have HCC:=hide (show Blk wc.drew cb D.cells 32 from(uh HLB).cfg.keeps (uh HKC3) (show ¬(cb=kb) by omega));have HRC:=hide (show Blk wc.drew w.heap.size qKz.cells 32 from(uh HLB).rcf.keeps (uh HKC3) (show ¬(w.heap.size=kb) by omega));have HRK:=hide (show Blk wc.drew (w.heap.size+1) [.nilFunc,.nilFunc,.nilFunc,.nilFunc,.nilFunc,.nilFunc] 83 from(uh HLB).rkd.keeps (uh HKC3) (show ¬(w.heap.size+1=kb) by omega));have HRD:=hide (show RdS wc.drew r st4 from(uh HLB).rd.keeps (uh HKC3) (show ¬(r=kb) by omega));have HKP:=hide (show Keeps (λi=>i=r) w wc.drew from(uh HLB).kp.trans (uh HKC3) (λi hi hlt=>by have hi2:i=kb:=hi;omega));have HTD:=hide (show Blk wc.drew kb [.nilFunc,.nilFunc,.nilFunc,.nilFunc,.nilFunc,.nilFunc] 83 from uh HTC);obtain⟨hva,hha⟩:=qBl (uh HCC) 20 rfl;have hst:=qEz D (uh HRC) rfl;have hBD:=Blk.setCells D.cells 0 wc.drew _ (uh HRC) (by show 0+20<=20;omega);rw[qJa _ _ (by rfl)]at hBD;have hKD:Keeps (λi=>i=w.heap.size) wc.drew (wc.drew.setCells w.heap.size 0 D.cells):=Keeps.setCells (M:=λi=>i=w.heap.size) (b:=w.heap.size) (Or.inl rfl) _ _ _ (Keeps.refl _ _);have HKD2:=hide hKD;have HBD:=hide hBD;have HTE:=hide ((uh HTD).keeps hKD (show ¬(kb=w.heap.size) by omega));have HRE:=hide ((uh HRK).keeps hKD (show ¬(w.heap.size+1=w.heap.size) by omega));generalize wc.drew.setCells w.heap.size 0 D.cells=wd at *;clear hBD hKD;have t0:wc.cell? ⟨kb,0,none⟩=some (.nilFunc):=(uh HTD).cell (i:=0) rfl;have t1:wc.cell? ⟨kb,1,none⟩=some (.nilFunc):=(uh HTD).cell (i:=1) rfl;have t2:wc.cell? ⟨kb,2,none⟩=some (.nilFunc):=(uh HTD).cell (i:=2) rfl;have t3:wc.cell? ⟨kb,3,none⟩=some (.nilFunc):=(uh HTD).cell (i:=3) rfl;have t4:wc.cell? ⟨kb,4,none⟩=some (.nilFunc):=(uh HTD).cell (i:=4) rfl;have t5:wc.cell? ⟨kb,5,none⟩=some (.nilFunc):=(uh HTD).cell (i:=5) rfl;have u0:=(uh HTE).cell (i:=0) rfl;have u1:=(uh HTE).cell (i:=1) rfl;have u2:=(uh HTE).cell (i:=2) rfl;have u3:=(uh HTE).cell (i:=3) rfl;have u4:=(uh HTE).cell (i:=4) rfl;have u5:=(uh HTE).cell (i:=5) rfl;have r0:=(uh HRE).cell (i:=0) rfl;have r1:=(uh HRE).cell (i:=1) rfl;have r2:=(uh HRE).cell (i:=2) rfl;have r3:=(uh HRE).cell (i:=3) rfl;have r4:=(uh HRE).cell (i:=4) rfl;have r5:=(uh HRE).cell (i:=5) rfl;have rf:=(uh HRE).frozen;have HFK:=hide (((((((uh HRE).setCell 0 (.nilFunc)).setCell 1 (.nilFunc)).setCell 2 (.nilFunc)).setCell 3 (.nilFunc)).setCell 4 (.nilFunc)).setCell 5 (.nilFunc));have HFP:=hide (show Keeps (λi=>i=w.heap.size+1) wd _ from(((((((Keeps.refl (λi=>i=w.heap.size+1) wd).setCell (p:=⟨w.heap.size+1,0,none⟩) (Or.inl rfl) (.nilFunc)).setCell (p:=⟨w.heap.size+1,1,none⟩) (Or.inl rfl) (.nilFunc)).setCell (p:=⟨w.heap.size+1,2,none⟩) (Or.inl rfl) (.nilFunc)).setCell (p:=⟨w.heap.size+1,3,none⟩) (Or.inl rfl) (.nilFunc)).setCell (p:=⟨w.heap.size+1,4,none⟩) (Or.inl rfl) (.nilFunc)).setCell (p:=⟨w.heap.size+1,5,none⟩) (Or.inl rfl) (.nilFunc)));go_region
   go_wp2
   clear t0 t1 t2 t3 t4 t5 u0 u1 u2 u3 u4 u5 r0 r1 r2 r3 r4 r5 rf hst hva hha;generalize(((((wd.setCell ⟨w.heap.size+1,0,none⟩ (.nilFunc)).setCell ⟨w.heap.size+1,1,none⟩ (.nilFunc)).setCell ⟨w.heap.size+1,2,none⟩ (.nilFunc)).setCell ⟨w.heap.size+1,3,none⟩ (.nilFunc)).setCell ⟨w.heap.size+1,4,none⟩ (.nilFunc)).setCell ⟨w.heap.size+1,5,none⟩ (.nilFunc)=we at *;have HFC:=hide ((uh HBD).keeps (uh HFP) (show ¬(w.heap.size=w.heap.size+1) by omega));have hrd1:=(uh HRD).keeps (uh HKD2) (show ¬(r=w.heap.size) by omega);have HFR:=hide (hrd1.keeps (uh HFP) (show ¬(r=w.heap.size+1) by omega));have HFQ:=hide (((uh HKP).trans (uh HKD2) (λi hi hlt=>by have hi2:i=w.heap.size:=hi;omega)).trans (uh HFP) (λi hi hlt=>by have hi2:i=w.heap.size+1:=hi;omega));have HLV:=hide (show(loadVar 32 ⟨w.heap.size,0,none⟩).run Tryz.prog we=.ok (.agg D.cells.toArray) we from run_loadVar_mid we w.heap.size 0 32 D.cells _ (λj v hv=>by rw[Nat.zero_add];exact(uh HFC).cell hv) Tryz.underlying32 rfl (by rw[qOk];rfl));have HLK:=hide (show(loadVar 83 ⟨w.heap.size+1,0,none⟩).run Tryz.prog we=.ok (.agg #[.nilFunc,.nilFunc,.nilFunc,.nilFunc,.nilFunc,.nilFunc]) we from run_loadVar_mid we (w.heap.size+1) 0 83 [.nilFunc,.nilFunc,.nilFunc,.nilFunc,.nilFunc,.nilFunc] _ (λj v hv=>by rw[Nat.zero_add];exact(uh HFK).cell hv) Tryz.underlying83 rfl (by rw[zCf];rfl));refine bodyPost_ret (v:=.tuple #[D.val,.agg #[.nilFunc,.nilFunc,.nilFunc,.nilFunc,.nilFunc,.nilFunc],.bool false]) (by simp[results,Tryz.results136,asAddr,uh HLV,uh HLK];rfl) rfl ?_;exact⟨by unfold qMv;simp only;rw[uh HVD];rfl,uh HFR,uh HFQ⟩
  ·obtain⟨k',hk'1,_,_,hcm,hft⟩:=qFh hvD
   have hkk':k'=k:=by have:=uh HDK;omega
   have HVD:=hide hvD;clear hvD;subst hkk';go_wp2_with fail
   refine(qI1 D k' wa (uh HDK) h1 h5 hcm hft).mono ?_;rintro e wb ⟨rfl,hkb⟩;unfold qBc fn;have HLB:=hide ((uh HLA).still hkb);have HTB:=hide ((uh HTA).keeps hkb (λh=>h));clear hkb hva hha HLA HTA;have t0:=(uh HTB).cell (i:=0) rfl;have t1:=(uh HTB).cell (i:=1) rfl;have t2:=(uh HTB).cell (i:=2) rfl;have t3:=(uh HTB).cell (i:=3) rfl;have t4:=(uh HTB).cell (i:=4) rfl;have t5:=(uh HTB).cell (i:=5) rfl;have tf:=(uh HTB).frozen;have hKB:=uh HKB;have hCB:=uh HCB;have hRL:=(uh HLB).rl;have HTC:=hide ((((((((uh HTB).setCell 0 (.func (.func (qBw k')) #[] #[])).setCell 1 (.func (.func (qA7 k')) #[] #[])).setCell 2 (.func (.func (qA8 k')) #[] #[])).setCell 3 (.func (.func (qAr k')) #[] #[])).setCell 4 (.func (.func (qA6 k')) #[] #[])).setCell 5 (.func (.func (qA9 k')) #[] #[])));have HKC2:=hide (show Keeps (λi=>i=kb) wb _ from(((((((Keeps.refl (λi=>i=kb) wb).setCell (p:=⟨kb,0,none⟩) (Or.inl rfl) (.func (.func (qBw k')) #[] #[])).setCell (p:=⟨kb,1,none⟩) (Or.inl rfl) (.func (.func (qA7 k')) #[] #[])).setCell (p:=⟨kb,2,none⟩) (Or.inl rfl) (.func (.func (qA8 k')) #[] #[])).setCell (p:=⟨kb,3,none⟩) (Or.inl rfl) (.func (.func (qAr k')) #[] #[])).setCell (p:=⟨kb,4,none⟩) (Or.inl rfl) (.func (.func (qA6 k')) #[] #[])).setCell (p:=⟨kb,5,none⟩) (Or.inl rfl) (.func (.func (qA9 k')) #[] #[])));go_wp2_with fail
   generalize(((((wb.setCell ⟨kb,0,none⟩ (.func (.func (qBw k')) #[] #[])).setCell ⟨kb,1,none⟩ (.func (.func (qA7 k')) #[] #[])).setCell ⟨kb,2,none⟩ (.func (.func (qA8 k')) #[] #[])).setCell ⟨kb,3,none⟩ (.func (.func (qAr k')) #[] #[])).setCell ⟨kb,4,none⟩ (.func (.func (qA6 k')) #[] #[])).setCell ⟨kb,5,none⟩ (.func (.func (qA9 k')) #[] #[])=wc at *;clear t0 t1 t2 t3 t4 t5 tf;have HKC3:=hide ((uh HKC2).drew);have HCC:=hide (show Blk wc.drew cb D.cells 32 from(uh HLB).cfg.keeps (uh HKC3) (show ¬(cb=kb) by omega));have HRC:=hide (show Blk wc.drew w.heap.size qKz.cells 32 from(uh HLB).rcf.keeps (uh HKC3) (show ¬(w.heap.size=kb) by omega));have HRK:=hide (show Blk wc.drew (w.heap.size+1) [.nilFunc,.nilFunc,.nilFunc,.nilFunc,.nilFunc,.nilFunc] 83 from(uh HLB).rkd.keeps (uh HKC3) (show ¬(w.heap.size+1=kb) by omega));have HRD:=hide (show RdS wc.drew r st4 from(uh HLB).rd.keeps (uh HKC3) (show ¬(r=kb) by omega));have HKP:=hide (show Keeps (λi=>i=r) w wc.drew from(uh HLB).kp.trans (uh HKC3) (λi hi hlt=>by have hi2:i=kb:=hi;omega));have HTD:=hide (show Blk wc.drew kb [.func (.func (qBw k')) #[] #[],.func (.func (qA7 k')) #[] #[],.func (.func (qA8 k')) #[] #[],.func (.func (qAr k')) #[] #[],.func (.func (qA6 k')) #[] #[],.func (.func (qA9 k')) #[] #[]] 83 from uh HTC);obtain⟨hva,hha⟩:=qBl (uh HCC) 20 rfl;have hst:=qEz D (uh HRC) rfl;have hBD:=Blk.setCells D.cells 0 wc.drew _ (uh HRC) (by show 0+20<=20;omega);rw[qJa _ _ (by rfl)]at hBD;have hKD:Keeps (λi=>i=w.heap.size) wc.drew (wc.drew.setCells w.heap.size 0 D.cells):=Keeps.setCells (M:=λi=>i=w.heap.size) (b:=w.heap.size) (Or.inl rfl) _ _ _ (Keeps.refl _ _);have HKD2:=hide hKD;have HBD:=hide hBD;have HTE:=hide ((uh HTD).keeps hKD (show ¬(kb=w.heap.size) by omega));have HRE:=hide ((uh HRK).keeps hKD (show ¬(w.heap.size+1=w.heap.size) by omega));generalize wc.drew.setCells w.heap.size 0 D.cells=wd at *;clear hBD hKD;have t0:wc.cell? ⟨kb,0,none⟩=some (.func (.func (qBw k')) #[] #[]):=(uh HTD).cell (i:=0) rfl;have t1:wc.cell? ⟨kb,1,none⟩=some (.func (.func (qA7 k')) #[] #[]):=(uh HTD).cell (i:=1) rfl;have t2:wc.cell? ⟨kb,2,none⟩=some (.func (.func (qA8 k')) #[] #[]):=(uh HTD).cell (i:=2) rfl;have t3:wc.cell? ⟨kb,3,none⟩=some (.func (.func (qAr k')) #[] #[]):=(uh HTD).cell (i:=3) rfl;have t4:wc.cell? ⟨kb,4,none⟩=some (.func (.func (qA6 k')) #[] #[]):=(uh HTD).cell (i:=4) rfl;have t5:wc.cell? ⟨kb,5,none⟩=some (.func (.func (qA9 k')) #[] #[]):=(uh HTD).cell (i:=5) rfl;have u0:=(uh HTE).cell (i:=0) rfl;have u1:=(uh HTE).cell (i:=1) rfl;have u2:=(uh HTE).cell (i:=2) rfl;have u3:=(uh HTE).cell (i:=3) rfl;have u4:=(uh HTE).cell (i:=4) rfl;have u5:=(uh HTE).cell (i:=5) rfl;have r0:=(uh HRE).cell (i:=0) rfl;have r1:=(uh HRE).cell (i:=1) rfl;have r2:=(uh HRE).cell (i:=2) rfl;have r3:=(uh HRE).cell (i:=3) rfl;have r4:=(uh HRE).cell (i:=4) rfl;have r5:=(uh HRE).cell (i:=5) rfl;have rf:=(uh HRE).frozen;have HFK:=hide (((((((uh HRE).setCell 0 (.func (.func (qBw k')) #[] #[])).setCell 1 (.func (.func (qA7 k')) #[] #[])).setCell 2 (.func (.func (qA8 k')) #[] #[])).setCell 3 (.func (.func (qAr k')) #[] #[])).setCell 4 (.func (.func (qA6 k')) #[] #[])).setCell 5 (.func (.func (qA9 k')) #[] #[]));have HFP:=hide (show Keeps (λi=>i=w.heap.size+1) wd _ from(((((((Keeps.refl (λi=>i=w.heap.size+1) wd).setCell (p:=⟨w.heap.size+1,0,none⟩) (Or.inl rfl) (.func (.func (qBw k')) #[] #[])).setCell (p:=⟨w.heap.size+1,1,none⟩) (Or.inl rfl) (.func (.func (qA7 k')) #[] #[])).setCell (p:=⟨w.heap.size+1,2,none⟩) (Or.inl rfl) (.func (.func (qA8 k')) #[] #[])).setCell (p:=⟨w.heap.size+1,3,none⟩) (Or.inl rfl) (.func (.func (qAr k')) #[] #[])).setCell (p:=⟨w.heap.size+1,4,none⟩) (Or.inl rfl) (.func (.func (qA6 k')) #[] #[])).setCell (p:=⟨w.heap.size+1,5,none⟩) (Or.inl rfl) (.func (.func (qA9 k')) #[] #[])));go_region
   go_wp2
   clear t0 t1 t2 t3 t4 t5 u0 u1 u2 u3 u4 u5 r0 r1 r2 r3 r4 r5 rf hst hva hha;generalize(((((wd.setCell ⟨w.heap.size+1,0,none⟩ (.func (.func (qBw k')) #[] #[])).setCell ⟨w.heap.size+1,1,none⟩ (.func (.func (qA7 k')) #[] #[])).setCell ⟨w.heap.size+1,2,none⟩ (.func (.func (qA8 k')) #[] #[])).setCell ⟨w.heap.size+1,3,none⟩ (.func (.func (qAr k')) #[] #[])).setCell ⟨w.heap.size+1,4,none⟩ (.func (.func (qA6 k')) #[] #[])).setCell ⟨w.heap.size+1,5,none⟩ (.func (.func (qA9 k')) #[] #[])=we at *;have HFC:=hide ((uh HBD).keeps (uh HFP) (show ¬(w.heap.size=w.heap.size+1) by omega));have hrd1:=(uh HRD).keeps (uh HKD2) (show ¬(r=w.heap.size) by omega);have HFR:=hide (hrd1.keeps (uh HFP) (show ¬(r=w.heap.size+1) by omega));have HFQ:=hide (((uh HKP).trans (uh HKD2) (λi hi hlt=>by have hi2:i=w.heap.size:=hi;omega)).trans (uh HFP) (λi hi hlt=>by have hi2:i=w.heap.size+1:=hi;omega));have HLV:=hide (show(loadVar 32 ⟨w.heap.size,0,none⟩).run Tryz.prog we=.ok (.agg D.cells.toArray) we from run_loadVar_mid we w.heap.size 0 32 D.cells _ (λj v hv=>by rw[Nat.zero_add];exact(uh HFC).cell hv) Tryz.underlying32 rfl (by rw[qOk];rfl));have HLK:=hide (show(loadVar 83 ⟨w.heap.size+1,0,none⟩).run Tryz.prog we=.ok (.agg #[.func (.func (qBw k')) #[] #[],.func (.func (qA7 k')) #[] #[],.func (.func (qA8 k')) #[] #[],.func (.func (qAr k')) #[] #[],.func (.func (qA6 k')) #[] #[],.func (.func (qA9 k')) #[] #[]]) we from run_loadVar_mid we (w.heap.size+1) 0 83 [.func (.func (qBw k')) #[] #[],.func (.func (qA7 k')) #[] #[],.func (.func (qA8 k')) #[] #[],.func (.func (qAr k')) #[] #[],.func (.func (qA6 k')) #[] #[],.func (.func (qA9 k')) #[] #[]] _ (λj v hv=>by rw[Nat.zero_add];exact(uh HFK).cell hv) Tryz.underlying83 rfl (by rw[zCf];rfl));refine bodyPost_ret (v:=.tuple #[D.val,.agg #[.func (.func (qBw k')) #[] #[],.func (.func (qA7 k')) #[] #[],.func (.func (qA8 k')) #[] #[],.func (.func (qAr k')) #[] #[],.func (.func (qA6 k')) #[] #[],.func (.func (qA9 k')) #[] #[]],.bool true]) (by simp[results,Tryz.results136,asAddr,uh HLV,uh HLK];rfl) rfl ?_;exact⟨by unfold qMv;simp only;rw[uh HVD];rfl,uh HFR,uh HFQ⟩
theorem qP7(r:Nat)(st:Option (List Nat))(w:World)(h:RdS w r st)(hq:inB (qAs 0 9223372036854775807 st).1 1 5=false):
  Calls Tryz.prog 136 #[.pointer (some ⟨r,0,none⟩)] w λe w'=>qMv ⟨zDd (qEd (qAs 0 9223372036854775807 st).1 0 [] [] []),0,(qAs 0 9223372036854775807 st).2,false⟩ e/\RdS w' r (qAs 0 9223372036854775807 st).2/\Keeps (λi=>i=r) w w':=by
 obtain⟨D,hD⟩:∃D,zDd (qEd (qAs 0 9223372036854775807 st).1 0 [] [] [])=D:=⟨_,rfl⟩;have HC1:=hide (show qLj qKz.cells [0] (qAy [0].length st).1=D.cells by rw[<-hD];rfl);have hkd:D.kind=(qAs 0 9223372036854775807 st).1:=by rw[<-hD];rfl
 have HS1:=hide (show(qAy [0].length st).2=(qAs 0 9223372036854775807 st).2 from rfl);rw[<-hkd]at hq;rw[hD];generalize(qAs 0 9223372036854775807 st).2=st4 at *;clear hD hkd;have HQ:=hide hq;obtain⟨W,hW⟩:∃W,W=(((w.alloc (.cells qKz.cells.toArray 32)).alloc (.cells #[.nilFunc,.nilFunc,.nilFunc,.nilFunc,.nilFunc,.nilFunc] 83)).alloc (.cells qKz.cells.toArray 32)).alloc (.cells (qC7 (at' (w.heap.size+1+1) [0])).toArray 170):=⟨_,rfl⟩;have hkW:Keeps (λ_=>False) w W:=by rw[hW];exact((((Keeps.refl _ _).alloc _).alloc _).alloc _).alloc _
 have HLC:=hide (show LCS w r (w.heap.size+1+1) qKz st W from
    ⟨by rw[hW];exact(Blk.newAt (by simp) _ _).alloc _,by rw[hW];exact(((Blk.new w _ _).alloc _).alloc _).alloc _,by rw[hW];exact((Blk.newAt (by simp) _ _).alloc _).alloc _,h.keeps hkW (λh=>h),hkW.mono (λ_ _ h=>h.elim),rfl,h.lt⟩)
 have HOW:=hide (show W.ownsRow (w.heap.size+1+1+1) 170 1 (.slice (some ⟨w.heap.size+1+1+1,0,none⟩) 1 1) (at' (w.heap.size+1+1) [0]).length (qC7 (at' (w.heap.size+1+1) [0])) by
    have hz:(((w.alloc (.cells qKz.cells.toArray 32)).alloc (.cells #[.nilFunc,.nilFunc,.nilFunc,.nilFunc,.nilFunc,.nilFunc] 83)).alloc (.cells qKz.cells.toArray 32)).heap.size=w.heap.size+1+1+1:=by simp
    have:=qD0 (w:=((w.alloc (.cells qKz.cells.toArray 32)).alloc (.cells #[.nilFunc,.nilFunc,.nilFunc,.nilFunc,.nilFunc,.nilFunc] 83)).alloc (.cells qKz.cells.toArray 32)) (w':=W) (ps:=at' (w.heap.size+1+1) [0]) (n:=1) rfl (by omega) (by rw[hW];exact heap_alloc_new _ _);rw[hz]at this
    exact this)
 have HW0:=hide (show(((w.alloc (.cells #[.int .i64 0,.int .i64 0,.int .i64 0,.int .i64 0,.int .i64 0,.int .i64 0,.int .i64 0,.int .i64 0,.int .i64 0,.int .i64 0,.int .i64 0,.int .i64 0,.int .i64 0,.int .i64 0,.int .i64 0,.int .i64 0,.int .i64 0,.int .i64 0,.int .i64 0,.int .i64 0] 32)).alloc (.cells #[.nilFunc,.nilFunc,.nilFunc,.nilFunc,.nilFunc,.nilFunc] 83)).alloc (.cells #[.int .i64 0,.int .i64 0,.int .i64 0,.int .i64 0,.int .i64 0,.int .i64 0,.int .i64 0,.int .i64 0,.int .i64 0,.int .i64 0,.int .i64 0,.int .i64 0,.int .i64 0,.int .i64 0,.int .i64 0,.int .i64 0,.int .i64 0,.int .i64 0,.int .i64 0,.int .i64 0] 32)).alloc (.cells #[.pointer (some ⟨w.heap.size+1+1,0,none⟩)] 170)=W from hW.symm);clear hW hkW h hq;go_enter Tryz.func136,Tryz.ntmps136
 go_wp2_with fail
 rw[uh HW0];refine(qHp (d':=D) (uh HLC) (uh HOW) (uh HC1) (by simp) (λi hi=>by have:w.heap.size+1+1+1=i:=(by simpa[Value.ownBlock] using hi);omega) (by simp)).mono ?_;rintro e w1 ⟨rfl,hl1,hk1⟩;rw[uh HS1]at hl1;have HL1:=hide hl1;clear hl1 hk1 HLC HOW HW0;generalize hcb:w.heap.size+1+1=cb at *;have HCB:=hide hcb;have c0:w1.cell? ⟨cb,0,none⟩=some (.int .i64 D.kind):=(uh HL1).cfg.cell rfl;clear hcb;go_wp2_with fail
 refine(zAu D.kind w1 (uh HQ)).mono ?_;rintro e w2 ⟨rfl,hk2⟩;have HT2:=hide (Blk.new w2 [.nilFunc,.nilFunc,.nilFunc,.nilFunc,.nilFunc,.nilFunc] 83);have HL2:=hide ((uh HL1).still (hk2.alloc (.cells #[.nilFunc,.nilFunc,.nilFunc,.nilFunc,.nilFunc,.nilFunc] 83)));have hlt2:cb<w2.heap.size:=((uh HL1).cfg.keeps hk2 (λh=>h)).lt;have HKB:=hide (show cb+1<=w2.heap.size by omega);clear hk2 c0 HL1;go_wp2_with fail
 generalize hkb:w2.heap.size=kb at *;generalize w2.alloc (.cells #[.nilFunc,.nilFunc,.nilFunc,.nilFunc,.nilFunc,.nilFunc] 83)=w3 at *;clear hkb w2;have hKB:=uh HKB;have hCB:=uh HCB;have hRL:=(uh HL2).rl;have HKC3:=hide ((Keeps.refl (λ_=>False) w3).drew);have HLB:=HL2;have HCC:=hide (show Blk w3.drew cb D.cells 32 from(uh HLB).cfg.keeps (uh HKC3) (λh=>h));have HRC:=hide (show Blk w3.drew w.heap.size qKz.cells 32 from(uh HLB).rcf.keeps (uh HKC3) (λh=>h));have HRK:=hide (show Blk w3.drew (w.heap.size+1) [.nilFunc,.nilFunc,.nilFunc,.nilFunc,.nilFunc,.nilFunc] 83 from(uh HLB).rkd.keeps (uh HKC3) (λh=>h));have HRD:=hide (show RdS w3.drew r st4 from(uh HLB).rd.keeps (uh HKC3) (λh=>h));have HKP:=hide (show Keeps (λi=>i=r) w w3.drew from(uh HLB).kp.trans (uh HKC3) (λi hi hlt=>hi.elim));have HTD:=hide (show Blk w3.drew kb [.nilFunc,.nilFunc,.nilFunc,.nilFunc,.nilFunc,.nilFunc] 83 from(uh HT2).keeps (uh HKC3) (λh=>h));obtain⟨hva,hha⟩:=qBl (uh HCC) 20 rfl;have hst:=qEz D (uh HRC) rfl;have hBD:=Blk.setCells D.cells 0 w3.drew _ (uh HRC) (by show 0+20<=20;omega);rw[qJa _ _ (by rfl)]at hBD;have hKD:Keeps (λi=>i=w.heap.size) w3.drew (w3.drew.setCells w.heap.size 0 D.cells):=Keeps.setCells (M:=λi=>i=w.heap.size) (b:=w.heap.size) (Or.inl rfl) _ _ _ (Keeps.refl _ _);have HKD2:=hide hKD;have HBD:=hide hBD;have HTE:=hide ((uh HTD).keeps hKD (show ¬(kb=w.heap.size) by omega));have HRE:=hide ((uh HRK).keeps hKD (show ¬(w.heap.size+1=w.heap.size) by omega));generalize w3.drew.setCells w.heap.size 0 D.cells=wd at *;clear hBD hKD;have t0:w3.cell? ⟨kb,0,none⟩=some (.nilFunc):=(uh HTD).cell (i:=0) rfl;have t1:w3.cell? ⟨kb,1,none⟩=some (.nilFunc):=(uh HTD).cell (i:=1) rfl;have t2:w3.cell? ⟨kb,2,none⟩=some (.nilFunc):=(uh HTD).cell (i:=2) rfl;have t3:w3.cell? ⟨kb,3,none⟩=some (.nilFunc):=(uh HTD).cell (i:=3) rfl;have t4:w3.cell? ⟨kb,4,none⟩=some (.nilFunc):=(uh HTD).cell (i:=4) rfl;have t5:w3.cell? ⟨kb,5,none⟩=some (.nilFunc):=(uh HTD).cell (i:=5) rfl;have u0:=(uh HTE).cell (i:=0) rfl;have u1:=(uh HTE).cell (i:=1) rfl;have u2:=(uh HTE).cell (i:=2) rfl;have u3:=(uh HTE).cell (i:=3) rfl;have u4:=(uh HTE).cell (i:=4) rfl;have u5:=(uh HTE).cell (i:=5) rfl;have r0:=(uh HRE).cell (i:=0) rfl;have r1:=(uh HRE).cell (i:=1) rfl;have r2:=(uh HRE).cell (i:=2) rfl;have r3:=(uh HRE).cell (i:=3) rfl;have r4:=(uh HRE).cell (i:=4) rfl;have r5:=(uh HRE).cell (i:=5) rfl;have rf:=(uh HRE).frozen;have HFK:=hide (((((((uh HRE).setCell 0 (.nilFunc)).setCell 1 (.nilFunc)).setCell 2 (.nilFunc)).setCell 3 (.nilFunc)).setCell 4 (.nilFunc)).setCell 5 (.nilFunc));have HFP:=hide (show Keeps (λi=>i=w.heap.size+1) wd _ from(((((((Keeps.refl (λi=>i=w.heap.size+1) wd).setCell (p:=⟨w.heap.size+1,0,none⟩) (Or.inl rfl) (.nilFunc)).setCell (p:=⟨w.heap.size+1,1,none⟩) (Or.inl rfl) (.nilFunc)).setCell (p:=⟨w.heap.size+1,2,none⟩) (Or.inl rfl) (.nilFunc)).setCell (p:=⟨w.heap.size+1,3,none⟩) (Or.inl rfl) (.nilFunc)).setCell (p:=⟨w.heap.size+1,4,none⟩) (Or.inl rfl) (.nilFunc)).setCell (p:=⟨w.heap.size+1,5,none⟩) (Or.inl rfl) (.nilFunc)));go_region
 go_wp2
 clear t0 t1 t2 t3 t4 t5 u0 u1 u2 u3 u4 u5 r0 r1 r2 r3 r4 r5 rf hst hva hha;generalize(((((wd.setCell ⟨w.heap.size+1,0,none⟩ (.nilFunc)).setCell ⟨w.heap.size+1,1,none⟩ (.nilFunc)).setCell ⟨w.heap.size+1,2,none⟩ (.nilFunc)).setCell ⟨w.heap.size+1,3,none⟩ (.nilFunc)).setCell ⟨w.heap.size+1,4,none⟩ (.nilFunc)).setCell ⟨w.heap.size+1,5,none⟩ (.nilFunc)=we at *;have HFC:=hide ((uh HBD).keeps (uh HFP) (show ¬(w.heap.size=w.heap.size+1) by omega));have hrd1:=(uh HRD).keeps (uh HKD2) (show ¬(r=w.heap.size) by omega);have HFR:=hide (hrd1.keeps (uh HFP) (show ¬(r=w.heap.size+1) by omega));have HFQ:=hide (((uh HKP).trans (uh HKD2) (λi hi hlt=>by have hi2:i=w.heap.size:=hi;omega)).trans (uh HFP) (λi hi hlt=>by have hi2:i=w.heap.size+1:=hi;omega));have HLV:=hide (show(loadVar 32 ⟨w.heap.size,0,none⟩).run Tryz.prog we=.ok (.agg D.cells.toArray) we from run_loadVar_mid we w.heap.size 0 32 D.cells _ (λj v hv=>by rw[Nat.zero_add];exact(uh HFC).cell hv) Tryz.underlying32 rfl (by rw[qOk];rfl));have HLK:=hide (show(loadVar 83 ⟨w.heap.size+1,0,none⟩).run Tryz.prog we=.ok (.agg #[.nilFunc,.nilFunc,.nilFunc,.nilFunc,.nilFunc,.nilFunc]) we from run_loadVar_mid we (w.heap.size+1) 0 83 [.nilFunc,.nilFunc,.nilFunc,.nilFunc,.nilFunc,.nilFunc] _ (λj v hv=>by rw[Nat.zero_add];exact(uh HFK).cell hv) Tryz.underlying83 rfl (by rw[zCf];rfl));refine bodyPost_ret (v:=.tuple #[D.val,.agg #[.nilFunc,.nilFunc,.nilFunc,.nilFunc,.nilFunc,.nilFunc],.bool false]) (by simp[results,Tryz.results136,asAddr,uh HLV,uh HLK];rfl) rfl ?_;exact⟨rfl,uh HFR,uh HFQ⟩
theorem qIn(r:Nat)(st:Option (List Nat))(w:World)(h:RdS w r st):
  Calls Tryz.prog 136 #[.pointer (some ⟨r,0,none⟩)] w λe w'=>qMv (qMl st) e/\RdS w' r (qMl st).st/\Keeps (λi=>i=r) w w':=by
 cases hq:inB (qAs 0 9223372036854775807 st).1 1 5 with
 | false =>
  have e:qMl st=⟨zDd (qEd (qAs 0 9223372036854775807 st).1 0 [] [] []),0,(qAs 0 9223372036854775807 st).2,false⟩:=by unfold qMl;simp only;rw[if_neg (by rw[hq];simp)]
  rw[e];exact qP7 r st w h hq
 | true =>
  obtain⟨a,b⟩:=qCq hq;obtain⟨k,hk⟩:=Int.eq_ofNat_of_zero_le (show 0<=(qAs 0 9223372036854775807 st).1 by omega);have e:qMl st=qUc (k:Int) k (qAs 0 9223372036854775807 st).2:=by unfold qMl;simp only;rw[if_pos hq,hk,Int.toNat_natCast]
  rw[e];exact qR3 r k st w h hk (by omega) (by omega)
end
section
open Go.RowKit
def qGb(m acc rel:Int)(nv:Value): List Value:=[.int .i64 m,.int .i64 acc,.int .i64 rel,nv]
end
section
open Go.RowKit
attribute [local go_sem ↓] qAd qCs
attribute [local go_sem] qAf qAc qAb qAm qAn qAi qAj qAh qAk
theorem ixk(k j:Nat)(h:qCp[k]?=some j)(w:World): (Instr.index 134 (.agg #[.int .i64 5,.int .i64 6,.int .i64 7,.int .i64 8,.int .i64 10,.int .i64 9,.int .i64 11]) (.int .i64 (k:Int))).run Tryz.prog w=.ok (.int .i64 (j:Int)) w:=by
 have hk:k<7:=by have:=(List.getElem?_eq_some_iff.1 h).1;exact this
 have hk7:k=0\/k=1\/k=2\/k=3\/k=4\/k=5\/k=6:=by omega
 rcases hk7 with e | e | e | e | e | e | e
 all_goals
  subst e;have hj:=Option.some.inj h;rw[<-hj];clear hj h
 ·exact ix0 w
 ·exact ix1 w
 ·exact ix2 w
 ·exact ix3 w
 ·exact ix4 w
 ·exact ix5 w
 ·exact ix6 w
def qEg(c:Cfg)(clock:Int): Int :=
 let t:=if 0<(if clock-c.lag+1<clock then clock-c.lag+1 else clock) then(if clock-c.lag+1<clock then clock-c.lag+1 else clock) else 0
 if 4611686018427387904/c.cap<t then 4611686018427387904 else c.cap*t
theorem zAq(sb:SB)(x:Ser)(clock:Int)(w:World)(h:SRep w sb x)(l0:0<=x.c.lag)(l1:x.c.lag<=100)(p0:1<=x.c.cap)(p1:x.c.cap<=8)(c0:0<=clock)(c1:clock<=4611686018427387904):
  Calls Tryz.prog 137 #[.pointer (some ⟨sb.s,0,none⟩),.int .i64 clock] w λe w'=>e=.returned (.int .i64 (qEg x.c clock))/\w'=w:=by
 have hl:w.cell? ⟨sb.s,2,none⟩=some (.int .i64 x.c.lag):=h.blk.cell rfl;have hp:w.cell? ⟨sb.s,4,none⟩=some (.int .i64 x.c.cap):=h.blk.cell rfl;have HW:=hide (qK8 sb.s x.c.lag clock w hl l0 l1 c0 c1);clear h hl;obtain⟨m,hm,hm1⟩:∃m,(if clock-x.c.lag+1<clock then clock-x.c.lag+1 else clock)=m/\m<=clock:=⟨_,rfl,by split <;> omega⟩;obtain⟨t,ht,ht1,ht0⟩:∃t,(if 0<m then m else 0)=t/\t<=clock/\0<=t:=⟨_,rfl,by split <;> omega,by split <;> omega⟩;have HM:=hide (show qEg x.c clock=if 4611686018427387904/x.c.cap<t then 4611686018427387904 else x.c.cap*t by unfold qEg;simp only;rw[hm,ht]);have wa:IntKind.i64.wrap (clock-x.c.lag+1)=clock-x.c.lag+1:=by rw[IntKind.wrap_i64];omega
 have hq:(4611686018427387904:Int).tdiv x.c.cap=4611686018427387904/x.c.cap:=Int.tdiv_eq_ediv_of_nonneg (by omega);generalize x.c.cap=cp at *;generalize x.c.lag=lg at *;have hD0:0<=4611686018427387904/cp:=Int.ediv_nonneg (by omega) (by omega);have hD1:4611686018427387904/cp<=4611686018427387904:=Int.ediv_le_self _ (by omega);have hwq:wrap64 (4611686018427387904/cp)=4611686018427387904/cp:=by
  have:=IntKind.wrap_i64 (4611686018427387904/cp);unfold wrap64;omega
 have hcd:4611686018427387904/cp<t\/(t<=4611686018427387904/cp/\IntKind.i64.wrap (cp*t)=cp*t):=by
  by_cases h:4611686018427387904/cp<t
  ·exact .inl h
  ·refine .inr ⟨by omega,?_⟩
   have h1:cp*t<=4611686018427387904:=by
    have h2:t<=4611686018427387904/cp:=by omega
    have h3:=Int.mul_le_mul_of_nonneg_left h2 (show 0<=cp by omega);have h4:=Int.mul_ediv_self_le (x:=4611686018427387904) (k:=cp) (by omega);omega
   have h0:0<=cp*t:=Int.mul_nonneg (by omega) ht0;rw[IntKind.wrap_i64];omega
 by_cases h1:clock-lg+1<clock
 all_goals
  by_cases h2:0<m
  all_goals
   rcases hcd with h3 | ⟨h3,h4⟩
   all_goals
    first | rw[if_pos h1]at hm | rw[if_neg h1]at hm
    first | rw[if_pos h2]at ht | rw[if_neg h2]at ht
    subst ht;subst hm
   all_goals
    first
     | (exfalso;omega)
     | (go_enter Tryz.func137,Tryz.ntmps137
        go_wp2_with fail
        refine(uh HW).mono ?_;rintro e w1 ⟨rfl,hw1⟩;rw[hw1];clear hw1 w1;go_wp2
        go_ret
        exact⟨by rw[uh HM];first | (rw[if_pos (by omega)];rfl) | (rw[if_neg (by omega)];simp[go_sem];done),rfl⟩)
end
end Go.Proofs.YtahnliehdjncdabGreatDoor
