import Derived.Test.YtahnliehdjncdabGreatDoorXBL
set_option maxRecDepth 100000
set_option maxHeartbeats 16000000
namespace Go.Proofs.YtahnliehdjncdabGreatDoor
section
open Go.RowKit
attribute [local go_sem ↓] qAd qCs
attribute [local go_sem] qAf qAc qAb qAm qAn qAi qAj qAh qAk
theorem qSv(n:Nat): ∀k f st,(qJ3 n k f st).1.length=f.length:=by
 induction n with
 | zero=>intro k f st;rfl
 | succ n ih=>intro k f st;unfold qJ3;rw[ih,List.length_set]
theorem qUt(a b:Int): qPh a b<=a/\qPh a b<=b/\(0<=a->0<=b->0<=qPh a b):=by unfold qPh;split <;> omega
theorem qVg(r:Nat)(clock id:Int)(C:CfgD)(st st1:Option (List Nat))(w:World)(h:RdS w r st)(hN:qAs 0 99 st=(id,st1))(hC:qMl st1=C)(hg:C.good=true)(cl0:0<=clock)(cl1:clock<=4611686018427387904):
  Calls Tryz.prog 89 #[.pointer (some ⟨r,0,none⟩),.int .i64 clock] w λe w'=>zFz w w' (qVu id clock C).1 e/\RdS w' r (qVu id clock C).2/\Keeps (λi=>i=r) w w':=by
 have HN:=hide (qCd r 0 99 st w h);rw[hN]at HN;have HLC:=hide (λw h=>qIn r st1 w h);rw[hC]at HLC;have hgd:=qRc (st:=st1) (by rw[hC];exact hg);rw[hC]at hgd;obtain⟨hva0,hkd0,h1,h5⟩:=hgd;have HG:=hide hg;have hrl:=h.lt;obtain⟨C0,k,stC,gd⟩:=C;simp only at hva0 hkd0 h1 h5 hg;obtain⟨ck,hck⟩:∃ck,C0=ck:=⟨_,rfl⟩;subst hck;have HVV:=hide hva0;have HVK:=hide hkd0;obtain⟨lg0,lg1,_,_,cp0,cp1⟩:=qG8 hva0;unfold qVu;simp only;obtain⟨F,hF⟩:∃F,qJ3 7 0 [0,0,0,0,0,0,0,0,0,0,0,0] stC=F:=⟨_,rfl⟩;rw[hF];have hfl:=qSv 7 0 [0,0,0,0,0,0,0,0,0,0,0,0] stC;rw[hF]at hfl;obtain⟨f,st2⟩:=F;simp only at hfl ⊢;have hmb:=qVz C0 clock cp0;have hb1:=qB4 0 (qEg C0 clock) st2;obtain⟨rl,hrlE⟩:∃rl,qAs 0 (qEg C0 clock) st2=rl:=⟨_,rfl⟩;rw[hrlE]at hb1 ⊢;obtain⟨rel,st3⟩:=rl;simp only at hb1 ⊢;obtain⟨rl0,rl2⟩:0<=rel/\rel<=4611686018427387904:=by omega
 have hmd:=qUt C0.cap (4611686018427387904-rel);have hb2:=qB4 0 (qPh C0.cap (4611686018427387904-rel)) st3;obtain⟨wt,hwtE⟩:∃wt,qAs 0 (qPh C0.cap (4611686018427387904-rel)) st3=wt:=⟨_,rfl⟩;rw[hwtE]at hb2 ⊢;obtain⟨L0,st4⟩:=wt;simp only at hb2 ⊢;obtain⟨L,rfl⟩:∃L:Nat,L0=(L:Int):=⟨L0.toNat,by omega⟩;rw[Int.toNat_natCast];have hLc:(L:Int)<=8:=by omega
 have hLA:rel+(L:Int)<=4611686018427387904:=by omega
 obtain⟨A,hA⟩:∃A,rel+(L:Int)=A:=⟨_,rfl⟩;rw[hA]at hLA ⊢;have HA:=hide hA;obtain⟨S,hS⟩:∃S,qV7 ⟨id,C0,k,0,rel,f,[],qC9,0⟩ clock A L ⟨[],[],st4⟩=S:=⟨_,rfl⟩;rw[hS];have HS:=hide hS;obtain⟨Nt,hNt⟩:∃Nt,ldN k C0 (clock-C0.lag) A rel S.ns S.st=Nt:=⟨_,rfl⟩;rw[hNt];have HNt:=hide hNt;have HF:=hide hF;have HRL:=hide hrlE;have HWT:=hide hwtE;clear h hN hC hg hva0 hkd0 hF hmb hb1 hrlE hb2 hwtE hA hS hNt hmd;go_enter Tryz.func89,Tryz.ntmps89
 go_wp2_with fail
 refine(uh HN).mono ?_;rintro e w1 ⟨rfl,hr1,hk1⟩;have HR1:=hide hr1;have HK1:=hide hk1;clear hr1 hk1 HN;go_wp2_with fail
 refine(uh HLC _ (uh HR1)).mono ?_;rintro e w2 ⟨ho,hr2,hk2⟩;unfold qMv at ho;rw[uh HG,if_pos rfl]at ho;subst ho;have HR2:=hide hr2;have HK2:=hide ((uh HK1).then hk2);have hs2:=(uh HK2).size;clear hr2 hk2 HK1 HR1 HLC HG;obtain⟨ck,hck⟩:∃ck,C0=ck:=⟨_,rfl⟩;simp only;subst hck;have hval:C0.val=.agg C0.cells.toArray:=rfl;rw[hval];unfold qBc fn;clear hval;have HC0:=hide (show Blk ((w2.alloc (.cells #[.int .i64 0,.int .i64 0,.int .i64 0,.int .i64 0,.int .i64 0,.int .i64 0,.int .i64 0,.int .i64 0,.int .i64 0,.int .i64 0,.int .i64 0,.int .i64 0,.int .i64 0,.int .i64 0,.int .i64 0,.int .i64 0,.int .i64 0,.int .i64 0,.int .i64 0,.int .i64 0] 32)).alloc (.cells #[.nilFunc,.nilFunc,.nilFunc,.nilFunc,.nilFunc,.nilFunc] 83)) w2.heap.size qKz.cells 32 from(Blk.new w2 _ _).alloc _);have HN0:=hide (show Blk ((w2.alloc (.cells #[.int .i64 0,.int .i64 0,.int .i64 0,.int .i64 0,.int .i64 0,.int .i64 0,.int .i64 0,.int .i64 0,.int .i64 0,.int .i64 0,.int .i64 0,.int .i64 0,.int .i64 0,.int .i64 0,.int .i64 0,.int .i64 0,.int .i64 0,.int .i64 0,.int .i64 0,.int .i64 0] 32)).alloc (.cells #[.nilFunc,.nilFunc,.nilFunc,.nilFunc,.nilFunc,.nilFunc] 83)) (w2.heap.size+1) [.nilFunc,.nilFunc,.nilFunc,.nilFunc,.nilFunc,.nilFunc] 83 from Blk.newAt (by simp) _ _);have HKW:=hide (show Keeps (λ_=>False) w2 ((w2.alloc (.cells #[.int .i64 0,.int .i64 0,.int .i64 0,.int .i64 0,.int .i64 0,.int .i64 0,.int .i64 0,.int .i64 0,.int .i64 0,.int .i64 0,.int .i64 0,.int .i64 0,.int .i64 0,.int .i64 0,.int .i64 0,.int .i64 0,.int .i64 0,.int .i64 0,.int .i64 0,.int .i64 0] 32)).alloc (.cells #[.nilFunc,.nilFunc,.nilFunc,.nilFunc,.nilFunc,.nilFunc] 83)) from((Keeps.refl _ _).alloc _).alloc _);obtain⟨WA,hWA⟩:∃WA,WA=((w2.alloc (.cells #[.int .i64 0,.int .i64 0,.int .i64 0,.int .i64 0,.int .i64 0,.int .i64 0,.int .i64 0,.int .i64 0,.int .i64 0,.int .i64 0,.int .i64 0,.int .i64 0,.int .i64 0,.int .i64 0,.int .i64 0,.int .i64 0,.int .i64 0,.int .i64 0,.int .i64 0,.int .i64 0] 32)).alloc (.cells #[.nilFunc,.nilFunc,.nilFunc,.nilFunc,.nilFunc,.nilFunc] 83)).setCells w2.heap.size 0 C0.cells:=⟨_,rfl⟩;have hst:(qDr 32 (.pointer (some ⟨w2.heap.size,0,none⟩)) (.agg C0.cells.toArray)).run Tryz.prog ((w2.alloc (.cells #[.int .i64 0,.int .i64 0,.int .i64 0,.int .i64 0,.int .i64 0,.int .i64 0,.int .i64 0,.int .i64 0,.int .i64 0,.int .i64 0,.int .i64 0,.int .i64 0,.int .i64 0,.int .i64 0,.int .i64 0,.int .i64 0,.int .i64 0,.int .i64 0,.int .i64 0,.int .i64 0] 32)).alloc (.cells #[.nilFunc,.nilFunc,.nilFunc,.nilFunc,.nilFunc,.nilFunc] 83))=.ok .skip WA:=by
  rw[hWA];exact qEz C0 (uh HC0) rfl
 have HCA:=hide (show Blk WA w2.heap.size C0.cells 32 by
    have:=Blk.setCells C0.cells 0 _ _ (uh HC0) (by show 0+20<=20;omega);rw[qJa _ _ (by rfl),<-hWA]at this
    exact this)
 have hkA:Keeps (λi=>i=w2.heap.size) ((w2.alloc (.cells #[.int .i64 0,.int .i64 0,.int .i64 0,.int .i64 0,.int .i64 0,.int .i64 0,.int .i64 0,.int .i64 0,.int .i64 0,.int .i64 0,.int .i64 0,.int .i64 0,.int .i64 0,.int .i64 0,.int .i64 0,.int .i64 0,.int .i64 0,.int .i64 0,.int .i64 0,.int .i64 0] 32)).alloc (.cells #[.nilFunc,.nilFunc,.nilFunc,.nilFunc,.nilFunc,.nilFunc] 83)) WA:=by
  rw[hWA];exact Keeps.setCells (M:=λi=>i=w2.heap.size) (b:=w2.heap.size) (Or.inl rfl) _ _ _ (Keeps.refl _ _)
 have HKA:=hide ((uh HN0).keeps hkA (show ¬(w2.heap.size+1=w2.heap.size) by omega));have HPA:=hide (show Keeps (λ_=>False) w2 WA from(uh HKW).trans hkA (λi hi hlt=>by have hi2:i=w2.heap.size:=hi;omega));have n0:=(uh HKA).cell (i:=0) rfl;have n1:=(uh HKA).cell (i:=1) rfl;have n2:=(uh HKA).cell (i:=2) rfl;have n3:=(uh HKA).cell (i:=3) rfl;have n4:=(uh HKA).cell (i:=4) rfl;have n5:=(uh HKA).cell (i:=5) rfl;have nf:=(uh HKA).frozen;have HTB:=hide (show Blk _ (w2.heap.size+1) [.func (.func (qBw k)) #[] #[],.func (.func (qA7 k)) #[] #[],.func (.func (qA8 k)) #[] #[],.func (.func (qAr k)) #[] #[],.func (.func (qA6 k)) #[] #[],.func (.func (qA9 k)) #[] #[]] 83 from(((((((uh HKA).setCell 0 (.func (.func (qBw k)) #[] #[])).setCell 1 (.func (.func (qA7 k)) #[] #[])).setCell 2 (.func (.func (qA8 k)) #[] #[])).setCell 3 (.func (.func (qAr k)) #[] #[])).setCell 4 (.func (.func (qA6 k)) #[] #[])).setCell 5 (.func (.func (qA9 k)) #[] #[])));have HPB:=hide (show Keeps (λi=>i=w2.heap.size+1) WA _ from(((((((Keeps.refl (λi=>i=w2.heap.size+1) WA).setCell (p:=⟨w2.heap.size+1,0,none⟩) (Or.inl rfl) (.func (.func (qBw k)) #[] #[])).setCell (p:=⟨w2.heap.size+1,1,none⟩) (Or.inl rfl) (.func (.func (qA7 k)) #[] #[])).setCell (p:=⟨w2.heap.size+1,2,none⟩) (Or.inl rfl) (.func (.func (qA8 k)) #[] #[])).setCell (p:=⟨w2.heap.size+1,3,none⟩) (Or.inl rfl) (.func (.func (qAr k)) #[] #[])).setCell (p:=⟨w2.heap.size+1,4,none⟩) (Or.inl rfl) (.func (.func (qA6 k)) #[] #[])).setCell (p:=⟨w2.heap.size+1,5,none⟩) (Or.inl rfl) (.func (.func (qA9 k)) #[] #[])));clear hWA hkA HC0 HN0 HKW;obtain⟨WB,hWB⟩:∃WB,WB=((((((WA.setCell ⟨w2.heap.size+1,0,none⟩ (.func (.func (qBw k)) #[] #[])).setCell ⟨w2.heap.size+1,1,none⟩ (.func (.func (qA7 k)) #[] #[])).setCell ⟨w2.heap.size+1,2,none⟩ (.func (.func (qA8 k)) #[] #[])).setCell ⟨w2.heap.size+1,3,none⟩ (.func (.func (qAr k)) #[] #[])).setCell ⟨w2.heap.size+1,4,none⟩ (.func (.func (qA6 k)) #[] #[])).setCell ⟨w2.heap.size+1,5,none⟩ (.func (.func (qA9 k)) #[] #[])):=⟨_,rfl⟩;rw[<-hWB]at HTB HPB;have HCB:=hide ((uh HCA).keeps (uh HPB) (show ¬(w2.heap.size=w2.heap.size+1) by omega));have HPC:=hide (show Keeps (λ_=>False) w2 WB from(uh HPA).trans (uh HPB) (λi hi hlt=>by have hi2:i=w2.heap.size+1:=hi;omega));have hWB':=hWB.symm;clear hWB HPA HPB HCA HKA;obtain⟨hva,hha⟩:=qBl (uh HCB) 20 rfl;have t0:=(uh HTB).cell (i:=0) rfl;have t1:=(uh HTB).cell (i:=1) rfl;have t2:=(uh HTB).cell (i:=2) rfl;have t3:=(uh HTB).cell (i:=3) rfl;have t4:=(uh HTB).cell (i:=4) rfl;have t5:=(uh HTB).cell (i:=5) rfl;go_wp2_with fail
 refine(qJc id C0 k WB h1 h5 (uh HVV) (uh HVK)).mono ?_;rintro e w3 ⟨sb,rfl,hs3,hn3,hk3⟩;have hkr:=hs2
 have HL3:=hide (show LSs w r sb (qCe id C0 k) stC w3 from
    ⟨hs3,(uh HR2).keeps ((uh HPC).then hk3) (λh=>h),(uh HK2).trans ((uh HPC).then hk3) (λ_ h _=>h.elim),λi hi=>by have h1:=hn3 i hi;have h2:=(uh HPC).size;omega,hrl⟩)
 have HC3:=hide ((uh HCB).keeps hk3 (λh=>h));have HT3:=hide ((uh HTB).keeps hk3 (λh=>h));have HSN1:=hide (show sb.s≠w2.heap.size+1 by have h1:=hn3 sb.s (.inl rfl);have h2:=(uh HTB).lt;omega);have HFT:=hide (show ∀i,sb.foot k i->w2.heap.size+1<i from λi hi=>by have h1:=hn3 i hi;have h2:=(uh HTB).lt;omega);have HRC:=hide (show r<w2.heap.size by omega);have HSN:=hide (show sb.s≠w2.heap.size by have h1:=hn3 sb.s (.inl rfl);have h2:=(uh HCB).lt;omega);have HCR:=hide (show w2.heap.size≠r by omega);clear hs3 hn3 hk3 hst hWB' n0 n1 n2 n3 n4 n5 nf t0 t1 t2 t3 t4 t5 hva hha HR2 HPC HCB HTB HK2;generalize hcb:w2.heap.size=cb at *;clear hcb;go_wp2_with fail
 refine(qQz w3).mono ?_;rintro e w4 ⟨rfl,hk4⟩;have HL4:=hide ((uh HL3).still hk4);have HC4:=hide ((uh HC3).keeps hk4 (λh=>h));have HT4:=hide (show Blk w4 (cb+1) (zHe k) 83 from(uh HT3).keeps hk4 (λh=>h));clear hk4 HL3 HC3;go_wp2_with fail
 go_loopw [30] (λiv wr=>∃(j:Nat) (fr:List Int) (sg:Option (List Nat)),j<=7/\iv=.int .i64 j/\fr.length=12/\Hid (qJ3 (7-j) j fr sg=(f,st2))/\Hid (LSs w r sb { qCe id C0 k with ref:=fr } sg wr)/\Hid (Blk wr cb C0.cells 32)/\Hid (Blk wr (cb+1) (zHe k) 83)) (λiv _=>7-(intOf iv).toNat)
 case atStart=>exact⟨0,_,_,by omega,rfl,rfl,HF,HL4,HC4,HT4⟩
 case round =>
  clear HL4 HC4 HT4 HF;obtain⟨i,fr,sg,hi7,rfl,hfr,HFr,HLr,HCr,HTr⟩:=hrel
  by_cases hk7:i<7
  ·obtain⟨j,hj⟩:∃j,qCp[i]?=some j:=⟨_,List.getElem?_eq_getElem (show i<qCp.length from hk7)⟩
   have hix:=ixk i j hj;have hj12:j<12:=by
    have hm:=List.mem_of_getElem? hj;simp[qCp]at hm;omega
   have hgd:qCp.getD i 0=j:=by rw[List.getD_eq_getElem?_getD,hj];rfl
   obtain⟨nn,hnn⟩:∃nn,7-i=nn+1:=⟨7-i-1,by omega⟩
   have HFn:=hide (show qJ3 nn (i+1) (fr.set j (qAs 0 4611686018427387904 sg).1) (qAs 0 4611686018427387904 sg).2=(f,st2) by
      have h:=uh HFr;rw[hnn,qJ3,hgd]at h
      exact h)
   obtain⟨v0,hv0⟩:∃v0,qAs 0 4611686018427387904 sg=v0:=⟨_,rfl⟩;obtain⟨v,sg2⟩:=v0;rw[hv0]at HFn;have HV:=hide hv0;clear HFr hgd hv0;simp only at HFn;have hki:(i:Int)<7:=by omega
   have hj0:(0:Int)<=(j:Int):=by omega
   have hj1:(j:Int)<12:=by omega
   go_wp2_with fail
   go_region_with (first | (go_at_call 88;refine(((uh HLr).still ((Keeps.refl (λ_=>False) wr).drew)).number 0 4611686018427387904 _ _ (uh HV)).mono ?_;rintro e w6 ⟨rfl,hl6,hk6⟩;have hc6:=hl6.ser.blk.cell (qDv sb _ hfr j hj12);have hf6:=hl6.ser.blk.frozen))
   have HL7:=hide (hl6.set (x2:={ qCe id C0 k with ref:=fr.set j v }) (35+j) (.int .i64 v) (qOz sb _ j _) rfl rfl rfl rfl);have HC6:=hide ((uh HCr).keeps (((Keeps.refl (λ_=>False) wr).drew.mono (M':=λi=>i=r) (λ_ _ h=>h.elim)).then hk6) (uh HCR));have HT7:=hide (((uh HTr).keeps (((Keeps.refl (λ_=>False) wr).drew.mono (M':=λi=>i=r) (λ_ _ h=>h.elim)).then hk6) (show ¬(cb+1=r) by have:=uh HRC;omega)).setCell_far (p:=⟨sb.s,35+j,none⟩) (uh HSN1) (.int .i64 v));have HC7:=hide ((uh HC6).setCell_far (p:=⟨sb.s,35+j,none⟩) (uh HSN) (.int .i64 v));clear hc6 hf6 hl6 hk6 HLr HCr HTr HV;go_wp2
   go_roundw
   case rel=>exact⟨i+1,fr.set j v,sg2,by omega,by go_num,by rw[List.length_set];exact hfr,by rw[show 7-(i+1)=nn by omega];exact HFn,HL7,HC7,HT7⟩
   case measure=>simp[intOf];omega
  ·have hk7e:i=7:=by omega
   subst hk7e;obtain⟨e1,e2⟩:fr=f/\sg=st2:=by
    have h:(fr,sg)=(f,st2):=uh HFr;exact⟨congrArg Prod.fst h,congrArg Prod.snd h⟩
   subst e1 e2;clear HFr;have HMO:=hide (zAq sb { qCe id C0 k with ref:=fr } clock wr (uh HLr).ser lg0 lg1 cp0 cp1 cl0 cl1);go_wp2_with fail
   refine(uh HMO).mono ?_;rintro e w5 ⟨rfl,hw5⟩;rw[hw5];clear hw5 w5 HMO;go_wp2_with fail
   refine((uh HLr).number 0 (qEg C0 clock) _ _ (uh HRL)).mono ?_;rintro e w6 ⟨rfl,hl6,hk6⟩;have hc6:w6.cell? ⟨sb.s,34,none⟩=some (.int .i64 0):=hl6.ser.blk.cell rfl;have hf6:=hl6.ser.blk.frozen;have HL7:=hide (hl6.set (x2:={ qCe id C0 k with ref:=fr,rel:=rel }) 34 (.int .i64 rel) rfl rfl rfl rfl rfl);have HT7:=hide (((uh HTr).keeps hk6 (show ¬(cb+1=r) by have:=uh HRC;omega)).setCell_far (p:=⟨sb.s,34,none⟩) (uh HSN1) (.int .i64 rel));have HC7:=hide (((uh HCr).keeps hk6 (uh HCR)).setCell_far (p:=⟨sb.s,34,none⟩) (uh HSN) (.int .i64 rel));clear hl6 hk6 HLr HCr HTr HRL;go_wp2_with fail
   clear hc6 hf6;generalize w6.setCell ⟨sb.s,34,none⟩ (.int .i64 rel)=w7 at *;have hcp:w7.cell? ⟨cb,3,none⟩=some (.int .i64 C0.cap):=(uh HC7).cell rfl;have hrc:w7.cell? ⟨sb.s,34,none⟩=some (.int .i64 rel):=(uh HL7).ser.blk.cell rfl;have wsb:IntKind.i64.wrap (4611686018427387904-rel)=4611686018427387904-rel:=by rw[IntKind.wrap_i64];omega
   have HSR:=hide (show sb.s≠r from(uh HL7).apart sb.s (.inl rfl));have HSS:=hide (show ∀w',Keeps (λi=>i=r) w7 w'->w'.cell? ⟨cb,3,none⟩=some (.int .i64 C0.cap)/\w'.cell? ⟨sb.s,34,none⟩=some (.int .i64 rel) from λw' hk=>⟨hk.cell hcp (uh HCR),hk.cell hrc (uh HSR)⟩)
   by_cases hmn:4611686018427387904-rel<C0.cap
   all_goals
    have HMN:=hide (show qAs 0 (if 4611686018427387904-rel<C0.cap then 4611686018427387904-rel else C0.cap) st3=((L:Int),st4) from uh HWT)
    first | rw[if_pos hmn]at HMN | rw[if_neg hmn]at HMN
    go_region_held3 (λw'=>w'.cell? ⟨cb,3,none⟩=some (.int .i64 C0.cap)/\w'.cell? ⟨sb.s,34,none⟩=some (.int .i64 rel))
     (first | exact uh HSS _ (uh HKs) | exact uh HSS _ ((Keeps.refl (λi=>i=r) w7).drew) | exact uh HSS _ (Keeps.refl (λi=>i=r) w7) | (simp[*];done))
     (first | (go_at_call 88;refine(((uh HL7).still ((Keeps.refl (λ_=>False) w7).drew)).number 0 _ _ _ (uh HMN)).mono ?_;rintro e w8 ⟨rfl,hl8,hk8⟩;have HKs:=hide (((Keeps.refl (λi=>i=r) w7).drew).then hk8)))
    have HL8:=hide hl8;have HT8:=hide ((uh HT7).keeps (uh HKs) (show ¬(cb+1=r) by have:=uh HRC;omega));clear hl8 hk8 hcp hrc wsb hmn HL7 HC7 HT7 HKs HSS HMN;have hrc:w8.cell? ⟨sb.s,34,none⟩=some (.int .i64 rel):=(uh HL8).ser.blk.cell rfl;have hlc:w8.cell? ⟨sb.s,2,none⟩=some (.int .i64 C0.lag):=(uh HL8).ser.blk.cell rfl;have HWM:=hide (show ∀w0,Keeps (λ_=>False) w8 w0->Calls Tryz.prog 54 #[.pointer (some ⟨sb.s,0,none⟩),.int .i64 clock] w0 λe w'=>e=.returned (.int .i64 (clock-C0.lag))/\w'=w0 from λw0 hk=>qK8 sb.s C0.lag clock w0 (hk.cell hlc (λh=>h)) lg0 lg1 cl0 cl1);have HS8:=hide (show ∀w',Keeps (λ_=>False) w8 w'->w'.cell? ⟨sb.s,34,none⟩=some (.int .i64 rel) from λw' hk=>hk.cell hrc (λh=>h));have hwr:IntKind.i64.wrap (rel+(L:Int))=A:=by have hAA:=uh HA;rw[hAA,IntKind.wrap_i64];omega
    go_wp2_with fail
    go_region_held3 (λw'=>w'.cell? ⟨sb.s,34,none⟩=some (.int .i64 rel))
     (first | exact uh HS8 _ ((Keeps.refl (λ_=>False) w8).drew) | exact uh HS8 _ (Keeps.refl (λ_=>False) w8) | exact uh HS8 _ (((Keeps.refl (λ_=>False) w8).drew).alloc _) | (simp[*];done))
     (first | (go_at_call 54;refine(uh HWM _ ((Keeps.refl (λ_=>False) w8).drew)).mono ?_;rintro e w9 ⟨rfl,rfl⟩))
    have hk9:Keeps (λ_=>False) w8 ((w8.alloc (.cells #[.int .i64 (clock-C0.lag),.int .i64 A,.int .i64 rel,.slice none 0 0] 184)).drew):=((Keeps.refl _ _).alloc _).drew;have HQ9:=hide (show KnRep ((w8.alloc (.cells #[.int .i64 (clock-C0.lag),.int .i64 A,.int .i64 rel,.slice none 0 0] 184)).drew) w8.heap.size (clock-C0.lag) A rel (.slice none 0 0) [] from⟨Blk.new w8 [_,_,_,_] _,World.ownsRow_nil _ _ _ _⟩);have HL9:=hide (show LSs w r sb { qCe id C0 k with ref:=fr,rel:=rel } st4 ((w8.alloc (.cells #[.int .i64 (clock-C0.lag),.int .i64 A,.int .i64 rel,.slice none 0 0] 184)).drew) from(uh HL8).still hk9);have HT9:=hide ((uh HT8).keeps hk9 (λh=>h));have HZC:=hide (show cb+1<w8.heap.size from(uh HT8).lt);have hz8:r<w8.heap.size/\(∀i,sb.foot k i->i<w8.heap.size)/\w.heap.size<=w8.heap.size:=⟨(uh HL8).rd.lt,λi hi=>(uh HL8).ser.lt i hi,(uh HL8).kp.size⟩;have HZ8:=hide hz8;clear hk9 hrc hlc HWM HS8 HL8 HT8 hz8;generalize(w8.alloc (.cells #[.int .i64 (clock-C0.lag),.int .i64 A,.int .i64 rel,.slice none 0 0] 184)).drew=w9 at *;generalize w8.heap.size=kn at *
    have HI9:=hide (show LIs w r sb ⟨id,C0,k,0,rel,fr,[],qC9,0⟩ clock A kn cb [] st4 [] sb.g (.slice none 0 0) w9 from
       ⟨uh HL9,uh HQ9,uh HT9,λj hj=>⟨uh HFT j hj,by have:=(uh HZ8).2.1 j hj;omega,by simp[Value.ownBlock]⟩,uh HRC,by have:=(uh HT9).lt;have:=uh HZC;omega,(uh HZ8).2.2⟩)
    obtain⟨X,hX⟩:∃X:Ser,X=⟨id,C0,k,0,rel,fr,[],qC9,0⟩:=⟨_,rfl⟩;rw[<-hX]at HI9 HS;have HXX:=hide hX;have HXk:=hide (show X.k=k by rw[hX]);have HXc:=hide (show X.c=C0 by rw[hX]);have HXr:=hide (show X.rel=rel by rw[hX]);clear hX;clear HL9 HQ9 HT9;go_wp2_with fail
    go_loopw [75] (λiv wr=>∃(i:Nat) (s:IR) (og:Option Nat) (nv:Value),i<=L/\iv=.int .i64 i/\s.l.length=i/\s.ns.length=i/\Hid (qV7 X clock A (L-i) s=S)/\Hid (LIs w r sb X clock A kn cb s.l s.st s.ns og nv wr)) (λiv _=>L-(intOf iv).toNat)
    case atStart=>exact⟨0,⟨[],[],st4⟩,sb.g,.slice none 0 0,by omega,rfl,rfl,rfl,HS,HI9⟩
    case round =>
     clear HI9 HS;obtain⟨i,s,og,nv,hi,rfl,hsl,hsn,HSi,HIr⟩:=hrel;obtain⟨l,ns,sg⟩:=s;simp only at hsl hsn HSi HIr
     by_cases hiL:i<L
     ·have hiI:(i:Int)<(L:Int):=by omega
      obtain⟨nn,hnn⟩:∃nn,L-i=nn+1:=⟨L-i-1,by omega⟩
      have HSn:=hide (show qV7 X clock A nn (itR X clock A ⟨l,ns,sg⟩)=S by
         have h:=uh HSi;rw[hnn]at h
         exact h)
      obtain⟨a0,ha0⟩:∃a0,knR A ns sg=a0:=⟨_,rfl⟩;obtain⟨n,sg2⟩:=a0;obtain⟨p0,hp0⟩:∃p0,qAy (qB9 k).length sg2=p0:=⟨_,rfl⟩;have hpl:=qEf (qB9 k).length sg2;rw[hp0]at hpl;obtain⟨p,sg3⟩:=p0;simp only at hpl;obtain⟨y,hy⟩:∃y,itD n p=y:=⟨_,rfl⟩
      have HIT:=hide (show itR X clock A ⟨l,ns,sg⟩=⟨qQ5 l y,ns++[n],qEm (qIw { X with l:=l } clock y==0) sg3⟩ by
         unfold itR;simp only;rw[ha0];simp only;rw[uh HXk,hp0];simp only
         rw[hy])
      rw[uh HIT]at HSn;obtain⟨E,hE⟩:∃E,qIw { X with l:=l } clock y=E:=⟨_,rfl⟩;rw[hE]at HSn;obtain⟨B,hB⟩:∃B,(E==0)=B:=⟨_,rfl⟩;rw[hB]at HSn;have HE:=hide hE;have HB:=hide hB;have HA0:=hide ha0;have HP0:=hide hp0;have HY:=hide hy;have HSTL:=hide (show qLj [.int .i64 0,.int .i64 0,.int .i64 0,.int .i64 n] (qB9 k) p=itL y by rw[<-hy];exact zEm k n p h1 h5 hpl);clear HSi HIT ha0 hp0 hpl hy hE hB;go_wp2_with fail
      refine((uh HIr).num (by omega) n sg2 (uh HA0)).mono ?_;rintro e w10 ⟨rfl,nv2,hI⟩;have HIb:=hide hI;clear hI HIr HA0;have k4:w10.cell? ⟨cb+1,4,none⟩=some (.func (.func (qA6 k)) #[] #[]):=by rw[<-uh HXk];exact(uh HIb).kd.cell rfl
      have klt:=(uh HIb).kd.lt;have hown:=qR8 k h1 h5;go_wp2_with fail
      have HBX:=hide (show Blk (w10.alloc (.cells #[.int .i64 0,.int .i64 0,.int .i64 0,.int .i64 n] 88)) w10.heap.size [.int .i64 0,.int .i64 0,.int .i64 0,.int .i64 n] 88 from Blk.new w10 [_,_,_,_] _);have HIc:=hide ((uh HIb).still ((Keeps.refl (λ_=>False) w10).alloc (.cells #[.int .i64 0,.int .i64 0,.int .i64 0,.int .i64 n] 88)));have HZX:=hide (show(∀j,({ sb with g:=og }:SB).foot X.k j->j<w10.heap.size)/\kn<w10.heap.size/\(∀j,nv2.ownBlock=some j->j<w10.heap.size)/\cb+1<w10.heap.size/\w.heap.size<=w10.heap.size/\r<w10.heap.size from⟨λj hj=>(uh HIb).ls.ser.lt j hj,(uh HIb).kr.blk.lt,λj hj=>((uh HIb).kr.row.lt j hj).2,(uh HIb).kd.lt,(uh HIb).ls.kp.size,(uh HIb).ls.rd.lt⟩);clear HIb k4 klt hown;generalize(w10.alloc (.cells #[.int .i64 0,.int .i64 0,.int .i64 0,.int .i64 n] 88))=w11 at *;generalize w10.heap.size=bx at *;refine(qRb k bx w11 h1 h5).mono ?_;rintro e w12 ⟨pv,rfl,hp,hk12⟩;have HP:=hide hp;have HId:=hide ((uh HIc).still hk12);have HBd:=hide ((uh HBX).keeps hk12 (λh=>h))
      have HPV:=hide (show ∀i,pv.ownBlock=some i->i≠r/\i≠bx from λi hi=>by
         have h1:=(hp.lt i hi).1;have h2:=(uh HBX).lt;have h3:=(uh HZX).2.2.2.2.2
         omega)
      clear hp hk12 HIc HBX;go_wp2_with fail
      refine(qMo r bx (qB9 k) [.int .i64 0,.int .i64 0,.int .i64 0,.int .i64 n] 88 pv _ sg2 w12 (uh HId).ls.rd (by have:=uh HP;unfold at' at this ⊢;rw[List.length_map]at this;exact this) (uh HBd) (λo hm=>by rcases five h1 h5 with e | e | e | e | e <;> rw[e]at hm <;> simp[qB9]at hm ⊢ <;> omega) (by have:=(uh HZX).2.2.2.2.2;omega) (uh HPV) (by have:=qNd k;omega)).mono ?_;rintro e w13 ⟨rfl,hr13,hb13,hk13⟩;rw[uh HP0]at hr13 hb13;have hr13':RdS w13 r sg3:=hr13;have hb13':Blk w13 bx (itL y) 88:=by rw[<-uh HSTL];exact hb13
      have HIe:=hide ((uh HId).rd (bx:=bx) hk13 hr13' (λj hj=>by have:=(uh HZX).1 j hj;omega) (by have:=(uh HZX).2.1;omega) (λe=>by have:=(uh HZX).2.2.1 _ e;omega) (by have:=(uh HZX).2.2.2.1;omega) (uh HZX).2.2.2.2.1);have HBe:=hide hb13';clear hr13 hb13 hr13' hb13' hk13 HId HBd HP HPV HP0 HSTL;have b0:w13.cell? ⟨bx,0,none⟩=some (.int .i64 y.t):=(uh HBe).cell rfl;have b1:w13.cell? ⟨bx,1,none⟩=some (.int .i64 y.k):=(uh HBe).cell rfl;have b2:w13.cell? ⟨bx,2,none⟩=some (.int .i64 y.d):=(uh HBe).cell rfl;have b3:w13.cell? ⟨bx,3,none⟩=some (.int .i64 y.n):=(uh HBe).cell rfl;go_wp2_with fail
      refine(qZq _ { X with l:=l } y clock w13 (uh HIe).ls.ser (by show qA5 X.c=true;rw[uh HXc];exact uh HVV) (by show X.c.kind=X.k;rw[uh HXc,uh HXk];exact uh HVK) (by show 1<=X.k;rw[uh HXk];exact h1) (by show X.k<=5;rw[uh HXk];exact h5) cl0 cl1).mono ?_;rintro e w14 ⟨rfl,hk14⟩;rw[uh HE];have HIf:=hide ((uh HIe).still hk14);have HBf:=hide ((uh HBe).keeps hk14 (λh=>h));clear hk14 HIe HBe b0 b1 b2 b3;have hB:=uh HB;go_wp2_with fail
      refine(qDi r B sg3 w14 (uh HIf).ls.rd).mono ?_;rintro e w15 ⟨rfl,hr15,hk15⟩;have HIg:=hide ((uh HIf).rd (bx:=bx) (hk15.mono (λ_ _ h=>.inl h)) hr15 (λj hj=>by have:=(uh HZX).1 j hj;omega) (by have:=(uh HZX).2.1;omega) (λe=>by have:=(uh HZX).2.2.1 _ e;omega) (by have:=(uh HZX).2.2.2.1;omega) (uh HZX).2.2.2.2.1);have HBg:=hide ((uh HBf).keeps hk15 (show ¬(bx=r) by have:=(uh HZX).2.2.2.2.2;omega));clear hr15 hk15 HIf HBf hB;have b0:w15.cell? ⟨bx,0,none⟩=some (.int .i64 y.t):=(uh HBg).cell rfl;have b1:w15.cell? ⟨bx,1,none⟩=some (.int .i64 y.k):=(uh HBg).cell rfl;have b2:w15.cell? ⟨bx,2,none⟩=some (.int .i64 y.d):=(uh HBg).cell rfl;have b3:w15.cell? ⟨bx,3,none⟩=some (.int .i64 y.n):=(uh HBg).cell rfl;have hc26:w15.cell? ⟨sb.s,32,none⟩=some (.pointer (some ⟨sb.q,0,none⟩)):=(uh HIg).ls.ser.blk.cell rfl;have HNS:=hide (show ¬(sb.s=sb.q\/og=some sb.s) from λh=>h.elim (uh HIg).ls.ser.sq (λh=>(uh HIg).ls.ser.sg sb.s h rfl));have HNX:=hide (show ¬(bx=sb.q\/og=some bx) from λh=>h.elim (λh=>by have:=(uh HZX).1 sb.q (.inr (.inl rfl));omega) (λh=>by have:=(uh HZX).1 bx (.inr (.inr (.inl h)));omega));have hl9:l.length<=900:=by omega
      have HYV:=hide (show y.val=.agg #[.int .i64 y.t,.int .i64 y.k,.int .i64 y.d,.int .i64 y.n] from rfl);go_wp2_with fail
      go_region_held3 (λw'=>w'.cell? ⟨sb.s,32,none⟩=some (.pointer (some ⟨sb.q,0,none⟩))/\w'.cell? ⟨bx,0,none⟩=some (.int .i64 y.t)/\w'.cell? ⟨bx,1,none⟩=some (.int .i64 y.k)/\w'.cell? ⟨bx,2,none⟩=some (.int .i64 y.d)/\w'.cell? ⟨bx,3,none⟩=some (.int .i64 y.n))
       (first | (simp[*];done) | (go_split_ands;exact⟨hk.cell (by assumption) (uh HNS),hk.cell (by assumption) (uh HNX),hk.cell (by assumption) (uh HNX),hk.cell (by assumption) (uh HNX),hk.cell (by assumption) (uh HNX)⟩))
       (first | (go_at_call 79;refine(put_any sb.q og l y _ (by exact((uh HIg).ls.ser.que.keeps ((Keeps.refl (λ_=>False) w15).drew) (λh=>h) (λ_ _ h=>h))) hl9).mono ?_;rintro e w' ⟨rfl,og2,hq,hk,hog⟩))
      have HIh:=hide (((uh HIg).still ((Keeps.refl (λ_=>False) w15).drew)).put (y:=y) hq hk hog);clear hq hk hog b0 b1 b2 b3 hc26 HIg HBg;have hpl:=riseL_length (l.length+1) (l++[y]) l.length;go_wp2
      go_roundw
      case rel=>exact⟨i+1,⟨qQ5 l y,ns++[n],qEm B sg3⟩,og2,nv2,by omega,by go_num,by show(qQ5 l y).length=i+1;unfold qQ5;rw[hpl,List.length_append,hsl];rfl,by show(ns++[n]).length=i+1;rw[List.length_append,hsn];rfl,by rw[show L-(i+1)=nn by omega];exact HSn,HIh⟩
      case measure=>simp[intOf];omega
     ·have hie:i=L:=by omega
      subst hie;have hE:(⟨l,ns,sg⟩:IR)=S:=by
       have h:=uh HSi;rw[Nat.sub_self]at h;exact h
      subst hE;clear HSi;simp only at HNt;obtain⟨sc,hsc⟩:∃sc:SB,({ sb with g:=og }:SB)=sc:=⟨_,rfl⟩;have hsS:sb.s=sc.s:=by rw[<-hsc]
      have HLz:=hide (show LSs w r sc { X with l:=l } sg wr by rw[<-hsc];exact(uh HIr).ls);have HKz:=hide (uh HIr).kr;have HAP:=hide (show ∀j,sc.foot X.k j->j≠kn/\nv.ownBlock≠some j by rw[<-hsc];exact λj hj=>((uh HIr).ap j hj).2);have HNL:=hide (show(∀j,nv.ownBlock=some j->kn+1<=j)/\w.heap.size<=kn/\r<kn from⟨λj hj=>(uh HIr).nvlt j hj,(uh HIr).wk,by have:=(uh HIr).rc;have:=(uh HIr).kc;omega⟩);clear HIr hsc;have hka:wr.cell? ⟨kn,1,none⟩=some (.int .i64 A):=(uh HKz).blk.cell rfl;have hca:wr.cell? ⟨sc.s,33,none⟩=some (.int .i64 X.acc):=(uh HLz).ser.blk.cell rfl;have hfa:=(uh HLz).ser.blk.frozen;have HLA:=hide ((uh HLz).set (x2:={ X with l:=l,acc:=A }) 33 (.int .i64 A) rfl rfl rfl rfl rfl);have HBA:=hide (show KnRep (wr.setCell ⟨sc.s,33,none⟩ (.int .i64 A)) kn (clock-X.c.lag) A X.rel nv ns from(uh HKz).keeps ((Keeps.refl (λi=>i=sc.s) wr).setCell (p:=⟨sc.s,33,none⟩) (Or.inl rfl) _) (λe=>(uh HAP sc.s (.inl rfl)).1 e.symm) (λi hi e=>(uh HAP sc.s (.inl rfl)).2 (by rw[<-show i=sc.s from e];exact hi)));obtain⟨wa,hwa⟩:∃wa,wr.setCell ⟨sc.s,33,none⟩ (.int .i64 A)=wa:=⟨_,rfl⟩;rw[hwa]at HLA HBA;have d31:wa.cell? ⟨sc.s,31,none⟩=some (.func (.func (zIu k)) (qJt sc.n.d) #[]):=by rw[<-uh HXk];exact(uh HLA).ser.blk.cell rfl
      have hown:=zHd k h1 h5;go_wp2_with fail
      clear hka hca hfa hwa d31 hown;have HHM:=hide (zGu (k:=k) (r:=r) (kn:=kn) (nb:=sc.n) (nv:=nv) (ck:=C0) (m:=clock-C0.lag) (acc:=A) (rel:=rel) (ns:=ns) (st:=sg) (w1:=wa) ⟨by have:=(uh HLA).ser.note;simp only[uh HXX]at this;exact this,(uh HLA).rd,by have:=uh HBA;rw[uh HXc,uh HXr]at this;exact this,λh=>(uh HLA).apart r (.inr (.inr (.inr (by show qEn X.k sc.n r;rw[uh HXk];exact h)))) rfl,λh=>(uh HAP kn (.inr (.inr (.inr (by rw[uh HXk];exact h))))).1 rfl,λi hi h=>(uh HAP i (.inr (.inr (.inr (by rw[uh HXk];exact h))))).2 hi,(uh HNL).2.2,by omega,by omega,rl0,rl2,by omega⟩ (uh HVV) (uh HVK) h1 h5);rw[uh HNt]at HHM;refine(uh HHM).mono ?_;rintro e wb ⟨rfl,nb',hd',hN',hf',hr',hk'⟩;have HRB:=hide hr';have hsn:=(uh HLA).ser.sn;have hz:=uh HNL;rw[<-uh HXk]at hN' hf' hk';rw[<-uh HXc]at hN'
      have HSB:=hide (show SRep wb { sc with n:=nb' } { X with l:=l,acc:=A,nt:=Nt.1 } from by
         have hS:=(uh HLA).ser;have hne:∀i,sc.foot X.k i->¬qEn X.k sc.n i->¬(i=r\/i=kn\/nv.ownBlock=some i\/qEn X.k sc.n i):=λi hi hn h=>by
          rcases h with h | h | h | h
          ·exact(uh HLA).apart i hi h
          ·exact(uh HAP i hi).1 h
          ·exact(uh HAP i hi).2 h
          ·exact hn h
         have hlt:∀i,sc.foot X.k i->i<wa.heap.size:=λi hi=>hS.lt i hi
         refine⟨?_,?_,hN',hS.sq,hS.sg,λi hi=>?_⟩
         ·have h1:=hS.blk.keeps hk' (hne sc.s (.inl rfl) (λh=>(hsn _ h).1 rfl))
          unfold qCi at h1 ⊢;simp only at h1 ⊢;rw[hd'];exact h1
         ·exact hS.que.keeps hk' (hne sc.q (.inr (.inl rfl)) (λh=>(hsn _ h).2.1 rfl)) (λg hg=>hne g (.inr (.inr (.inl hg))) (λh=>(hsn _ h).2.2 hg))
         ·rcases hf' i hi with h | h
          ·exact hsn i h
          ·refine⟨λe=>?_,λe=>?_,λe=>?_⟩
           ·have e2:i=sc.s:=e
            have:=hlt sc.s (.inl rfl);omega
           ·have e2:i=sc.q:=e
            have:=hlt sc.q (.inr (.inl rfl));omega
           ·have:=hlt i (.inr (.inr (.inl e)));omega)
      have HNW:=hide (show ∀i,({ sc with n:=nb' }:SB).foot X.k i->w.heap.size<=i from λi hi=>by
         rcases hi with h | h | h | h
         ·exact(uh HLA).new i (.inl h)
         ·exact(uh HLA).new i (.inr (.inl h))
         ·exact(uh HLA).new i (.inr (.inr (.inl h)))
         ·rcases hf' i h with h | h
          ·exact(uh HLA).new i (.inr (.inr (.inr h)))
          ·have:=(uh HLA).kp.size;omega)
      have HKF:=hide (show Keeps (λi=>i=r) w wb from(uh HLA).kp.trans hk' (λi hi hlt=>by
           rcases hi with h | h | h | h
           ·exact h
           ·have:=hz.2.1;omega
           ·have:=hz.1 i h;have:=hz.2.1;omega
           ·have:=(uh HLA).new i (.inr (.inr (.inr h)));omega))
      clear hN' hf' hr' hk' hsn hz hd';go_wp2_with fail
      refine(qHe r _ wb (uh HRB)).mono ?_;rintro e wc ⟨rfl,hwc⟩;rw[hwc];clear hwc wc;obtain⟨nt',stN⟩:=Nt;simp only at HSB HRB ⊢;cases stN with
      | none =>
       go_wp2
       go_ret
       exact⟨rfl,uh HRB,uh HKF⟩
      | some lN =>
       go_wp2
       go_ret
       refine⟨⟨{ sc with n:=nb' },rfl,?_,?_⟩,uh HRB,uh HKF⟩
       ·have:=uh HSB
        rw[uh HXX]at this;exact this
       ·have:=uh HNW
        rw[uh HXk]at this;exact this
end
end Go.Proofs.YtahnliehdjncdabGreatDoor
