import Derived.Test.YtahnliehdjncdabGreatDoorXBJ
import Derived.Test.YtahnliehdjncdabGreatDoorXBK
import Derived.Test.YtahnliehdjncdabGreatDoorXBH
set_option maxRecDepth 100000
set_option maxHeartbeats 16000000
namespace Go.Proofs.YtahnliehdjncdabGreatDoor
section
open Go.RowKit
attribute [local go_sem ↓] qAb qCy
attribute [local go_sem] qAg qAd qAc qAo qAn qAj qAk qAf qAi
theorem ixk(k j:Nat)(h:qCc[k]?=some j)(w:World): (Instr.index 134 (.agg #[.int .i64 5,.int .i64 6,.int .i64 7,.int .i64 8,.int .i64 10,.int .i64 9,.int .i64 11]) (.int .i64 (k:Int))).run Tryz.prog w=.ok (.int .i64 (j:Int)) w:=by
 have hk:k<7:=by have:=(List.getElem?_eq_some_iff.1 h).1;exact this
 have hk7:k=0\/k=1\/k=2\/k=3\/k=4\/k=5\/k=6:=by omega
 rcases hk7 with e | e | e | e | e | e | e
 all_goals
  subst e
  have hj:=Option.some.inj h
  rw[<-hj]
  clear hj h
 ·exact ix0 w
 ·exact ix1 w
 ·exact ix2 w
 ·exact ix3 w
 ·exact ix4 w
 ·exact ix5 w
 ·exact ix6 w
def qWc(c:Cfg)(clock:Int): Int :=
 let t:=if 0<(if clock-c.lag+1<clock then clock-c.lag+1 else clock) then(if clock-c.lag+1<clock then clock-c.lag+1 else clock) else 0
 if 4611686018427387904/c.cap<t then 4611686018427387904 else c.cap*t
theorem qXf(sb:SB)(x:Ser)(clock:Int)(w:World)(h:SRep w sb x)(l0:0<=x.c.lag)(l1:x.c.lag<=100)(p0:1<=x.c.cap)(p1:x.c.cap<=8)(c0:0<=clock)(c1:clock<=4611686018427387904):
  Calls Tryz.prog 137 #[.pointer (some ⟨sb.s,0,none⟩),.int .i64 clock] w λe w'=>e=.returned (.int .i64 (qWc x.c clock))/\w'=w:=by
 have hl:w.cell? ⟨sb.s,2,none⟩=some (.int .i64 x.c.lag):=h.blk.cell rfl
 have hp:w.cell? ⟨sb.s,4,none⟩=some (.int .i64 x.c.cap):=h.blk.cell rfl
 have HW:=hide (qKh sb.s x.c.lag clock w hl l0 l1 c0 c1)
 clear h hl
 obtain⟨m,hm,hm1⟩:∃m,(if clock-x.c.lag+1<clock then clock-x.c.lag+1 else clock)=m/\m<=clock:=⟨_,rfl,by split <;> omega⟩
 obtain⟨t,ht,ht1,ht0⟩:∃t,(if 0<m then m else 0)=t/\t<=clock/\0<=t:=⟨_,rfl,by split <;> omega,by split <;> omega⟩
 have HM:=hide (show qWc x.c clock=if 4611686018427387904/x.c.cap<t then 4611686018427387904 else x.c.cap*t by unfold qWc;simp only;rw[hm,ht])
 have wa:IntKind.i64.wrap (clock-x.c.lag+1)=clock-x.c.lag+1:=by rw[IntKind.wrap_i64];omega
 have hq:(4611686018427387904:Int).tdiv x.c.cap=4611686018427387904/x.c.cap:=Int.tdiv_eq_ediv_of_nonneg (by omega)
 generalize x.c.cap=cp at *
 generalize x.c.lag=lg at *
 have hD0:0<=4611686018427387904/cp:=Int.ediv_nonneg (by omega) (by omega)
 have hD1:4611686018427387904/cp<=4611686018427387904:=Int.ediv_le_self _ (by omega)
 have hwq:wrap64 (4611686018427387904/cp)=4611686018427387904/cp:=by
  have:=IntKind.wrap_i64 (4611686018427387904/cp)
  unfold wrap64
  omega
 have hcd:4611686018427387904/cp<t\/(t<=4611686018427387904/cp/\IntKind.i64.wrap (cp*t)=cp*t):=by
  by_cases h:4611686018427387904/cp<t
  ·exact .inl h
  ·refine .inr ⟨by omega,?_⟩
   have h1:cp*t<=4611686018427387904:=by
    have h2:t<=4611686018427387904/cp:=by omega
    have h3:=Int.mul_le_mul_of_nonneg_left h2 (show 0<=cp by omega)
    have h4:=Int.mul_ediv_self_le (x:=4611686018427387904) (k:=cp) (by omega)
    omega
   have h0:0<=cp*t:=Int.mul_nonneg (by omega) ht0
   rw[IntKind.wrap_i64];omega
 by_cases h1:clock-lg+1<clock
 all_goals
  by_cases h2:0<m
  all_goals
   rcases hcd with h3 | ⟨h3,h4⟩
   all_goals
    first | rw[if_pos h1]at hm | rw[if_neg h1]at hm
    first | rw[if_pos h2]at ht | rw[if_neg h2]at ht
    subst ht
    subst hm
   all_goals
    first
     | (exfalso;omega)
     | (go_enter Tryz.func137,Tryz.ntmps137
        go_wp2_with fail
        refine(uh HW).mono ?_
        rintro e w1 ⟨rfl,hw1⟩
        rw[hw1]
        clear hw1 w1
        go_wp2
        go_ret
        exact⟨by rw[uh HM];first | (rw[if_pos (by omega)];rfl) | (rw[if_neg (by omega)];simp[go_sem];done),rfl⟩)
structure LSt (w:World) (r:Nat) (sb:SB) (x:Ser) (tl:List Nat) (w':World):Prop where
 ser:SRep w' sb x
 rd:RdRep w' r tl
 kp:Keeps (λi=>i=r) w w'
 new:∀i,sb.foot x.k i->w.heap.size<=i
 rl:r<w.heap.size
theorem LSt.apart{w:World}{r:Nat}{sb:SB}{x:Ser}{tl:List Nat}{w':World}(h:LSt w r sb x tl w')(i:Nat)(hi:sb.foot x.k i): ¬i=r:=λe=>by
 have h1:=h.new i hi
 have h2:=h.rl
 omega
theorem LSt.still{w:World}{r:Nat}{sb:SB}{x:Ser}{tl:List Nat}{w' w'':World}(h:LSt w r sb x tl w')(hk:Keeps (λ_=>False) w' w''): LSt w r sb x tl w'' :=
 ⟨h.ser.still hk,h.rd.keeps hk (λh=>h),h.kp.trans hk (λ_ h _=>h.elim),h.new,h.rl⟩
theorem LSt.number{w:World}{r:Nat}{sb:SB}{x:Ser}{n lo hi:Int}{tl:List Nat}{w':World}(h:LSt w r sb x (enc n++tl) w')(n0:0<=n)(n1:n<=9223372036854775807)(h1:lo<=n)(h2:n<=hi):
  Calls Tryz.prog 88 #[.pointer (some ⟨r,0,none⟩),.int .i64 lo,.int .i64 hi] w' λe w''=>e=.returned (.int .i64 n)/\LSt w r sb x tl w''/\Keeps (λi=>i=r) w' w'':=by
 refine(qDq r n lo hi tl w' h.rd n0 n1 h1 h2).mono ?_
 rintro e w2 ⟨rfl,hr,hk⟩
 exact⟨rfl,⟨h.ser.keeps hk (λi hi=>h.apart i hi),hr,h.kp.then hk,h.new,h.rl⟩,hk⟩
theorem LSt.set{w:World}{r:Nat}{sb:SB}{x x2:Ser}{tl:List Nat}{w':World}(h:LSt w r sb x tl w')(o:Nat)(v:Value)(he:(qB5 sb x).set o v=qB5 sb x2)(hl:x2.l=x.l)(hk:x2.k=x.k)(hc:x2.c=x.c)(hn:x2.nt=x.nt): LSt w r sb x2 tl (w'.setCell ⟨sb.s,o,none⟩ v):=by
 have hkp:Keeps (λi=>i=sb.s) w' (w'.setCell ⟨sb.s,o,none⟩ v):=(Keeps.refl (λi=>i=sb.s) w').setCell (p:=⟨sb.s,o,none⟩) (Or.inl rfl) v
 have hsn:=h.new sb.s (.inl rfl)
 have hrl:=h.rl
 refine⟨⟨?_,?_,?_,h.ser.sq,h.ser.sg,?_⟩,h.rd.keeps hkp (show ¬(r=sb.s) by omega),h.kp.trans hkp (λi hi hlt=>by have hi2:i=sb.s:=hi;omega),?_,h.rl⟩
 ·rw[<-he];exact h.ser.blk.setCell o v
 ·rw[hl];exact h.ser.que.keeps hkp (λe=>h.ser.sq e.symm) (λg hg e=>h.ser.sg g hg e.symm)
 ·rw[hk,hc,hn];exact h.ser.note.keeps hkp (λi hi=>(h.ser.sn i hi).1)
 ·rw[hk];exact h.ser.sn
 ·rw[hk];exact h.new
def qHg(l:List Int): Nat->List Int
 | 0=>[0,0,0,0,0,0,0,0,0,0,0,0]
 | k+1=>(qHg l k).set (qCc.getD k 0) (qAs l (qCc.getD k 0))
theorem qQ3(l:List Int)(k:Nat): (qHg l k).length=12:=by
 induction k with
 | zero=>rfl
 | succ k ih=>unfold qHg;rw[List.length_set,ih]
theorem qPy(r:Nat)(l:List Nat)(w:World)(h:RdRep w r l): Calls Tryz.prog 90 #[.pointer (some ⟨r,0,none⟩)] w λe w'=>e=.returned (.bool false)/\w'=w:=by
 have hc:w.cell? ⟨r,1,none⟩=some (.bool false):=h.blk.cell rfl
 clear h
 go_enter Tryz.func90,Tryz.ntmps90
 go_wp2
 go_ret
 exact⟨rfl,rfl⟩
structure LdOk (x:Ser) (clock:Int):Prop where
 id0:0<=x.id/\x.id<=99
 cfg:∀n,n∈qBu x.k x.c->0<=n/\n<=9223372036854775807
 p0:0<=qBp x.k x.c
 p3:qBp x.k x.c<=3
 kind:x.c.kind=x.k
 k1:1<=x.k
 k5:x.k<=5
 valid:qA6 (qJs x.k x.c)=true
 ref:∀j,0<=qAs x.ref j/\qAs x.ref j<=4611686018427387904
 rel0:0<=x.rel
 rel1:x.rel<=qWc (qJs x.k x.c) clock
 rel2:x.rel<=4611686018427387000
 c0:0<=clock
 c1:clock<=4611686018427387904
 lag:0<=(qJs x.k x.c).lag/\(qJs x.k x.c).lag<=100
 cap:1<=(qJs x.k x.c).cap/\(qJs x.k x.c).cap<=8
theorem qQj(r:Nat)(x:Ser)(clock:Int)(nt':Note)(nn:List Nat)(tl:List Nat)(w:World)(h:RdRep w r (qB2 (qGo x)++(nn++tl)))(hi:LdOk x clock)(hx:x.l=[])(HL:∀(nb:NB) (kn:Nat) (w1:World),NRep w1 x.k nb (qJs x.k x.c) qVr->RdRep w1 r (nn++tl)->Blk w1 kn (qIx (clock-(qJs x.k x.c).lag) x.rel x.rel (.slice none 0 0)) 184->¬qEk x.k nb r->¬qEk x.k nb kn->kn≠r ->
     Calls Tryz.prog (zDv x.k) (qIc nb.d++#[.pointer (some ⟨r,0,none⟩),.pointer (some ⟨kn,0,none⟩)]) w1 λe w2=>e=.returned (.tuple #[])/\∃nb':NB,nb'.d=nb.d/\NRep w2 x.k nb' (qJs x.k x.c) nt'/\(∀i,qEk x.k nb' i->qEk x.k nb i\/w1.heap.size<=i)/\RdRep w2 r tl/\Keeps (λi=>i=r\/i=kn\/qEk x.k nb i) w1 w2):
  Calls Tryz.prog 89 #[.pointer (some ⟨r,0,none⟩),.int .i64 clock] w λe w'=>∃sb:SB,e=.returned (.pointer (some ⟨sb.s,0,none⟩))/\SRep w' sb ⟨x.id,qJs x.k x.c,x.k,x.rel,x.rel,qHg x.ref 7,[],nt',0⟩/\RdRep w' r tl/\(∀i,sb.foot x.k i->w.heap.size<=i)/\Keeps (λi=>i=r) w w':=by
 have HI:=hide hi
 have HHL:=hide HL
 obtain⟨i0,i1⟩:=hi.id0
 have h1:=hi.k1
 have h5:=hi.k5
 have hrl:=h.blk.lt
 have hh:qB2 (qGo x)++(nn++tl)=enc x.id++(qB2 (qBu x.k x.c)++(qB2 (qCc.map (qAs x.ref))++(enc x.rel++(enc 0++(nn++tl))))):=by
  unfold qGo
  rw[hx]
  simp only[qBk,qAr,List.append_assoc,List.length_nil]
  rfl
 rw[hh]at h
 have HR:=hide h
 clear h hi HL hh
 obtain⟨ck,hck⟩:∃ck,qJs x.k x.c=ck:=⟨_,rfl⟩
 go_enter Tryz.func89,Tryz.ntmps89
 go_wp2_with fail
 refine(qDq r x.id 0 99 _ w (uh HR) i0 (by omega) i0 i1).mono ?_
 rintro e w1 ⟨rfl,hr1,hk1⟩
 have HR1:=hide hr1
 have HK1:=hide hk1
 clear hr1 hk1 HR
 go_wp2_with fail
 refine(qL6 r x.c x.k _ w1 (uh HR1) (uh HI).kind h1 h5 (uh HI).p0 (uh HI).p3 (uh HI).cfg (uh HI).valid).mono ?_
 rintro e w2 ⟨rfl,hr2,hk2⟩
 have HR2:=hide hr2
 have HK2:=hide ((uh HK1).then hk2)
 have hs2:=(uh HK2).size
 clear hr2 hk2 HK1 HR1
 rw[hck]at HHL ⊢
 have HCK:=hide hck
 have hval:ck.val=.agg ck.cells.toArray:=rfl
 rw[hval]
 unfold qA7 fn
 clear hck hval
 have HC0:=hide (show Blk ((w2.alloc (.cells #[.int .i64 0,.int .i64 0,.int .i64 0,.int .i64 0,.int .i64 0,.int .i64 0,.int .i64 0,.int .i64 0,.int .i64 0,.int .i64 0,.int .i64 0,.int .i64 0,.int .i64 0,.int .i64 0,.int .i64 0,.int .i64 0,.int .i64 0,.int .i64 0,.int .i64 0,.int .i64 0] 32)).alloc (.cells #[.nilFunc,.nilFunc,.nilFunc,.nilFunc,.nilFunc,.nilFunc] 83)) w2.heap.size qVw.cells 32 from(Blk.new w2 _ _).alloc _)
 have HN0:=hide (show Blk ((w2.alloc (.cells #[.int .i64 0,.int .i64 0,.int .i64 0,.int .i64 0,.int .i64 0,.int .i64 0,.int .i64 0,.int .i64 0,.int .i64 0,.int .i64 0,.int .i64 0,.int .i64 0,.int .i64 0,.int .i64 0,.int .i64 0,.int .i64 0,.int .i64 0,.int .i64 0,.int .i64 0,.int .i64 0] 32)).alloc (.cells #[.nilFunc,.nilFunc,.nilFunc,.nilFunc,.nilFunc,.nilFunc] 83)) (w2.heap.size+1) [.nilFunc,.nilFunc,.nilFunc,.nilFunc,.nilFunc,.nilFunc] 83 from Blk.newAt (by simp) _ _)
 have HKW:=hide (show Keeps (λ_=>False) w2 ((w2.alloc (.cells #[.int .i64 0,.int .i64 0,.int .i64 0,.int .i64 0,.int .i64 0,.int .i64 0,.int .i64 0,.int .i64 0,.int .i64 0,.int .i64 0,.int .i64 0,.int .i64 0,.int .i64 0,.int .i64 0,.int .i64 0,.int .i64 0,.int .i64 0,.int .i64 0,.int .i64 0,.int .i64 0] 32)).alloc (.cells #[.nilFunc,.nilFunc,.nilFunc,.nilFunc,.nilFunc,.nilFunc] 83)) from((Keeps.refl _ _).alloc _).alloc _)
 obtain⟨WA,hWA⟩:∃WA,WA=((w2.alloc (.cells #[.int .i64 0,.int .i64 0,.int .i64 0,.int .i64 0,.int .i64 0,.int .i64 0,.int .i64 0,.int .i64 0,.int .i64 0,.int .i64 0,.int .i64 0,.int .i64 0,.int .i64 0,.int .i64 0,.int .i64 0,.int .i64 0,.int .i64 0,.int .i64 0,.int .i64 0,.int .i64 0] 32)).alloc (.cells #[.nilFunc,.nilFunc,.nilFunc,.nilFunc,.nilFunc,.nilFunc] 83)).setCells w2.heap.size 0 ck.cells:=⟨_,rfl⟩
 have hst:(qCp 32 (.pointer (some ⟨w2.heap.size,0,none⟩)) (.agg ck.cells.toArray)).run Tryz.prog ((w2.alloc (.cells #[.int .i64 0,.int .i64 0,.int .i64 0,.int .i64 0,.int .i64 0,.int .i64 0,.int .i64 0,.int .i64 0,.int .i64 0,.int .i64 0,.int .i64 0,.int .i64 0,.int .i64 0,.int .i64 0,.int .i64 0,.int .i64 0,.int .i64 0,.int .i64 0,.int .i64 0,.int .i64 0] 32)).alloc (.cells #[.nilFunc,.nilFunc,.nilFunc,.nilFunc,.nilFunc,.nilFunc] 83))=.ok .skip WA:=by
  rw[hWA];exact qJg ck (uh HC0) rfl
 have HCA:=hide (show Blk WA w2.heap.size ck.cells 32 by
    have:=Blk.setCells ck.cells 0 _ _ (uh HC0) (by show 0+20<=20;omega)
    rw[qTf _ _ (by rfl),<-hWA]at this
    exact this)
 have hkA:Keeps (λi=>i=w2.heap.size) ((w2.alloc (.cells #[.int .i64 0,.int .i64 0,.int .i64 0,.int .i64 0,.int .i64 0,.int .i64 0,.int .i64 0,.int .i64 0,.int .i64 0,.int .i64 0,.int .i64 0,.int .i64 0,.int .i64 0,.int .i64 0,.int .i64 0,.int .i64 0,.int .i64 0,.int .i64 0,.int .i64 0,.int .i64 0] 32)).alloc (.cells #[.nilFunc,.nilFunc,.nilFunc,.nilFunc,.nilFunc,.nilFunc] 83)) WA:=by
  rw[hWA];exact Keeps.setCells (M:=λi=>i=w2.heap.size) (b:=w2.heap.size) (Or.inl rfl) _ _ _ (Keeps.refl _ _)
 have HKA:=hide ((uh HN0).keeps hkA (show ¬(w2.heap.size+1=w2.heap.size) by omega))
 have HPA:=hide (show Keeps (λ_=>False) w2 WA from(uh HKW).trans hkA (λi hi hlt=>by have hi2:i=w2.heap.size:=hi;omega))
 have n0:=(uh HKA).cell (i:=0) rfl
 have n1:=(uh HKA).cell (i:=1) rfl
 have n2:=(uh HKA).cell (i:=2) rfl
 have n3:=(uh HKA).cell (i:=3) rfl
 have n4:=(uh HKA).cell (i:=4) rfl
 have n5:=(uh HKA).cell (i:=5) rfl
 have nf:=(uh HKA).frozen
 have HTB:=hide (show Blk _ (w2.heap.size+1) [.func (.func (qBq x.k)) #[] #[],.func (.func (qA0 x.k)) #[] #[],.func (.func (qA2 x.k)) #[] #[],.func (.func (qAq x.k)) #[] #[],.func (.func (qA1 x.k)) #[] #[],.func (.func (qA4 x.k)) #[] #[]] 83 from(((((((uh HKA).setCell 0 (.func (.func (qBq x.k)) #[] #[])).setCell 1 (.func (.func (qA0 x.k)) #[] #[])).setCell 2 (.func (.func (qA2 x.k)) #[] #[])).setCell 3 (.func (.func (qAq x.k)) #[] #[])).setCell 4 (.func (.func (qA1 x.k)) #[] #[])).setCell 5 (.func (.func (qA4 x.k)) #[] #[])))
 have HPB:=hide (show Keeps (λi=>i=w2.heap.size+1) WA _ from(((((((Keeps.refl (λi=>i=w2.heap.size+1) WA).setCell (p:=⟨w2.heap.size+1,0,none⟩) (Or.inl rfl) (.func (.func (qBq x.k)) #[] #[])).setCell (p:=⟨w2.heap.size+1,1,none⟩) (Or.inl rfl) (.func (.func (qA0 x.k)) #[] #[])).setCell (p:=⟨w2.heap.size+1,2,none⟩) (Or.inl rfl) (.func (.func (qA2 x.k)) #[] #[])).setCell (p:=⟨w2.heap.size+1,3,none⟩) (Or.inl rfl) (.func (.func (qAq x.k)) #[] #[])).setCell (p:=⟨w2.heap.size+1,4,none⟩) (Or.inl rfl) (.func (.func (qA1 x.k)) #[] #[])).setCell (p:=⟨w2.heap.size+1,5,none⟩) (Or.inl rfl) (.func (.func (qA4 x.k)) #[] #[])))
 clear hWA hkA HC0 HN0 HKW
 obtain⟨WB,hWB⟩:∃WB,WB=((((((WA.setCell ⟨w2.heap.size+1,0,none⟩ (.func (.func (qBq x.k)) #[] #[])).setCell ⟨w2.heap.size+1,1,none⟩ (.func (.func (qA0 x.k)) #[] #[])).setCell ⟨w2.heap.size+1,2,none⟩ (.func (.func (qA2 x.k)) #[] #[])).setCell ⟨w2.heap.size+1,3,none⟩ (.func (.func (qAq x.k)) #[] #[])).setCell ⟨w2.heap.size+1,4,none⟩ (.func (.func (qA1 x.k)) #[] #[])).setCell ⟨w2.heap.size+1,5,none⟩ (.func (.func (qA4 x.k)) #[] #[])):=⟨_,rfl⟩
 rw[<-hWB]at HTB HPB
 have HCB:=hide ((uh HCA).keeps (uh HPB) (show ¬(w2.heap.size=w2.heap.size+1) by omega))
 have HPC:=hide (show Keeps (λ_=>False) w2 WB from(uh HPA).trans (uh HPB) (λi hi hlt=>by have hi2:i=w2.heap.size+1:=hi;omega))
 have hWB':=hWB.symm
 clear hWB HPA HPB HCA HKA
 obtain⟨hva,hha⟩:=qBj (uh HCB) 20 rfl
 have t0:=(uh HTB).cell (i:=0) rfl
 have t1:=(uh HTB).cell (i:=1) rfl
 have t2:=(uh HTB).cell (i:=2) rfl
 have t3:=(uh HTB).cell (i:=3) rfl
 have t4:=(uh HTB).cell (i:=4) rfl
 have t5:=(uh HTB).cell (i:=5) rfl
 have HVK:=hide (show ck.kind=x.k by rw[<-uh HCK];have:=(uh HI).kind;rcases five h1 h5 with e | e | e | e | e <;> rw[e]at this ⊢ <;> exact this)
 go_wp2_with fail
 refine(qIl x.id ck x.k WB h1 h5 (by rw[<-uh HCK];exact(uh HI).valid) (uh HVK)).mono ?_
 rintro e w3 ⟨sb,rfl,hs3,hn3,hk3⟩
 have hkr:=hs2
 have HL3:=hide (show LSt w r sb (qAy x.id ck x.k) (qB2 (qCc.map (qAs x.ref))++(enc x.rel++(enc 0++(nn++tl)))) w3 from
    ⟨hs3,(uh HR2).keeps ((uh HPC).then hk3) (λh=>h),(uh HK2).trans ((uh HPC).then hk3) (λ_ h _=>h.elim),λi hi=>by have h1:=hn3 i hi;have h2:=(uh HPC).size;omega,hrl⟩)
 have HC3:=hide ((uh HCB).keeps hk3 (λh=>h))
 have HSN:=hide (show sb.s≠w2.heap.size by have h1:=hn3 sb.s (.inl rfl);have h2:=(uh HCB).lt;omega)
 have HCR:=hide (show w2.heap.size≠r by omega)
 clear hs3 hn3 hk3 hst hWB' n0 n1 n2 n3 n4 n5 nf t0 t1 t2 t3 t4 t5 hva hha HR2 HPC HCB HTB HK2
 generalize hcb:w2.heap.size=cb at *
 clear hcb
 go_wp2_with fail
 refine(qN4 w3).mono ?_
 rintro e w4 ⟨rfl,hk4⟩
 have HL4:=hide ((uh HL3).still hk4)
 have HC4:=hide ((uh HC3).keeps hk4 (λh=>h))
 clear hk4 HL3 HC3
 go_wp2_with fail
 go_loopw [30] (λiv wr=>∃k:Nat,k<=7/\iv=.int .i64 k/\Hid (LSt w r sb { qAy x.id ck x.k with ref:=qHg x.ref k } (qB2 ((qCc.map (qAs x.ref)).drop k)++(enc x.rel++(enc 0++(nn++tl)))) wr)/\Hid (Blk wr cb ck.cells 32)) (λiv _=>7-(intOf iv).toNat)
 case atStart=>exact⟨0,by omega,rfl,HL4,HC4⟩
 case round =>
  clear HL4 HC4
  obtain⟨k,hk,rfl,HLr,HCr⟩:=hrel
  by_cases hk7:k<7
  ·obtain⟨j,hj⟩:∃j,qCc[k]?=some j:=⟨_,List.getElem?_eq_getElem (show k<qCc.length from hk7)⟩
   have hix:=ixk k j hj
   have hj12:j<12:=by
    have hm:=List.mem_of_getElem? hj
    simp[qCc]at hm
    omega
   have hgd:qCc.getD k 0=j:=by rw[List.getD_eq_getElem?_getD,hj];rfl
   have HRN:=hide (show { qAy x.id ck x.k with ref:=qHg x.ref (k+1) }={ ({ qAy x.id ck x.k with ref:=qHg x.ref k }:Ser) with ref:=(qHg x.ref k).set j (qAs x.ref j) } by show _=_;simp only[qHg,hgd])
   have HDR:=hide (show qB2 ((qCc.map (qAs x.ref)).drop k)++(enc x.rel++(enc 0++(nn++tl)))=enc (qAs x.ref j)++(qB2 ((qCc.map (qAs x.ref)).drop (k+1))++(enc x.rel++(enc 0++(nn++tl)))) by
      have hlt:k<(qCc.map (qAs x.ref)).length:=by rw[List.length_map];exact hk7
      rw[List.drop_eq_getElem_cons hlt,qBk,List.append_assoc]
      congr 2
      rw[List.getElem_map]
      congr 1
      have:=List.getElem?_eq_getElem (show k<qCc.length from hk7)
      rw[hj]at this
      exact(Option.some.inj this).symm)
   obtain⟨v0,v1⟩:=(uh HI).ref j
   have HL5:=hide (show LSt w r sb { qAy x.id ck x.k with ref:=qHg x.ref k } (enc (qAs x.ref j)++(qB2 ((qCc.map (qAs x.ref)).drop (k+1))++(enc x.rel++(enc 0++(nn++tl))))) wr by rw[<-uh HDR];exact uh HLr)
   clear HLr HDR hgd
   have hki:(k:Int)<7:=by omega
   have hj0:(0:Int)<=(j:Int):=by omega
   have hj1:(j:Int)<12:=by omega
   go_wp2_with fail
   go_region_with (first | (go_at_call 88;refine(((uh HL5).still ((Keeps.refl (λ_=>False) wr).drew)).number v0 (by omega) v0 v1).mono ?_;rintro e w6 ⟨rfl,hl6,hk6⟩;have hc6:=hl6.ser.blk.cell (qDf sb _ (qQ3 x.ref k) j hj12);have hf6:=hl6.ser.blk.frozen))
   have HL7:=hide (hl6.set (x2:={ qAy x.id ck x.k with ref:=(qHg x.ref k).set j (qAs x.ref j) }) (35+j) (.int .i64 (qAs x.ref j)) (qMg sb _ j _) rfl rfl rfl rfl)
   have HC6:=hide ((uh HCr).keeps (((Keeps.refl (λ_=>False) wr).drew.mono (M':=λi=>i=r) (λ_ _ h=>h.elim)).then hk6) (uh HCR))
   have HC7:=hide ((uh HC6).setCell_far (p:=⟨sb.s,35+j,none⟩) (uh HSN) (.int .i64 (qAs x.ref j)))
   clear hc6 hf6 hl6 hk6
   go_wp2
   go_roundw
   case rel=>exact⟨k+1,by omega,by go_num,by show LSt _ _ _ _ _ _;rw[uh HRN];exact uh HL7,HC7⟩
   case measure=>simp[intOf];omega
  ·have hk7e:k=7:=by omega
   subst hk7e
   have HL5:=hide (show LSt w r sb { qAy x.id ck x.k with ref:=qHg x.ref 7 } (enc x.rel++(enc 0++(nn++tl))) wr from uh HLr)
   clear HLr
   obtain⟨lg0,lg1⟩:=(uh HI).lag
   obtain⟨cp0,cp1⟩:=(uh HI).cap
   rw[uh HCK]at lg0 lg1 cp0 cp1
   have rl0:=(uh HI).rel0
   have rl2:=(uh HI).rel2
   have HMR:=hide (show x.rel<=qWc ck clock by rw[<-uh HCK];exact(uh HI).rel1)
   have cl0:=(uh HI).c0
   have cl1:=(uh HI).c1
   have HMO:=hide (qXf sb { qAy x.id ck x.k with ref:=qHg x.ref 7 } clock wr (uh HL5).ser lg0 lg1 cp0 cp1 cl0 cl1)
   go_wp2_with fail
   refine(uh HMO).mono ?_
   rintro e w5 ⟨rfl,hw5⟩
   rw[hw5]
   clear hw5 w5 HMO
   go_wp2_with fail
   refine((uh HL5).number rl0 (by omega) rl0 (uh HMR)).mono ?_
   rintro e w6 ⟨rfl,hl6,hk6⟩
   have hc6:w6.cell? ⟨sb.s,34,none⟩=some (.int .i64 0):=hl6.ser.blk.cell rfl
   have hf6:=hl6.ser.blk.frozen
   have HL7:=hide (hl6.set (x2:={ qAy x.id ck x.k with ref:=qHg x.ref 7,rel:=x.rel }) 34 (.int .i64 x.rel) rfl rfl rfl rfl rfl)
   have HC7:=hide (((uh HCr).keeps hk6 (uh HCR)).setCell_far (p:=⟨sb.s,34,none⟩) (uh HSN) (.int .i64 x.rel))
   clear hl6 hk6 HL5 HCr
   go_wp2_with fail
   clear hc6 hf6
   generalize w6.setCell ⟨sb.s,34,none⟩ (.int .i64 x.rel)=w7 at *
   have hcp:w7.cell? ⟨cb,3,none⟩=some (.int .i64 ck.cap):=(uh HC7).cell rfl
   have hrc:w7.cell? ⟨sb.s,34,none⟩=some (.int .i64 x.rel):=(uh HL7).ser.blk.cell rfl
   have hlc:w7.cell? ⟨sb.s,2,none⟩=some (.int .i64 ck.lag):=(uh HL7).ser.blk.cell rfl
   have wsb:IntKind.i64.wrap (4611686018427387904-x.rel)=4611686018427387904-x.rel:=by rw[IntKind.wrap_i64];omega
   have hmn:¬(4611686018427387904-x.rel<ck.cap):=by omega
   have HSR:=hide (show sb.s≠r from(uh HL7).apart sb.s (.inl rfl))
   have HS:=hide (show ∀w',Keeps (λi=>i=r) w7 w'->w'.cell? ⟨cb,3,none⟩=some (.int .i64 ck.cap)/\w'.cell? ⟨sb.s,34,none⟩=some (.int .i64 x.rel) from λw' hk=>⟨hk.cell hcp (uh HCR),hk.cell hrc (uh HSR)⟩)
   go_region_held3 (λw'=>w'.cell? ⟨cb,3,none⟩=some (.int .i64 ck.cap)/\w'.cell? ⟨sb.s,34,none⟩=some (.int .i64 x.rel))
    (first | exact uh HS _ (uh HKs) | exact uh HS _ ((Keeps.refl (λi=>i=r) w7).drew) | exact uh HS _ (Keeps.refl (λi=>i=r) w7) | (simp[*];done))
    (first | (go_at_call 88;refine(((uh HL7).still ((Keeps.refl (λ_=>False) w7).drew)).number (n:=0) (by omega) (by omega) (by omega) (by omega)).mono ?_;rintro e w8 ⟨rfl,hl8,hk8⟩;have HKs:=hide (((Keeps.refl (λi=>i=r) w7).drew).then hk8)))
   have HL8:=hide hl8
   have HC8:=hide ((uh HC7).keeps (uh HKs) (uh HCR))
   clear hl8 hk8 hcp hrc hlc wsb hmn HL7 HC7 HKs HS
   have hrc:w8.cell? ⟨sb.s,34,none⟩=some (.int .i64 x.rel):=(uh HL8).ser.blk.cell rfl
   have hlc:w8.cell? ⟨sb.s,2,none⟩=some (.int .i64 ck.lag):=(uh HL8).ser.blk.cell rfl
   have HWM:=hide (show ∀w0,Keeps (λ_=>False) w8 w0->Calls Tryz.prog 54 #[.pointer (some ⟨sb.s,0,none⟩),.int .i64 clock] w0 λe w'=>e=.returned (.int .i64 (clock-ck.lag))/\w'=w0 from λw0 hk=>qKh sb.s ck.lag clock w0 (hk.cell hlc (λh=>h)) lg0 lg1 cl0 cl1)
   have HS8:=hide (show ∀w',Keeps (λ_=>False) w8 w'->w'.cell? ⟨sb.s,34,none⟩=some (.int .i64 x.rel) from λw' hk=>hk.cell hrc (λh=>h))
   have hwr:IntKind.i64.wrap x.rel=x.rel:=by rw[IntKind.wrap_i64];omega
   go_wp2_with fail
   go_region_held3 (λw'=>w'.cell? ⟨sb.s,34,none⟩=some (.int .i64 x.rel))
    (first | exact uh HS8 _ ((Keeps.refl (λ_=>False) w8).drew) | exact uh HS8 _ (Keeps.refl (λ_=>False) w8) | exact uh HS8 _ (((Keeps.refl (λ_=>False) w8).drew).alloc _) | (simp[*];done))
    (first | (go_at_call 54;refine(uh HWM _ ((Keeps.refl (λ_=>False) w8).drew)).mono ?_;rintro e w9 ⟨rfl,rfl⟩))
   have hk9:Keeps (λ_=>False) w8 ((w8.alloc (.cells #[.int .i64 (clock-ck.lag),.int .i64 x.rel,.int .i64 x.rel,.slice none 0 0] 184)).drew):=((Keeps.refl _ _).alloc _).drew
   have HB9:=hide (show Blk ((w8.alloc (.cells #[.int .i64 (clock-ck.lag),.int .i64 x.rel,.int .i64 x.rel,.slice none 0 0] 184)).drew) w8.heap.size (qIx (clock-ck.lag) x.rel x.rel (.slice none 0 0)) 184 from Blk.new w8 [_,_,_,_] _)
   have HL9:=hide ((uh HL8).still hk9)
   have hz8:r<w8.heap.size/\(∀i,sb.foot x.k i->i<w8.heap.size)/\w.heap.size<=w8.heap.size:=⟨(uh HL8).rd.blk.lt,λi hi=>(uh HL8).ser.lt i hi,(uh HL8).kp.size⟩
   have HZ8:=hide hz8
   clear hk9 hrc hlc HWM HS8 HL8 HC8 hz8
   generalize(w8.alloc (.cells #[.int .i64 (clock-ck.lag),.int .i64 x.rel,.int .i64 x.rel,.slice none 0 0] 184)).drew=w9 at *
   generalize w8.heap.size=kn at *
   go_wp2_with fail
   go_loopw [75] (λiv wr=>iv=.int .i64 0/\wr=w9) (λ_ _=>0)
   case atStart=>exact⟨rfl,rfl⟩
   case round =>
    obtain⟨rfl,rfl⟩:=hrel
    have hka:wr.cell? ⟨kn,1,none⟩=some (.int .i64 x.rel):=(uh HB9).cell rfl
    have hca:wr.cell? ⟨sb.s,33,none⟩=some (.int .i64 0):=(uh HL9).ser.blk.cell rfl
    have hfa:=(uh HL9).ser.blk.frozen
    have HLA:=hide ((uh HL9).set (x2:={ qAy x.id ck x.k with ref:=qHg x.ref 7,rel:=x.rel,acc:=x.rel }) 33 (.int .i64 x.rel) rfl rfl rfl rfl rfl)
    have HBA:=hide ((uh HB9).setCell_far (p:=⟨sb.s,33,none⟩) (show sb.s≠kn by have:=(uh HZ8).2.1 sb.s (.inl rfl);omega) (.int .i64 x.rel))
    obtain⟨wa,hwa⟩:∃wa,wr.setCell ⟨sb.s,33,none⟩ (.int .i64 x.rel)=wa:=⟨_,rfl⟩
    rw[hwa]at HLA HBA
    have d31:wa.cell? ⟨sb.s,31,none⟩=some (.func (.func (zDv x.k)) (qIc sb.n.d) #[]):=(uh HLA).ser.blk.cell rfl
    have hown:=zCo x.k h1 h5
    go_wp2_with fail
    clear hka hca hfa hwa d31 hown
    refine(uh HHL sb.n kn wa (uh HLA).ser.note (uh HLA).rd (uh HBA) (λh=>(uh HLA).apart r (.inr (.inr (.inr h))) rfl) (λh=>by have:=(uh HZ8).2.1 kn (.inr (.inr (.inr h)));omega) (by have:=(uh HZ8).1;omega)).mono ?_
    rintro e wb ⟨rfl,nb',hd',hN',hf',hr',hk'⟩
    have HKB:=hide hk'
    have HRB:=hide hr'
    have hsn:=(uh HLA).ser.sn
    have hz:=uh HZ8
    have HSB:=hide (show SRep wb { sb with n:=nb' } ⟨x.id,ck,x.k,x.rel,x.rel,qHg x.ref 7,[],nt',0⟩ from by
       have hS:=(uh HLA).ser
       have hne:∀i,sb.foot x.k i->¬qEk x.k sb.n i->¬(i=r\/i=kn\/qEk x.k sb.n i):=λi hi hn h=>by
        rcases h with h | h | h
        ·exact(uh HLA).apart i hi h
        ·have:=hz.2.1 i hi;omega
        ·exact hn h
       have hlt:∀i,sb.foot x.k i->i<wa.heap.size:=λi hi=>hS.lt i hi
       refine⟨?_,?_,hN',hS.sq,hS.sg,λi hi=>?_⟩
       ·have h1:=hS.blk.keeps hk' (hne sb.s (.inl rfl) (λh=>(hsn _ h).1 rfl))
        unfold qB5 at h1 ⊢
        simp only at h1 ⊢
        rw[hd']
        exact h1
       ·exact hS.que.keeps hk' (hne sb.q (.inr (.inl rfl)) (λh=>(hsn _ h).2.1 rfl)) (λg hg=>hne g (.inr (.inr (.inl hg))) (λh=>(hsn _ h).2.2 hg))
       ·rcases hf' i hi with h | h
        ·exact hsn i h
        ·refine⟨λe=>?_,λe=>?_,λe=>?_⟩
         ·have e2:i=sb.s:=e
          have:=hlt sb.s (.inl rfl);omega
         ·have e2:i=sb.q:=e
          have:=hlt sb.q (.inr (.inl rfl));omega
         ·have:=hlt i (.inr (.inr (.inl e)));omega)
    have HNW:=hide (show ∀i,({ sb with n:=nb' }:SB).foot x.k i->w.heap.size<=i from λi hi=>by
       rcases hi with h | h | h | h
       ·exact(uh HLA).new i (.inl h)
       ·exact(uh HLA).new i (.inr (.inl h))
       ·exact(uh HLA).new i (.inr (.inr (.inl h)))
       ·rcases hf' i h with h | h
        ·exact(uh HLA).new i (.inr (.inr (.inr h)))
        ·have:=(uh HLA).kp.size;omega)
    have HKF:=hide (show Keeps (λi=>i=r) w wb from(uh HLA).kp.trans hk' (λi hi hlt=>by
         rcases hi with h | h | h
         ·exact h
         ·have:=hz.2.2;omega
         ·have:=(uh HLA).new i (.inr (.inr (.inr h)));omega))
    clear hN' hf' hr' hk' hsn hz hd'
    go_wp2_with fail
    refine(qPy r tl wb (uh HRB)).mono ?_
    rintro e wc ⟨rfl,hwc⟩
    rw[hwc]
    clear hwc wc
    go_wp2
    go_ret
    exact⟨{ sb with n:=nb' },rfl,by rw[uh HCK];exact uh HSB,uh HRB,uh HNW,uh HKF⟩
end
end Go.Proofs.YtahnliehdjncdabGreatDoor
