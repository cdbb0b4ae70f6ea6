import Derived.Test.YtahnliehdjncdabGreatDoorXAC
set_option maxRecDepth 100000
set_option maxHeartbeats 16000000
namespace Go.Proofs.YtahnliehdjncdabGreatDoor
section
open Go.RowKit
attribute [local go_sem ↓] qAd qAe
attribute [local go_sem] qAg qAm qAb qAc qAn qAo qAi qAh qAf qAl
theorem qA5{f:FuncId}{g:Func}(hf:Tryz.prog.funcs[f]?=some g)(hname:(g.name== "runtime.NumGoroutine")=false)(hb:g.body.isNone=false)(args:Array Value)(w:World):
  (callFunc f args).run Tryz.prog w=.ok (.enter f args) w:=by
 have h1:¬(g.name= "runtime.NumGoroutine"):=by simpa using hname
 have h2:¬g.body=none:=by intro h;simp[h]at hb
 simp[callFunc,hf,h1,h2]
theorem own79(args:Array Value)(w:World): (callFunc 102 args).run Tryz.prog w=.ok (.enter 102 args) w:=qA5 Tryz.func102 (by kernel_rfl) (by kernel_rfl) args w
theorem ownSC(args:Array Value)(w:World): (callFunc 107 args).run Tryz.prog w=.ok (.enter 107 args) w:=qA5 Tryz.func107 (by kernel_rfl) (by kernel_rfl) args w
theorem own80(args:Array Value)(w:World): (callFunc 105 args).run Tryz.prog w=.ok (.enter 105 args) w:=qA5 Tryz.func105 (by kernel_rfl) (by kernel_rfl) args w
theorem own81(args:Array Value)(w:World): (callFunc 113 args).run Tryz.prog w=.ok (.enter 113 args) w:=qA5 Tryz.func113 (by kernel_rfl) (by kernel_rfl) args w
theorem zGh(args:Array Value)(w:World): (callFunc 117 args).run Tryz.prog w=.ok (.enter 117 args) w:=qA5 Tryz.func117 (by kernel_rfl) (by kernel_rfl) args w
theorem zFs(args:Array Value)(w:World): (callFunc 126 args).run Tryz.prog w=.ok (.enter 126 args) w:=qA5 Tryz.func126 (by kernel_rfl) (by kernel_rfl) args w
theorem own82(args:Array Value)(w:World): (callFunc 108 args).run Tryz.prog w=.ok (.enter 108 args) w:=qA5 Tryz.func108 (by kernel_rfl) (by kernel_rfl) args w
theorem zGz(args:Array Value)(w:World): (callFunc 111 args).run Tryz.prog w=.ok (.enter 111 args) w:=qA5 Tryz.func111 (by kernel_rfl) (by kernel_rfl) args w
theorem own84(args:Array Value)(w:World): (callFunc 114 args).run Tryz.prog w=.ok (.enter 114 args) w:=qA5 Tryz.func114 (by kernel_rfl) (by kernel_rfl) args w
theorem own85(args:Array Value)(w:World): (callFunc 118 args).run Tryz.prog w=.ok (.enter 118 args) w:=qA5 Tryz.func118 (by kernel_rfl) (by kernel_rfl) args w
theorem own86(args:Array Value)(w:World): (callFunc 120 args).run Tryz.prog w=.ok (.enter 120 args) w:=qA5 Tryz.func120 (by kernel_rfl) (by kernel_rfl) args w
theorem own87(args:Array Value)(w:World): (callFunc 121 args).run Tryz.prog w=.ok (.enter 121 args) w:=qA5 Tryz.func121 (by kernel_rfl) (by kernel_rfl) args w
theorem own88(args:Array Value)(w:World): (callFunc 122 args).run Tryz.prog w=.ok (.enter 122 args) w:=qA5 Tryz.func122 (by kernel_rfl) (by kernel_rfl) args w
theorem own89(args:Array Value)(w:World): (callFunc 124 args).run Tryz.prog w=.ok (.enter 124 args) w:=qA5 Tryz.func124 (by kernel_rfl) (by kernel_rfl) args w
theorem ownNC(args:Array Value)(w:World): (callFunc 103 args).run Tryz.prog w=.ok (.enter 103 args) w:=qA5 Tryz.func103 (by kernel_rfl) (by kernel_rfl) args w
theorem ownNS(args:Array Value)(w:World): (callFunc 109 args).run Tryz.prog w=.ok (.enter 109 args) w:=qA5 Tryz.func109 (by kernel_rfl) (by kernel_rfl) args w
theorem ownNO(args:Array Value)(w:World): (callFunc 115 args).run Tryz.prog w=.ok (.enter 115 args) w:=qA5 Tryz.func115 (by kernel_rfl) (by kernel_rfl) args w
theorem ownND(args:Array Value)(w:World): (callFunc 119 args).run Tryz.prog w=.ok (.enter 119 args) w:=qA5 Tryz.func119 (by kernel_rfl) (by kernel_rfl) args w
theorem ownNT(args:Array Value)(w:World): (callFunc 123 args).run Tryz.prog w=.ok (.enter 123 args) w:=qA5 Tryz.func123 (by kernel_rfl) (by kernel_rfl) args w
theorem zFa(args:Array Value)(w:World): (callFunc 104 args).run Tryz.prog w=.ok (.enter 104 args) w:=qA5 Tryz.func104 (by kernel_rfl) (by kernel_rfl) args w
theorem ownPO(args:Array Value)(w:World): (callFunc 110 args).run Tryz.prog w=.ok (.enter 110 args) w:=qA5 Tryz.func110 (by kernel_rfl) (by kernel_rfl) args w
theorem ownPR(args:Array Value)(w:World): (callFunc 116 args).run Tryz.prog w=.ok (.enter 116 args) w:=qA5 Tryz.func116 (by kernel_rfl) (by kernel_rfl) args w
theorem zG1(args:Array Value)(w:World): (callFunc 106 args).run Tryz.prog w=.ok (.enter 106 args) w:=qA5 Tryz.func106 (by kernel_rfl) (by kernel_rfl) args w
theorem zGa(args:Array Value)(w:World): (callFunc 112 args).run Tryz.prog w=.ok (.enter 112 args) w:=qA5 Tryz.func112 (by kernel_rfl) (by kernel_rfl) args w
theorem ownAD(args:Array Value)(w:World): (callFunc 125 args).run Tryz.prog w=.ok (.enter 125 args) w:=qA5 Tryz.func125 (by kernel_rfl) (by kernel_rfl) args w
theorem qSa(k:Nat)(h1:1<=k)(h5:k<=5)(args:Array Value)(w:World): (callFunc (qA1 k) args).run Tryz.prog w=.ok (.enter (qA1 k) args) w:=by
 have hk:k=1\/k=2\/k=3\/k=4\/k=5:=by omega
 rcases hk with hk | hk | hk | hk | hk <;> subst hk
 ·exact ownNC args w
 ·exact ownNS args w
 ·exact ownNO args w
 ·exact ownND args w
 ·exact ownNT args w
theorem qQk(k:Nat)(h1:1<=k)(h5:k<=5)(args:Array Value)(w:World): (callFunc (qA0 k) args).run Tryz.prog w=.ok (.enter (qA0 k) args) w:=by
 have hk:k=1\/k=2\/k=3\/k=4\/k=5:=by omega
 rcases hk with hk | hk | hk | hk | hk <;> subst hk
 ·exact zFa args w
 ·exact ownPO args w
 ·exact ownPR args w
 ·exact zFa args w
 ·exact zFa args w
theorem qSd(k:Nat)(h1:1<=k)(h5:k<=5)(args:Array Value)(w:World): (callFunc (qAz k) args).run Tryz.prog w=.ok (.enter (qAz k) args) w:=by
 have hk:k=1\/k=2\/k=3\/k=4\/k=5:=by omega
 rcases hk with hk | hk | hk | hk | hk <;> subst hk
 ·exact zG1 args w
 ·exact zGa args w
 ·exact zGa args w
 ·exact zG1 args w
 ·exact ownAD args w
theorem qU4(k:Nat)(h1:1<=k)(h5:k<=5)(args:Array Value)(w:World): (callFunc (qBn k) args).run Tryz.prog w=.ok (.enter (qBn k) args) w:=by
 have hk:k=1\/k=2\/k=3\/k=4\/k=5:=by omega
 rcases hk with hk | hk | hk | hk | hk <;> subst hk
 ·exact own79 args w
 ·exact own82 args w
 ·exact own84 args w
 ·exact own85 args w
 ·exact own88 args w
theorem qOg(k:Nat)(h1:1<=k)(h5:k<=5)(args:Array Value)(w:World): (callFunc (qAq k) args).run Tryz.prog w=.ok (.enter (qAq k) args) w:=by
 have hk:k=1\/k=2\/k=3\/k=4\/k=5:=by omega
 rcases hk with hk | hk | hk | hk | hk <;> subst hk
 ·exact own80 args w
 ·exact zGz args w
 ·exact zGz args w
 ·exact own86 args w
 ·exact own89 args w
theorem qX7(k:Nat)(h1:1<=k)(h5:k<=5)(args:Array Value)(w:World): (callFunc (qA4 k) args).run Tryz.prog w=.ok (.enter (qA4 k) args) w:=by
 have hk:k=1\/k=2\/k=3\/k=4\/k=5:=by omega
 rcases hk with hk | hk | hk | hk | hk <;> subst hk
 ·exact ownSC args w
 ·exact own81 args w
 ·exact zGh args w
 ·exact own87 args w
 ·exact zFs args w
def qFr(c:Cfg)(k:Nat): Bool:=match k with | 1=>countB c | 2=>qHq c | 3=>qIh c | 4=>qIj c | _=>qKp c
def qA7(c:Cfg): Bool:=inB c.kind 1 5&&(qDk c&&qFr c c.kind.toNat)
theorem qVf(c:Cfg)(k:Nat)(w:World)(h1:1<=k)(h5:k<=5):
  Calls Tryz.prog (qBn k) #[c.val] w λe w'=>e=.returned (.bool (qFr c k))/\Keeps (λ_=>False) w w':=by
 have hk:k=1\/k=2\/k=3\/k=4\/k=5:=by omega
 rcases hk with hk | hk | hk | hk | hk
 all_goals subst hk
 ·exact qPl c w
 ·exact qK3 c w
 ·exact qO7 c w
 ·exact qIz c w
 ·exact qP0 c w
def qDb(c:Cfg)(k:Nat)(x:It): Int:=match k with | 1=>0 | 2=>qXn x | 3=>qXn x | 4=>qFf c x | _=>qIy c x
theorem qJ9(c:Cfg)(k:Nat)(x:It)(w:World)(h1:1<=k)(h5:k<=5)(hc:4<=k->c.weighs)(t0:0<=x.t)(t1:x.t<=4611686018427387904):
  Calls Tryz.prog (qAq k) #[c.val,x.val] w λe w'=>e=.returned (.int .i64 (qDb c k x))/\Keeps (λ_=>False) w w':=by
 have hk:k=1\/k=2\/k=3\/k=4\/k=5:=by omega
 rcases hk with hk | hk | hk | hk | hk
 all_goals subst hk
 ·exact qJt c x w
 ·exact qGp c x w
 ·exact qGp c x w
 ·exact qDw c x w (hc (by omega)) t0 t1
 ·exact qMy c x w (hc (by omega)) t0 t1
theorem qS8(c:Cfg)(w:World)(h1:inB c.kind 1 5=false):
  Calls Tryz.prog 47 #[c.val] w λe w'=>e=.returned (.tuple #[.agg #[.nilFunc,.nilFunc,.nilFunc,.nilFunc,.nilFunc,.nilFunc],.bool false])/\Keeps (λ_=>False) w w':=by
 have HB:=hide (show Blk ((w.alloc (.cells c.cells.toArray 32)).alloc (.cells #[.nilFunc,.nilFunc,.nilFunc,.nilFunc,.nilFunc,.nilFunc] 83)) w.heap.size c.cells 32 from(Blk.new w c.cells 32).alloc _)
 have HR:=hide (show Blk ((w.alloc (.cells c.cells.toArray 32)).alloc (.cells #[.nilFunc,.nilFunc,.nilFunc,.nilFunc,.nilFunc,.nilFunc] 83)) (w.heap.size+1) [.nilFunc,.nilFunc,.nilFunc,.nilFunc,.nilFunc,.nilFunc] 83 from Blk.newAt (by simp) [_,_,_,_,_,_] _)
 have HK:=hide (((Keeps.refl (λ_=>False) w).alloc (.cells c.cells.toArray 32)).alloc (.cells #[.nilFunc,.nilFunc,.nilFunc,.nilFunc,.nilFunc,.nilFunc] 83))
 unfold Cfg.val
 go_enter Tryz.func47,Tryz.ntmps47
 go_wp2_with fail
 refine(zFc c.kind _ h1).mono ?_
 rintro e w1 ⟨rfl,hk1⟩
 have hr1:=(uh HR).keeps hk1 (λh=>h)
 have hb1:=(uh HB).keeps hk1 (λh=>h)
 have r0:w1.cell? ⟨w.heap.size+1,0,none⟩=some .nilFunc:=hr1.cell rfl
 have r1:w1.cell? ⟨w.heap.size+1,1,none⟩=some .nilFunc:=hr1.cell rfl
 have r2:w1.cell? ⟨w.heap.size+1,2,none⟩=some .nilFunc:=hr1.cell rfl
 have r3:w1.cell? ⟨w.heap.size+1,3,none⟩=some .nilFunc:=hr1.cell rfl
 have r4:w1.cell? ⟨w.heap.size+1,4,none⟩=some .nilFunc:=hr1.cell rfl
 have r5:w1.cell? ⟨w.heap.size+1,5,none⟩=some .nilFunc:=hr1.cell rfl
 have rf:=hr1.frozen
 have hz:=hr1.lt
 have hz0:=hb1.lt
 obtain⟨hv1,hh1⟩:=qBm hb1 20 rfl
 have HB1:=hide hb1
 have HR1:=hide hr1
 have HK1:=hide ((uh HK).then hk1)
 clear hk1 hb1 hr1
 go_wp2
 have hbf:=(((((((uh HR1).setCell 0 .nilFunc).setCell 1 .nilFunc).setCell 2 .nilFunc).setCell 3 .nilFunc).setCell 4 .nilFunc).setCell 5 .nilFunc).alloc (.cells #[.nilFunc,.nilFunc,.nilFunc,.nilFunc,.nilFunc,.nilFunc] 83)
 have HKF:=hide ((uh HK1).trans ((((((((Keeps.refl (λk=>k=w.heap.size+1) w1).setCell (p:=⟨w.heap.size+1,0,none⟩) (Or.inl rfl) .nilFunc).setCell (p:=⟨w.heap.size+1,1,none⟩) (Or.inl rfl) .nilFunc).setCell (p:=⟨w.heap.size+1,2,none⟩) (Or.inl rfl) .nilFunc).setCell (p:=⟨w.heap.size+1,3,none⟩) (Or.inl rfl) .nilFunc).setCell (p:=⟨w.heap.size+1,4,none⟩) (Or.inl rfl) .nilFunc).setCell (p:=⟨w.heap.size+1,5,none⟩) (Or.inl rfl) .nilFunc).alloc (.cells #[.nilFunc,.nilFunc,.nilFunc,.nilFunc,.nilFunc,.nilFunc] 83)) (λi hi hlt=>by omega))
 generalize(((((((w1.setCell ⟨w.heap.size+1,0,none⟩ .nilFunc).setCell ⟨w.heap.size+1,1,none⟩ .nilFunc).setCell ⟨w.heap.size+1,2,none⟩ .nilFunc).setCell ⟨w.heap.size+1,3,none⟩ .nilFunc).setCell ⟨w.heap.size+1,4,none⟩ .nilFunc).setCell ⟨w.heap.size+1,5,none⟩ .nilFunc).alloc (.cells #[.nilFunc,.nilFunc,.nilFunc,.nilFunc,.nilFunc,.nilFunc] 83))=w2 at *
 have q0:w2.cell? ⟨w.heap.size+1,0,none⟩=some .nilFunc:=hbf.cell rfl
 have q1:w2.cell? ⟨w.heap.size+1,1,none⟩=some .nilFunc:=hbf.cell rfl
 have q2:w2.cell? ⟨w.heap.size+1,2,none⟩=some .nilFunc:=hbf.cell rfl
 have q3:w2.cell? ⟨w.heap.size+1,3,none⟩=some .nilFunc:=hbf.cell rfl
 have q4:w2.cell? ⟨w.heap.size+1,4,none⟩=some .nilFunc:=hbf.cell rfl
 have q5:w2.cell? ⟨w.heap.size+1,5,none⟩=some .nilFunc:=hbf.cell rfl
 exact bodyPost_ret (v:=.tuple #[.agg #[.nilFunc,.nilFunc,.nilFunc,.nilFunc,.nilFunc,.nilFunc],.bool false]) (by simp[results,Tryz.results47,go_sem,q0,q1,q2,q3,q4,q5]) rfl ⟨rfl,uh HKF⟩
theorem qHu(n:Int)(k:Nat)(w:World)(hn:n=k)(h1:1<=k)(h5:k<=5):
  Calls Tryz.prog 74 #[.int .i64 n] w λe w'=>e=.returned (.tuple #[.agg (qBa k).toArray,.bool true])/\Keeps (λ_=>False) w w':=by
 subst hn;exact zCc k w h1 h5
theorem qS0(c:Cfg)(k:Nat)(w:World)(hk:c.kind=k)(hk1:1<=k)(hk5:k<=5)(h2:qDk c=false):
  Calls Tryz.prog 47 #[c.val] w λe w'=>e=.returned (.tuple #[.agg #[.nilFunc,.nilFunc,.nilFunc,.nilFunc,.nilFunc,.nilFunc],.bool false])/\Keeps (λ_=>False) w w':=by
 have HB:=hide (show Blk ((w.alloc (.cells c.cells.toArray 32)).alloc (.cells #[.nilFunc,.nilFunc,.nilFunc,.nilFunc,.nilFunc,.nilFunc] 83)) w.heap.size c.cells 32 from(Blk.new w c.cells 32).alloc _)
 have HR:=hide (show Blk ((w.alloc (.cells c.cells.toArray 32)).alloc (.cells #[.nilFunc,.nilFunc,.nilFunc,.nilFunc,.nilFunc,.nilFunc] 83)) (w.heap.size+1) [.nilFunc,.nilFunc,.nilFunc,.nilFunc,.nilFunc,.nilFunc] 83 from Blk.newAt (by simp) [_,_,_,_,_,_] _)
 have HK:=hide (((Keeps.refl (λ_=>False) w).alloc (.cells c.cells.toArray 32)).alloc (.cells #[.nilFunc,.nilFunc,.nilFunc,.nilFunc,.nilFunc,.nilFunc] 83))
 have HKK:=hide hk
 clear hk
 unfold Cfg.val
 go_enter Tryz.func47,Tryz.ntmps47
 go_wp2_with fail
 refine(qHu c.kind k _ (uh HKK) hk1 hk5).mono ?_
 rintro e w1 ⟨rfl,hw1⟩
 unfold qBa fn
 have hr1:=(uh HR).keeps hw1 (λh=>h)
 have hb1:=(uh HB).keeps hw1 (λh=>h)
 have hz:=hr1.lt
 have hz0:=hb1.lt
 have HB1:=hide (hb1.alloc (.cells #[.func (.func (qBn k)) #[] #[],.func (.func (qA1 k)) #[] #[],.func (.func (qA0 k)) #[] #[],.func (.func (qAq k)) #[] #[],.func (.func (qAz k)) #[] #[],.func (.func (qA4 k)) #[] #[]] 83))
 have HR1:=hide (hr1.alloc (.cells #[.func (.func (qBn k)) #[] #[],.func (.func (qA1 k)) #[] #[],.func (.func (qA0 k)) #[] #[],.func (.func (qAq k)) #[] #[],.func (.func (qAz k)) #[] #[],.func (.func (qA4 k)) #[] #[]] 83))
 have HT1:=hide (Blk.new w1 [.func (.func (qBn k)) #[] #[],.func (.func (qA1 k)) #[] #[],.func (.func (qA0 k)) #[] #[],.func (.func (qAq k)) #[] #[],.func (.func (qAz k)) #[] #[],.func (.func (qA4 k)) #[] #[]] 83)
 have HK1:=hide (((uh HK).then hw1).alloc (.cells #[.func (.func (qBn k)) #[] #[],.func (.func (qA1 k)) #[] #[],.func (.func (qA0 k)) #[] #[],.func (.func (qAq k)) #[] #[],.func (.func (qAz k)) #[] #[],.func (.func (qA4 k)) #[] #[]] 83))
 obtain⟨hv1,hh1⟩:=qBm hb1 20 rfl
 clear hw1 hb1 hr1 HB HR HK
 go_wp2_with fail
 generalize w1.alloc (.cells #[.func (.func (qBn k)) #[] #[],.func (.func (qA1 k)) #[] #[],.func (.func (qA0 k)) #[] #[],.func (.func (qAq k)) #[] #[],.func (.func (qAz k)) #[] #[],.func (.func (qA4 k)) #[] #[]] 83)=w2 at *
 generalize hkb:w1.heap.size=kb at *
 refine(qJu c w2).mono ?_
 rintro e w3 ⟨rfl,hw3⟩
 rw[h2]
 have HB3:=hide ((uh HB1).keeps hw3 (λh=>h))
 have HR3:=hide ((uh HR1).keeps hw3 (λh=>h))
 have HT3:=hide ((uh HT1).keeps hw3 (λh=>h))
 have HK3:=hide ((uh HK1).then hw3)
 clear hw3 HB1 HR1 HT1 HK1 hv1 hh1 hkb
 have r0:w3.cell? ⟨w.heap.size+1,0,none⟩=some .nilFunc:=(uh HR3).cell rfl
 have r1:w3.cell? ⟨w.heap.size+1,1,none⟩=some .nilFunc:=(uh HR3).cell rfl
 have r2:w3.cell? ⟨w.heap.size+1,2,none⟩=some .nilFunc:=(uh HR3).cell rfl
 have r3:w3.cell? ⟨w.heap.size+1,3,none⟩=some .nilFunc:=(uh HR3).cell rfl
 have r4:w3.cell? ⟨w.heap.size+1,4,none⟩=some .nilFunc:=(uh HR3).cell rfl
 have r5:w3.cell? ⟨w.heap.size+1,5,none⟩=some .nilFunc:=(uh HR3).cell rfl
 have rf:=(uh HR3).frozen
 go_wp2
 have hbf:=(((((((uh HR3).setCell 0 (.nilFunc)).setCell 1 (.nilFunc)).setCell 2 (.nilFunc)).setCell 3 (.nilFunc)).setCell 4 (.nilFunc)).setCell 5 (.nilFunc))
 have HKF:=hide ((uh HK3).trans (((((((Keeps.refl (λk=>k=w.heap.size+1) w3).setCell (p:=⟨w.heap.size+1,0,none⟩) (Or.inl rfl) (.nilFunc)).setCell (p:=⟨w.heap.size+1,1,none⟩) (Or.inl rfl) (.nilFunc)).setCell (p:=⟨w.heap.size+1,2,none⟩) (Or.inl rfl) (.nilFunc)).setCell (p:=⟨w.heap.size+1,3,none⟩) (Or.inl rfl) (.nilFunc)).setCell (p:=⟨w.heap.size+1,4,none⟩) (Or.inl rfl) (.nilFunc)).setCell (p:=⟨w.heap.size+1,5,none⟩) (Or.inl rfl) (.nilFunc)) (λi hi hlt=>by omega))
 generalize((((((w3.setCell ⟨w.heap.size+1,0,none⟩ (.nilFunc)).setCell ⟨w.heap.size+1,1,none⟩ (.nilFunc)).setCell ⟨w.heap.size+1,2,none⟩ (.nilFunc)).setCell ⟨w.heap.size+1,3,none⟩ (.nilFunc)).setCell ⟨w.heap.size+1,4,none⟩ (.nilFunc)).setCell ⟨w.heap.size+1,5,none⟩ (.nilFunc))=w9 at *
 have q0:w9.cell? ⟨w.heap.size+1,0,none⟩=some (.nilFunc):=hbf.cell rfl
 have q1:w9.cell? ⟨w.heap.size+1,1,none⟩=some (.nilFunc):=hbf.cell rfl
 have q2:w9.cell? ⟨w.heap.size+1,2,none⟩=some (.nilFunc):=hbf.cell rfl
 have q3:w9.cell? ⟨w.heap.size+1,3,none⟩=some (.nilFunc):=hbf.cell rfl
 have q4:w9.cell? ⟨w.heap.size+1,4,none⟩=some (.nilFunc):=hbf.cell rfl
 have q5:w9.cell? ⟨w.heap.size+1,5,none⟩=some (.nilFunc):=hbf.cell rfl
 exact bodyPost_ret (v:=.tuple #[.agg #[.nilFunc,.nilFunc,.nilFunc,.nilFunc,.nilFunc,.nilFunc],.bool false]) (by simp[results,Tryz.results47,go_sem,q0,q1,q2,q3,q4,q5]) rfl ⟨rfl,uh HKF⟩
theorem qUi(c:Cfg)(k:Nat)(w:World)(hk:c.kind=k)(hk1:1<=k)(hk5:k<=5)(h2:qDk c=true)(h3:qFr c k=false):
  Calls Tryz.prog 47 #[c.val] w λe w'=>e=.returned (.tuple #[.agg #[.nilFunc,.nilFunc,.nilFunc,.nilFunc,.nilFunc,.nilFunc],.bool false])/\Keeps (λ_=>False) w w':=by
 have HB:=hide (show Blk ((w.alloc (.cells c.cells.toArray 32)).alloc (.cells #[.nilFunc,.nilFunc,.nilFunc,.nilFunc,.nilFunc,.nilFunc] 83)) w.heap.size c.cells 32 from(Blk.new w c.cells 32).alloc _)
 have HR:=hide (show Blk ((w.alloc (.cells c.cells.toArray 32)).alloc (.cells #[.nilFunc,.nilFunc,.nilFunc,.nilFunc,.nilFunc,.nilFunc] 83)) (w.heap.size+1) [.nilFunc,.nilFunc,.nilFunc,.nilFunc,.nilFunc,.nilFunc] 83 from Blk.newAt (by simp) [_,_,_,_,_,_] _)
 have HK:=hide (((Keeps.refl (λ_=>False) w).alloc (.cells c.cells.toArray 32)).alloc (.cells #[.nilFunc,.nilFunc,.nilFunc,.nilFunc,.nilFunc,.nilFunc] 83))
 have HKK:=hide hk
 clear hk
 unfold Cfg.val
 go_enter Tryz.func47,Tryz.ntmps47
 go_wp2_with fail
 refine(qHu c.kind k _ (uh HKK) hk1 hk5).mono ?_
 rintro e w1 ⟨rfl,hw1⟩
 unfold qBa fn
 have hr1:=(uh HR).keeps hw1 (λh=>h)
 have hb1:=(uh HB).keeps hw1 (λh=>h)
 have hz:=hr1.lt
 have hz0:=hb1.lt
 have HB1:=hide (hb1.alloc (.cells #[.func (.func (qBn k)) #[] #[],.func (.func (qA1 k)) #[] #[],.func (.func (qA0 k)) #[] #[],.func (.func (qAq k)) #[] #[],.func (.func (qAz k)) #[] #[],.func (.func (qA4 k)) #[] #[]] 83))
 have HR1:=hide (hr1.alloc (.cells #[.func (.func (qBn k)) #[] #[],.func (.func (qA1 k)) #[] #[],.func (.func (qA0 k)) #[] #[],.func (.func (qAq k)) #[] #[],.func (.func (qAz k)) #[] #[],.func (.func (qA4 k)) #[] #[]] 83))
 have HT1:=hide (Blk.new w1 [.func (.func (qBn k)) #[] #[],.func (.func (qA1 k)) #[] #[],.func (.func (qA0 k)) #[] #[],.func (.func (qAq k)) #[] #[],.func (.func (qAz k)) #[] #[],.func (.func (qA4 k)) #[] #[]] 83)
 have HK1:=hide (((uh HK).then hw1).alloc (.cells #[.func (.func (qBn k)) #[] #[],.func (.func (qA1 k)) #[] #[],.func (.func (qA0 k)) #[] #[],.func (.func (qAq k)) #[] #[],.func (.func (qAz k)) #[] #[],.func (.func (qA4 k)) #[] #[]] 83))
 obtain⟨hv1,hh1⟩:=qBm hb1 20 rfl
 clear hw1 hb1 hr1 HB HR HK
 go_wp2_with fail
 generalize w1.alloc (.cells #[.func (.func (qBn k)) #[] #[],.func (.func (qA1 k)) #[] #[],.func (.func (qA0 k)) #[] #[],.func (.func (qAq k)) #[] #[],.func (.func (qAz k)) #[] #[],.func (.func (qA4 k)) #[] #[]] 83)=w2 at *
 generalize hkb:w1.heap.size=kb at *
 refine(qJu c w2).mono ?_
 rintro e w3 ⟨rfl,hw3⟩
 rw[h2]
 have HB3:=hide ((uh HB1).keeps hw3 (λh=>h))
 have HR3:=hide ((uh HR1).keeps hw3 (λh=>h))
 have HT3:=hide ((uh HT1).keeps hw3 (λh=>h))
 have HK3:=hide ((uh HK1).then hw3)
 clear hw3 HB1 HR1 HT1 HK1 hv1 hh1 hkb
 have t0:w3.cell? ⟨kb,0,none⟩=some (.func (.func (qBn k)) #[] #[]):=(uh HT3).cell rfl
 obtain⟨hv3,hh3⟩:=qBm (uh HB3) 20 rfl
 have hown:=qU4 k hk1 hk5
 go_wp2_with fail
 refine(qVf c k w3 hk1 hk5).mono ?_
 rintro e w4 ⟨rfl,hw4⟩
 rw[h3]
 have HT4:=hide ((uh HT3).keeps hw4 (λh=>h))
 have HR4:=hide ((uh HR3).keeps hw4 (λh=>h))
 have HK4:=hide ((uh HK3).then hw4)
 clear hw4 HB3 HT3 HR3 HK3 t0 hv3 hh3 hown
 have HR3:=HR4
 have HK3:=HK4
 have r0:w4.cell? ⟨w.heap.size+1,0,none⟩=some .nilFunc:=(uh HR3).cell rfl
 have r1:w4.cell? ⟨w.heap.size+1,1,none⟩=some .nilFunc:=(uh HR3).cell rfl
 have r2:w4.cell? ⟨w.heap.size+1,2,none⟩=some .nilFunc:=(uh HR3).cell rfl
 have r3:w4.cell? ⟨w.heap.size+1,3,none⟩=some .nilFunc:=(uh HR3).cell rfl
 have r4:w4.cell? ⟨w.heap.size+1,4,none⟩=some .nilFunc:=(uh HR3).cell rfl
 have r5:w4.cell? ⟨w.heap.size+1,5,none⟩=some .nilFunc:=(uh HR3).cell rfl
 have rf:=(uh HR3).frozen
 go_wp2
 have hbf:=(((((((uh HR3).setCell 0 (.nilFunc)).setCell 1 (.nilFunc)).setCell 2 (.nilFunc)).setCell 3 (.nilFunc)).setCell 4 (.nilFunc)).setCell 5 (.nilFunc))
 have HKF:=hide ((uh HK3).trans (((((((Keeps.refl (λk=>k=w.heap.size+1) w4).setCell (p:=⟨w.heap.size+1,0,none⟩) (Or.inl rfl) (.nilFunc)).setCell (p:=⟨w.heap.size+1,1,none⟩) (Or.inl rfl) (.nilFunc)).setCell (p:=⟨w.heap.size+1,2,none⟩) (Or.inl rfl) (.nilFunc)).setCell (p:=⟨w.heap.size+1,3,none⟩) (Or.inl rfl) (.nilFunc)).setCell (p:=⟨w.heap.size+1,4,none⟩) (Or.inl rfl) (.nilFunc)).setCell (p:=⟨w.heap.size+1,5,none⟩) (Or.inl rfl) (.nilFunc)) (λi hi hlt=>by omega))
 generalize((((((w4.setCell ⟨w.heap.size+1,0,none⟩ (.nilFunc)).setCell ⟨w.heap.size+1,1,none⟩ (.nilFunc)).setCell ⟨w.heap.size+1,2,none⟩ (.nilFunc)).setCell ⟨w.heap.size+1,3,none⟩ (.nilFunc)).setCell ⟨w.heap.size+1,4,none⟩ (.nilFunc)).setCell ⟨w.heap.size+1,5,none⟩ (.nilFunc))=w9 at *
 have q0:w9.cell? ⟨w.heap.size+1,0,none⟩=some (.nilFunc):=hbf.cell rfl
 have q1:w9.cell? ⟨w.heap.size+1,1,none⟩=some (.nilFunc):=hbf.cell rfl
 have q2:w9.cell? ⟨w.heap.size+1,2,none⟩=some (.nilFunc):=hbf.cell rfl
 have q3:w9.cell? ⟨w.heap.size+1,3,none⟩=some (.nilFunc):=hbf.cell rfl
 have q4:w9.cell? ⟨w.heap.size+1,4,none⟩=some (.nilFunc):=hbf.cell rfl
 have q5:w9.cell? ⟨w.heap.size+1,5,none⟩=some (.nilFunc):=hbf.cell rfl
 exact bodyPost_ret (v:=.tuple #[.agg #[.nilFunc,.nilFunc,.nilFunc,.nilFunc,.nilFunc,.nilFunc],.bool false]) (by simp[results,Tryz.results47,go_sem,q0,q1,q2,q3,q4,q5]) rfl ⟨rfl,uh HKF⟩
theorem qIn(c:Cfg)(k:Nat)(w:World)(hk:c.kind=k)(hk1:1<=k)(hk5:k<=5)(h2:qDk c=true)(h3:qFr c k=true):
  Calls Tryz.prog 47 #[c.val] w λe w'=>e=.returned (.tuple #[.agg (qBa k).toArray,.bool true])/\Keeps (λ_=>False) w w':=by
 have HB:=hide (show Blk ((w.alloc (.cells c.cells.toArray 32)).alloc (.cells #[.nilFunc,.nilFunc,.nilFunc,.nilFunc,.nilFunc,.nilFunc] 83)) w.heap.size c.cells 32 from(Blk.new w c.cells 32).alloc _)
 have HR:=hide (show Blk ((w.alloc (.cells c.cells.toArray 32)).alloc (.cells #[.nilFunc,.nilFunc,.nilFunc,.nilFunc,.nilFunc,.nilFunc] 83)) (w.heap.size+1) [.nilFunc,.nilFunc,.nilFunc,.nilFunc,.nilFunc,.nilFunc] 83 from Blk.newAt (by simp) [_,_,_,_,_,_] _)
 have HK:=hide (((Keeps.refl (λ_=>False) w).alloc (.cells c.cells.toArray 32)).alloc (.cells #[.nilFunc,.nilFunc,.nilFunc,.nilFunc,.nilFunc,.nilFunc] 83))
 have HKK:=hide hk
 clear hk
 unfold Cfg.val
 go_enter Tryz.func47,Tryz.ntmps47
 go_wp2_with fail
 refine(qHu c.kind k _ (uh HKK) hk1 hk5).mono ?_
 rintro e w1 ⟨rfl,hw1⟩
 unfold qBa fn
 have hr1:=(uh HR).keeps hw1 (λh=>h)
 have hb1:=(uh HB).keeps hw1 (λh=>h)
 have hz:=hr1.lt
 have hz0:=hb1.lt
 have HB1:=hide (hb1.alloc (.cells #[.func (.func (qBn k)) #[] #[],.func (.func (qA1 k)) #[] #[],.func (.func (qA0 k)) #[] #[],.func (.func (qAq k)) #[] #[],.func (.func (qAz k)) #[] #[],.func (.func (qA4 k)) #[] #[]] 83))
 have HR1:=hide (hr1.alloc (.cells #[.func (.func (qBn k)) #[] #[],.func (.func (qA1 k)) #[] #[],.func (.func (qA0 k)) #[] #[],.func (.func (qAq k)) #[] #[],.func (.func (qAz k)) #[] #[],.func (.func (qA4 k)) #[] #[]] 83))
 have HT1:=hide (Blk.new w1 [.func (.func (qBn k)) #[] #[],.func (.func (qA1 k)) #[] #[],.func (.func (qA0 k)) #[] #[],.func (.func (qAq k)) #[] #[],.func (.func (qAz k)) #[] #[],.func (.func (qA4 k)) #[] #[]] 83)
 have HK1:=hide (((uh HK).then hw1).alloc (.cells #[.func (.func (qBn k)) #[] #[],.func (.func (qA1 k)) #[] #[],.func (.func (qA0 k)) #[] #[],.func (.func (qAq k)) #[] #[],.func (.func (qAz k)) #[] #[],.func (.func (qA4 k)) #[] #[]] 83))
 obtain⟨hv1,hh1⟩:=qBm hb1 20 rfl
 clear hw1 hb1 hr1 HB HR HK
 go_wp2_with fail
 generalize w1.alloc (.cells #[.func (.func (qBn k)) #[] #[],.func (.func (qA1 k)) #[] #[],.func (.func (qA0 k)) #[] #[],.func (.func (qAq k)) #[] #[],.func (.func (qAz k)) #[] #[],.func (.func (qA4 k)) #[] #[]] 83)=w2 at *
 generalize hkb:w1.heap.size=kb at *
 refine(qJu c w2).mono ?_
 rintro e w3 ⟨rfl,hw3⟩
 rw[h2]
 have HB3:=hide ((uh HB1).keeps hw3 (λh=>h))
 have HR3:=hide ((uh HR1).keeps hw3 (λh=>h))
 have HT3:=hide ((uh HT1).keeps hw3 (λh=>h))
 have HK3:=hide ((uh HK1).then hw3)
 clear hw3 HB1 HR1 HT1 HK1 hv1 hh1 hkb
 have t0:w3.cell? ⟨kb,0,none⟩=some (.func (.func (qBn k)) #[] #[]):=(uh HT3).cell rfl
 obtain⟨hv3,hh3⟩:=qBm (uh HB3) 20 rfl
 have hown:=qU4 k hk1 hk5
 go_wp2_with fail
 refine(qVf c k w3 hk1 hk5).mono ?_
 rintro e w4 ⟨rfl,hw4⟩
 rw[h3]
 have HT4:=hide ((uh HT3).keeps hw4 (λh=>h))
 have HR4:=hide ((uh HR3).keeps hw4 (λh=>h))
 have HK4:=hide ((uh HK3).then hw4)
 clear hw4 HB3 HT3 HR3 HK3 t0 hv3 hh3 hown
 have HR3:=HR4
 have HK3:=HK4
 have r0:w4.cell? ⟨w.heap.size+1,0,none⟩=some .nilFunc:=(uh HR3).cell rfl
 have r1:w4.cell? ⟨w.heap.size+1,1,none⟩=some .nilFunc:=(uh HR3).cell rfl
 have r2:w4.cell? ⟨w.heap.size+1,2,none⟩=some .nilFunc:=(uh HR3).cell rfl
 have r3:w4.cell? ⟨w.heap.size+1,3,none⟩=some .nilFunc:=(uh HR3).cell rfl
 have r4:w4.cell? ⟨w.heap.size+1,4,none⟩=some .nilFunc:=(uh HR3).cell rfl
 have r5:w4.cell? ⟨w.heap.size+1,5,none⟩=some .nilFunc:=(uh HR3).cell rfl
 have rf:=(uh HR3).frozen
 have t0:w4.cell? ⟨kb,0,none⟩=some (.func (.func (qBn k)) #[] #[]):=(uh HT4).cell rfl
 have t1:w4.cell? ⟨kb,1,none⟩=some (.func (.func (qA1 k)) #[] #[]):=(uh HT4).cell rfl
 have t2:w4.cell? ⟨kb,2,none⟩=some (.func (.func (qA0 k)) #[] #[]):=(uh HT4).cell rfl
 have t3:w4.cell? ⟨kb,3,none⟩=some (.func (.func (qAq k)) #[] #[]):=(uh HT4).cell rfl
 have t4:w4.cell? ⟨kb,4,none⟩=some (.func (.func (qAz k)) #[] #[]):=(uh HT4).cell rfl
 have t5:w4.cell? ⟨kb,5,none⟩=some (.func (.func (qA4 k)) #[] #[]):=(uh HT4).cell rfl
 go_wp2
 have hbf:=(((((((uh HR3).setCell 0 (.func (.func (qBn k)) #[] #[])).setCell 1 (.func (.func (qA1 k)) #[] #[])).setCell 2 (.func (.func (qA0 k)) #[] #[])).setCell 3 (.func (.func (qAq k)) #[] #[])).setCell 4 (.func (.func (qAz k)) #[] #[])).setCell 5 (.func (.func (qA4 k)) #[] #[]))
 have HKF:=hide ((uh HK3).trans (((((((Keeps.refl (λk=>k=w.heap.size+1) w4).setCell (p:=⟨w.heap.size+1,0,none⟩) (Or.inl rfl) (.func (.func (qBn k)) #[] #[])).setCell (p:=⟨w.heap.size+1,1,none⟩) (Or.inl rfl) (.func (.func (qA1 k)) #[] #[])).setCell (p:=⟨w.heap.size+1,2,none⟩) (Or.inl rfl) (.func (.func (qA0 k)) #[] #[])).setCell (p:=⟨w.heap.size+1,3,none⟩) (Or.inl rfl) (.func (.func (qAq k)) #[] #[])).setCell (p:=⟨w.heap.size+1,4,none⟩) (Or.inl rfl) (.func (.func (qAz k)) #[] #[])).setCell (p:=⟨w.heap.size+1,5,none⟩) (Or.inl rfl) (.func (.func (qA4 k)) #[] #[])) (λi hi hlt=>by omega))
 generalize((((((w4.setCell ⟨w.heap.size+1,0,none⟩ (.func (.func (qBn k)) #[] #[])).setCell ⟨w.heap.size+1,1,none⟩ (.func (.func (qA1 k)) #[] #[])).setCell ⟨w.heap.size+1,2,none⟩ (.func (.func (qA0 k)) #[] #[])).setCell ⟨w.heap.size+1,3,none⟩ (.func (.func (qAq k)) #[] #[])).setCell ⟨w.heap.size+1,4,none⟩ (.func (.func (qAz k)) #[] #[])).setCell ⟨w.heap.size+1,5,none⟩ (.func (.func (qA4 k)) #[] #[]))=w9 at *
 have q0:w9.cell? ⟨w.heap.size+1,0,none⟩=some (.func (.func (qBn k)) #[] #[]):=hbf.cell rfl
 have q1:w9.cell? ⟨w.heap.size+1,1,none⟩=some (.func (.func (qA1 k)) #[] #[]):=hbf.cell rfl
 have q2:w9.cell? ⟨w.heap.size+1,2,none⟩=some (.func (.func (qA0 k)) #[] #[]):=hbf.cell rfl
 have q3:w9.cell? ⟨w.heap.size+1,3,none⟩=some (.func (.func (qAq k)) #[] #[]):=hbf.cell rfl
 have q4:w9.cell? ⟨w.heap.size+1,4,none⟩=some (.func (.func (qAz k)) #[] #[]):=hbf.cell rfl
 have q5:w9.cell? ⟨w.heap.size+1,5,none⟩=some (.func (.func (qA4 k)) #[] #[]):=hbf.cell rfl
 exact bodyPost_ret (v:=.tuple #[.agg #[.func (.func (qBn k)) #[] #[],.func (.func (qA1 k)) #[] #[],.func (.func (qA0 k)) #[] #[],.func (.func (qAq k)) #[] #[],.func (.func (qAz k)) #[] #[],.func (.func (qA4 k)) #[] #[]],.bool true]) (by simp[results,Tryz.results47,go_sem,q0,q1,q2,q3,q4,q5]) rfl ⟨rfl,uh HKF⟩
end
end Go.Proofs.YtahnliehdjncdabGreatDoor
