import Derived.Test.YtahnliehdjncdabGreatDoorXAF
import Derived.Deep.DrawnRows
import Derived.Test.YtahnliehdjncdabGreatDoorXAD
set_option maxRecDepth 100000
set_option maxHeartbeats 16000000
namespace Go.Proofs.YtahnliehdjncdabGreatDoor
section
open Go.RowKit
attribute [local go_sem ↓] qAb qAe
attribute [local go_sem] qAg qAl qAd qAc qAo qAn qAj qAk qAf qAi
theorem qAx{f:FuncId}{g:Func}(hf:Tryz.prog.funcs[f]?=some g)(hname:(g.name== "runtime.NumGoroutine")=false)(hb:g.body.isNone=false)(args:Array Value)(w:World):
  (callFunc f args).run Tryz.prog w=.ok (.enter f args) w:=by
 have h1:¬(g.name= "runtime.NumGoroutine"):=by simpa using hname
 have h2:¬g.body=none:=by intro h;simp[h]at hb
 simp[callFunc,hf,h1,h2]
theorem own79(args:Array Value)(w:World): (callFunc 102 args).run Tryz.prog w=.ok (.enter 102 args) w:=qAx Tryz.func102 (by kernel_rfl) (by kernel_rfl) args w
theorem ownSC(args:Array Value)(w:World): (callFunc 107 args).run Tryz.prog w=.ok (.enter 107 args) w:=qAx Tryz.func107 (by kernel_rfl) (by kernel_rfl) args w
theorem own80(args:Array Value)(w:World): (callFunc 105 args).run Tryz.prog w=.ok (.enter 105 args) w:=qAx Tryz.func105 (by kernel_rfl) (by kernel_rfl) args w
theorem own81(args:Array Value)(w:World): (callFunc 113 args).run Tryz.prog w=.ok (.enter 113 args) w:=qAx Tryz.func113 (by kernel_rfl) (by kernel_rfl) args w
theorem zEe(args:Array Value)(w:World): (callFunc 117 args).run Tryz.prog w=.ok (.enter 117 args) w:=qAx Tryz.func117 (by kernel_rfl) (by kernel_rfl) args w
theorem zEy(args:Array Value)(w:World): (callFunc 126 args).run Tryz.prog w=.ok (.enter 126 args) w:=qAx Tryz.func126 (by kernel_rfl) (by kernel_rfl) args w
theorem own82(args:Array Value)(w:World): (callFunc 108 args).run Tryz.prog w=.ok (.enter 108 args) w:=qAx Tryz.func108 (by kernel_rfl) (by kernel_rfl) args w
theorem zD9(args:Array Value)(w:World): (callFunc 111 args).run Tryz.prog w=.ok (.enter 111 args) w:=qAx Tryz.func111 (by kernel_rfl) (by kernel_rfl) args w
theorem own84(args:Array Value)(w:World): (callFunc 114 args).run Tryz.prog w=.ok (.enter 114 args) w:=qAx Tryz.func114 (by kernel_rfl) (by kernel_rfl) args w
theorem own85(args:Array Value)(w:World): (callFunc 118 args).run Tryz.prog w=.ok (.enter 118 args) w:=qAx Tryz.func118 (by kernel_rfl) (by kernel_rfl) args w
theorem own86(args:Array Value)(w:World): (callFunc 120 args).run Tryz.prog w=.ok (.enter 120 args) w:=qAx Tryz.func120 (by kernel_rfl) (by kernel_rfl) args w
theorem own87(args:Array Value)(w:World): (callFunc 121 args).run Tryz.prog w=.ok (.enter 121 args) w:=qAx Tryz.func121 (by kernel_rfl) (by kernel_rfl) args w
theorem own88(args:Array Value)(w:World): (callFunc 122 args).run Tryz.prog w=.ok (.enter 122 args) w:=qAx Tryz.func122 (by kernel_rfl) (by kernel_rfl) args w
theorem own89(args:Array Value)(w:World): (callFunc 124 args).run Tryz.prog w=.ok (.enter 124 args) w:=qAx Tryz.func124 (by kernel_rfl) (by kernel_rfl) args w
theorem ownNC(args:Array Value)(w:World): (callFunc 103 args).run Tryz.prog w=.ok (.enter 103 args) w:=qAx Tryz.func103 (by kernel_rfl) (by kernel_rfl) args w
theorem ownNS(args:Array Value)(w:World): (callFunc 109 args).run Tryz.prog w=.ok (.enter 109 args) w:=qAx Tryz.func109 (by kernel_rfl) (by kernel_rfl) args w
theorem ownNO(args:Array Value)(w:World): (callFunc 115 args).run Tryz.prog w=.ok (.enter 115 args) w:=qAx Tryz.func115 (by kernel_rfl) (by kernel_rfl) args w
theorem ownND(args:Array Value)(w:World): (callFunc 119 args).run Tryz.prog w=.ok (.enter 119 args) w:=qAx Tryz.func119 (by kernel_rfl) (by kernel_rfl) args w
theorem ownNT(args:Array Value)(w:World): (callFunc 123 args).run Tryz.prog w=.ok (.enter 123 args) w:=qAx Tryz.func123 (by kernel_rfl) (by kernel_rfl) args w
theorem zB4(args:Array Value)(w:World): (callFunc 104 args).run Tryz.prog w=.ok (.enter 104 args) w:=qAx Tryz.func104 (by kernel_rfl) (by kernel_rfl) args w
theorem ownPO(args:Array Value)(w:World): (callFunc 110 args).run Tryz.prog w=.ok (.enter 110 args) w:=qAx Tryz.func110 (by kernel_rfl) (by kernel_rfl) args w
theorem ownPR(args:Array Value)(w:World): (callFunc 116 args).run Tryz.prog w=.ok (.enter 116 args) w:=qAx Tryz.func116 (by kernel_rfl) (by kernel_rfl) args w
theorem zDx(args:Array Value)(w:World): (callFunc 106 args).run Tryz.prog w=.ok (.enter 106 args) w:=qAx Tryz.func106 (by kernel_rfl) (by kernel_rfl) args w
theorem zEt(args:Array Value)(w:World): (callFunc 112 args).run Tryz.prog w=.ok (.enter 112 args) w:=qAx Tryz.func112 (by kernel_rfl) (by kernel_rfl) args w
theorem ownAD(args:Array Value)(w:World): (callFunc 125 args).run Tryz.prog w=.ok (.enter 125 args) w:=qAx Tryz.func125 (by kernel_rfl) (by kernel_rfl) args w
theorem qQg(k:Nat)(h1:1<=k)(h5:k<=5)(args:Array Value)(w:World): (callFunc (qA0 k) args).run Tryz.prog w=.ok (.enter (qA0 k) args) w:=by
 have hk:k=1\/k=2\/k=3\/k=4\/k=5:=by omega
 rcases hk with hk | hk | hk | hk | hk <;> subst hk
 ·exact ownNC args w
 ·exact ownNS args w
 ·exact ownNO args w
 ·exact ownND args w
 ·exact ownNT args w
theorem qPk(k:Nat)(h1:1<=k)(h5:k<=5)(args:Array Value)(w:World): (callFunc (qA2 k) args).run Tryz.prog w=.ok (.enter (qA2 k) args) w:=by
 have hk:k=1\/k=2\/k=3\/k=4\/k=5:=by omega
 rcases hk with hk | hk | hk | hk | hk <;> subst hk
 ·exact zB4 args w
 ·exact ownPO args w
 ·exact ownPR args w
 ·exact zB4 args w
 ·exact zB4 args w
theorem qX3(k:Nat)(h1:1<=k)(h5:k<=5)(args:Array Value)(w:World): (callFunc (qA1 k) args).run Tryz.prog w=.ok (.enter (qA1 k) args) w:=by
 have hk:k=1\/k=2\/k=3\/k=4\/k=5:=by omega
 rcases hk with hk | hk | hk | hk | hk <;> subst hk
 ·exact zDx args w
 ·exact zEt args w
 ·exact zEt args w
 ·exact zDx args w
 ·exact ownAD args w
theorem qTg(k:Nat)(h1:1<=k)(h5:k<=5)(args:Array Value)(w:World): (callFunc (qBq k) args).run Tryz.prog w=.ok (.enter (qBq k) args) w:=by
 have hk:k=1\/k=2\/k=3\/k=4\/k=5:=by omega
 rcases hk with hk | hk | hk | hk | hk <;> subst hk
 ·exact own79 args w
 ·exact own82 args w
 ·exact own84 args w
 ·exact own85 args w
 ·exact own88 args w
theorem qUz(k:Nat)(h1:1<=k)(h5:k<=5)(args:Array Value)(w:World): (callFunc (qAq k) args).run Tryz.prog w=.ok (.enter (qAq k) args) w:=by
 have hk:k=1\/k=2\/k=3\/k=4\/k=5:=by omega
 rcases hk with hk | hk | hk | hk | hk <;> subst hk
 ·exact own80 args w
 ·exact zD9 args w
 ·exact zD9 args w
 ·exact own86 args w
 ·exact own89 args w
theorem qYd(k:Nat)(h1:1<=k)(h5:k<=5)(args:Array Value)(w:World): (callFunc (qA4 k) args).run Tryz.prog w=.ok (.enter (qA4 k) args) w:=by
 have hk:k=1\/k=2\/k=3\/k=4\/k=5:=by omega
 rcases hk with hk | hk | hk | hk | hk <;> subst hk
 ·exact ownSC args w
 ·exact own81 args w
 ·exact zEe args w
 ·exact own87 args w
 ·exact zEy args w
def qE0(c:Cfg)(k:Nat): Bool:=match k with | 1=>countB c | 2=>qF9 c | 3=>qQn c | 4=>qHm c | _=>qI8 c
def qA6(c:Cfg): Bool:=inB c.kind 1 5&&(qEi c&&qE0 c c.kind.toNat)
theorem qTu(c:Cfg)(k:Nat)(w:World)(h1:1<=k)(h5:k<=5):
  Calls Tryz.prog (qBq k) #[c.val] w λe w'=>e=.returned (.bool (qE0 c k))/\Keeps (λ_=>False) w w':=by
 have hk:k=1\/k=2\/k=3\/k=4\/k=5:=by omega
 rcases hk with hk | hk | hk | hk | hk
 all_goals subst hk
 ·exact qM8 c w
 ·exact qJo c w
 ·exact qN1 c w
 ·exact qHx c w
 ·exact qNh c w
def qF8(c:Cfg)(k:Nat)(x:It): Int:=match k with | 1=>0 | 2=>qWu x | 3=>qWu x | 4=>qGd c x | _=>qMj c x
theorem qVs(c:Cfg)(k:Nat)(x:It)(w:World)(h1:1<=k)(h5:k<=5)(hc:4<=k->c.weighs)(t0:0<=x.t)(t1:x.t<=4611686018427387904):
  Calls Tryz.prog (qAq k) #[c.val,x.val] w λe w'=>e=.returned (.int .i64 (qF8 c k x))/\Keeps (λ_=>False) w w':=by
 have hk:k=1\/k=2\/k=3\/k=4\/k=5:=by omega
 rcases hk with hk | hk | hk | hk | hk
 all_goals subst hk
 ·exact qI3 c x w
 ·exact qF2 c x w
 ·exact qF2 c x w
 ·exact qDe c x w (hc (by omega)) t0 t1
 ·exact qJ4 c x w (hc (by omega)) t0 t1
theorem qSc(c:Cfg)(w:World)(h1:inB c.kind 1 5=false):
  Calls Tryz.prog 47 #[c.val] w λe w'=>e=.returned (.tuple #[.agg #[.nilFunc,.nilFunc,.nilFunc,.nilFunc,.nilFunc,.nilFunc],.bool false])/\Keeps (λ_=>False) w w':=by
 have HB:=hide (show Blk ((w.alloc (.cells c.cells.toArray 32)).alloc (.cells #[.nilFunc,.nilFunc,.nilFunc,.nilFunc,.nilFunc,.nilFunc] 83)) w.heap.size c.cells 32 from(Blk.new w c.cells 32).alloc _)
 have HR:=hide (show Blk ((w.alloc (.cells c.cells.toArray 32)).alloc (.cells #[.nilFunc,.nilFunc,.nilFunc,.nilFunc,.nilFunc,.nilFunc] 83)) (w.heap.size+1) [.nilFunc,.nilFunc,.nilFunc,.nilFunc,.nilFunc,.nilFunc] 83 from Blk.newAt (by simp) [_,_,_,_,_,_] _)
 have HK:=hide (((Keeps.refl (λ_=>False) w).alloc (.cells c.cells.toArray 32)).alloc (.cells #[.nilFunc,.nilFunc,.nilFunc,.nilFunc,.nilFunc,.nilFunc] 83))
 unfold Cfg.val
 go_enter Tryz.func47,Tryz.ntmps47
 go_wp2_with fail
 refine(zBg c.kind _ h1).mono ?_
 rintro e w1 ⟨rfl,hk1⟩
 have hr1:=(uh HR).keeps hk1 (λh=>h)
 have hb1:=(uh HB).keeps hk1 (λh=>h)
 have r0:w1.cell? ⟨w.heap.size+1,0,none⟩=some .nilFunc:=hr1.cell rfl
 have r1:w1.cell? ⟨w.heap.size+1,1,none⟩=some .nilFunc:=hr1.cell rfl
 have r2:w1.cell? ⟨w.heap.size+1,2,none⟩=some .nilFunc:=hr1.cell rfl
 have r3:w1.cell? ⟨w.heap.size+1,3,none⟩=some .nilFunc:=hr1.cell rfl
 have r4:w1.cell? ⟨w.heap.size+1,4,none⟩=some .nilFunc:=hr1.cell rfl
 have r5:w1.cell? ⟨w.heap.size+1,5,none⟩=some .nilFunc:=hr1.cell rfl
 have rf:=hr1.frozen
 have hz:=hr1.lt
 have hz0:=hb1.lt
 obtain⟨hv1,hh1⟩:=qBj hb1 20 rfl
 have HB1:=hide hb1
 have HR1:=hide hr1
 have HK1:=hide ((uh HK).then hk1)
 clear hk1 hb1 hr1
 go_wp2
 have hbf:=(((((((uh HR1).setCell 0 .nilFunc).setCell 1 .nilFunc).setCell 2 .nilFunc).setCell 3 .nilFunc).setCell 4 .nilFunc).setCell 5 .nilFunc).alloc (.cells #[.nilFunc,.nilFunc,.nilFunc,.nilFunc,.nilFunc,.nilFunc] 83)
 have HKF:=hide ((uh HK1).trans ((((((((Keeps.refl (λk=>k=w.heap.size+1) w1).setCell (p:=⟨w.heap.size+1,0,none⟩) (Or.inl rfl) .nilFunc).setCell (p:=⟨w.heap.size+1,1,none⟩) (Or.inl rfl) .nilFunc).setCell (p:=⟨w.heap.size+1,2,none⟩) (Or.inl rfl) .nilFunc).setCell (p:=⟨w.heap.size+1,3,none⟩) (Or.inl rfl) .nilFunc).setCell (p:=⟨w.heap.size+1,4,none⟩) (Or.inl rfl) .nilFunc).setCell (p:=⟨w.heap.size+1,5,none⟩) (Or.inl rfl) .nilFunc).alloc (.cells #[.nilFunc,.nilFunc,.nilFunc,.nilFunc,.nilFunc,.nilFunc] 83)) (λi hi hlt=>by omega))
 generalize(((((((w1.setCell ⟨w.heap.size+1,0,none⟩ .nilFunc).setCell ⟨w.heap.size+1,1,none⟩ .nilFunc).setCell ⟨w.heap.size+1,2,none⟩ .nilFunc).setCell ⟨w.heap.size+1,3,none⟩ .nilFunc).setCell ⟨w.heap.size+1,4,none⟩ .nilFunc).setCell ⟨w.heap.size+1,5,none⟩ .nilFunc).alloc (.cells #[.nilFunc,.nilFunc,.nilFunc,.nilFunc,.nilFunc,.nilFunc] 83))=w2 at *
 have q0:w2.cell? ⟨w.heap.size+1,0,none⟩=some .nilFunc:=hbf.cell rfl
 have q1:w2.cell? ⟨w.heap.size+1,1,none⟩=some .nilFunc:=hbf.cell rfl
 have q2:w2.cell? ⟨w.heap.size+1,2,none⟩=some .nilFunc:=hbf.cell rfl
 have q3:w2.cell? ⟨w.heap.size+1,3,none⟩=some .nilFunc:=hbf.cell rfl
 have q4:w2.cell? ⟨w.heap.size+1,4,none⟩=some .nilFunc:=hbf.cell rfl
 have q5:w2.cell? ⟨w.heap.size+1,5,none⟩=some .nilFunc:=hbf.cell rfl
 exact bodyPost_ret (v:=.tuple #[.agg #[.nilFunc,.nilFunc,.nilFunc,.nilFunc,.nilFunc,.nilFunc],.bool false]) (by simp[results,Tryz.results47,go_sem,q0,q1,q2,q3,q4,q5]) rfl ⟨rfl,uh HKF⟩
theorem qGt(n:Int)(k:Nat)(w:World)(hn:n=k)(h1:1<=k)(h5:k<=5):
  Calls Tryz.prog 74 #[.int .i64 n] w λe w'=>e=.returned (.tuple #[.agg (qA7 k).toArray,.bool true])/\Keeps (λ_=>False) w w':=by
 subst hn;exact qY5 k w h1 h5
theorem qRb(c:Cfg)(k:Nat)(w:World)(hk:c.kind=k)(hk1:1<=k)(hk5:k<=5)(h2:qEi c=false):
  Calls Tryz.prog 47 #[c.val] w λe w'=>e=.returned (.tuple #[.agg #[.nilFunc,.nilFunc,.nilFunc,.nilFunc,.nilFunc,.nilFunc],.bool false])/\Keeps (λ_=>False) w w':=by
 have HB:=hide (show Blk ((w.alloc (.cells c.cells.toArray 32)).alloc (.cells #[.nilFunc,.nilFunc,.nilFunc,.nilFunc,.nilFunc,.nilFunc] 83)) w.heap.size c.cells 32 from(Blk.new w c.cells 32).alloc _)
 have HR:=hide (show Blk ((w.alloc (.cells c.cells.toArray 32)).alloc (.cells #[.nilFunc,.nilFunc,.nilFunc,.nilFunc,.nilFunc,.nilFunc] 83)) (w.heap.size+1) [.nilFunc,.nilFunc,.nilFunc,.nilFunc,.nilFunc,.nilFunc] 83 from Blk.newAt (by simp) [_,_,_,_,_,_] _)
 have HK:=hide (((Keeps.refl (λ_=>False) w).alloc (.cells c.cells.toArray 32)).alloc (.cells #[.nilFunc,.nilFunc,.nilFunc,.nilFunc,.nilFunc,.nilFunc] 83))
 have HKK:=hide hk
 clear hk
 unfold Cfg.val
 go_enter Tryz.func47,Tryz.ntmps47
 go_wp2_with fail
 refine(qGt c.kind k _ (uh HKK) hk1 hk5).mono ?_
 rintro e w1 ⟨rfl,hw1⟩
 unfold qA7 fn
 have hr1:=(uh HR).keeps hw1 (λh=>h)
 have hb1:=(uh HB).keeps hw1 (λh=>h)
 have hz:=hr1.lt
 have hz0:=hb1.lt
 have HB1:=hide (hb1.alloc (.cells #[.func (.func (qBq k)) #[] #[],.func (.func (qA0 k)) #[] #[],.func (.func (qA2 k)) #[] #[],.func (.func (qAq k)) #[] #[],.func (.func (qA1 k)) #[] #[],.func (.func (qA4 k)) #[] #[]] 83))
 have HR1:=hide (hr1.alloc (.cells #[.func (.func (qBq k)) #[] #[],.func (.func (qA0 k)) #[] #[],.func (.func (qA2 k)) #[] #[],.func (.func (qAq k)) #[] #[],.func (.func (qA1 k)) #[] #[],.func (.func (qA4 k)) #[] #[]] 83))
 have HT1:=hide (Blk.new w1 [.func (.func (qBq k)) #[] #[],.func (.func (qA0 k)) #[] #[],.func (.func (qA2 k)) #[] #[],.func (.func (qAq k)) #[] #[],.func (.func (qA1 k)) #[] #[],.func (.func (qA4 k)) #[] #[]] 83)
 have HK1:=hide (((uh HK).then hw1).alloc (.cells #[.func (.func (qBq k)) #[] #[],.func (.func (qA0 k)) #[] #[],.func (.func (qA2 k)) #[] #[],.func (.func (qAq k)) #[] #[],.func (.func (qA1 k)) #[] #[],.func (.func (qA4 k)) #[] #[]] 83))
 obtain⟨hv1,hh1⟩:=qBj hb1 20 rfl
 clear hw1 hb1 hr1 HB HR HK
 go_wp2_with fail
 generalize w1.alloc (.cells #[.func (.func (qBq k)) #[] #[],.func (.func (qA0 k)) #[] #[],.func (.func (qA2 k)) #[] #[],.func (.func (qAq k)) #[] #[],.func (.func (qA1 k)) #[] #[],.func (.func (qA4 k)) #[] #[]] 83)=w2 at *
 generalize hkb:w1.heap.size=kb at *
 refine(qIs c w2).mono ?_
 rintro e w3 ⟨rfl,hw3⟩
 rw[h2]
 have HB3:=hide ((uh HB1).keeps hw3 (λh=>h))
 have HR3:=hide ((uh HR1).keeps hw3 (λh=>h))
 have HT3:=hide ((uh HT1).keeps hw3 (λh=>h))
 have HK3:=hide ((uh HK1).then hw3)
 clear hw3 HB1 HR1 HT1 HK1 hv1 hh1 hkb
 have r0:w3.cell? ⟨w.heap.size+1,0,none⟩=some .nilFunc:=(uh HR3).cell rfl
 have r1:w3.cell? ⟨w.heap.size+1,1,none⟩=some .nilFunc:=(uh HR3).cell rfl
 have r2:w3.cell? ⟨w.heap.size+1,2,none⟩=some .nilFunc:=(uh HR3).cell rfl
 have r3:w3.cell? ⟨w.heap.size+1,3,none⟩=some .nilFunc:=(uh HR3).cell rfl
 have r4:w3.cell? ⟨w.heap.size+1,4,none⟩=some .nilFunc:=(uh HR3).cell rfl
 have r5:w3.cell? ⟨w.heap.size+1,5,none⟩=some .nilFunc:=(uh HR3).cell rfl
 have rf:=(uh HR3).frozen
 go_wp2
 have hbf:=(((((((uh HR3).setCell 0 (.nilFunc)).setCell 1 (.nilFunc)).setCell 2 (.nilFunc)).setCell 3 (.nilFunc)).setCell 4 (.nilFunc)).setCell 5 (.nilFunc))
 have HKF:=hide ((uh HK3).trans (((((((Keeps.refl (λk=>k=w.heap.size+1) w3).setCell (p:=⟨w.heap.size+1,0,none⟩) (Or.inl rfl) (.nilFunc)).setCell (p:=⟨w.heap.size+1,1,none⟩) (Or.inl rfl) (.nilFunc)).setCell (p:=⟨w.heap.size+1,2,none⟩) (Or.inl rfl) (.nilFunc)).setCell (p:=⟨w.heap.size+1,3,none⟩) (Or.inl rfl) (.nilFunc)).setCell (p:=⟨w.heap.size+1,4,none⟩) (Or.inl rfl) (.nilFunc)).setCell (p:=⟨w.heap.size+1,5,none⟩) (Or.inl rfl) (.nilFunc)) (λi hi hlt=>by omega))
 generalize((((((w3.setCell ⟨w.heap.size+1,0,none⟩ (.nilFunc)).setCell ⟨w.heap.size+1,1,none⟩ (.nilFunc)).setCell ⟨w.heap.size+1,2,none⟩ (.nilFunc)).setCell ⟨w.heap.size+1,3,none⟩ (.nilFunc)).setCell ⟨w.heap.size+1,4,none⟩ (.nilFunc)).setCell ⟨w.heap.size+1,5,none⟩ (.nilFunc))=w9 at *
 have q0:w9.cell? ⟨w.heap.size+1,0,none⟩=some (.nilFunc):=hbf.cell rfl
 have q1:w9.cell? ⟨w.heap.size+1,1,none⟩=some (.nilFunc):=hbf.cell rfl
 have q2:w9.cell? ⟨w.heap.size+1,2,none⟩=some (.nilFunc):=hbf.cell rfl
 have q3:w9.cell? ⟨w.heap.size+1,3,none⟩=some (.nilFunc):=hbf.cell rfl
 have q4:w9.cell? ⟨w.heap.size+1,4,none⟩=some (.nilFunc):=hbf.cell rfl
 have q5:w9.cell? ⟨w.heap.size+1,5,none⟩=some (.nilFunc):=hbf.cell rfl
 exact bodyPost_ret (v:=.tuple #[.agg #[.nilFunc,.nilFunc,.nilFunc,.nilFunc,.nilFunc,.nilFunc],.bool false]) (by simp[results,Tryz.results47,go_sem,q0,q1,q2,q3,q4,q5]) rfl ⟨rfl,uh HKF⟩
theorem qR5(c:Cfg)(k:Nat)(w:World)(hk:c.kind=k)(hk1:1<=k)(hk5:k<=5)(h2:qEi c=true)(h3:qE0 c k=false):
  Calls Tryz.prog 47 #[c.val] w λe w'=>e=.returned (.tuple #[.agg #[.nilFunc,.nilFunc,.nilFunc,.nilFunc,.nilFunc,.nilFunc],.bool false])/\Keeps (λ_=>False) w w':=by
 have HB:=hide (show Blk ((w.alloc (.cells c.cells.toArray 32)).alloc (.cells #[.nilFunc,.nilFunc,.nilFunc,.nilFunc,.nilFunc,.nilFunc] 83)) w.heap.size c.cells 32 from(Blk.new w c.cells 32).alloc _)
 have HR:=hide (show Blk ((w.alloc (.cells c.cells.toArray 32)).alloc (.cells #[.nilFunc,.nilFunc,.nilFunc,.nilFunc,.nilFunc,.nilFunc] 83)) (w.heap.size+1) [.nilFunc,.nilFunc,.nilFunc,.nilFunc,.nilFunc,.nilFunc] 83 from Blk.newAt (by simp) [_,_,_,_,_,_] _)
 have HK:=hide (((Keeps.refl (λ_=>False) w).alloc (.cells c.cells.toArray 32)).alloc (.cells #[.nilFunc,.nilFunc,.nilFunc,.nilFunc,.nilFunc,.nilFunc] 83))
 have HKK:=hide hk
 clear hk
 unfold Cfg.val
 go_enter Tryz.func47,Tryz.ntmps47
 go_wp2_with fail
 refine(qGt c.kind k _ (uh HKK) hk1 hk5).mono ?_
 rintro e w1 ⟨rfl,hw1⟩
 unfold qA7 fn
 have hr1:=(uh HR).keeps hw1 (λh=>h)
 have hb1:=(uh HB).keeps hw1 (λh=>h)
 have hz:=hr1.lt
 have hz0:=hb1.lt
 have HB1:=hide (hb1.alloc (.cells #[.func (.func (qBq k)) #[] #[],.func (.func (qA0 k)) #[] #[],.func (.func (qA2 k)) #[] #[],.func (.func (qAq k)) #[] #[],.func (.func (qA1 k)) #[] #[],.func (.func (qA4 k)) #[] #[]] 83))
 have HR1:=hide (hr1.alloc (.cells #[.func (.func (qBq k)) #[] #[],.func (.func (qA0 k)) #[] #[],.func (.func (qA2 k)) #[] #[],.func (.func (qAq k)) #[] #[],.func (.func (qA1 k)) #[] #[],.func (.func (qA4 k)) #[] #[]] 83))
 have HT1:=hide (Blk.new w1 [.func (.func (qBq k)) #[] #[],.func (.func (qA0 k)) #[] #[],.func (.func (qA2 k)) #[] #[],.func (.func (qAq k)) #[] #[],.func (.func (qA1 k)) #[] #[],.func (.func (qA4 k)) #[] #[]] 83)
 have HK1:=hide (((uh HK).then hw1).alloc (.cells #[.func (.func (qBq k)) #[] #[],.func (.func (qA0 k)) #[] #[],.func (.func (qA2 k)) #[] #[],.func (.func (qAq k)) #[] #[],.func (.func (qA1 k)) #[] #[],.func (.func (qA4 k)) #[] #[]] 83))
 obtain⟨hv1,hh1⟩:=qBj hb1 20 rfl
 clear hw1 hb1 hr1 HB HR HK
 go_wp2_with fail
 generalize w1.alloc (.cells #[.func (.func (qBq k)) #[] #[],.func (.func (qA0 k)) #[] #[],.func (.func (qA2 k)) #[] #[],.func (.func (qAq k)) #[] #[],.func (.func (qA1 k)) #[] #[],.func (.func (qA4 k)) #[] #[]] 83)=w2 at *
 generalize hkb:w1.heap.size=kb at *
 refine(qIs c w2).mono ?_
 rintro e w3 ⟨rfl,hw3⟩
 rw[h2]
 have HB3:=hide ((uh HB1).keeps hw3 (λh=>h))
 have HR3:=hide ((uh HR1).keeps hw3 (λh=>h))
 have HT3:=hide ((uh HT1).keeps hw3 (λh=>h))
 have HK3:=hide ((uh HK1).then hw3)
 clear hw3 HB1 HR1 HT1 HK1 hv1 hh1 hkb
 have t0:w3.cell? ⟨kb,0,none⟩=some (.func (.func (qBq k)) #[] #[]):=(uh HT3).cell rfl
 obtain⟨hv3,hh3⟩:=qBj (uh HB3) 20 rfl
 have hown:=qTg k hk1 hk5
 go_wp2_with fail
 refine(qTu c k w3 hk1 hk5).mono ?_
 rintro e w4 ⟨rfl,hw4⟩
 rw[h3]
 have HT4:=hide ((uh HT3).keeps hw4 (λh=>h))
 have HR4:=hide ((uh HR3).keeps hw4 (λh=>h))
 have HK4:=hide ((uh HK3).then hw4)
 clear hw4 HB3 HT3 HR3 HK3 t0 hv3 hh3 hown
 have HR3:=HR4
 have HK3:=HK4
 have r0:w4.cell? ⟨w.heap.size+1,0,none⟩=some .nilFunc:=(uh HR3).cell rfl
 have r1:w4.cell? ⟨w.heap.size+1,1,none⟩=some .nilFunc:=(uh HR3).cell rfl
 have r2:w4.cell? ⟨w.heap.size+1,2,none⟩=some .nilFunc:=(uh HR3).cell rfl
 have r3:w4.cell? ⟨w.heap.size+1,3,none⟩=some .nilFunc:=(uh HR3).cell rfl
 have r4:w4.cell? ⟨w.heap.size+1,4,none⟩=some .nilFunc:=(uh HR3).cell rfl
 have r5:w4.cell? ⟨w.heap.size+1,5,none⟩=some .nilFunc:=(uh HR3).cell rfl
 have rf:=(uh HR3).frozen
 go_wp2
 have hbf:=(((((((uh HR3).setCell 0 (.nilFunc)).setCell 1 (.nilFunc)).setCell 2 (.nilFunc)).setCell 3 (.nilFunc)).setCell 4 (.nilFunc)).setCell 5 (.nilFunc))
 have HKF:=hide ((uh HK3).trans (((((((Keeps.refl (λk=>k=w.heap.size+1) w4).setCell (p:=⟨w.heap.size+1,0,none⟩) (Or.inl rfl) (.nilFunc)).setCell (p:=⟨w.heap.size+1,1,none⟩) (Or.inl rfl) (.nilFunc)).setCell (p:=⟨w.heap.size+1,2,none⟩) (Or.inl rfl) (.nilFunc)).setCell (p:=⟨w.heap.size+1,3,none⟩) (Or.inl rfl) (.nilFunc)).setCell (p:=⟨w.heap.size+1,4,none⟩) (Or.inl rfl) (.nilFunc)).setCell (p:=⟨w.heap.size+1,5,none⟩) (Or.inl rfl) (.nilFunc)) (λi hi hlt=>by omega))
 generalize((((((w4.setCell ⟨w.heap.size+1,0,none⟩ (.nilFunc)).setCell ⟨w.heap.size+1,1,none⟩ (.nilFunc)).setCell ⟨w.heap.size+1,2,none⟩ (.nilFunc)).setCell ⟨w.heap.size+1,3,none⟩ (.nilFunc)).setCell ⟨w.heap.size+1,4,none⟩ (.nilFunc)).setCell ⟨w.heap.size+1,5,none⟩ (.nilFunc))=w9 at *
 have q0:w9.cell? ⟨w.heap.size+1,0,none⟩=some (.nilFunc):=hbf.cell rfl
 have q1:w9.cell? ⟨w.heap.size+1,1,none⟩=some (.nilFunc):=hbf.cell rfl
 have q2:w9.cell? ⟨w.heap.size+1,2,none⟩=some (.nilFunc):=hbf.cell rfl
 have q3:w9.cell? ⟨w.heap.size+1,3,none⟩=some (.nilFunc):=hbf.cell rfl
 have q4:w9.cell? ⟨w.heap.size+1,4,none⟩=some (.nilFunc):=hbf.cell rfl
 have q5:w9.cell? ⟨w.heap.size+1,5,none⟩=some (.nilFunc):=hbf.cell rfl
 exact bodyPost_ret (v:=.tuple #[.agg #[.nilFunc,.nilFunc,.nilFunc,.nilFunc,.nilFunc,.nilFunc],.bool false]) (by simp[results,Tryz.results47,go_sem,q0,q1,q2,q3,q4,q5]) rfl ⟨rfl,uh HKF⟩
theorem qHs(c:Cfg)(k:Nat)(w:World)(hk:c.kind=k)(hk1:1<=k)(hk5:k<=5)(h2:qEi c=true)(h3:qE0 c k=true):
  Calls Tryz.prog 47 #[c.val] w λe w'=>e=.returned (.tuple #[.agg (qA7 k).toArray,.bool true])/\Keeps (λ_=>False) w w':=by
 have HB:=hide (show Blk ((w.alloc (.cells c.cells.toArray 32)).alloc (.cells #[.nilFunc,.nilFunc,.nilFunc,.nilFunc,.nilFunc,.nilFunc] 83)) w.heap.size c.cells 32 from(Blk.new w c.cells 32).alloc _)
 have HR:=hide (show Blk ((w.alloc (.cells c.cells.toArray 32)).alloc (.cells #[.nilFunc,.nilFunc,.nilFunc,.nilFunc,.nilFunc,.nilFunc] 83)) (w.heap.size+1) [.nilFunc,.nilFunc,.nilFunc,.nilFunc,.nilFunc,.nilFunc] 83 from Blk.newAt (by simp) [_,_,_,_,_,_] _)
 have HK:=hide (((Keeps.refl (λ_=>False) w).alloc (.cells c.cells.toArray 32)).alloc (.cells #[.nilFunc,.nilFunc,.nilFunc,.nilFunc,.nilFunc,.nilFunc] 83))
 have HKK:=hide hk
 clear hk
 unfold Cfg.val
 go_enter Tryz.func47,Tryz.ntmps47
 go_wp2_with fail
 refine(qGt c.kind k _ (uh HKK) hk1 hk5).mono ?_
 rintro e w1 ⟨rfl,hw1⟩
 unfold qA7 fn
 have hr1:=(uh HR).keeps hw1 (λh=>h)
 have hb1:=(uh HB).keeps hw1 (λh=>h)
 have hz:=hr1.lt
 have hz0:=hb1.lt
 have HB1:=hide (hb1.alloc (.cells #[.func (.func (qBq k)) #[] #[],.func (.func (qA0 k)) #[] #[],.func (.func (qA2 k)) #[] #[],.func (.func (qAq k)) #[] #[],.func (.func (qA1 k)) #[] #[],.func (.func (qA4 k)) #[] #[]] 83))
 have HR1:=hide (hr1.alloc (.cells #[.func (.func (qBq k)) #[] #[],.func (.func (qA0 k)) #[] #[],.func (.func (qA2 k)) #[] #[],.func (.func (qAq k)) #[] #[],.func (.func (qA1 k)) #[] #[],.func (.func (qA4 k)) #[] #[]] 83))
 have HT1:=hide (Blk.new w1 [.func (.func (qBq k)) #[] #[],.func (.func (qA0 k)) #[] #[],.func (.func (qA2 k)) #[] #[],.func (.func (qAq k)) #[] #[],.func (.func (qA1 k)) #[] #[],.func (.func (qA4 k)) #[] #[]] 83)
 have HK1:=hide (((uh HK).then hw1).alloc (.cells #[.func (.func (qBq k)) #[] #[],.func (.func (qA0 k)) #[] #[],.func (.func (qA2 k)) #[] #[],.func (.func (qAq k)) #[] #[],.func (.func (qA1 k)) #[] #[],.func (.func (qA4 k)) #[] #[]] 83))
 obtain⟨hv1,hh1⟩:=qBj hb1 20 rfl
 clear hw1 hb1 hr1 HB HR HK
 go_wp2_with fail
 generalize w1.alloc (.cells #[.func (.func (qBq k)) #[] #[],.func (.func (qA0 k)) #[] #[],.func (.func (qA2 k)) #[] #[],.func (.func (qAq k)) #[] #[],.func (.func (qA1 k)) #[] #[],.func (.func (qA4 k)) #[] #[]] 83)=w2 at *
 generalize hkb:w1.heap.size=kb at *
 refine(qIs c w2).mono ?_
 rintro e w3 ⟨rfl,hw3⟩
 rw[h2]
 have HB3:=hide ((uh HB1).keeps hw3 (λh=>h))
 have HR3:=hide ((uh HR1).keeps hw3 (λh=>h))
 have HT3:=hide ((uh HT1).keeps hw3 (λh=>h))
 have HK3:=hide ((uh HK1).then hw3)
 clear hw3 HB1 HR1 HT1 HK1 hv1 hh1 hkb
 have t0:w3.cell? ⟨kb,0,none⟩=some (.func (.func (qBq k)) #[] #[]):=(uh HT3).cell rfl
 obtain⟨hv3,hh3⟩:=qBj (uh HB3) 20 rfl
 have hown:=qTg k hk1 hk5
 go_wp2_with fail
 refine(qTu c k w3 hk1 hk5).mono ?_
 rintro e w4 ⟨rfl,hw4⟩
 rw[h3]
 have HT4:=hide ((uh HT3).keeps hw4 (λh=>h))
 have HR4:=hide ((uh HR3).keeps hw4 (λh=>h))
 have HK4:=hide ((uh HK3).then hw4)
 clear hw4 HB3 HT3 HR3 HK3 t0 hv3 hh3 hown
 have HR3:=HR4
 have HK3:=HK4
 have r0:w4.cell? ⟨w.heap.size+1,0,none⟩=some .nilFunc:=(uh HR3).cell rfl
 have r1:w4.cell? ⟨w.heap.size+1,1,none⟩=some .nilFunc:=(uh HR3).cell rfl
 have r2:w4.cell? ⟨w.heap.size+1,2,none⟩=some .nilFunc:=(uh HR3).cell rfl
 have r3:w4.cell? ⟨w.heap.size+1,3,none⟩=some .nilFunc:=(uh HR3).cell rfl
 have r4:w4.cell? ⟨w.heap.size+1,4,none⟩=some .nilFunc:=(uh HR3).cell rfl
 have r5:w4.cell? ⟨w.heap.size+1,5,none⟩=some .nilFunc:=(uh HR3).cell rfl
 have rf:=(uh HR3).frozen
 have t0:w4.cell? ⟨kb,0,none⟩=some (.func (.func (qBq k)) #[] #[]):=(uh HT4).cell rfl
 have t1:w4.cell? ⟨kb,1,none⟩=some (.func (.func (qA0 k)) #[] #[]):=(uh HT4).cell rfl
 have t2:w4.cell? ⟨kb,2,none⟩=some (.func (.func (qA2 k)) #[] #[]):=(uh HT4).cell rfl
 have t3:w4.cell? ⟨kb,3,none⟩=some (.func (.func (qAq k)) #[] #[]):=(uh HT4).cell rfl
 have t4:w4.cell? ⟨kb,4,none⟩=some (.func (.func (qA1 k)) #[] #[]):=(uh HT4).cell rfl
 have t5:w4.cell? ⟨kb,5,none⟩=some (.func (.func (qA4 k)) #[] #[]):=(uh HT4).cell rfl
 go_wp2
 have hbf:=(((((((uh HR3).setCell 0 (.func (.func (qBq k)) #[] #[])).setCell 1 (.func (.func (qA0 k)) #[] #[])).setCell 2 (.func (.func (qA2 k)) #[] #[])).setCell 3 (.func (.func (qAq k)) #[] #[])).setCell 4 (.func (.func (qA1 k)) #[] #[])).setCell 5 (.func (.func (qA4 k)) #[] #[]))
 have HKF:=hide ((uh HK3).trans (((((((Keeps.refl (λk=>k=w.heap.size+1) w4).setCell (p:=⟨w.heap.size+1,0,none⟩) (Or.inl rfl) (.func (.func (qBq k)) #[] #[])).setCell (p:=⟨w.heap.size+1,1,none⟩) (Or.inl rfl) (.func (.func (qA0 k)) #[] #[])).setCell (p:=⟨w.heap.size+1,2,none⟩) (Or.inl rfl) (.func (.func (qA2 k)) #[] #[])).setCell (p:=⟨w.heap.size+1,3,none⟩) (Or.inl rfl) (.func (.func (qAq k)) #[] #[])).setCell (p:=⟨w.heap.size+1,4,none⟩) (Or.inl rfl) (.func (.func (qA1 k)) #[] #[])).setCell (p:=⟨w.heap.size+1,5,none⟩) (Or.inl rfl) (.func (.func (qA4 k)) #[] #[])) (λi hi hlt=>by omega))
 generalize((((((w4.setCell ⟨w.heap.size+1,0,none⟩ (.func (.func (qBq k)) #[] #[])).setCell ⟨w.heap.size+1,1,none⟩ (.func (.func (qA0 k)) #[] #[])).setCell ⟨w.heap.size+1,2,none⟩ (.func (.func (qA2 k)) #[] #[])).setCell ⟨w.heap.size+1,3,none⟩ (.func (.func (qAq k)) #[] #[])).setCell ⟨w.heap.size+1,4,none⟩ (.func (.func (qA1 k)) #[] #[])).setCell ⟨w.heap.size+1,5,none⟩ (.func (.func (qA4 k)) #[] #[]))=w9 at *
 have q0:w9.cell? ⟨w.heap.size+1,0,none⟩=some (.func (.func (qBq k)) #[] #[]):=hbf.cell rfl
 have q1:w9.cell? ⟨w.heap.size+1,1,none⟩=some (.func (.func (qA0 k)) #[] #[]):=hbf.cell rfl
 have q2:w9.cell? ⟨w.heap.size+1,2,none⟩=some (.func (.func (qA2 k)) #[] #[]):=hbf.cell rfl
 have q3:w9.cell? ⟨w.heap.size+1,3,none⟩=some (.func (.func (qAq k)) #[] #[]):=hbf.cell rfl
 have q4:w9.cell? ⟨w.heap.size+1,4,none⟩=some (.func (.func (qA1 k)) #[] #[]):=hbf.cell rfl
 have q5:w9.cell? ⟨w.heap.size+1,5,none⟩=some (.func (.func (qA4 k)) #[] #[]):=hbf.cell rfl
 exact bodyPost_ret (v:=.tuple #[.agg #[.func (.func (qBq k)) #[] #[],.func (.func (qA0 k)) #[] #[],.func (.func (qA2 k)) #[] #[],.func (.func (qAq k)) #[] #[],.func (.func (qA1 k)) #[] #[],.func (.func (qA4 k)) #[] #[]],.bool true]) (by simp[results,Tryz.results47,go_sem,q0,q1,q2,q3,q4,q5]) rfl ⟨rfl,uh HKF⟩
end
section
open Go.RowKit
attribute [local go_sem ↓] qAb qAe
attribute [local go_sem] qAg qAl qAd qAc qAo qAn qAf qAi
def Cfg.nums(c:Cfg): List Int:=[c.kind,c.lag,c.skew,c.cap,c.k,c.window,c.bits,c.rows,c.width,c.panes,c.size,c.degree,c.half,c.mark,c.s00,c.s01,c.s10,c.s11,c.s20,c.s21]
theorem Cfg.cells_nums(c:Cfg): c.cells=c.nums.map (.int .i64 ·):=rfl
def Cfg.num(c:Cfg)(o:Nat): Int:=c.nums.getD o 0
def qCd: Nat->List Nat | 1=>[4,5] | 2=>[6,5] | 3=>[7,8,9,5] | 4=>[11,12,13] | _=>[11,12,13,10]
def at'(b:Nat)(l:List Nat): List (Nat×Nat):=l.map λo=>(b,o)
theorem zC0: (Tryz.prog.info? 170).map (λi=>(i.zero,i.size,i.bytes))=some (some (.pointer none),1,8):=by kernel_rfl
theorem qDz{w w':World}{ps:List (Nat×Nat)}{n:Nat}(hn:ps.length=n)(hm:n<=100)(h:w'.heap[w.heap.size]?=some (.cells (qC4 ps).toArray 170)): w'.ownsRow w.heap.size 170 1 (.slice (some ⟨w.heap.size,0,none⟩) n n) ps.length (qC4 ps):=by
 subst hn
 exact⟨by simp[qC4],.inr ⟨w.heap.size,ps.length,(qC4 ps).toArray,rfl,Nat.le_refl _,h,Nat.le_refl _,by unfold maxLen;omega,by simp[qC4],by rw[List.toList_toArray,List.take_of_length_le (by simp[qC4])]⟩⟩
def qCu(w:World)(b:Nat)(l:List Nat)(e:Ending)(w':World): Prop:=∃v,e=.returned v/\w'.ownsRow w.heap.size 170 1 v (at' b l).length (qC4 (at' b l))/\Keeps (λ_=>False) w w'
theorem qJe(b:Nat)(w:World): Calls Tryz.prog 129 #[.pointer (some ⟨b,0,none⟩)] w (qCu w b [1,2,3]):=by
 go_enter Tryz.func129,Tryz.ntmps129
 go_wp2_with fail
 go_region
 go_wp2
 go_ret
 exact⟨_,rfl,qDz rfl (by omega) (heap_alloc_new w _),((Keeps.refl _ _).alloc _).drew⟩
theorem qS6(b:Nat)(w:World): Calls Tryz.prog 103 #[.pointer (some ⟨b,0,none⟩)] w (qCu w b [4,5]):=by
 go_enter Tryz.func103,Tryz.ntmps103
 go_wp2_with fail
 go_region
 go_wp2
 go_ret
 exact⟨_,rfl,qDz rfl (by omega) (heap_alloc_new w _),((Keeps.refl _ _).alloc _).drew⟩
theorem qLr(b:Nat)(w:World): Calls Tryz.prog 109 #[.pointer (some ⟨b,0,none⟩)] w (qCu w b [6,5]):=by
 go_enter Tryz.func109,Tryz.ntmps109
 go_wp2_with fail
 go_region
 go_wp2
 go_ret
 exact⟨_,rfl,qDz rfl (by omega) (heap_alloc_new w _),((Keeps.refl _ _).alloc _).drew⟩
theorem qSh(b:Nat)(w:World): Calls Tryz.prog 115 #[.pointer (some ⟨b,0,none⟩)] w (qCu w b [7,8,9,5]):=by
 go_enter Tryz.func115,Tryz.ntmps115
 go_wp2_with fail
 go_region
 go_wp2
 go_ret
 exact⟨_,rfl,qDz rfl (by omega) (heap_alloc_new w _),((Keeps.refl _ _).alloc _).drew⟩
theorem qKa(b:Nat)(w:World): Calls Tryz.prog 119 #[.pointer (some ⟨b,0,none⟩)] w (qCu w b [11,12,13]):=by
 go_enter Tryz.func119,Tryz.ntmps119
 go_wp2_with fail
 go_region
 go_wp2
 go_ret
 exact⟨_,rfl,qDz rfl (by omega) (heap_alloc_new w _),((Keeps.refl _ _).alloc _).drew⟩
theorem zCt{w:World}{base base':Nat}{t size:Nat}{v:Value}{n:Nat}{xs:List Value}(h:w.ownsRow base t size v n xs)(hb:base'<=base): w.ownsRow base' t size v n xs:=by
 refine⟨h.1,?_⟩
 rcases h.2 with h2 | ⟨g,cap,cur,rfl,hbb,r⟩
 ·exact .inl h2
 ·exact .inr ⟨g,cap,cur,rfl,Nat.le_trans hb hbb,r⟩
def zBr(t:TypeId)(x y:Value): Sem Next:=do pure (.value (<-Builtin.append_ #[144,144] t #[x,y]))
theorem qKo(ρ:Operand->Value)(dst:Option Tmp)(x y:Operand)(ty:TypeId)(pos:String)(after:Array Edge)(guard:Option (Nat×Bool)):
  execOp ρ { dst,op:=.call { callee:=.builtin .append,args:=#[x,y],argTypes:=#[144,144] },type:=ty,pos,after,guard }=zBr ty (ρ x) (ρ y):=by
 rw[BigFrame.execOp_builtin,BigFrame.builtin_append]
 simp[zBr]
theorem qNd(w:World)(base:Nat)(v:Value)(m g0:Nat)(xs us:List Value)(hown:w.ownsRow base 170 1 v m xs)(hu:w.heap[g0]?=some (.cells us.toArray 170))(h1:∀u∈us,u.oneCell'=true)(hl:0<us.length)(hm:m+us.length<=100)(hb:base<=w.heap.size):
  ∃gg cap' w3,(∀t,(zBr t v (.slice (some ⟨g0,0,none⟩) us.length us.length)).run Tryz.prog w=.ok (.value (.slice (some ⟨gg,0,none⟩) (m+us.length) cap')) w3) /\
   w3.ownsRow base 170 1 (.slice (some ⟨gg,0,none⟩) (m+us.length) cap') (m+us.length) (xs++us)/\w.grownBy w3 v.ownBlock:=by
 obtain⟨i0,hi0,hz0,hz1,hz2⟩:=info_parts zC0
 obtain⟨gg,cap',w3,e1,e2,e3,_,_⟩:=run_append_lies (P:=Tryz.prog) w 144 144 base 170 i0 _ 1 8 Tryz.underlying144 hi0 hz0 hz1 hz2 rfl (by omega) v m xs hown ⟨g0,0,none⟩ us.length us.length us (by simp) (World.news_of_block hu) h1 hl (by unfold maxLen;omega) (by omega) hb w.heap.size rfl
 refine⟨gg,cap',w3,λt=>?_,e2,e3⟩
 unfold zBr
 rw[Sem.run_bind]
 have ht:Builtin.append_ #[144,144] t #[v,.slice (some ⟨g0,0,none⟩) us.length us.length]=Builtin.append_ #[144,144] 144 #[v,.slice (some ⟨g0,0,none⟩) us.length us.length]:=rfl
 rw[ht,e1]
 rfl
theorem qKw(b:Nat)(w:World): Calls Tryz.prog 119 #[.pointer (some ⟨b,0,none⟩)] w λe w1=>∃va vcap,e=.returned (.slice va 3 vcap)/\Keeps (λ_=>False) w w1 /\
  (∃gg cap' w3,(∀t,(zBr t (.slice va 3 vcap) (.slice (some ⟨w1.heap.size,0,none⟩) 1 1)).run Tryz.prog (w1.alloc (.cells #[.pointer (some ⟨b,10,none⟩)] 170))=.ok (.value (.slice (some ⟨gg,0,none⟩) 4 cap')) w3) /\
     w3.ownsRow w.heap.size 170 1 (.slice (some ⟨gg,0,none⟩) 4 cap') 4 (qC4 (at' b [11,12,13,10]))/\Keeps (λ_=>False) w w3) /\
  (∀g0,w.heap[g0]?=some (.cells #[.pointer (some ⟨b,10,none⟩)] 170)->∃gg cap' w3,(∀t,(zBr t (.slice va 3 vcap) (.slice (some ⟨g0,0,none⟩) 1 1)).run Tryz.prog w1=.ok (.value (.slice (some ⟨gg,0,none⟩) 4 cap')) w3) /\
     w3.ownsRow w.heap.size 170 1 (.slice (some ⟨gg,0,none⟩) 4 cap') 4 (qC4 (at' b [11,12,13,10]))/\Keeps (λ_=>False) w w3):=by
 refine(qKa b w).mono ?_
 rintro e w1 ⟨v,rfl,hown,hk⟩
 obtain⟨va,vcap,hv,_⟩:=qB4 hown
 subst hv
 have hsz:=hk.size
 refine⟨va,vcap,rfl,hk,?_,λg0 hg0=>?_⟩
 ·obtain⟨gg,cap',w3,h1,h2,h3⟩:=qNd (w1.alloc (.cells #[.pointer (some ⟨b,10,none⟩)] 170)) w.heap.size _ 3 w1.heap.size _ [.pointer (some ⟨b,10,none⟩)] (hown.alloc _) (heap_alloc_new w1 _) (by simp[Value.oneCell']) (by simp) (by simp) (by simp;omega)
  exact⟨gg,cap',w3,h1,h2,(hk.alloc _).grown h3 (λk hk'=>.inr (hown.lt k hk').1)⟩
 ·obtain⟨gg,cap',w3,h1,h2,h3⟩:=qNd w1 w.heap.size _ 3 g0 _ [.pointer (some ⟨b,10,none⟩)] hown (by rw[hk.block g0 (Array.getElem?_eq_some_iff.1 hg0).1 (λh=>h)];exact hg0) (by simp[Value.oneCell']) (by simp) (by simp) hsz
  exact⟨gg,cap',w3,h1,h2,hk.grown h3 (λk hk'=>.inr (hown.lt k hk').1)⟩
attribute [local go_sem ↓ 2000] qKo
attribute [local go_sem ↓] Go.wp_at_zero Go.wp_at_succ
theorem qRl(b:Nat)(w:World): Calls Tryz.prog 123 #[.pointer (some ⟨b,0,none⟩)] w (qCu w b [11,12,13,10]):=by
 go_enter Tryz.func123,Tryz.ntmps123
 go_wp2_with fail
 have hnew1:(w.alloc (.cells #[.pointer (some ⟨b,10,none⟩)] 170)).drew.heap[w.heap.size]?=some (.cells #[.pointer (some ⟨b,10,none⟩)] 170):=heap_alloc_new w _
 go_region_with (first | (go_at_call 119;refine(qKw b _).mono ?_;rintro e w1 ⟨va,vcap,rfl,hk1,⟨gg,cap',w3,hrun,hown,hk3⟩,hB⟩;try (have hB1:=hB w.heap.size hnew1;obtain⟨gg2,cap2,w4,hrun2,hown2,hk4⟩:=hB1)))
 ·go_wp2
  go_ret
  exact⟨.slice (some ⟨gg,0,none⟩) 4 cap',rfl,hown,((Keeps.refl (λ_=>False) w).drew).then hk3⟩
 all_goals
  go_wp2
  go_ret
  refine⟨.slice (some ⟨gg2,0,none⟩) 4 cap2,rfl,zCt hown2 (by show w.heap.size<=(w.alloc _).heap.size;simp),?_⟩
  first
   | exact(((Keeps.refl (λ_=>False) w).alloc _).drew).then hk4
   | exact(((Keeps.refl (λ_=>False) w).drew).alloc _).then hk4
theorem qTj(b:Nat)(w:World): Calls Tryz.prog 106 #[.pointer (some ⟨b,0,none⟩)] w (qCu w b [0]):=by
 go_enter Tryz.func106,Tryz.ntmps106
 go_wp2
 go_ret
 exact⟨_,rfl,qDz rfl (by omega) (heap_alloc_new w _),(Keeps.refl _ _).alloc _⟩
theorem qXq(b:Nat)(w:World): Calls Tryz.prog 112 #[.pointer (some ⟨b,0,none⟩)] w (qCu w b [0,1]):=by
 go_enter Tryz.func112,Tryz.ntmps112
 go_wp2_with fail
 go_region
 go_wp2
 go_ret
 exact⟨_,rfl,qDz rfl (by omega) (heap_alloc_new w _),((Keeps.refl _ _).alloc _).drew⟩
theorem qTl(b:Nat)(w:World): Calls Tryz.prog 125 #[.pointer (some ⟨b,0,none⟩)] w (qCu w b [0,1,2]):=by
 go_enter Tryz.func125,Tryz.ntmps125
 go_wp2_with fail
 go_region
 go_wp2
 go_ret
 exact⟨_,rfl,qDz rfl (by omega) (heap_alloc_new w _),((Keeps.refl _ _).alloc _).drew⟩
end
end Go.Proofs.YtahnliehdjncdabGreatDoor
