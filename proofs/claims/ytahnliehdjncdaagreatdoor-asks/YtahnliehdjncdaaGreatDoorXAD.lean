import Derived.Test.YtahnliehdjncdaaGreatDoorXAC
import Derived.BigQuiet
import Derived.BigRegion
import Derived.Deep.QuietTactic
import Derived.Deep.RegionHeld3
import Derived.Test.YtahnliehdjncdaaGreatDoorXAA
set_option maxRecDepth 100000
set_option maxHeartbeats 16000000
namespace Go.Proofs.YtahnliehdjncdaaGreatDoor
section
open Go.RowKit
attribute [local go_sem ↓] qAd qAe
attribute [local go_sem] qAi qAj qAc qAb qAm qAn qAg qAh qAk qAo
theorem qBx{f:FuncId}{g:Func}(hf:Tryz.prog.funcs[f]?=some g)(hname:(g.name== "runtime.NumGoroutine")=false)(hb:g.body.isNone=false)(args:Array Value)(w:World):
  (callFunc f args).run Tryz.prog w=.ok (.enter f args) w:=by
 have h1:¬(g.name= "runtime.NumGoroutine"):=by simpa using hname
 have h2:¬g.body=none:=by intro h;simp[h]at hb
 simp[callFunc,hf,h1,h2]
theorem own79(args:Array Value)(w:World): (callFunc 115 args).run Tryz.prog w=.ok (.enter 115 args) w:=qBx Tryz.func115 (by kernel_rfl) (by kernel_rfl) args w
theorem ownSC(args:Array Value)(w:World): (callFunc 120 args).run Tryz.prog w=.ok (.enter 120 args) w:=qBx Tryz.func120 (by kernel_rfl) (by kernel_rfl) args w
theorem own80(args:Array Value)(w:World): (callFunc 118 args).run Tryz.prog w=.ok (.enter 118 args) w:=qBx Tryz.func118 (by kernel_rfl) (by kernel_rfl) args w
theorem own81(args:Array Value)(w:World): (callFunc 126 args).run Tryz.prog w=.ok (.enter 126 args) w:=qBx Tryz.func126 (by kernel_rfl) (by kernel_rfl) args w
theorem zDx(args:Array Value)(w:World): (callFunc 130 args).run Tryz.prog w=.ok (.enter 130 args) w:=qBx Tryz.func130 (by kernel_rfl) (by kernel_rfl) args w
theorem zFc(args:Array Value)(w:World): (callFunc 139 args).run Tryz.prog w=.ok (.enter 139 args) w:=qBx Tryz.func139 (by kernel_rfl) (by kernel_rfl) args w
theorem own82(args:Array Value)(w:World): (callFunc 121 args).run Tryz.prog w=.ok (.enter 121 args) w:=qBx Tryz.func121 (by kernel_rfl) (by kernel_rfl) args w
theorem zEe(args:Array Value)(w:World): (callFunc 124 args).run Tryz.prog w=.ok (.enter 124 args) w:=qBx Tryz.func124 (by kernel_rfl) (by kernel_rfl) args w
theorem own84(args:Array Value)(w:World): (callFunc 127 args).run Tryz.prog w=.ok (.enter 127 args) w:=qBx Tryz.func127 (by kernel_rfl) (by kernel_rfl) args w
theorem own85(args:Array Value)(w:World): (callFunc 131 args).run Tryz.prog w=.ok (.enter 131 args) w:=qBx Tryz.func131 (by kernel_rfl) (by kernel_rfl) args w
theorem own86(args:Array Value)(w:World): (callFunc 133 args).run Tryz.prog w=.ok (.enter 133 args) w:=qBx Tryz.func133 (by kernel_rfl) (by kernel_rfl) args w
theorem own87(args:Array Value)(w:World): (callFunc 134 args).run Tryz.prog w=.ok (.enter 134 args) w:=qBx Tryz.func134 (by kernel_rfl) (by kernel_rfl) args w
theorem own88(args:Array Value)(w:World): (callFunc 135 args).run Tryz.prog w=.ok (.enter 135 args) w:=qBx Tryz.func135 (by kernel_rfl) (by kernel_rfl) args w
theorem own89(args:Array Value)(w:World): (callFunc 137 args).run Tryz.prog w=.ok (.enter 137 args) w:=qBx Tryz.func137 (by kernel_rfl) (by kernel_rfl) args w
theorem ownNC(args:Array Value)(w:World): (callFunc 116 args).run Tryz.prog w=.ok (.enter 116 args) w:=qBx Tryz.func116 (by kernel_rfl) (by kernel_rfl) args w
theorem ownNS(args:Array Value)(w:World): (callFunc 122 args).run Tryz.prog w=.ok (.enter 122 args) w:=qBx Tryz.func122 (by kernel_rfl) (by kernel_rfl) args w
theorem ownNO(args:Array Value)(w:World): (callFunc 128 args).run Tryz.prog w=.ok (.enter 128 args) w:=qBx Tryz.func128 (by kernel_rfl) (by kernel_rfl) args w
theorem ownND(args:Array Value)(w:World): (callFunc 132 args).run Tryz.prog w=.ok (.enter 132 args) w:=qBx Tryz.func132 (by kernel_rfl) (by kernel_rfl) args w
theorem ownNT(args:Array Value)(w:World): (callFunc 136 args).run Tryz.prog w=.ok (.enter 136 args) w:=qBx Tryz.func136 (by kernel_rfl) (by kernel_rfl) args w
theorem zDw(k:Nat)(h1:1<=k)(h5:k<=5)(args:Array Value)(w:World): (callFunc (qB9 k) args).run Tryz.prog w=.ok (.enter (qB9 k) args) w:=by
 have hk:k=1\/k=2\/k=3\/k=4\/k=5:=by omega
 rcases hk with hk | hk | hk | hk | hk <;> subst hk
 ·exact ownNC args w
 ·exact ownNS args w
 ·exact ownNO args w
 ·exact ownND args w
 ·exact ownNT args w
theorem qS8(k:Nat)(h1:1<=k)(h5:k<=5)(args:Array Value)(w:World): (callFunc (qDd k) args).run Tryz.prog w=.ok (.enter (qDd k) args) w:=by
 have hk:k=1\/k=2\/k=3\/k=4\/k=5:=by omega
 rcases hk with hk | hk | hk | hk | hk <;> subst hk
 ·exact own79 args w
 ·exact own82 args w
 ·exact own84 args w
 ·exact own85 args w
 ·exact own88 args w
theorem qU8(k:Nat)(h1:1<=k)(h5:k<=5)(args:Array Value)(w:World): (callFunc (qBd k) args).run Tryz.prog w=.ok (.enter (qBd k) args) w:=by
 have hk:k=1\/k=2\/k=3\/k=4\/k=5:=by omega
 rcases hk with hk | hk | hk | hk | hk <;> subst hk
 ·exact own80 args w
 ·exact zEe args w
 ·exact zEe args w
 ·exact own86 args w
 ·exact own89 args w
theorem qW5(k:Nat)(h1:1<=k)(h5:k<=5)(args:Array Value)(w:World): (callFunc (qB7 k) args).run Tryz.prog w=.ok (.enter (qB7 k) args) w:=by
 have hk:k=1\/k=2\/k=3\/k=4\/k=5:=by omega
 rcases hk with hk | hk | hk | hk | hk <;> subst hk
 ·exact ownSC args w
 ·exact own81 args w
 ·exact zDx args w
 ·exact own87 args w
 ·exact zFc args w
def qEt(c:Cfg)(k:Nat): Bool:=match k with | 1=>countB c | 2=>qFl c | 3=>qKz c | 4=>qB4 c | _=>qIl c
def qA0(c:Cfg): Bool:=inB c.kind 1 5&&(qA1 c&&qEt c c.kind.toNat)
theorem qTi(c:Cfg)(k:Nat)(w:World)(h1:1<=k)(h5:k<=5):
  Calls Tryz.prog (qDd k) #[c.val] w λe w'=>e=.returned (.bool (qEt c k))/\Keeps (λ_=>False) w w':=by
 have hk:k=1\/k=2\/k=3\/k=4\/k=5:=by omega
 rcases hk with hk | hk | hk | hk | hk
 all_goals subst hk
 ·exact qO0 c w
 ·exact qKf c w
 ·exact qO5 c w
 ·exact qIo c w
 ·exact qNr c w
def qFr(c:Cfg)(k:Nat)(x:It): Int:=match k with | 1=>0 | 2=>qPb x | 3=>qPb x | 4=>qFp c x | _=>qJv c x
theorem qUp(c:Cfg)(k:Nat)(x:It)(w:World)(h1:1<=k)(h5:k<=5)(hc:4<=k->c.weighs)(t0:0<=x.t)(t1:x.t<=4611686018427387904):
  Calls Tryz.prog (qBd k) #[c.val,x.val] w λe w'=>e=.returned (.int .i64 (qFr c k x))/\Keeps (λ_=>False) w w':=by
 have hk:k=1\/k=2\/k=3\/k=4\/k=5:=by omega
 rcases hk with hk | hk | hk | hk | hk
 all_goals subst hk
 ·exact qJp c x w
 ·exact qGu c x w
 ·exact qGu c x w
 ·exact qDs c x w (hc (by omega)) t0 t1
 ·exact qKv c x w (hc (by omega)) t0 t1
theorem qRs(c:Cfg)(w:World)(h1:inB c.kind 1 5=false):
  Calls Tryz.prog 60 #[c.val] w λe w'=>e=.returned (.tuple #[.agg #[.nilFunc,.nilFunc,.nilFunc,.nilFunc,.nilFunc,.nilFunc],.bool false])/\Keeps (λ_=>False) w w':=by
 have HB:=hide (show Blk ((w.alloc (.cells c.cells.toArray 38)).alloc (.cells #[.nilFunc,.nilFunc,.nilFunc,.nilFunc,.nilFunc,.nilFunc] 82)) w.heap.size c.cells 38 from(Blk.new w c.cells 38).alloc _)
 have HR:=hide (show Blk ((w.alloc (.cells c.cells.toArray 38)).alloc (.cells #[.nilFunc,.nilFunc,.nilFunc,.nilFunc,.nilFunc,.nilFunc] 82)) (w.heap.size+1) [.nilFunc,.nilFunc,.nilFunc,.nilFunc,.nilFunc,.nilFunc] 82 from Blk.newAt (by simp) [_,_,_,_,_,_] _)
 have HK:=hide (((Keeps.refl (λ_=>False) w).alloc (.cells c.cells.toArray 38)).alloc (.cells #[.nilFunc,.nilFunc,.nilFunc,.nilFunc,.nilFunc,.nilFunc] 82))
 unfold Cfg.val
 go_enter Tryz.func60,Tryz.ntmps60
 go_wp2_with fail
 refine(zCt c.kind _ h1).mono ?_
 rintro e w1 ⟨rfl,hk1⟩
 have hr1:=(uh HR).keeps hk1 (λh=>h)
 have hb1:=(uh HB).keeps hk1 (λh=>h)
 have r0:w1.cell? ⟨w.heap.size+1,0,none⟩=some .nilFunc:=hr1.cell rfl
 have r1:w1.cell? ⟨w.heap.size+1,1,none⟩=some .nilFunc:=hr1.cell rfl
 have r2:w1.cell? ⟨w.heap.size+1,2,none⟩=some .nilFunc:=hr1.cell rfl
 have r3:w1.cell? ⟨w.heap.size+1,3,none⟩=some .nilFunc:=hr1.cell rfl
 have r4:w1.cell? ⟨w.heap.size+1,4,none⟩=some .nilFunc:=hr1.cell rfl
 have r5:w1.cell? ⟨w.heap.size+1,5,none⟩=some .nilFunc:=hr1.cell rfl
 have rf:=hr1.frozen
 have hz:=hr1.lt
 have hz0:=hb1.lt
 obtain⟨hv1,hh1⟩:=qA4 hb1 20 rfl
 have HB1:=hide hb1
 have HR1:=hide hr1
 have HK1:=hide ((uh HK).then hk1)
 clear hk1 hb1 hr1
 go_wp2
 have hbf:=(((((((uh HR1).setCell 0 .nilFunc).setCell 1 .nilFunc).setCell 2 .nilFunc).setCell 3 .nilFunc).setCell 4 .nilFunc).setCell 5 .nilFunc).alloc (.cells #[.nilFunc,.nilFunc,.nilFunc,.nilFunc,.nilFunc,.nilFunc] 82)
 have HKF:=hide ((uh HK1).trans ((((((((Keeps.refl (λk=>k=w.heap.size+1) w1).setCell (p:=⟨w.heap.size+1,0,none⟩) (Or.inl rfl) .nilFunc).setCell (p:=⟨w.heap.size+1,1,none⟩) (Or.inl rfl) .nilFunc).setCell (p:=⟨w.heap.size+1,2,none⟩) (Or.inl rfl) .nilFunc).setCell (p:=⟨w.heap.size+1,3,none⟩) (Or.inl rfl) .nilFunc).setCell (p:=⟨w.heap.size+1,4,none⟩) (Or.inl rfl) .nilFunc).setCell (p:=⟨w.heap.size+1,5,none⟩) (Or.inl rfl) .nilFunc).alloc (.cells #[.nilFunc,.nilFunc,.nilFunc,.nilFunc,.nilFunc,.nilFunc] 82)) (λi hi hlt=>by omega))
 generalize(((((((w1.setCell ⟨w.heap.size+1,0,none⟩ .nilFunc).setCell ⟨w.heap.size+1,1,none⟩ .nilFunc).setCell ⟨w.heap.size+1,2,none⟩ .nilFunc).setCell ⟨w.heap.size+1,3,none⟩ .nilFunc).setCell ⟨w.heap.size+1,4,none⟩ .nilFunc).setCell ⟨w.heap.size+1,5,none⟩ .nilFunc).alloc (.cells #[.nilFunc,.nilFunc,.nilFunc,.nilFunc,.nilFunc,.nilFunc] 82))=w2 at *
 have q0:w2.cell? ⟨w.heap.size+1,0,none⟩=some .nilFunc:=hbf.cell rfl
 have q1:w2.cell? ⟨w.heap.size+1,1,none⟩=some .nilFunc:=hbf.cell rfl
 have q2:w2.cell? ⟨w.heap.size+1,2,none⟩=some .nilFunc:=hbf.cell rfl
 have q3:w2.cell? ⟨w.heap.size+1,3,none⟩=some .nilFunc:=hbf.cell rfl
 have q4:w2.cell? ⟨w.heap.size+1,4,none⟩=some .nilFunc:=hbf.cell rfl
 have q5:w2.cell? ⟨w.heap.size+1,5,none⟩=some .nilFunc:=hbf.cell rfl
 exact bodyPost_ret (v:=.tuple #[.agg #[.nilFunc,.nilFunc,.nilFunc,.nilFunc,.nilFunc,.nilFunc],.bool false]) (by simp[results,Tryz.results60,go_sem,q0,q1,q2,q3,q4,q5]) rfl ⟨rfl,uh HKF⟩
theorem qK0(n:Int)(k:Nat)(w:World)(hn:n=k)(h1:1<=k)(h5:k<=5):
  Calls Tryz.prog 87 #[.int .i64 n] w λe w'=>e=.returned (.tuple #[.agg (qBs k).toArray,.bool true])/\Keeps (λ_=>False) w w':=by
 subst hn;exact zAg k w h1 h5
theorem qRy(c:Cfg)(k:Nat)(w:World)(hk:c.kind=k)(hk1:1<=k)(hk5:k<=5)(h2:qA1 c=false):
  Calls Tryz.prog 60 #[c.val] w λe w'=>e=.returned (.tuple #[.agg #[.nilFunc,.nilFunc,.nilFunc,.nilFunc,.nilFunc,.nilFunc],.bool false])/\Keeps (λ_=>False) w w':=by
 have HB:=hide (show Blk ((w.alloc (.cells c.cells.toArray 38)).alloc (.cells #[.nilFunc,.nilFunc,.nilFunc,.nilFunc,.nilFunc,.nilFunc] 82)) w.heap.size c.cells 38 from(Blk.new w c.cells 38).alloc _)
 have HR:=hide (show Blk ((w.alloc (.cells c.cells.toArray 38)).alloc (.cells #[.nilFunc,.nilFunc,.nilFunc,.nilFunc,.nilFunc,.nilFunc] 82)) (w.heap.size+1) [.nilFunc,.nilFunc,.nilFunc,.nilFunc,.nilFunc,.nilFunc] 82 from Blk.newAt (by simp) [_,_,_,_,_,_] _)
 have HK:=hide (((Keeps.refl (λ_=>False) w).alloc (.cells c.cells.toArray 38)).alloc (.cells #[.nilFunc,.nilFunc,.nilFunc,.nilFunc,.nilFunc,.nilFunc] 82))
 have HKK:=hide hk
 clear hk
 unfold Cfg.val
 go_enter Tryz.func60,Tryz.ntmps60
 go_wp2_with fail
 refine(qK0 c.kind k _ (uh HKK) hk1 hk5).mono ?_
 rintro e w1 ⟨rfl,hw1⟩
 unfold qBs fn
 have hr1:=(uh HR).keeps hw1 (λh=>h)
 have hb1:=(uh HB).keeps hw1 (λh=>h)
 have hz:=hr1.lt
 have hz0:=hb1.lt
 have HB1:=hide (hb1.alloc (.cells #[.func (.func (qDd k)) #[] #[],.func (.func (qB9 k)) #[] #[],.func (.func (qCe k)) #[] #[],.func (.func (qBd k)) #[] #[],.func (.func (qCf k)) #[] #[],.func (.func (qB7 k)) #[] #[]] 82))
 have HR1:=hide (hr1.alloc (.cells #[.func (.func (qDd k)) #[] #[],.func (.func (qB9 k)) #[] #[],.func (.func (qCe k)) #[] #[],.func (.func (qBd k)) #[] #[],.func (.func (qCf k)) #[] #[],.func (.func (qB7 k)) #[] #[]] 82))
 have HT1:=hide (Blk.new w1 [.func (.func (qDd k)) #[] #[],.func (.func (qB9 k)) #[] #[],.func (.func (qCe k)) #[] #[],.func (.func (qBd k)) #[] #[],.func (.func (qCf k)) #[] #[],.func (.func (qB7 k)) #[] #[]] 82)
 have HK1:=hide (((uh HK).then hw1).alloc (.cells #[.func (.func (qDd k)) #[] #[],.func (.func (qB9 k)) #[] #[],.func (.func (qCe k)) #[] #[],.func (.func (qBd k)) #[] #[],.func (.func (qCf k)) #[] #[],.func (.func (qB7 k)) #[] #[]] 82))
 obtain⟨hv1,hh1⟩:=qA4 hb1 20 rfl
 clear hw1 hb1 hr1 HB HR HK
 go_wp2_with fail
 generalize w1.alloc (.cells #[.func (.func (qDd k)) #[] #[],.func (.func (qB9 k)) #[] #[],.func (.func (qCe k)) #[] #[],.func (.func (qBd k)) #[] #[],.func (.func (qCf k)) #[] #[],.func (.func (qB7 k)) #[] #[]] 82)=w2 at *
 generalize hkb:w1.heap.size=kb at *
 refine(qJr c w2).mono ?_
 rintro e w3 ⟨rfl,hw3⟩
 rw[h2]
 have HB3:=hide ((uh HB1).keeps hw3 (λh=>h))
 have HR3:=hide ((uh HR1).keeps hw3 (λh=>h))
 have HT3:=hide ((uh HT1).keeps hw3 (λh=>h))
 have HK3:=hide ((uh HK1).then hw3)
 clear hw3 HB1 HR1 HT1 HK1 hv1 hh1 hkb
 have r0:w3.cell? ⟨w.heap.size+1,0,none⟩=some .nilFunc:=(uh HR3).cell rfl
 have r1:w3.cell? ⟨w.heap.size+1,1,none⟩=some .nilFunc:=(uh HR3).cell rfl
 have r2:w3.cell? ⟨w.heap.size+1,2,none⟩=some .nilFunc:=(uh HR3).cell rfl
 have r3:w3.cell? ⟨w.heap.size+1,3,none⟩=some .nilFunc:=(uh HR3).cell rfl
 have r4:w3.cell? ⟨w.heap.size+1,4,none⟩=some .nilFunc:=(uh HR3).cell rfl
 have r5:w3.cell? ⟨w.heap.size+1,5,none⟩=some .nilFunc:=(uh HR3).cell rfl
 have rf:=(uh HR3).frozen
 go_wp2
 have hbf:=(((((((uh HR3).setCell 0 (.nilFunc)).setCell 1 (.nilFunc)).setCell 2 (.nilFunc)).setCell 3 (.nilFunc)).setCell 4 (.nilFunc)).setCell 5 (.nilFunc))
 have HKF:=hide ((uh HK3).trans (((((((Keeps.refl (λk=>k=w.heap.size+1) w3).setCell (p:=⟨w.heap.size+1,0,none⟩) (Or.inl rfl) (.nilFunc)).setCell (p:=⟨w.heap.size+1,1,none⟩) (Or.inl rfl) (.nilFunc)).setCell (p:=⟨w.heap.size+1,2,none⟩) (Or.inl rfl) (.nilFunc)).setCell (p:=⟨w.heap.size+1,3,none⟩) (Or.inl rfl) (.nilFunc)).setCell (p:=⟨w.heap.size+1,4,none⟩) (Or.inl rfl) (.nilFunc)).setCell (p:=⟨w.heap.size+1,5,none⟩) (Or.inl rfl) (.nilFunc)) (λi hi hlt=>by omega))
 generalize((((((w3.setCell ⟨w.heap.size+1,0,none⟩ (.nilFunc)).setCell ⟨w.heap.size+1,1,none⟩ (.nilFunc)).setCell ⟨w.heap.size+1,2,none⟩ (.nilFunc)).setCell ⟨w.heap.size+1,3,none⟩ (.nilFunc)).setCell ⟨w.heap.size+1,4,none⟩ (.nilFunc)).setCell ⟨w.heap.size+1,5,none⟩ (.nilFunc))=w9 at *
 have q0:w9.cell? ⟨w.heap.size+1,0,none⟩=some (.nilFunc):=hbf.cell rfl
 have q1:w9.cell? ⟨w.heap.size+1,1,none⟩=some (.nilFunc):=hbf.cell rfl
 have q2:w9.cell? ⟨w.heap.size+1,2,none⟩=some (.nilFunc):=hbf.cell rfl
 have q3:w9.cell? ⟨w.heap.size+1,3,none⟩=some (.nilFunc):=hbf.cell rfl
 have q4:w9.cell? ⟨w.heap.size+1,4,none⟩=some (.nilFunc):=hbf.cell rfl
 have q5:w9.cell? ⟨w.heap.size+1,5,none⟩=some (.nilFunc):=hbf.cell rfl
 exact bodyPost_ret (v:=.tuple #[.agg #[.nilFunc,.nilFunc,.nilFunc,.nilFunc,.nilFunc,.nilFunc],.bool false]) (by simp[results,Tryz.results60,go_sem,q0,q1,q2,q3,q4,q5]) rfl ⟨rfl,uh HKF⟩
theorem qRh(c:Cfg)(k:Nat)(w:World)(hk:c.kind=k)(hk1:1<=k)(hk5:k<=5)(h2:qA1 c=true)(h3:qEt c k=false):
  Calls Tryz.prog 60 #[c.val] w λe w'=>e=.returned (.tuple #[.agg #[.nilFunc,.nilFunc,.nilFunc,.nilFunc,.nilFunc,.nilFunc],.bool false])/\Keeps (λ_=>False) w w':=by
 have HB:=hide (show Blk ((w.alloc (.cells c.cells.toArray 38)).alloc (.cells #[.nilFunc,.nilFunc,.nilFunc,.nilFunc,.nilFunc,.nilFunc] 82)) w.heap.size c.cells 38 from(Blk.new w c.cells 38).alloc _)
 have HR:=hide (show Blk ((w.alloc (.cells c.cells.toArray 38)).alloc (.cells #[.nilFunc,.nilFunc,.nilFunc,.nilFunc,.nilFunc,.nilFunc] 82)) (w.heap.size+1) [.nilFunc,.nilFunc,.nilFunc,.nilFunc,.nilFunc,.nilFunc] 82 from Blk.newAt (by simp) [_,_,_,_,_,_] _)
 have HK:=hide (((Keeps.refl (λ_=>False) w).alloc (.cells c.cells.toArray 38)).alloc (.cells #[.nilFunc,.nilFunc,.nilFunc,.nilFunc,.nilFunc,.nilFunc] 82))
 have HKK:=hide hk
 clear hk
 unfold Cfg.val
 go_enter Tryz.func60,Tryz.ntmps60
 go_wp2_with fail
 refine(qK0 c.kind k _ (uh HKK) hk1 hk5).mono ?_
 rintro e w1 ⟨rfl,hw1⟩
 unfold qBs fn
 have hr1:=(uh HR).keeps hw1 (λh=>h)
 have hb1:=(uh HB).keeps hw1 (λh=>h)
 have hz:=hr1.lt
 have hz0:=hb1.lt
 have HB1:=hide (hb1.alloc (.cells #[.func (.func (qDd k)) #[] #[],.func (.func (qB9 k)) #[] #[],.func (.func (qCe k)) #[] #[],.func (.func (qBd k)) #[] #[],.func (.func (qCf k)) #[] #[],.func (.func (qB7 k)) #[] #[]] 82))
 have HR1:=hide (hr1.alloc (.cells #[.func (.func (qDd k)) #[] #[],.func (.func (qB9 k)) #[] #[],.func (.func (qCe k)) #[] #[],.func (.func (qBd k)) #[] #[],.func (.func (qCf k)) #[] #[],.func (.func (qB7 k)) #[] #[]] 82))
 have HT1:=hide (Blk.new w1 [.func (.func (qDd k)) #[] #[],.func (.func (qB9 k)) #[] #[],.func (.func (qCe k)) #[] #[],.func (.func (qBd k)) #[] #[],.func (.func (qCf k)) #[] #[],.func (.func (qB7 k)) #[] #[]] 82)
 have HK1:=hide (((uh HK).then hw1).alloc (.cells #[.func (.func (qDd k)) #[] #[],.func (.func (qB9 k)) #[] #[],.func (.func (qCe k)) #[] #[],.func (.func (qBd k)) #[] #[],.func (.func (qCf k)) #[] #[],.func (.func (qB7 k)) #[] #[]] 82))
 obtain⟨hv1,hh1⟩:=qA4 hb1 20 rfl
 clear hw1 hb1 hr1 HB HR HK
 go_wp2_with fail
 generalize w1.alloc (.cells #[.func (.func (qDd k)) #[] #[],.func (.func (qB9 k)) #[] #[],.func (.func (qCe k)) #[] #[],.func (.func (qBd k)) #[] #[],.func (.func (qCf k)) #[] #[],.func (.func (qB7 k)) #[] #[]] 82)=w2 at *
 generalize hkb:w1.heap.size=kb at *
 refine(qJr c w2).mono ?_
 rintro e w3 ⟨rfl,hw3⟩
 rw[h2]
 have HB3:=hide ((uh HB1).keeps hw3 (λh=>h))
 have HR3:=hide ((uh HR1).keeps hw3 (λh=>h))
 have HT3:=hide ((uh HT1).keeps hw3 (λh=>h))
 have HK3:=hide ((uh HK1).then hw3)
 clear hw3 HB1 HR1 HT1 HK1 hv1 hh1 hkb
 have t0:w3.cell? ⟨kb,0,none⟩=some (.func (.func (qDd k)) #[] #[]):=(uh HT3).cell rfl
 obtain⟨hv3,hh3⟩:=qA4 (uh HB3) 20 rfl
 have hown:=qS8 k hk1 hk5
 go_wp2_with fail
 refine(qTi c k w3 hk1 hk5).mono ?_
 rintro e w4 ⟨rfl,hw4⟩
 rw[h3]
 have HT4:=hide ((uh HT3).keeps hw4 (λh=>h))
 have HR4:=hide ((uh HR3).keeps hw4 (λh=>h))
 have HK4:=hide ((uh HK3).then hw4)
 clear hw4 HB3 HT3 HR3 HK3 t0 hv3 hh3 hown
 have HR3:=HR4
 have HK3:=HK4
 have r0:w4.cell? ⟨w.heap.size+1,0,none⟩=some .nilFunc:=(uh HR3).cell rfl
 have r1:w4.cell? ⟨w.heap.size+1,1,none⟩=some .nilFunc:=(uh HR3).cell rfl
 have r2:w4.cell? ⟨w.heap.size+1,2,none⟩=some .nilFunc:=(uh HR3).cell rfl
 have r3:w4.cell? ⟨w.heap.size+1,3,none⟩=some .nilFunc:=(uh HR3).cell rfl
 have r4:w4.cell? ⟨w.heap.size+1,4,none⟩=some .nilFunc:=(uh HR3).cell rfl
 have r5:w4.cell? ⟨w.heap.size+1,5,none⟩=some .nilFunc:=(uh HR3).cell rfl
 have rf:=(uh HR3).frozen
 go_wp2
 have hbf:=(((((((uh HR3).setCell 0 (.nilFunc)).setCell 1 (.nilFunc)).setCell 2 (.nilFunc)).setCell 3 (.nilFunc)).setCell 4 (.nilFunc)).setCell 5 (.nilFunc))
 have HKF:=hide ((uh HK3).trans (((((((Keeps.refl (λk=>k=w.heap.size+1) w4).setCell (p:=⟨w.heap.size+1,0,none⟩) (Or.inl rfl) (.nilFunc)).setCell (p:=⟨w.heap.size+1,1,none⟩) (Or.inl rfl) (.nilFunc)).setCell (p:=⟨w.heap.size+1,2,none⟩) (Or.inl rfl) (.nilFunc)).setCell (p:=⟨w.heap.size+1,3,none⟩) (Or.inl rfl) (.nilFunc)).setCell (p:=⟨w.heap.size+1,4,none⟩) (Or.inl rfl) (.nilFunc)).setCell (p:=⟨w.heap.size+1,5,none⟩) (Or.inl rfl) (.nilFunc)) (λi hi hlt=>by omega))
 generalize((((((w4.setCell ⟨w.heap.size+1,0,none⟩ (.nilFunc)).setCell ⟨w.heap.size+1,1,none⟩ (.nilFunc)).setCell ⟨w.heap.size+1,2,none⟩ (.nilFunc)).setCell ⟨w.heap.size+1,3,none⟩ (.nilFunc)).setCell ⟨w.heap.size+1,4,none⟩ (.nilFunc)).setCell ⟨w.heap.size+1,5,none⟩ (.nilFunc))=w9 at *
 have q0:w9.cell? ⟨w.heap.size+1,0,none⟩=some (.nilFunc):=hbf.cell rfl
 have q1:w9.cell? ⟨w.heap.size+1,1,none⟩=some (.nilFunc):=hbf.cell rfl
 have q2:w9.cell? ⟨w.heap.size+1,2,none⟩=some (.nilFunc):=hbf.cell rfl
 have q3:w9.cell? ⟨w.heap.size+1,3,none⟩=some (.nilFunc):=hbf.cell rfl
 have q4:w9.cell? ⟨w.heap.size+1,4,none⟩=some (.nilFunc):=hbf.cell rfl
 have q5:w9.cell? ⟨w.heap.size+1,5,none⟩=some (.nilFunc):=hbf.cell rfl
 exact bodyPost_ret (v:=.tuple #[.agg #[.nilFunc,.nilFunc,.nilFunc,.nilFunc,.nilFunc,.nilFunc],.bool false]) (by simp[results,Tryz.results60,go_sem,q0,q1,q2,q3,q4,q5]) rfl ⟨rfl,uh HKF⟩
theorem qK5(c:Cfg)(k:Nat)(w:World)(hk:c.kind=k)(hk1:1<=k)(hk5:k<=5)(h2:qA1 c=true)(h3:qEt c k=true):
  Calls Tryz.prog 60 #[c.val] w λe w'=>e=.returned (.tuple #[.agg (qBs k).toArray,.bool true])/\Keeps (λ_=>False) w w':=by
 have HB:=hide (show Blk ((w.alloc (.cells c.cells.toArray 38)).alloc (.cells #[.nilFunc,.nilFunc,.nilFunc,.nilFunc,.nilFunc,.nilFunc] 82)) w.heap.size c.cells 38 from(Blk.new w c.cells 38).alloc _)
 have HR:=hide (show Blk ((w.alloc (.cells c.cells.toArray 38)).alloc (.cells #[.nilFunc,.nilFunc,.nilFunc,.nilFunc,.nilFunc,.nilFunc] 82)) (w.heap.size+1) [.nilFunc,.nilFunc,.nilFunc,.nilFunc,.nilFunc,.nilFunc] 82 from Blk.newAt (by simp) [_,_,_,_,_,_] _)
 have HK:=hide (((Keeps.refl (λ_=>False) w).alloc (.cells c.cells.toArray 38)).alloc (.cells #[.nilFunc,.nilFunc,.nilFunc,.nilFunc,.nilFunc,.nilFunc] 82))
 have HKK:=hide hk
 clear hk
 unfold Cfg.val
 go_enter Tryz.func60,Tryz.ntmps60
 go_wp2_with fail
 refine(qK0 c.kind k _ (uh HKK) hk1 hk5).mono ?_
 rintro e w1 ⟨rfl,hw1⟩
 unfold qBs fn
 have hr1:=(uh HR).keeps hw1 (λh=>h)
 have hb1:=(uh HB).keeps hw1 (λh=>h)
 have hz:=hr1.lt
 have hz0:=hb1.lt
 have HB1:=hide (hb1.alloc (.cells #[.func (.func (qDd k)) #[] #[],.func (.func (qB9 k)) #[] #[],.func (.func (qCe k)) #[] #[],.func (.func (qBd k)) #[] #[],.func (.func (qCf k)) #[] #[],.func (.func (qB7 k)) #[] #[]] 82))
 have HR1:=hide (hr1.alloc (.cells #[.func (.func (qDd k)) #[] #[],.func (.func (qB9 k)) #[] #[],.func (.func (qCe k)) #[] #[],.func (.func (qBd k)) #[] #[],.func (.func (qCf k)) #[] #[],.func (.func (qB7 k)) #[] #[]] 82))
 have HT1:=hide (Blk.new w1 [.func (.func (qDd k)) #[] #[],.func (.func (qB9 k)) #[] #[],.func (.func (qCe k)) #[] #[],.func (.func (qBd k)) #[] #[],.func (.func (qCf k)) #[] #[],.func (.func (qB7 k)) #[] #[]] 82)
 have HK1:=hide (((uh HK).then hw1).alloc (.cells #[.func (.func (qDd k)) #[] #[],.func (.func (qB9 k)) #[] #[],.func (.func (qCe k)) #[] #[],.func (.func (qBd k)) #[] #[],.func (.func (qCf k)) #[] #[],.func (.func (qB7 k)) #[] #[]] 82))
 obtain⟨hv1,hh1⟩:=qA4 hb1 20 rfl
 clear hw1 hb1 hr1 HB HR HK
 go_wp2_with fail
 generalize w1.alloc (.cells #[.func (.func (qDd k)) #[] #[],.func (.func (qB9 k)) #[] #[],.func (.func (qCe k)) #[] #[],.func (.func (qBd k)) #[] #[],.func (.func (qCf k)) #[] #[],.func (.func (qB7 k)) #[] #[]] 82)=w2 at *
 generalize hkb:w1.heap.size=kb at *
 refine(qJr c w2).mono ?_
 rintro e w3 ⟨rfl,hw3⟩
 rw[h2]
 have HB3:=hide ((uh HB1).keeps hw3 (λh=>h))
 have HR3:=hide ((uh HR1).keeps hw3 (λh=>h))
 have HT3:=hide ((uh HT1).keeps hw3 (λh=>h))
 have HK3:=hide ((uh HK1).then hw3)
 clear hw3 HB1 HR1 HT1 HK1 hv1 hh1 hkb
 have t0:w3.cell? ⟨kb,0,none⟩=some (.func (.func (qDd k)) #[] #[]):=(uh HT3).cell rfl
 obtain⟨hv3,hh3⟩:=qA4 (uh HB3) 20 rfl
 have hown:=qS8 k hk1 hk5
 go_wp2_with fail
 refine(qTi c k w3 hk1 hk5).mono ?_
 rintro e w4 ⟨rfl,hw4⟩
 rw[h3]
 have HT4:=hide ((uh HT3).keeps hw4 (λh=>h))
 have HR4:=hide ((uh HR3).keeps hw4 (λh=>h))
 have HK4:=hide ((uh HK3).then hw4)
 clear hw4 HB3 HT3 HR3 HK3 t0 hv3 hh3 hown
 have HR3:=HR4
 have HK3:=HK4
 have r0:w4.cell? ⟨w.heap.size+1,0,none⟩=some .nilFunc:=(uh HR3).cell rfl
 have r1:w4.cell? ⟨w.heap.size+1,1,none⟩=some .nilFunc:=(uh HR3).cell rfl
 have r2:w4.cell? ⟨w.heap.size+1,2,none⟩=some .nilFunc:=(uh HR3).cell rfl
 have r3:w4.cell? ⟨w.heap.size+1,3,none⟩=some .nilFunc:=(uh HR3).cell rfl
 have r4:w4.cell? ⟨w.heap.size+1,4,none⟩=some .nilFunc:=(uh HR3).cell rfl
 have r5:w4.cell? ⟨w.heap.size+1,5,none⟩=some .nilFunc:=(uh HR3).cell rfl
 have rf:=(uh HR3).frozen
 have t0:w4.cell? ⟨kb,0,none⟩=some (.func (.func (qDd k)) #[] #[]):=(uh HT4).cell rfl
 have t1:w4.cell? ⟨kb,1,none⟩=some (.func (.func (qB9 k)) #[] #[]):=(uh HT4).cell rfl
 have t2:w4.cell? ⟨kb,2,none⟩=some (.func (.func (qCe k)) #[] #[]):=(uh HT4).cell rfl
 have t3:w4.cell? ⟨kb,3,none⟩=some (.func (.func (qBd k)) #[] #[]):=(uh HT4).cell rfl
 have t4:w4.cell? ⟨kb,4,none⟩=some (.func (.func (qCf k)) #[] #[]):=(uh HT4).cell rfl
 have t5:w4.cell? ⟨kb,5,none⟩=some (.func (.func (qB7 k)) #[] #[]):=(uh HT4).cell rfl
 go_wp2
 have hbf:=(((((((uh HR3).setCell 0 (.func (.func (qDd k)) #[] #[])).setCell 1 (.func (.func (qB9 k)) #[] #[])).setCell 2 (.func (.func (qCe k)) #[] #[])).setCell 3 (.func (.func (qBd k)) #[] #[])).setCell 4 (.func (.func (qCf k)) #[] #[])).setCell 5 (.func (.func (qB7 k)) #[] #[]))
 have HKF:=hide ((uh HK3).trans (((((((Keeps.refl (λk=>k=w.heap.size+1) w4).setCell (p:=⟨w.heap.size+1,0,none⟩) (Or.inl rfl) (.func (.func (qDd k)) #[] #[])).setCell (p:=⟨w.heap.size+1,1,none⟩) (Or.inl rfl) (.func (.func (qB9 k)) #[] #[])).setCell (p:=⟨w.heap.size+1,2,none⟩) (Or.inl rfl) (.func (.func (qCe k)) #[] #[])).setCell (p:=⟨w.heap.size+1,3,none⟩) (Or.inl rfl) (.func (.func (qBd k)) #[] #[])).setCell (p:=⟨w.heap.size+1,4,none⟩) (Or.inl rfl) (.func (.func (qCf k)) #[] #[])).setCell (p:=⟨w.heap.size+1,5,none⟩) (Or.inl rfl) (.func (.func (qB7 k)) #[] #[])) (λi hi hlt=>by omega))
 generalize((((((w4.setCell ⟨w.heap.size+1,0,none⟩ (.func (.func (qDd k)) #[] #[])).setCell ⟨w.heap.size+1,1,none⟩ (.func (.func (qB9 k)) #[] #[])).setCell ⟨w.heap.size+1,2,none⟩ (.func (.func (qCe k)) #[] #[])).setCell ⟨w.heap.size+1,3,none⟩ (.func (.func (qBd k)) #[] #[])).setCell ⟨w.heap.size+1,4,none⟩ (.func (.func (qCf k)) #[] #[])).setCell ⟨w.heap.size+1,5,none⟩ (.func (.func (qB7 k)) #[] #[]))=w9 at *
 have q0:w9.cell? ⟨w.heap.size+1,0,none⟩=some (.func (.func (qDd k)) #[] #[]):=hbf.cell rfl
 have q1:w9.cell? ⟨w.heap.size+1,1,none⟩=some (.func (.func (qB9 k)) #[] #[]):=hbf.cell rfl
 have q2:w9.cell? ⟨w.heap.size+1,2,none⟩=some (.func (.func (qCe k)) #[] #[]):=hbf.cell rfl
 have q3:w9.cell? ⟨w.heap.size+1,3,none⟩=some (.func (.func (qBd k)) #[] #[]):=hbf.cell rfl
 have q4:w9.cell? ⟨w.heap.size+1,4,none⟩=some (.func (.func (qCf k)) #[] #[]):=hbf.cell rfl
 have q5:w9.cell? ⟨w.heap.size+1,5,none⟩=some (.func (.func (qB7 k)) #[] #[]):=hbf.cell rfl
 exact bodyPost_ret (v:=.tuple #[.agg #[.func (.func (qDd k)) #[] #[],.func (.func (qB9 k)) #[] #[],.func (.func (qCe k)) #[] #[],.func (.func (qBd k)) #[] #[],.func (.func (qCf k)) #[] #[],.func (.func (qB7 k)) #[] #[]],.bool true]) (by simp[results,Tryz.results60,go_sem,q0,q1,q2,q3,q4,q5]) rfl ⟨rfl,uh HKF⟩
end
section
open Go.RowKit
def qDe: Value:=.func (.func 90) #[] #[]
structure QB (w:World) (q:Nat) (v:Value):Prop where
 b:Blk w q [qDe,v] 163
def qDp(l:List It)(i j:Nat): List It:=(l.set i (itAt l j)).set j (itAt l i)
theorem qI6(q g i j cap n:Nat)(w:World)(l:List It)(hn:l.length=n)(hq:QB w q (.slice (some ⟨g,0,none⟩) n cap))(hr:IRow w g cap l)(hi:i<n)(hj:j<n)(hij:i≠j)(hqg:q≠g):
  Calls Tryz.prog 187 #[.pointer (some ⟨q,0,none⟩),.int .i64 i,.int .i64 j] w λe w'=>e=.returned (.tuple #[])/\Keeps (·=g) w w'/\IRow w' g cap (qDp l i j):=by
 have hq1:w.cell? ⟨q,1,none⟩=some (.slice (some ⟨g,0,none⟩) n cap):=hq.b.cell rfl
 have hi0:(0:Int)<=(i:Int):=by omega
 have hin:(i:Int)<(n:Int):=by omega
 have hj0:(0:Int)<=(j:Int):=by omega
 have hjn:(j:Int)<(n:Int):=by omega
 obtain⟨x0,x1,x2,x3⟩:=hr.cells i (by omega)
 obtain⟨y0,y1,y2,y3⟩:=hr.cells j (by omega)
 have hf:=hr.frozen
 have hne:i*4≠j*4:=by omega
 have HR:Hid (IRow w g cap l):=hr
 clear hr hq hn
 have HS:Hid (qDp l i j=(l.set i (itAt l j)).set j (itAt l i)):=rfl
 generalize itAt l i=x at *
 generalize itAt l j=y at *
 go_enter Tryz.func187,Tryz.ntmps187
 go_region
 go_end0
 refine⟨rfl,?_,?_⟩
 ·exact(((Keeps.refl (λk=>k=g) w).putIt (Or.inl rfl) i y).putIt (Or.inl rfl) j x).drew
 ·rw[HS.out];exact((HR.out.put i y).put j x).drew
def riseL: Nat->List It->Nat->List It
 | 0,l,_=>l
 | f+1,l,i=>if i=0 then l else if qCp (itAt l i) (itAt l ((i-1)/2)) then riseL f (qDp l i ((i-1)/2)) ((i-1)/2) else l
theorem qAw(l:List It)(i j:Nat): (qDp l i j).length=l.length:=by simp[qDp]
theorem qOe(q g i cap n:Nat)(w:World)(l:List It)(hn:l.length=n)(hn8:n<=1000)(hq:QB w q (.slice (some ⟨g,0,none⟩) n cap))(hr:IRow w g cap l)(hi:i<n)(hqg:q≠g):
  Calls Tryz.prog 140 #[.pointer (some ⟨q,0,none⟩),.int .i64 i] w λe w'=>e=.returned (.tuple #[])/\Keeps (·=g) w w'/\IRow w' g cap (riseL (i+1) l i):=by
 have HQ:Hid (QB w q (.slice (some ⟨g,0,none⟩) n cap)):=hq
 have HR:Hid (IRow w g cap l):=hr
 have HN:Hid (l.length=n):=hn
 clear hq hr hn
 go_enter Tryz.func140,Tryz.ntmps140
 go_wp2
 go_loopw [1] (λs wr=>∃(k f:Nat) (m:List It),s=.int .i64 k/\k<n/\k<=f/\Hid (m.length=n)/\Hid (Keeps (·=g) w wr)/\Hid (IRow wr g cap m)/\Hid (riseL (i+1) l i=riseL (f+1) m k)) (λs _=>(intOf s).toNat)
 case atStart=>exact⟨i,i,l,rfl,hi,Nat.le_refl _,HN,Keeps.refl _ _,HR,rfl⟩
 case round =>
  obtain⟨k,f,m,rfl,hk,hf,HL,HK,HI,HE⟩:=hrel
  by_cases h0:0<k
  ·have hq1:wr.cell? ⟨q,1,none⟩=some (.slice (some ⟨g,0,none⟩) n cap):=HK.out.cell (HQ.out.b.cell rfl) hqg
   have hq0:wr.cell? ⟨q,0,none⟩=some qDe:=HK.out.cell (HQ.out.b.cell rfl) hqg
   unfold qDe at hq0
   obtain⟨p,hp⟩:∃p,p=(k-1)/2:=⟨_,rfl⟩
   have hpk:p<k:=by omega
   have hpi:((k:Int)-1)/2=(p:Int):=by omega
   have HP:Hid (p=(k-1)/2):=hp
   clear hp
   obtain⟨x0,x1,x2,x3⟩:=HI.out.cells k (by rw[HL.out];exact hk)
   obtain⟨y0,y1,y2,y3⟩:=HI.out.cells p (by rw[HL.out];omega)
   have hk0:(0:Int)<=(k:Int):=by omega
   have hkn:(k:Int)<(n:Int):=by omega
   have hp0:(0:Int)<=(p:Int):=by omega
   have hpn:(p:Int)<(n:Int):=by omega
   generalize hx:itAt m k=x at *
   generalize hy:itAt m p=y at *
   have HX:Hid (itAt m k=x):=hx
   have HY:Hid (itAt m p=y):=hy
   clear hx hy
   cases hab:qCp x y
   all_goals
    go_wp2
    go_region_held3 (λw'=>w'.cell? ⟨q,0,none⟩=some (.func (.func 90) #[] #[])/\w'.cell? ⟨q,1,none⟩=some (.slice (some ⟨g,0,none⟩) n cap) /\
       w'.cell? ⟨g,k*4,none⟩=some (.int .i64 x.t)/\w'.cell? ⟨g,k*4+1,none⟩=some (.int .i64 x.k)/\w'.cell? ⟨g,k*4+2,none⟩=some (.int .i64 x.d)/\w'.cell? ⟨g,k*4+3,none⟩=some (.int .i64 x.n) /\
       w'.cell? ⟨g,p*4,none⟩=some (.int .i64 y.t)/\w'.cell? ⟨g,p*4+1,none⟩=some (.int .i64 y.k)/\w'.cell? ⟨g,p*4+2,none⟩=some (.int .i64 y.d)/\w'.cell? ⟨g,p*4+3,none⟩=some (.int .i64 y.n)) (go_keep)
     (first | (go_at_call 90;refine(qGg x y _).mono ?_;rintro e w' ⟨rfl,rfl⟩))
    have hk1:Keeps (λ_=>False) wr ((wr.alloc (.cells x.cells 87)).alloc (.cells y.cells 87)).drew:=(((Keeps.refl _ _).alloc _).alloc _).drew
    generalize((wr.alloc (.cells x.cells 87)).alloc (.cells y.cells 87)).drew=W1 at *
    have HK1:Hid (Keeps (λ_=>False) wr W1):=hk1
    clear hk1
   ·go_wp2
    refine bodyPost_ret (results_none rfl _ _ _) rfl ?_
    refine⟨rfl,HK.out.trans HK1.out (λ_ h=>h.elim),?_⟩
    have hab':=hab
    rw[<-HX.out,<-HY.out,HP.out]at hab'
    rw[HE.out]
    simp only[riseL,if_neg (show ¬k=0 by omega),hab']
    exact HI.out.keeps HK1.out (λh=>h)
   ·go_wp2_with fail
    refine(qI6 q g k p cap n W1 m HL.out ⟨(HQ.out.b.keeps HK.out hqg).keeps HK1.out (λh=>h)⟩ (HI.out.keeps HK1.out (λh=>h)) hk (by omega) (by omega) hqg).mono ?_
    rintro e w2 ⟨rfl,hk2,hr2⟩
    have HK2:Hid (Keeps (·=g) W1 w2):=hk2
    have HR2:Hid (IRow w2 g cap (qDp m k p)):=hr2
    clear hk2 hr2
    go_wp2
    go_roundw
    case rel =>
     obtain⟨f',rfl⟩:∃f',f=f'+1:=⟨f-1,by omega⟩
     refine⟨p,f',qDp m k p,rfl,by omega,by omega,(qAw _ _ _).trans HL.out,(HK.out.trans HK1.out (λ_ h=>h.elim)).then HK2.out,HR2,?_⟩
     show _=_
     have hab':=hab
     rw[<-HX.out,<-HY.out,HP.out]at hab'
     rw[HE.out,HP.out]
     conv=>lhs;unfold riseL
     rw[if_neg (by omega),if_pos hab']
    case measure=>simp[intOf];omega
  ·go_wp2
   go_end0
   refine⟨rfl,HK.out,?_⟩
   rw[HE.out,show k=0 by omega]
   simpa[riseL] using HI.out
end
end Go.Proofs.YtahnliehdjncdaaGreatDoor
