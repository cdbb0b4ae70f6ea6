import Derived.Test.YtahnliehdjncdaaGreatDoorXAC
set_option maxRecDepth 100000
set_option maxHeartbeats 16000000
namespace Go.Proofs.YtahnliehdjncdaaGreatDoor
section
open Go.RowKit
attribute [local go_sem ↓] qAd qAe
attribute [local go_sem] qAf qAl qAc qAb qAn qAm qAi qAj qAg qAk
theorem qAy{f:FuncId}{g:Func}(hf:Tryz.prog.funcs[f]?=some g)(hname:(g.name== "runtime.NumGoroutine")=false)(hb:g.body.isNone=false)(args:Array Value)(w:World):
  (callFunc f args).run Tryz.prog w=.ok (.enter f args) w:=by
 have h1:¬(g.name= "runtime.NumGoroutine"):=by simpa using hname
 have h2:¬g.body=none:=by intro h;simp[h]at hb
 simp[callFunc,hf,h1,h2]
theorem own79(args:Array Value)(w:World): (callFunc 115 args).run Tryz.prog w=.ok (.enter 115 args) w:=qAy Tryz.func115 (by kernel_rfl) (by kernel_rfl) args w
theorem ownSC(args:Array Value)(w:World): (callFunc 120 args).run Tryz.prog w=.ok (.enter 120 args) w:=qAy Tryz.func120 (by kernel_rfl) (by kernel_rfl) args w
theorem own80(args:Array Value)(w:World): (callFunc 118 args).run Tryz.prog w=.ok (.enter 118 args) w:=qAy Tryz.func118 (by kernel_rfl) (by kernel_rfl) args w
theorem own81(args:Array Value)(w:World): (callFunc 126 args).run Tryz.prog w=.ok (.enter 126 args) w:=qAy Tryz.func126 (by kernel_rfl) (by kernel_rfl) args w
theorem zFj(args:Array Value)(w:World): (callFunc 130 args).run Tryz.prog w=.ok (.enter 130 args) w:=qAy Tryz.func130 (by kernel_rfl) (by kernel_rfl) args w
theorem zFt(args:Array Value)(w:World): (callFunc 139 args).run Tryz.prog w=.ok (.enter 139 args) w:=qAy Tryz.func139 (by kernel_rfl) (by kernel_rfl) args w
theorem own82(args:Array Value)(w:World): (callFunc 121 args).run Tryz.prog w=.ok (.enter 121 args) w:=qAy Tryz.func121 (by kernel_rfl) (by kernel_rfl) args w
theorem zE2(args:Array Value)(w:World): (callFunc 124 args).run Tryz.prog w=.ok (.enter 124 args) w:=qAy Tryz.func124 (by kernel_rfl) (by kernel_rfl) args w
theorem own84(args:Array Value)(w:World): (callFunc 127 args).run Tryz.prog w=.ok (.enter 127 args) w:=qAy Tryz.func127 (by kernel_rfl) (by kernel_rfl) args w
theorem own85(args:Array Value)(w:World): (callFunc 131 args).run Tryz.prog w=.ok (.enter 131 args) w:=qAy Tryz.func131 (by kernel_rfl) (by kernel_rfl) args w
theorem own86(args:Array Value)(w:World): (callFunc 133 args).run Tryz.prog w=.ok (.enter 133 args) w:=qAy Tryz.func133 (by kernel_rfl) (by kernel_rfl) args w
theorem own87(args:Array Value)(w:World): (callFunc 134 args).run Tryz.prog w=.ok (.enter 134 args) w:=qAy Tryz.func134 (by kernel_rfl) (by kernel_rfl) args w
theorem own88(args:Array Value)(w:World): (callFunc 135 args).run Tryz.prog w=.ok (.enter 135 args) w:=qAy Tryz.func135 (by kernel_rfl) (by kernel_rfl) args w
theorem own89(args:Array Value)(w:World): (callFunc 137 args).run Tryz.prog w=.ok (.enter 137 args) w:=qAy Tryz.func137 (by kernel_rfl) (by kernel_rfl) args w
theorem ownNC(args:Array Value)(w:World): (callFunc 116 args).run Tryz.prog w=.ok (.enter 116 args) w:=qAy Tryz.func116 (by kernel_rfl) (by kernel_rfl) args w
theorem ownNS(args:Array Value)(w:World): (callFunc 122 args).run Tryz.prog w=.ok (.enter 122 args) w:=qAy Tryz.func122 (by kernel_rfl) (by kernel_rfl) args w
theorem ownNO(args:Array Value)(w:World): (callFunc 128 args).run Tryz.prog w=.ok (.enter 128 args) w:=qAy Tryz.func128 (by kernel_rfl) (by kernel_rfl) args w
theorem ownND(args:Array Value)(w:World): (callFunc 132 args).run Tryz.prog w=.ok (.enter 132 args) w:=qAy Tryz.func132 (by kernel_rfl) (by kernel_rfl) args w
theorem ownNT(args:Array Value)(w:World): (callFunc 136 args).run Tryz.prog w=.ok (.enter 136 args) w:=qAy Tryz.func136 (by kernel_rfl) (by kernel_rfl) args w
theorem zDi(args:Array Value)(w:World): (callFunc 117 args).run Tryz.prog w=.ok (.enter 117 args) w:=qAy Tryz.func117 (by kernel_rfl) (by kernel_rfl) args w
theorem ownPO(args:Array Value)(w:World): (callFunc 123 args).run Tryz.prog w=.ok (.enter 123 args) w:=qAy Tryz.func123 (by kernel_rfl) (by kernel_rfl) args w
theorem ownPR(args:Array Value)(w:World): (callFunc 129 args).run Tryz.prog w=.ok (.enter 129 args) w:=qAy Tryz.func129 (by kernel_rfl) (by kernel_rfl) args w
theorem zEw(args:Array Value)(w:World): (callFunc 119 args).run Tryz.prog w=.ok (.enter 119 args) w:=qAy Tryz.func119 (by kernel_rfl) (by kernel_rfl) args w
theorem zE6(args:Array Value)(w:World): (callFunc 125 args).run Tryz.prog w=.ok (.enter 125 args) w:=qAy Tryz.func125 (by kernel_rfl) (by kernel_rfl) args w
theorem ownAD(args:Array Value)(w:World): (callFunc 138 args).run Tryz.prog w=.ok (.enter 138 args) w:=qAy Tryz.func138 (by kernel_rfl) (by kernel_rfl) args w
theorem qQh(k:Nat)(h1:1<=k)(h5:k<=5)(args:Array Value)(w:World): (callFunc (qA4 k) args).run Tryz.prog w=.ok (.enter (qA4 k) args) w:=by
 have hk:k=1\/k=2\/k=3\/k=4\/k=5:=by omega
 rcases hk with hk | hk | hk | hk | hk <;> subst hk
 ·exact ownNC args w
 ·exact ownNS args w
 ·exact ownNO args w
 ·exact ownND args w
 ·exact ownNT args w
theorem qQ8(k:Nat)(h1:1<=k)(h5:k<=5)(args:Array Value)(w:World): (callFunc (qA3 k) args).run Tryz.prog w=.ok (.enter (qA3 k) args) w:=by
 have hk:k=1\/k=2\/k=3\/k=4\/k=5:=by omega
 rcases hk with hk | hk | hk | hk | hk <;> subst hk
 ·exact zDi args w
 ·exact ownPO args w
 ·exact ownPR args w
 ·exact zDi args w
 ·exact zDi args w
theorem qRc(k:Nat)(h1:1<=k)(h5:k<=5)(args:Array Value)(w:World): (callFunc (qA1 k) args).run Tryz.prog w=.ok (.enter (qA1 k) args) w:=by
 have hk:k=1\/k=2\/k=3\/k=4\/k=5:=by omega
 rcases hk with hk | hk | hk | hk | hk <;> subst hk
 ·exact zEw args w
 ·exact zE6 args w
 ·exact zE6 args w
 ·exact zEw args w
 ·exact ownAD args w
theorem qU5(k:Nat)(h1:1<=k)(h5:k<=5)(args:Array Value)(w:World): (callFunc (qBo k) args).run Tryz.prog w=.ok (.enter (qBo k) args) w:=by
 have hk:k=1\/k=2\/k=3\/k=4\/k=5:=by omega
 rcases hk with hk | hk | hk | hk | hk <;> subst hk
 ·exact own79 args w
 ·exact own82 args w
 ·exact own84 args w
 ·exact own85 args w
 ·exact own88 args w
theorem qNc(k:Nat)(h1:1<=k)(h5:k<=5)(args:Array Value)(w:World): (callFunc (qAq k) args).run Tryz.prog w=.ok (.enter (qAq k) args) w:=by
 have hk:k=1\/k=2\/k=3\/k=4\/k=5:=by omega
 rcases hk with hk | hk | hk | hk | hk <;> subst hk
 ·exact own80 args w
 ·exact zE2 args w
 ·exact zE2 args w
 ·exact own86 args w
 ·exact own89 args w
theorem qXp(k:Nat)(h1:1<=k)(h5:k<=5)(args:Array Value)(w:World): (callFunc (qA5 k) args).run Tryz.prog w=.ok (.enter (qA5 k) args) w:=by
 have hk:k=1\/k=2\/k=3\/k=4\/k=5:=by omega
 rcases hk with hk | hk | hk | hk | hk <;> subst hk
 ·exact ownSC args w
 ·exact own81 args w
 ·exact zFj args w
 ·exact own87 args w
 ·exact zFt args w
def qE7(c:Cfg)(k:Nat): Bool:=match k with | 1=>countB c | 2=>qGm c | 3=>qRk c | 4=>qHl c | _=>qJg c
def qBg(c:Cfg): Bool:=inB c.kind 1 5&&(qD9 c&&qE7 c c.kind.toNat)
theorem qUi(c:Cfg)(k:Nat)(w:World)(h1:1<=k)(h5:k<=5):
  Calls Tryz.prog (qBo k) #[c.val] w λe w'=>e=.returned (.bool (qE7 c k))/\Keeps (λ_=>False) w w':=by
 have hk:k=1\/k=2\/k=3\/k=4\/k=5:=by omega
 rcases hk with hk | hk | hk | hk | hk
 all_goals subst hk
 ·exact qNv c w
 ·exact qJ4 c w
 ·exact qN8 c w
 ·exact qH5 c w
 ·exact qNj c w
def qEi(c:Cfg)(k:Nat)(x:It): Int:=match k with | 1=>0 | 2=>qXu x | 3=>qXu x | 4=>qG0 c x | _=>qMp c x
theorem qHf(c:Cfg)(k:Nat)(x:It)(w:World)(h1:1<=k)(h5:k<=5)(hc:4<=k->c.weighs)(t0:0<=x.t)(t1:x.t<=4611686018427387904):
  Calls Tryz.prog (qAq k) #[c.val,x.val] w λe w'=>e=.returned (.int .i64 (qEi c k x))/\Keeps (λ_=>False) w w':=by
 have hk:k=1\/k=2\/k=3\/k=4\/k=5:=by omega
 rcases hk with hk | hk | hk | hk | hk
 all_goals subst hk
 ·exact qI2 c x w
 ·exact qFw c x w
 ·exact qFw c x w
 ·exact qDg c x w (hc (by omega)) t0 t1
 ·exact qJ8 c x w (hc (by omega)) t0 t1
theorem qS9(c:Cfg)(w:World)(h1:inB c.kind 1 5=false):
  Calls Tryz.prog 60 #[c.val] w λe w'=>e=.returned (.tuple #[.agg #[.nilFunc,.nilFunc,.nilFunc,.nilFunc,.nilFunc,.nilFunc],.bool false])/\Keeps (λ_=>False) w w':=by
 have HB:=hide (show Blk ((w.alloc (.cells c.cells.toArray 38)).alloc (.cells #[.nilFunc,.nilFunc,.nilFunc,.nilFunc,.nilFunc,.nilFunc] 82)) w.heap.size c.cells 38 from(Blk.new w c.cells 38).alloc _)
 have HR:=hide (show Blk ((w.alloc (.cells c.cells.toArray 38)).alloc (.cells #[.nilFunc,.nilFunc,.nilFunc,.nilFunc,.nilFunc,.nilFunc] 82)) (w.heap.size+1) [.nilFunc,.nilFunc,.nilFunc,.nilFunc,.nilFunc,.nilFunc] 82 from Blk.newAt (by simp) [_,_,_,_,_,_] _)
 have HK:=hide (((Keeps.refl (λ_=>False) w).alloc (.cells c.cells.toArray 38)).alloc (.cells #[.nilFunc,.nilFunc,.nilFunc,.nilFunc,.nilFunc,.nilFunc] 82))
 unfold Cfg.val
 go_enter Tryz.func60,Tryz.ntmps60
 go_wp2_with fail
 refine(qZu c.kind _ h1).mono ?_
 rintro e w1 ⟨rfl,hk1⟩
 have hr1:=(uh HR).keeps hk1 (λh=>h)
 have hb1:=(uh HB).keeps hk1 (λh=>h)
 have r0:w1.cell? ⟨w.heap.size+1,0,none⟩=some .nilFunc:=hr1.cell rfl
 have r1:w1.cell? ⟨w.heap.size+1,1,none⟩=some .nilFunc:=hr1.cell rfl
 have r2:w1.cell? ⟨w.heap.size+1,2,none⟩=some .nilFunc:=hr1.cell rfl
 have r3:w1.cell? ⟨w.heap.size+1,3,none⟩=some .nilFunc:=hr1.cell rfl
 have r4:w1.cell? ⟨w.heap.size+1,4,none⟩=some .nilFunc:=hr1.cell rfl
 have r5:w1.cell? ⟨w.heap.size+1,5,none⟩=some .nilFunc:=hr1.cell rfl
 have rf:=hr1.frozen
 have hz:=hr1.lt
 have hz0:=hb1.lt
 obtain⟨hv1,hh1⟩:=qBf hb1 20 rfl
 have HB1:=hide hb1
 have HR1:=hide hr1
 have HK1:=hide ((uh HK).then hk1)
 clear hk1 hb1 hr1
 go_wp2
 have hbf:=(((((((uh HR1).setCell 0 .nilFunc).setCell 1 .nilFunc).setCell 2 .nilFunc).setCell 3 .nilFunc).setCell 4 .nilFunc).setCell 5 .nilFunc).alloc (.cells #[.nilFunc,.nilFunc,.nilFunc,.nilFunc,.nilFunc,.nilFunc] 82)
 have HKF:=hide ((uh HK1).trans ((((((((Keeps.refl (λk=>k=w.heap.size+1) w1).setCell (p:=⟨w.heap.size+1,0,none⟩) (Or.inl rfl) .nilFunc).setCell (p:=⟨w.heap.size+1,1,none⟩) (Or.inl rfl) .nilFunc).setCell (p:=⟨w.heap.size+1,2,none⟩) (Or.inl rfl) .nilFunc).setCell (p:=⟨w.heap.size+1,3,none⟩) (Or.inl rfl) .nilFunc).setCell (p:=⟨w.heap.size+1,4,none⟩) (Or.inl rfl) .nilFunc).setCell (p:=⟨w.heap.size+1,5,none⟩) (Or.inl rfl) .nilFunc).alloc (.cells #[.nilFunc,.nilFunc,.nilFunc,.nilFunc,.nilFunc,.nilFunc] 82)) (λi hi hlt=>by omega))
 generalize(((((((w1.setCell ⟨w.heap.size+1,0,none⟩ .nilFunc).setCell ⟨w.heap.size+1,1,none⟩ .nilFunc).setCell ⟨w.heap.size+1,2,none⟩ .nilFunc).setCell ⟨w.heap.size+1,3,none⟩ .nilFunc).setCell ⟨w.heap.size+1,4,none⟩ .nilFunc).setCell ⟨w.heap.size+1,5,none⟩ .nilFunc).alloc (.cells #[.nilFunc,.nilFunc,.nilFunc,.nilFunc,.nilFunc,.nilFunc] 82))=w2 at *
 have q0:w2.cell? ⟨w.heap.size+1,0,none⟩=some .nilFunc:=hbf.cell rfl
 have q1:w2.cell? ⟨w.heap.size+1,1,none⟩=some .nilFunc:=hbf.cell rfl
 have q2:w2.cell? ⟨w.heap.size+1,2,none⟩=some .nilFunc:=hbf.cell rfl
 have q3:w2.cell? ⟨w.heap.size+1,3,none⟩=some .nilFunc:=hbf.cell rfl
 have q4:w2.cell? ⟨w.heap.size+1,4,none⟩=some .nilFunc:=hbf.cell rfl
 have q5:w2.cell? ⟨w.heap.size+1,5,none⟩=some .nilFunc:=hbf.cell rfl
 exact bodyPost_ret (v:=.tuple #[.agg #[.nilFunc,.nilFunc,.nilFunc,.nilFunc,.nilFunc,.nilFunc],.bool false]) (by simp[results,Tryz.results60,go_sem,q0,q1,q2,q3,q4,q5]) rfl ⟨rfl,uh HKF⟩
theorem qGt(n:Int)(k:Nat)(w:World)(hn:n=k)(h1:1<=k)(h5:k<=5):
  Calls Tryz.prog 87 #[.int .i64 n] w λe w'=>e=.returned (.tuple #[.agg (qA8 k).toArray,.bool true])/\Keeps (λ_=>False) w w':=by
 subst hn;exact zBe k w h1 h5
theorem qRu(c:Cfg)(k:Nat)(w:World)(hk:c.kind=k)(hk1:1<=k)(hk5:k<=5)(h2:qD9 c=false):
  Calls Tryz.prog 60 #[c.val] w λe w'=>e=.returned (.tuple #[.agg #[.nilFunc,.nilFunc,.nilFunc,.nilFunc,.nilFunc,.nilFunc],.bool false])/\Keeps (λ_=>False) w w':=by
 have HB:=hide (show Blk ((w.alloc (.cells c.cells.toArray 38)).alloc (.cells #[.nilFunc,.nilFunc,.nilFunc,.nilFunc,.nilFunc,.nilFunc] 82)) w.heap.size c.cells 38 from(Blk.new w c.cells 38).alloc _)
 have HR:=hide (show Blk ((w.alloc (.cells c.cells.toArray 38)).alloc (.cells #[.nilFunc,.nilFunc,.nilFunc,.nilFunc,.nilFunc,.nilFunc] 82)) (w.heap.size+1) [.nilFunc,.nilFunc,.nilFunc,.nilFunc,.nilFunc,.nilFunc] 82 from Blk.newAt (by simp) [_,_,_,_,_,_] _)
 have HK:=hide (((Keeps.refl (λ_=>False) w).alloc (.cells c.cells.toArray 38)).alloc (.cells #[.nilFunc,.nilFunc,.nilFunc,.nilFunc,.nilFunc,.nilFunc] 82))
 have HKK:=hide hk
 clear hk
 unfold Cfg.val
 go_enter Tryz.func60,Tryz.ntmps60
 go_wp2_with fail
 refine(qGt c.kind k _ (uh HKK) hk1 hk5).mono ?_
 rintro e w1 ⟨rfl,hw1⟩
 unfold qA8 fn
 have hr1:=(uh HR).keeps hw1 (λh=>h)
 have hb1:=(uh HB).keeps hw1 (λh=>h)
 have hz:=hr1.lt
 have hz0:=hb1.lt
 have HB1:=hide (hb1.alloc (.cells #[.func (.func (qBo k)) #[] #[],.func (.func (qA4 k)) #[] #[],.func (.func (qA3 k)) #[] #[],.func (.func (qAq k)) #[] #[],.func (.func (qA1 k)) #[] #[],.func (.func (qA5 k)) #[] #[]] 82))
 have HR1:=hide (hr1.alloc (.cells #[.func (.func (qBo k)) #[] #[],.func (.func (qA4 k)) #[] #[],.func (.func (qA3 k)) #[] #[],.func (.func (qAq k)) #[] #[],.func (.func (qA1 k)) #[] #[],.func (.func (qA5 k)) #[] #[]] 82))
 have HT1:=hide (Blk.new w1 [.func (.func (qBo k)) #[] #[],.func (.func (qA4 k)) #[] #[],.func (.func (qA3 k)) #[] #[],.func (.func (qAq k)) #[] #[],.func (.func (qA1 k)) #[] #[],.func (.func (qA5 k)) #[] #[]] 82)
 have HK1:=hide (((uh HK).then hw1).alloc (.cells #[.func (.func (qBo k)) #[] #[],.func (.func (qA4 k)) #[] #[],.func (.func (qA3 k)) #[] #[],.func (.func (qAq k)) #[] #[],.func (.func (qA1 k)) #[] #[],.func (.func (qA5 k)) #[] #[]] 82))
 obtain⟨hv1,hh1⟩:=qBf hb1 20 rfl
 clear hw1 hb1 hr1 HB HR HK
 go_wp2_with fail
 generalize w1.alloc (.cells #[.func (.func (qBo k)) #[] #[],.func (.func (qA4 k)) #[] #[],.func (.func (qA3 k)) #[] #[],.func (.func (qAq k)) #[] #[],.func (.func (qA1 k)) #[] #[],.func (.func (qA5 k)) #[] #[]] 82)=w2 at *
 generalize hkb:w1.heap.size=kb at *
 refine(qI0 c w2).mono ?_
 rintro e w3 ⟨rfl,hw3⟩
 rw[h2]
 have HB3:=hide ((uh HB1).keeps hw3 (λh=>h))
 have HR3:=hide ((uh HR1).keeps hw3 (λh=>h))
 have HT3:=hide ((uh HT1).keeps hw3 (λh=>h))
 have HK3:=hide ((uh HK1).then hw3)
 clear hw3 HB1 HR1 HT1 HK1 hv1 hh1 hkb
 have r0:w3.cell? ⟨w.heap.size+1,0,none⟩=some .nilFunc:=(uh HR3).cell rfl
 have r1:w3.cell? ⟨w.heap.size+1,1,none⟩=some .nilFunc:=(uh HR3).cell rfl
 have r2:w3.cell? ⟨w.heap.size+1,2,none⟩=some .nilFunc:=(uh HR3).cell rfl
 have r3:w3.cell? ⟨w.heap.size+1,3,none⟩=some .nilFunc:=(uh HR3).cell rfl
 have r4:w3.cell? ⟨w.heap.size+1,4,none⟩=some .nilFunc:=(uh HR3).cell rfl
 have r5:w3.cell? ⟨w.heap.size+1,5,none⟩=some .nilFunc:=(uh HR3).cell rfl
 have rf:=(uh HR3).frozen
 go_wp2
 have hbf:=(((((((uh HR3).setCell 0 (.nilFunc)).setCell 1 (.nilFunc)).setCell 2 (.nilFunc)).setCell 3 (.nilFunc)).setCell 4 (.nilFunc)).setCell 5 (.nilFunc))
 have HKF:=hide ((uh HK3).trans (((((((Keeps.refl (λk=>k=w.heap.size+1) w3).setCell (p:=⟨w.heap.size+1,0,none⟩) (Or.inl rfl) (.nilFunc)).setCell (p:=⟨w.heap.size+1,1,none⟩) (Or.inl rfl) (.nilFunc)).setCell (p:=⟨w.heap.size+1,2,none⟩) (Or.inl rfl) (.nilFunc)).setCell (p:=⟨w.heap.size+1,3,none⟩) (Or.inl rfl) (.nilFunc)).setCell (p:=⟨w.heap.size+1,4,none⟩) (Or.inl rfl) (.nilFunc)).setCell (p:=⟨w.heap.size+1,5,none⟩) (Or.inl rfl) (.nilFunc)) (λi hi hlt=>by omega))
 generalize((((((w3.setCell ⟨w.heap.size+1,0,none⟩ (.nilFunc)).setCell ⟨w.heap.size+1,1,none⟩ (.nilFunc)).setCell ⟨w.heap.size+1,2,none⟩ (.nilFunc)).setCell ⟨w.heap.size+1,3,none⟩ (.nilFunc)).setCell ⟨w.heap.size+1,4,none⟩ (.nilFunc)).setCell ⟨w.heap.size+1,5,none⟩ (.nilFunc))=w9 at *
 have q0:w9.cell? ⟨w.heap.size+1,0,none⟩=some (.nilFunc):=hbf.cell rfl
 have q1:w9.cell? ⟨w.heap.size+1,1,none⟩=some (.nilFunc):=hbf.cell rfl
 have q2:w9.cell? ⟨w.heap.size+1,2,none⟩=some (.nilFunc):=hbf.cell rfl
 have q3:w9.cell? ⟨w.heap.size+1,3,none⟩=some (.nilFunc):=hbf.cell rfl
 have q4:w9.cell? ⟨w.heap.size+1,4,none⟩=some (.nilFunc):=hbf.cell rfl
 have q5:w9.cell? ⟨w.heap.size+1,5,none⟩=some (.nilFunc):=hbf.cell rfl
 exact bodyPost_ret (v:=.tuple #[.agg #[.nilFunc,.nilFunc,.nilFunc,.nilFunc,.nilFunc,.nilFunc],.bool false]) (by simp[results,Tryz.results60,go_sem,q0,q1,q2,q3,q4,q5]) rfl ⟨rfl,uh HKF⟩
theorem qTv(c:Cfg)(k:Nat)(w:World)(hk:c.kind=k)(hk1:1<=k)(hk5:k<=5)(h2:qD9 c=true)(h3:qE7 c k=false):
  Calls Tryz.prog 60 #[c.val] w λe w'=>e=.returned (.tuple #[.agg #[.nilFunc,.nilFunc,.nilFunc,.nilFunc,.nilFunc,.nilFunc],.bool false])/\Keeps (λ_=>False) w w':=by
 have HB:=hide (show Blk ((w.alloc (.cells c.cells.toArray 38)).alloc (.cells #[.nilFunc,.nilFunc,.nilFunc,.nilFunc,.nilFunc,.nilFunc] 82)) w.heap.size c.cells 38 from(Blk.new w c.cells 38).alloc _)
 have HR:=hide (show Blk ((w.alloc (.cells c.cells.toArray 38)).alloc (.cells #[.nilFunc,.nilFunc,.nilFunc,.nilFunc,.nilFunc,.nilFunc] 82)) (w.heap.size+1) [.nilFunc,.nilFunc,.nilFunc,.nilFunc,.nilFunc,.nilFunc] 82 from Blk.newAt (by simp) [_,_,_,_,_,_] _)
 have HK:=hide (((Keeps.refl (λ_=>False) w).alloc (.cells c.cells.toArray 38)).alloc (.cells #[.nilFunc,.nilFunc,.nilFunc,.nilFunc,.nilFunc,.nilFunc] 82))
 have HKK:=hide hk
 clear hk
 unfold Cfg.val
 go_enter Tryz.func60,Tryz.ntmps60
 go_wp2_with fail
 refine(qGt c.kind k _ (uh HKK) hk1 hk5).mono ?_
 rintro e w1 ⟨rfl,hw1⟩
 unfold qA8 fn
 have hr1:=(uh HR).keeps hw1 (λh=>h)
 have hb1:=(uh HB).keeps hw1 (λh=>h)
 have hz:=hr1.lt
 have hz0:=hb1.lt
 have HB1:=hide (hb1.alloc (.cells #[.func (.func (qBo k)) #[] #[],.func (.func (qA4 k)) #[] #[],.func (.func (qA3 k)) #[] #[],.func (.func (qAq k)) #[] #[],.func (.func (qA1 k)) #[] #[],.func (.func (qA5 k)) #[] #[]] 82))
 have HR1:=hide (hr1.alloc (.cells #[.func (.func (qBo k)) #[] #[],.func (.func (qA4 k)) #[] #[],.func (.func (qA3 k)) #[] #[],.func (.func (qAq k)) #[] #[],.func (.func (qA1 k)) #[] #[],.func (.func (qA5 k)) #[] #[]] 82))
 have HT1:=hide (Blk.new w1 [.func (.func (qBo k)) #[] #[],.func (.func (qA4 k)) #[] #[],.func (.func (qA3 k)) #[] #[],.func (.func (qAq k)) #[] #[],.func (.func (qA1 k)) #[] #[],.func (.func (qA5 k)) #[] #[]] 82)
 have HK1:=hide (((uh HK).then hw1).alloc (.cells #[.func (.func (qBo k)) #[] #[],.func (.func (qA4 k)) #[] #[],.func (.func (qA3 k)) #[] #[],.func (.func (qAq k)) #[] #[],.func (.func (qA1 k)) #[] #[],.func (.func (qA5 k)) #[] #[]] 82))
 obtain⟨hv1,hh1⟩:=qBf hb1 20 rfl
 clear hw1 hb1 hr1 HB HR HK
 go_wp2_with fail
 generalize w1.alloc (.cells #[.func (.func (qBo k)) #[] #[],.func (.func (qA4 k)) #[] #[],.func (.func (qA3 k)) #[] #[],.func (.func (qAq k)) #[] #[],.func (.func (qA1 k)) #[] #[],.func (.func (qA5 k)) #[] #[]] 82)=w2 at *
 generalize hkb:w1.heap.size=kb at *
 refine(qI0 c w2).mono ?_
 rintro e w3 ⟨rfl,hw3⟩
 rw[h2]
 have HB3:=hide ((uh HB1).keeps hw3 (λh=>h))
 have HR3:=hide ((uh HR1).keeps hw3 (λh=>h))
 have HT3:=hide ((uh HT1).keeps hw3 (λh=>h))
 have HK3:=hide ((uh HK1).then hw3)
 clear hw3 HB1 HR1 HT1 HK1 hv1 hh1 hkb
 have t0:w3.cell? ⟨kb,0,none⟩=some (.func (.func (qBo k)) #[] #[]):=(uh HT3).cell rfl
 obtain⟨hv3,hh3⟩:=qBf (uh HB3) 20 rfl
 have hown:=qU5 k hk1 hk5
 go_wp2_with fail
 refine(qUi c k w3 hk1 hk5).mono ?_
 rintro e w4 ⟨rfl,hw4⟩
 rw[h3]
 have HT4:=hide ((uh HT3).keeps hw4 (λh=>h))
 have HR4:=hide ((uh HR3).keeps hw4 (λh=>h))
 have HK4:=hide ((uh HK3).then hw4)
 clear hw4 HB3 HT3 HR3 HK3 t0 hv3 hh3 hown
 have HR3:=HR4
 have HK3:=HK4
 have r0:w4.cell? ⟨w.heap.size+1,0,none⟩=some .nilFunc:=(uh HR3).cell rfl
 have r1:w4.cell? ⟨w.heap.size+1,1,none⟩=some .nilFunc:=(uh HR3).cell rfl
 have r2:w4.cell? ⟨w.heap.size+1,2,none⟩=some .nilFunc:=(uh HR3).cell rfl
 have r3:w4.cell? ⟨w.heap.size+1,3,none⟩=some .nilFunc:=(uh HR3).cell rfl
 have r4:w4.cell? ⟨w.heap.size+1,4,none⟩=some .nilFunc:=(uh HR3).cell rfl
 have r5:w4.cell? ⟨w.heap.size+1,5,none⟩=some .nilFunc:=(uh HR3).cell rfl
 have rf:=(uh HR3).frozen
 go_wp2
 have hbf:=(((((((uh HR3).setCell 0 (.nilFunc)).setCell 1 (.nilFunc)).setCell 2 (.nilFunc)).setCell 3 (.nilFunc)).setCell 4 (.nilFunc)).setCell 5 (.nilFunc))
 have HKF:=hide ((uh HK3).trans (((((((Keeps.refl (λk=>k=w.heap.size+1) w4).setCell (p:=⟨w.heap.size+1,0,none⟩) (Or.inl rfl) (.nilFunc)).setCell (p:=⟨w.heap.size+1,1,none⟩) (Or.inl rfl) (.nilFunc)).setCell (p:=⟨w.heap.size+1,2,none⟩) (Or.inl rfl) (.nilFunc)).setCell (p:=⟨w.heap.size+1,3,none⟩) (Or.inl rfl) (.nilFunc)).setCell (p:=⟨w.heap.size+1,4,none⟩) (Or.inl rfl) (.nilFunc)).setCell (p:=⟨w.heap.size+1,5,none⟩) (Or.inl rfl) (.nilFunc)) (λi hi hlt=>by omega))
 generalize((((((w4.setCell ⟨w.heap.size+1,0,none⟩ (.nilFunc)).setCell ⟨w.heap.size+1,1,none⟩ (.nilFunc)).setCell ⟨w.heap.size+1,2,none⟩ (.nilFunc)).setCell ⟨w.heap.size+1,3,none⟩ (.nilFunc)).setCell ⟨w.heap.size+1,4,none⟩ (.nilFunc)).setCell ⟨w.heap.size+1,5,none⟩ (.nilFunc))=w9 at *
 have q0:w9.cell? ⟨w.heap.size+1,0,none⟩=some (.nilFunc):=hbf.cell rfl
 have q1:w9.cell? ⟨w.heap.size+1,1,none⟩=some (.nilFunc):=hbf.cell rfl
 have q2:w9.cell? ⟨w.heap.size+1,2,none⟩=some (.nilFunc):=hbf.cell rfl
 have q3:w9.cell? ⟨w.heap.size+1,3,none⟩=some (.nilFunc):=hbf.cell rfl
 have q4:w9.cell? ⟨w.heap.size+1,4,none⟩=some (.nilFunc):=hbf.cell rfl
 have q5:w9.cell? ⟨w.heap.size+1,5,none⟩=some (.nilFunc):=hbf.cell rfl
 exact bodyPost_ret (v:=.tuple #[.agg #[.nilFunc,.nilFunc,.nilFunc,.nilFunc,.nilFunc,.nilFunc],.bool false]) (by simp[results,Tryz.results60,go_sem,q0,q1,q2,q3,q4,q5]) rfl ⟨rfl,uh HKF⟩
theorem qHz(c:Cfg)(k:Nat)(w:World)(hk:c.kind=k)(hk1:1<=k)(hk5:k<=5)(h2:qD9 c=true)(h3:qE7 c k=true):
  Calls Tryz.prog 60 #[c.val] w λe w'=>e=.returned (.tuple #[.agg (qA8 k).toArray,.bool true])/\Keeps (λ_=>False) w w':=by
 have HB:=hide (show Blk ((w.alloc (.cells c.cells.toArray 38)).alloc (.cells #[.nilFunc,.nilFunc,.nilFunc,.nilFunc,.nilFunc,.nilFunc] 82)) w.heap.size c.cells 38 from(Blk.new w c.cells 38).alloc _)
 have HR:=hide (show Blk ((w.alloc (.cells c.cells.toArray 38)).alloc (.cells #[.nilFunc,.nilFunc,.nilFunc,.nilFunc,.nilFunc,.nilFunc] 82)) (w.heap.size+1) [.nilFunc,.nilFunc,.nilFunc,.nilFunc,.nilFunc,.nilFunc] 82 from Blk.newAt (by simp) [_,_,_,_,_,_] _)
 have HK:=hide (((Keeps.refl (λ_=>False) w).alloc (.cells c.cells.toArray 38)).alloc (.cells #[.nilFunc,.nilFunc,.nilFunc,.nilFunc,.nilFunc,.nilFunc] 82))
 have HKK:=hide hk
 clear hk
 unfold Cfg.val
 go_enter Tryz.func60,Tryz.ntmps60
 go_wp2_with fail
 refine(qGt c.kind k _ (uh HKK) hk1 hk5).mono ?_
 rintro e w1 ⟨rfl,hw1⟩
 unfold qA8 fn
 have hr1:=(uh HR).keeps hw1 (λh=>h)
 have hb1:=(uh HB).keeps hw1 (λh=>h)
 have hz:=hr1.lt
 have hz0:=hb1.lt
 have HB1:=hide (hb1.alloc (.cells #[.func (.func (qBo k)) #[] #[],.func (.func (qA4 k)) #[] #[],.func (.func (qA3 k)) #[] #[],.func (.func (qAq k)) #[] #[],.func (.func (qA1 k)) #[] #[],.func (.func (qA5 k)) #[] #[]] 82))
 have HR1:=hide (hr1.alloc (.cells #[.func (.func (qBo k)) #[] #[],.func (.func (qA4 k)) #[] #[],.func (.func (qA3 k)) #[] #[],.func (.func (qAq k)) #[] #[],.func (.func (qA1 k)) #[] #[],.func (.func (qA5 k)) #[] #[]] 82))
 have HT1:=hide (Blk.new w1 [.func (.func (qBo k)) #[] #[],.func (.func (qA4 k)) #[] #[],.func (.func (qA3 k)) #[] #[],.func (.func (qAq k)) #[] #[],.func (.func (qA1 k)) #[] #[],.func (.func (qA5 k)) #[] #[]] 82)
 have HK1:=hide (((uh HK).then hw1).alloc (.cells #[.func (.func (qBo k)) #[] #[],.func (.func (qA4 k)) #[] #[],.func (.func (qA3 k)) #[] #[],.func (.func (qAq k)) #[] #[],.func (.func (qA1 k)) #[] #[],.func (.func (qA5 k)) #[] #[]] 82))
 obtain⟨hv1,hh1⟩:=qBf hb1 20 rfl
 clear hw1 hb1 hr1 HB HR HK
 go_wp2_with fail
 generalize w1.alloc (.cells #[.func (.func (qBo k)) #[] #[],.func (.func (qA4 k)) #[] #[],.func (.func (qA3 k)) #[] #[],.func (.func (qAq k)) #[] #[],.func (.func (qA1 k)) #[] #[],.func (.func (qA5 k)) #[] #[]] 82)=w2 at *
 generalize hkb:w1.heap.size=kb at *
 refine(qI0 c w2).mono ?_
 rintro e w3 ⟨rfl,hw3⟩
 rw[h2]
 have HB3:=hide ((uh HB1).keeps hw3 (λh=>h))
 have HR3:=hide ((uh HR1).keeps hw3 (λh=>h))
 have HT3:=hide ((uh HT1).keeps hw3 (λh=>h))
 have HK3:=hide ((uh HK1).then hw3)
 clear hw3 HB1 HR1 HT1 HK1 hv1 hh1 hkb
 have t0:w3.cell? ⟨kb,0,none⟩=some (.func (.func (qBo k)) #[] #[]):=(uh HT3).cell rfl
 obtain⟨hv3,hh3⟩:=qBf (uh HB3) 20 rfl
 have hown:=qU5 k hk1 hk5
 go_wp2_with fail
 refine(qUi c k w3 hk1 hk5).mono ?_
 rintro e w4 ⟨rfl,hw4⟩
 rw[h3]
 have HT4:=hide ((uh HT3).keeps hw4 (λh=>h))
 have HR4:=hide ((uh HR3).keeps hw4 (λh=>h))
 have HK4:=hide ((uh HK3).then hw4)
 clear hw4 HB3 HT3 HR3 HK3 t0 hv3 hh3 hown
 have HR3:=HR4
 have HK3:=HK4
 have r0:w4.cell? ⟨w.heap.size+1,0,none⟩=some .nilFunc:=(uh HR3).cell rfl
 have r1:w4.cell? ⟨w.heap.size+1,1,none⟩=some .nilFunc:=(uh HR3).cell rfl
 have r2:w4.cell? ⟨w.heap.size+1,2,none⟩=some .nilFunc:=(uh HR3).cell rfl
 have r3:w4.cell? ⟨w.heap.size+1,3,none⟩=some .nilFunc:=(uh HR3).cell rfl
 have r4:w4.cell? ⟨w.heap.size+1,4,none⟩=some .nilFunc:=(uh HR3).cell rfl
 have r5:w4.cell? ⟨w.heap.size+1,5,none⟩=some .nilFunc:=(uh HR3).cell rfl
 have rf:=(uh HR3).frozen
 have t0:w4.cell? ⟨kb,0,none⟩=some (.func (.func (qBo k)) #[] #[]):=(uh HT4).cell rfl
 have t1:w4.cell? ⟨kb,1,none⟩=some (.func (.func (qA4 k)) #[] #[]):=(uh HT4).cell rfl
 have t2:w4.cell? ⟨kb,2,none⟩=some (.func (.func (qA3 k)) #[] #[]):=(uh HT4).cell rfl
 have t3:w4.cell? ⟨kb,3,none⟩=some (.func (.func (qAq k)) #[] #[]):=(uh HT4).cell rfl
 have t4:w4.cell? ⟨kb,4,none⟩=some (.func (.func (qA1 k)) #[] #[]):=(uh HT4).cell rfl
 have t5:w4.cell? ⟨kb,5,none⟩=some (.func (.func (qA5 k)) #[] #[]):=(uh HT4).cell rfl
 go_wp2
 have hbf:=(((((((uh HR3).setCell 0 (.func (.func (qBo k)) #[] #[])).setCell 1 (.func (.func (qA4 k)) #[] #[])).setCell 2 (.func (.func (qA3 k)) #[] #[])).setCell 3 (.func (.func (qAq k)) #[] #[])).setCell 4 (.func (.func (qA1 k)) #[] #[])).setCell 5 (.func (.func (qA5 k)) #[] #[]))
 have HKF:=hide ((uh HK3).trans (((((((Keeps.refl (λk=>k=w.heap.size+1) w4).setCell (p:=⟨w.heap.size+1,0,none⟩) (Or.inl rfl) (.func (.func (qBo k)) #[] #[])).setCell (p:=⟨w.heap.size+1,1,none⟩) (Or.inl rfl) (.func (.func (qA4 k)) #[] #[])).setCell (p:=⟨w.heap.size+1,2,none⟩) (Or.inl rfl) (.func (.func (qA3 k)) #[] #[])).setCell (p:=⟨w.heap.size+1,3,none⟩) (Or.inl rfl) (.func (.func (qAq k)) #[] #[])).setCell (p:=⟨w.heap.size+1,4,none⟩) (Or.inl rfl) (.func (.func (qA1 k)) #[] #[])).setCell (p:=⟨w.heap.size+1,5,none⟩) (Or.inl rfl) (.func (.func (qA5 k)) #[] #[])) (λi hi hlt=>by omega))
 generalize((((((w4.setCell ⟨w.heap.size+1,0,none⟩ (.func (.func (qBo k)) #[] #[])).setCell ⟨w.heap.size+1,1,none⟩ (.func (.func (qA4 k)) #[] #[])).setCell ⟨w.heap.size+1,2,none⟩ (.func (.func (qA3 k)) #[] #[])).setCell ⟨w.heap.size+1,3,none⟩ (.func (.func (qAq k)) #[] #[])).setCell ⟨w.heap.size+1,4,none⟩ (.func (.func (qA1 k)) #[] #[])).setCell ⟨w.heap.size+1,5,none⟩ (.func (.func (qA5 k)) #[] #[]))=w9 at *
 have q0:w9.cell? ⟨w.heap.size+1,0,none⟩=some (.func (.func (qBo k)) #[] #[]):=hbf.cell rfl
 have q1:w9.cell? ⟨w.heap.size+1,1,none⟩=some (.func (.func (qA4 k)) #[] #[]):=hbf.cell rfl
 have q2:w9.cell? ⟨w.heap.size+1,2,none⟩=some (.func (.func (qA3 k)) #[] #[]):=hbf.cell rfl
 have q3:w9.cell? ⟨w.heap.size+1,3,none⟩=some (.func (.func (qAq k)) #[] #[]):=hbf.cell rfl
 have q4:w9.cell? ⟨w.heap.size+1,4,none⟩=some (.func (.func (qA1 k)) #[] #[]):=hbf.cell rfl
 have q5:w9.cell? ⟨w.heap.size+1,5,none⟩=some (.func (.func (qA5 k)) #[] #[]):=hbf.cell rfl
 exact bodyPost_ret (v:=.tuple #[.agg #[.func (.func (qBo k)) #[] #[],.func (.func (qA4 k)) #[] #[],.func (.func (qA3 k)) #[] #[],.func (.func (qAq k)) #[] #[],.func (.func (qA1 k)) #[] #[],.func (.func (qA5 k)) #[] #[]],.bool true]) (by simp[results,Tryz.results60,go_sem,q0,q1,q2,q3,q4,q5]) rfl ⟨rfl,uh HKF⟩
end
end Go.Proofs.YtahnliehdjncdaaGreatDoor
