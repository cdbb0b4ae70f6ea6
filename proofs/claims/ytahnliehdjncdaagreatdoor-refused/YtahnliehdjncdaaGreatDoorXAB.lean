import Derived.BigQuiet
import Derived.BigRegion
import Derived.Deep.AppendLies
import Derived.Deep.QuietTactic
import Derived.Deep.RegionHeld3
import Derived.Deep.RegionLaw
import Derived.Laws.EntriesVeiled
import Derived.Test.YtahnliehdjncdaaGreatDoorXAA
set_option maxRecDepth 100000
set_option maxHeartbeats 16000000
namespace Go.Proofs.YtahnliehdjncdaaGreatDoor
section
open Go.RowKit
attribute [local go_sem ↓] qAd qAe
attribute [local go_sem] qAf qAl qAc qAb qAn qAm qAg qAk
theorem qNs{n:Int}(h0:-9223372036854775808<=n)(h1:n<=9223372036854775807): IntKind.i64.wrap n=n:=by rw[IntKind.wrap_i64];omega
theorem qVo(c:Cfg)(t:Int)(w:World)(hc:c.weighs)(t0:-100<=t)(t1:t<=4611686018427387904):
  Calls Tryz.prog 226 #[c.val,.int .i64 t] w λe w'=>e=.returned (.int .i64 (qCm (qBl c t)))/\w'=(w.alloc (.cells c.cells.toArray 38)).alloc (.cells c.cells.toArray 38):=by
 cases h:qBl c t with
 | none =>
  unfold Cfg.val
  go_enter Tryz.func226,Tryz.ntmps226
  go_wp2_with fail
  refine(qYy c t _ hc t0 t1).mono ?_
  rintro e w' ⟨rfl,rfl⟩
  rw[h]
  unfold qGi
  go_wp2
  go_ret
  exact⟨rfl,rfl⟩
 | some x =>
  unfold Cfg.val
  go_enter Tryz.func226,Tryz.ntmps226
  go_wp2_with fail
  refine(qYy c t _ hc t0 t1).mono ?_
  rintro e w' ⟨rfl,rfl⟩
  rw[h]
  unfold qGi
  go_wp2
  go_ret
  exact⟨rfl,rfl⟩
theorem qJ1(a b:Int)(w:World):
  Calls Tryz.prog 168 #[.int .i64 a,.int .i64 b] w λe w'=>e=.returned (.tuple #[.int .i64 0,.int .i64 0])/\w'=w:=by
 go_enter Tryz.func168,Tryz.ntmps168
 go_wp2
 go_ret2
 exact⟨rfl,rfl⟩
def qCz(c:Cfg)(q r:Int): List Value:=c.cells++[.int .i64 q,.int .i64 r]
theorem qLw(c:Cfg)(w:World):
  Calls Tryz.prog 134 #[c.val] w λe w'=>∃d,e=.returned (.agg #[.func (.func 177) #[.pointer (some ⟨d,0,none⟩)] #[],.func (.func 178) #[.pointer (some ⟨d,0,none⟩)] #[],.func (.func 168) #[] #[],.func (.func 179) #[.pointer (some ⟨d,0,none⟩)] #[],.func (.func 180) #[.pointer (some ⟨d,0,none⟩)] #[]])/\w.heap.size<=d/\Blk w' d (qCz c 0 0) 198/\Keeps (λ_=>False) w w':=by
 unfold Cfg.val
 go_enter Tryz.func134,Tryz.ntmps134
 go_wp2
 refine bodyPost_ret (v:=.agg #[.func (.func 177) #[.pointer (some ⟨w.heap.size+1+1,0,none⟩)] #[],.func (.func 178) #[.pointer (some ⟨w.heap.size+1+1,0,none⟩)] #[],.func (.func 168) #[] #[],.func (.func 179) #[.pointer (some ⟨w.heap.size+1+1,0,none⟩)] #[],.func (.func 180) #[.pointer (some ⟨w.heap.size+1+1,0,none⟩)] #[]]) (by simp[results,Tryz.results134,go_sem]) rfl ⟨w.heap.size+1+1,rfl,by omega,?_,?_⟩
 ·exact Blk.newAt (by simp) (qCz c 0 0) 198
 ·repeat (first | exact Keeps.refl _ _ | apply Keeps.alloc)
theorem qDj{w w':World}{b o n:Nat}(hk:Keeps (λ_=>False) w w')(hlt:b<w.heap.size): qAp w' b o n=qAp w b o n/\qAu w' b o n=qAu w b o n:=by
 have hc:∀j,w'.cell? ⟨b,o+j,none⟩=w.cell? ⟨b,o+j,none⟩:=λj=>World.cell?_of_block (a:=⟨b,o+j,none⟩) (hk.block b hlt (λh=>h))
 constructor
 ·unfold qAp qBs;simp only[hc]
 ·unfold qAu;simp only[hc]
theorem qGc(c:Cfg)(t:Int)(w:World)(hc:c.weighs)(t0:-100<=t)(t1:t<=4611686018427387904):
  Calls Tryz.prog 226 #[c.val,.int .i64 t] w λe w'=>e=.returned (.int .i64 (qCm (qBl c t)))/\Keeps (λ_=>False) w w' :=
 (qVo c t w hc t0 t1).mono λ_ _ ⟨he,hw⟩=>⟨he,by rw[hw];exact((Keeps.refl _ _).alloc _).alloc _⟩
theorem qL8(d:Nat)(c:Cfg)(q r:Int)(x:It)(m:Int)(w:World)(hb:Blk w d (qCz c q r) 198)(hc:c.weighs)(t0:0<=x.t)(t1:x.t<=4611686018427387904)(r0:0<=r)(r1:r<2305843009213693952)(q0:0<=q)(q1:q<=4611686018427387904)(hw0:0<=qCm (qBl c x.t))(hw1:qCm (qBl c x.t)<=2305843009213693952):
  Calls Tryz.prog 177 #[.pointer (some ⟨d,0,none⟩),x.val,.int .i64 m] w λe w'=>e=.returned (.tuple #[]) /\
   Blk w' d (qCz c (q+(r+qCm (qBl c x.t))/2305843009213693952) ((r+qCm (qBl c x.t))%2305843009213693952)) 198/\Keeps (λk=>k=d) w w':=by
 obtain⟨W,hW⟩:∃W,W=w.alloc (.cells x.cells 87):=⟨_,rfl⟩
 have hbW:Blk W d (qCz c q r) 198:=by rw[hW];exact hb.alloc _
 have hxW:Blk W w.heap.size [.int .i64 x.t,.int .i64 x.k,.int .i64 x.d,.int .i64 x.n] 87:=by rw[hW];exact Blk.new w _ _
 have HKW:=hide (show Keeps (λk=>k=d) w W by rw[hW];exact(Keeps.refl _ _).alloc _)
 have HW0:=hide hW
 clear hW hb
 have hd20:W.cell? ⟨d,20,none⟩=some (.int .i64 q):=hbW.cell rfl
 have hd21:W.cell? ⟨d,21,none⟩=some (.int .i64 r):=hbW.cell rfl
 have hx0:W.cell? ⟨w.heap.size,0,none⟩=some (.int .i64 x.t):=hxW.cell rfl
 obtain⟨hv,hh⟩:=qBb hbW 0 20 c.cells rfl rfl
 have hlt:=hbW.lt
 have HB:=hide hbW
 have HC:=hide hc
 clear hbW hxW hc
 generalize hwt:qCm (qBl c x.t)=wt at *
 have HW:=hide hwt
 clear hwt
 have hs0:0<=r+wt:=by omega
 have hs1:r+wt<4611686018427387904:=by omega
 have hq0:0<=(r+wt)/2305843009213693952:=by omega
 have hq1:(r+wt)/2305843009213693952<=1:=by omega
 have hwr:IntKind.i64.wrap (r+wt)=r+wt:=qNs (by omega) (by omega)
 unfold It.val
 go_enter Tryz.func177,Tryz.ntmps177
 go_wp2_with fail
 rw[show w.alloc (.cells #[.int .i64 x.t,.int .i64 x.k,.int .i64 x.d,.int .i64 x.n] 87)=W from(uh HW0).symm]
 go_region_held3 (λw'=>w'.cell? ⟨d,20,none⟩=some (.int .i64 q)/\w'.cell? ⟨d,21,none⟩=some (.int .i64 r)/\w'.cell? ⟨w.heap.size,0,none⟩=some (.int .i64 x.t)/\qAp w' d 0 20=.agg c.cells.toArray/\qAu w' d 0 20=true)
  (first | (go_split_ands;exact⟨by assumption,by assumption,by assumption,by assumption,by assumption⟩) | (go_split_ands;exact⟨hk1.cell (by assumption) (λh=>h),hk1.cell (by assumption) (λh=>h),hk1.cell (by assumption) (λh=>h),(qDj hk1 (by first | exact hlt | simpa using hlt)).1.trans (by assumption),(qDj hk1 (by first | exact hlt | simpa using hlt)).2.trans (by assumption)⟩))
  (first | (go_at_call 226;refine(qGc c x.t _ (uh HC) (by omega) t1).mono ?_;rintro e w1 ⟨rfl,hk1⟩;rw[uh HW]))
 have HK1:=hide (((Keeps.refl (λ_=>False) W).drew).then hk1)
 have hf:=((uh HB).keeps (uh HK1) (λh=>h)).frozen
 go_wp2
 go_end0
 exact⟨rfl,(((uh HB).keeps (uh HK1) (λh=>h)).setCell 20 _).setCell 21 _,((((uh HKW).trans (uh HK1) (λ_ h=>h.elim)).setCell (p:=⟨d,20,none⟩) (Or.inl rfl) _).setCell (p:=⟨d,21,none⟩) (Or.inl rfl) _)⟩
theorem qPl(d:Nat)(c:Cfg)(q r a t:Int)(w:World)(hb:Blk w d (qCz c q r) 198)(hc:c.weighs)(t0:-100<=t)(t1:t<=4611686018427387904):
  Calls Tryz.prog 178 #[.pointer (some ⟨d,0,none⟩),.int .i64 a,.int .i64 t] w λe w'=>∃g,e=.returned (.tuple #[.slice (some ⟨g,0,none⟩) 3 3,.int .i64 0]) /\
   w.heap.size<=g/\Blk w' g [.int .i64 q,.int .i64 r,.int .i64 (qCm (qBl c t))] 3/\Keeps (λ_=>False) w w':=by
 have hd20:w.cell? ⟨d,20,none⟩=some (.int .i64 q):=hb.cell rfl
 have hd21:w.cell? ⟨d,21,none⟩=some (.int .i64 r):=hb.cell rfl
 obtain⟨hv,hh⟩:=qBb hb 0 20 c.cells rfl rfl
 have hlt:=hb.lt
 have HC:=hide hc
 clear hb hc
 generalize hwt:qCm (qBl c t)=wt at *
 have HW:=hide hwt
 clear hwt
 go_enter Tryz.func178,Tryz.ntmps178
 go_wp2_with fail
 go_region_held3 (λw'=>w'.cell? ⟨d,20,none⟩=some (.int .i64 q)/\w'.cell? ⟨d,21,none⟩=some (.int .i64 r)/\qAp w' d 0 20=.agg c.cells.toArray/\qAu w' d 0 20=true)
  (first | (go_split_ands;exact⟨by assumption,by assumption,by assumption,by assumption⟩) | (go_split_ands;exact⟨((Keeps.refl (λ_=>False) _).alloc _).cell (by assumption) (λh=>h),((Keeps.refl (λ_=>False) _).alloc _).cell (by assumption) (λh=>h),(qDj ((Keeps.refl (λ_=>False) _).alloc _) (by first | exact hlt | (have:=hk1.size;have h2:w.heap.size<=w1.heap.size:=(by simpa using this);omega))).1.trans (by assumption),(qDj ((Keeps.refl (λ_=>False) _).alloc _) (by first | exact hlt | (have:=hk1.size;have h2:w.heap.size<=w1.heap.size:=(by simpa using this);omega))).2.trans (by assumption)⟩) | (go_split_ands;exact⟨hk1.cell (by assumption) (λh=>h),hk1.cell (by assumption) (λh=>h),(qDj hk1 (by first | exact hlt | simpa using hlt)).1.trans (by assumption),(qDj hk1 (by first | exact hlt | simpa using hlt)).2.trans (by assumption)⟩))
  (first | (go_at_call 226;refine(qGc c t _ (uh HC) t0 t1).mono ?_;rintro e w1 ⟨rfl,hk1⟩;rw[uh HW]))
 have HK1:=hide (((Keeps.refl (λ_=>False) w).drew).then hk1)
 go_wp2
 go_ret2
 exact⟨w1.heap.size,rfl,(uh HK1).size,Blk.new w1 [.int .i64 q,.int .i64 r,.int .i64 wt] 3,(uh HK1).alloc _⟩
end
end Go.Proofs.YtahnliehdjncdaaGreatDoor
