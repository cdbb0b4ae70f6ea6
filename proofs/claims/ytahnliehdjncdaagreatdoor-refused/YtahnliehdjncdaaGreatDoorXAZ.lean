import Derived.Test.YtahnliehdjncdaaGreatDoorXAY
set_option maxRecDepth 100000
set_option maxHeartbeats 16000000
namespace Go.Proofs.YtahnliehdjncdaaGreatDoor
section
open Go.RowKit
attribute [local go_sem ↓] qAd qAe
attribute [local go_sem] qAf qAl qAc qAb qAn qAm qAi qAj qAg qAk
def qAz(l:List Int)(j:Nat): Int:=l.getD j 0
theorem qDf(b:SB)(x:Ser)(hl:x.ref.length=12)(j:Nat)(hj:j<12): (qB6 b x)[35+j]?=some (.int .i64 (qAz x.ref j)):=by
 have h1:(qB6 b x)[35+j]?=(x.ref.map (λv=>Value.int .i64 v))[j]?:=by
  rw[Nat.add_comm];rfl
 rw[h1,List.getElem?_map]
 have hj':j<x.ref.length:=by omega
 simp[qAz,hj']
def ints(l:List Int): List Value:=l.map (λv=>Value.int .i64 v)
def qC6: List Nat:=[5,6,7,8,10,9,11]
def qCf(x:Ser): List Int:=x.acc::x.rel::qC6.map (qAz x.ref)
theorem info3: (Tryz.prog.info? 3).map (λi=>(i.zero,i.size,i.bytes))=some (some (.int .i64 0),1,8):=by kernel_rfl
theorem ix0(w:World): (Instr.index 132 (.agg #[.int .i64 5,.int .i64 6,.int .i64 7,.int .i64 8,.int .i64 10,.int .i64 9,.int .i64 11]) (.int .i64 0)).run Tryz.prog w=.ok (.int .i64 5) w:=by kernel_rfl
theorem ix1(w:World): (Instr.index 132 (.agg #[.int .i64 5,.int .i64 6,.int .i64 7,.int .i64 8,.int .i64 10,.int .i64 9,.int .i64 11]) (.int .i64 1)).run Tryz.prog w=.ok (.int .i64 6) w:=by kernel_rfl
theorem ix2(w:World): (Instr.index 132 (.agg #[.int .i64 5,.int .i64 6,.int .i64 7,.int .i64 8,.int .i64 10,.int .i64 9,.int .i64 11]) (.int .i64 2)).run Tryz.prog w=.ok (.int .i64 7) w:=by kernel_rfl
theorem ix3(w:World): (Instr.index 132 (.agg #[.int .i64 5,.int .i64 6,.int .i64 7,.int .i64 8,.int .i64 10,.int .i64 9,.int .i64 11]) (.int .i64 3)).run Tryz.prog w=.ok (.int .i64 8) w:=by kernel_rfl
theorem ix4(w:World): (Instr.index 132 (.agg #[.int .i64 5,.int .i64 6,.int .i64 7,.int .i64 8,.int .i64 10,.int .i64 9,.int .i64 11]) (.int .i64 4)).run Tryz.prog w=.ok (.int .i64 10) w:=by kernel_rfl
theorem ix5(w:World): (Instr.index 132 (.agg #[.int .i64 5,.int .i64 6,.int .i64 7,.int .i64 8,.int .i64 10,.int .i64 9,.int .i64 11]) (.int .i64 5)).run Tryz.prog w=.ok (.int .i64 9) w:=by kernel_rfl
theorem ix6(w:World): (Instr.index 132 (.agg #[.int .i64 5,.int .i64 6,.int .i64 7,.int .i64 8,.int .i64 10,.int .i64 9,.int .i64 11]) (.int .i64 6)).run Tryz.prog w=.ok (.int .i64 11) w:=by kernel_rfl
theorem qTw{w w':World}{base:Nat}{t size:Nat}{v:Value}{n:Nat}{xs:List Value}(h:w.ownsRow base t size v n xs)(hk:Keeps (λ_=>False) w w'): w'.ownsRow base t size v n xs:=by
 refine⟨h.1,?_⟩
 rcases h.2 with h2 | ⟨g,cap,cur,rfl,hb,hg,r⟩
 ·exact .inl h2
 ·exact .inr ⟨g,cap,cur,rfl,hb,by rw[hk.block g (Array.getElem?_eq_some_iff.1 hg).1 (λh=>h)];exact hg,r⟩
theorem qOf(w:World):
  Calls Tryz.prog 95 #[] w λe w'=>e=.returned (.agg #[.int .i64 5,.int .i64 6,.int .i64 7,.int .i64 8,.int .i64 10,.int .i64 9,.int .i64 11])/\Keeps (λ_=>False) w w':=by
 go_enter Tryz.func95,Tryz.ntmps95
 go_wp2
 refine bodyPost_ret (v:=.agg #[.int .i64 5,.int .i64 6,.int .i64 7,.int .i64 8,.int .i64 10,.int .i64 9,.int .i64 11]) (by simp[results,Tryz.results95,go_sem]) rfl ⟨rfl,?_⟩
 repeat (first | exact Keeps.refl _ _ | apply Keeps.alloc)
attribute [local go_sem] ix0 ix1 ix2 ix3 ix4 ix5 ix6
theorem qQo(n:Int)(b:SB)(x:Ser)(w:World)(hs:SRep w b x)(hi:SInv n x):
  Calls Tryz.prog 69 #[.pointer (some ⟨b.s,0,none⟩)] w λe w'=>∃v,e=.returned v/\w'.ownsRow w.heap.size 3 1 v 9 (ints (qCf x))/\Keeps (λ_=>False) w w':=by
 have HB:=hide hs.blk
 have HI:=hide hi
 have hlt:=hs.blk.lt
 have hc27:w.cell? ⟨b.s,33,none⟩=some (.int .i64 x.acc):=hs.blk.cell rfl
 have hc28:w.cell? ⟨b.s,34,none⟩=some (.int .i64 x.rel):=hs.blk.cell rfl
 clear hs hi
 obtain⟨i0,hi0,hz0,hz1,hz2⟩:=info_parts info3
 go_enter Tryz.func69,Tryz.ntmps69
 go_wp2_with fail
 go_region
 go_wp2_with fail
 have hk1:Keeps (λ_=>False) w (w.alloc (.cells #[.int .i64 x.acc,.int .i64 x.rel] 3)).drew:=((Keeps.refl _ w).alloc _).drew
 have hO1:(w.alloc (.cells #[.int .i64 x.acc,.int .i64 x.rel] 3)).drew.ownsRow w.heap.size 3 1 (.slice (some ⟨w.heap.size,0,none⟩) 2 2) 2 (ints ((qCf x).take 2)) :=
  ⟨rfl,.inr ⟨w.heap.size,2,#[.int .i64 x.acc,.int .i64 x.rel],rfl,by omega,heap_alloc_new w (.cells #[.int .i64 x.acc,.int .i64 x.rel] 3),by omega,by unfold maxLen;omega,rfl,rfl⟩⟩
 have HK1:=hide hk1
 have HO1:=hide hO1
 clear hk1 hO1 hc27 hc28 hlt
 generalize(w.alloc (.cells #[.int .i64 x.acc,.int .i64 x.rel] 3)).drew=W1 at *
 refine(qOf W1).mono ?_
 rintro e W2 ⟨rfl,hk2⟩
 have HK2:=hide ((uh HK1).then hk2)
 have HO2:=hide (qTw (uh HO1) hk2)
 clear hk2 HK1 HO1
 go_wp2_with fail
 go_loopw [3,16] (λv i wr=>∃k:Nat,k<=7/\i=.int .i64 k/\Hid (wr.ownsRow w.heap.size 3 1 v (2+k) (ints ((qCf x).take (2+k))))/\Hid (Keeps (λ_=>False) w wr)) (λ_ i _=>7-(intOf i).toNat)
 case atStart=>exact⟨0,by omega,rfl,HO2,HK2⟩
 case round =>
  obtain⟨k,hk,rfl,HO,HK⟩:=hrel
  have HBr:=hide ((uh HB).keeps (uh HK) (λh=>h))
  have hltr:=(uh HBr).lt
  generalize u3=v at *
  by_cases hlt7:k<7
  ·have hk7:k=0\/k=1\/k=2\/k=3\/k=4\/k=5\/k=6:=by omega
   rcases hk7 with hk7 | hk7 | hk7 | hk7 | hk7 | hk7 | hk7
   all_goals subst hk7
   ·have hc:wr.cell? ⟨b.s,40,none⟩=some (.int .i64 (qAz x.ref 5)):=(uh HBr).cell (qDf b x (uh HI).reflen 5 (by omega))
    have HNEW:=hide (show ints ((qCf x).take (2+0))++[.int .i64 (qAz x.ref 5)]=ints ((qCf x).take (2+1)) from rfl)
    go_wp2_with (at_builtin;refine wpList_append_lies _ rfl _ _ _ rfl w.heap.size 3 i0 _ 1 8 Tryz.underlying31 hi0 hz0 hz1 hz2 rfl (by omega) v (2+0) (ints ((qCf x).take (2+0))) rfl ((uh HO).alloc _) ⟨wr.heap.size,0,none⟩ 1 1 [.int .i64 (qAz x.ref 5)] rfl rfl (World.news_of_block (cs:=#[.int .i64 (qAz x.ref 5)]) (t:=3) (fr:=(0,0)) (heap_alloc_new wr _)) (by simp[Value.oneCell']) (by omega) (by unfold maxLen;omega) (by omega) (by have:=(uh HK).size;simp;omega) (wr.heap.size+1) (by simp) ?_;intro gg cap' w1 hown1 hgrow hat hl)
    rw[uh HNEW]at hown1
    go_roundw
    case rel =>
     refine⟨1,by omega,rfl,hown1,((uh HK).alloc _).grown hgrow (λj hj=>Or.inr ((uh HO).lt j hj).1)⟩
    case measure=>simp[intOf]
   ·have hc:wr.cell? ⟨b.s,41,none⟩=some (.int .i64 (qAz x.ref 6)):=(uh HBr).cell (qDf b x (uh HI).reflen 6 (by omega))
    have HNEW:=hide (show ints ((qCf x).take (2+1))++[.int .i64 (qAz x.ref 6)]=ints ((qCf x).take (2+2)) from rfl)
    go_wp2_with (at_builtin;refine wpList_append_lies _ rfl _ _ _ rfl w.heap.size 3 i0 _ 1 8 Tryz.underlying31 hi0 hz0 hz1 hz2 rfl (by omega) v (2+1) (ints ((qCf x).take (2+1))) rfl ((uh HO).alloc _) ⟨wr.heap.size,0,none⟩ 1 1 [.int .i64 (qAz x.ref 6)] rfl rfl (World.news_of_block (cs:=#[.int .i64 (qAz x.ref 6)]) (t:=3) (fr:=(0,0)) (heap_alloc_new wr _)) (by simp[Value.oneCell']) (by omega) (by unfold maxLen;omega) (by omega) (by have:=(uh HK).size;simp;omega) (wr.heap.size+1) (by simp) ?_;intro gg cap' w1 hown1 hgrow hat hl)
    rw[uh HNEW]at hown1
    go_roundw
    case rel =>
     refine⟨2,by omega,rfl,hown1,((uh HK).alloc _).grown hgrow (λj hj=>Or.inr ((uh HO).lt j hj).1)⟩
    case measure=>simp[intOf]
   ·have hc:wr.cell? ⟨b.s,42,none⟩=some (.int .i64 (qAz x.ref 7)):=(uh HBr).cell (qDf b x (uh HI).reflen 7 (by omega))
    have HNEW:=hide (show ints ((qCf x).take (2+2))++[.int .i64 (qAz x.ref 7)]=ints ((qCf x).take (2+3)) from rfl)
    go_wp2_with (at_builtin;refine wpList_append_lies _ rfl _ _ _ rfl w.heap.size 3 i0 _ 1 8 Tryz.underlying31 hi0 hz0 hz1 hz2 rfl (by omega) v (2+2) (ints ((qCf x).take (2+2))) rfl ((uh HO).alloc _) ⟨wr.heap.size,0,none⟩ 1 1 [.int .i64 (qAz x.ref 7)] rfl rfl (World.news_of_block (cs:=#[.int .i64 (qAz x.ref 7)]) (t:=3) (fr:=(0,0)) (heap_alloc_new wr _)) (by simp[Value.oneCell']) (by omega) (by unfold maxLen;omega) (by omega) (by have:=(uh HK).size;simp;omega) (wr.heap.size+1) (by simp) ?_;intro gg cap' w1 hown1 hgrow hat hl)
    rw[uh HNEW]at hown1
    go_roundw
    case rel =>
     refine⟨3,by omega,rfl,hown1,((uh HK).alloc _).grown hgrow (λj hj=>Or.inr ((uh HO).lt j hj).1)⟩
    case measure=>simp[intOf]
   ·have hc:wr.cell? ⟨b.s,43,none⟩=some (.int .i64 (qAz x.ref 8)):=(uh HBr).cell (qDf b x (uh HI).reflen 8 (by omega))
    have HNEW:=hide (show ints ((qCf x).take (2+3))++[.int .i64 (qAz x.ref 8)]=ints ((qCf x).take (2+4)) from rfl)
    go_wp2_with (at_builtin;refine wpList_append_lies _ rfl _ _ _ rfl w.heap.size 3 i0 _ 1 8 Tryz.underlying31 hi0 hz0 hz1 hz2 rfl (by omega) v (2+3) (ints ((qCf x).take (2+3))) rfl ((uh HO).alloc _) ⟨wr.heap.size,0,none⟩ 1 1 [.int .i64 (qAz x.ref 8)] rfl rfl (World.news_of_block (cs:=#[.int .i64 (qAz x.ref 8)]) (t:=3) (fr:=(0,0)) (heap_alloc_new wr _)) (by simp[Value.oneCell']) (by omega) (by unfold maxLen;omega) (by omega) (by have:=(uh HK).size;simp;omega) (wr.heap.size+1) (by simp) ?_;intro gg cap' w1 hown1 hgrow hat hl)
    rw[uh HNEW]at hown1
    go_roundw
    case rel =>
     refine⟨4,by omega,rfl,hown1,((uh HK).alloc _).grown hgrow (λj hj=>Or.inr ((uh HO).lt j hj).1)⟩
    case measure=>simp[intOf]
   ·have hc:wr.cell? ⟨b.s,45,none⟩=some (.int .i64 (qAz x.ref 10)):=(uh HBr).cell (qDf b x (uh HI).reflen 10 (by omega))
    have HNEW:=hide (show ints ((qCf x).take (2+4))++[.int .i64 (qAz x.ref 10)]=ints ((qCf x).take (2+5)) from rfl)
    go_wp2_with (at_builtin;refine wpList_append_lies _ rfl _ _ _ rfl w.heap.size 3 i0 _ 1 8 Tryz.underlying31 hi0 hz0 hz1 hz2 rfl (by omega) v (2+4) (ints ((qCf x).take (2+4))) rfl ((uh HO).alloc _) ⟨wr.heap.size,0,none⟩ 1 1 [.int .i64 (qAz x.ref 10)] rfl rfl (World.news_of_block (cs:=#[.int .i64 (qAz x.ref 10)]) (t:=3) (fr:=(0,0)) (heap_alloc_new wr _)) (by simp[Value.oneCell']) (by omega) (by unfold maxLen;omega) (by omega) (by have:=(uh HK).size;simp;omega) (wr.heap.size+1) (by simp) ?_;intro gg cap' w1 hown1 hgrow hat hl)
    rw[uh HNEW]at hown1
    go_roundw
    case rel =>
     refine⟨5,by omega,rfl,hown1,((uh HK).alloc _).grown hgrow (λj hj=>Or.inr ((uh HO).lt j hj).1)⟩
    case measure=>simp[intOf]
   ·have hc:wr.cell? ⟨b.s,44,none⟩=some (.int .i64 (qAz x.ref 9)):=(uh HBr).cell (qDf b x (uh HI).reflen 9 (by omega))
    have HNEW:=hide (show ints ((qCf x).take (2+5))++[.int .i64 (qAz x.ref 9)]=ints ((qCf x).take (2+6)) from rfl)
    go_wp2_with (at_builtin;refine wpList_append_lies _ rfl _ _ _ rfl w.heap.size 3 i0 _ 1 8 Tryz.underlying31 hi0 hz0 hz1 hz2 rfl (by omega) v (2+5) (ints ((qCf x).take (2+5))) rfl ((uh HO).alloc _) ⟨wr.heap.size,0,none⟩ 1 1 [.int .i64 (qAz x.ref 9)] rfl rfl (World.news_of_block (cs:=#[.int .i64 (qAz x.ref 9)]) (t:=3) (fr:=(0,0)) (heap_alloc_new wr _)) (by simp[Value.oneCell']) (by omega) (by unfold maxLen;omega) (by omega) (by have:=(uh HK).size;simp;omega) (wr.heap.size+1) (by simp) ?_;intro gg cap' w1 hown1 hgrow hat hl)
    rw[uh HNEW]at hown1
    go_roundw
    case rel =>
     refine⟨6,by omega,rfl,hown1,((uh HK).alloc _).grown hgrow (λj hj=>Or.inr ((uh HO).lt j hj).1)⟩
    case measure=>simp[intOf]
   ·have hc:wr.cell? ⟨b.s,46,none⟩=some (.int .i64 (qAz x.ref 11)):=(uh HBr).cell (qDf b x (uh HI).reflen 11 (by omega))
    have HNEW:=hide (show ints ((qCf x).take (2+6))++[.int .i64 (qAz x.ref 11)]=ints ((qCf x).take (2+7)) from rfl)
    go_wp2_with (at_builtin;refine wpList_append_lies _ rfl _ _ _ rfl w.heap.size 3 i0 _ 1 8 Tryz.underlying31 hi0 hz0 hz1 hz2 rfl (by omega) v (2+6) (ints ((qCf x).take (2+6))) rfl ((uh HO).alloc _) ⟨wr.heap.size,0,none⟩ 1 1 [.int .i64 (qAz x.ref 11)] rfl rfl (World.news_of_block (cs:=#[.int .i64 (qAz x.ref 11)]) (t:=3) (fr:=(0,0)) (heap_alloc_new wr _)) (by simp[Value.oneCell']) (by omega) (by unfold maxLen;omega) (by omega) (by have:=(uh HK).size;simp;omega) (wr.heap.size+1) (by simp) ?_;intro gg cap' w1 hown1 hgrow hat hl)
    rw[uh HNEW]at hown1
    go_roundw
    case rel =>
     refine⟨7,by omega,rfl,hown1,((uh HK).alloc _).grown hgrow (λj hj=>Or.inr ((uh HO).lt j hj).1)⟩
    case measure=>simp[intOf]
  ·have hk7:k=7:=by omega
   subst hk7
   go_wp2
   go_ret
   exact⟨_,rfl,uh HO,uh HK⟩
end
section
open Go.RowKit
attribute [local go_sem ↓] qAd qAe
attribute [local go_sem] qAf qAl qAc qAb qAn qAm qAi qAj qAg qAk
def qCj(id:Int)(c:Cfg)(k:Nat): Ser:=⟨id,c,k,0,0,[0,0,0,0,0,0,0,0,0,0,0,0],[],qGq,0⟩
theorem zDs(id:Int)(c:Cfg)(f n p r k s a q z v l:Value)(qb:Nat)(w:World):
  (Instr.build 104 #[(0,.int .i64 id),(1,c.val),(2,.agg #[f,n,p,r,k,s]),(3,.agg #[a,q,z,v,l]),(4,.pointer (some ⟨qb,0,none⟩))]).run Tryz.prog w =
  .ok (.agg (.int .i64 id::c.vals [f,n,p,r,k,s,a,q,z,v,l,.pointer (some ⟨qb,0,none⟩),.int .i64 0,.int .i64 0,.int .i64 0,.int .i64 0,.int .i64 0,.int .i64 0,.int .i64 0,.int .i64 0,.int .i64 0,.int .i64 0,.int .i64 0,.int .i64 0,.int .i64 0,.int .i64 0]).toArray) w:=by kernel_rfl
def qDy(ty:TypeId)(ps:Array (Nat×Value)): Sem Next:=do pure (.value (<-Instr.build ty ps))
theorem qMg(ρ:Operand->Value)(dst:Option Tmp)(x:Array (Nat×Operand))(ty:TypeId)(pos:String)(after:Array Edge)(guard:Option (Nat×Bool)):
  execOp ρ { dst,op:=.build 104 x,type:=ty,pos,after,guard }=qDy 104 (x.map λ(i,y)=>(i,ρ y)):=rfl
theorem qSw(id:Int)(c:Cfg)(f n p r k s a q z v l:Value)(qb:Nat)(w:World):
  (qDy 104 #[(0,.int .i64 id),(1,.agg c.cells.toArray),(2,.agg #[f,n,p,r,k,s]),(3,.agg #[a,q,z,v,l]),(4,.pointer (some ⟨qb,0,none⟩))]).run Tryz.prog w =
  .ok (.value (.agg (.int .i64 id::c.vals [f,n,p,r,k,s,a,q,z,v,l,.pointer (some ⟨qb,0,none⟩),.int .i64 0,.int .i64 0,.int .i64 0,.int .i64 0,.int .i64 0,.int .i64 0,.int .i64 0,.int .i64 0,.int .i64 0,.int .i64 0,.int .i64 0,.int .i64 0,.int .i64 0,.int .i64 0]).toArray)) w:=by
 unfold qDy
 rw[Sem.run_bind]
 have:=zDs id c f n p r k s a q z v l qb w
 unfold Cfg.val at this
 unfold Cfg.cells
 rw[this]
 rfl
attribute [local go_sem ↓] qMg
attribute [local go_sem] qSw
theorem qH8(id:Int)(c:Cfg)(k:Nat)(w:World)(h1:1<=k)(h5:k<=5)(hvv:qBg c=true)(hkd:c.kind=k):
  Calls Tryz.prog 61 #[.int .i64 id,c.val,.agg (qA8 k).toArray] w λe w'=>∃b,e=.returned (.pointer (some ⟨b.s,0,none⟩))/\SRep w' b (qCj id c k)/\(∀i,b.foot k i->w.heap.size<=i)/\Keeps (λ_=>False) w w':=by
 have hown:=qXp k h1 h5
 have HKD:=hide hkd
 have HVV:=hide hvv
 clear hkd hvv
 have HB:=hide (show Blk ((w.alloc (.cells c.cells.toArray 38)).alloc (.cells (qA8 k).toArray 82)) w.heap.size c.cells 38 from(Blk.new w c.cells 38).alloc _)
 have HT:=hide (show Blk ((w.alloc (.cells c.cells.toArray 38)).alloc (.cells (qA8 k).toArray 82)) (w.heap.size+1) (qA8 k) 82 from Blk.newAt (by simp) _ _)
 have HK:=hide (((Keeps.refl (λ_=>False) w).alloc (.cells c.cells.toArray 38)).alloc (.cells (qA8 k).toArray 82))
 have hex:∃W,W=((w.alloc (.cells c.cells.toArray 38)).alloc (.cells (qA8 k).toArray 82)):=⟨_,rfl⟩
 unfold Cfg.val qA8 fn
 go_enter Tryz.func61,Tryz.ntmps61
 go_wp2_with fail
 obtain⟨W,hW⟩:=hex
 have e0:(w.alloc (.cells #[.int .i64 c.kind,.int .i64 c.lag,.int .i64 c.skew,.int .i64 c.cap,.int .i64 c.k,.int .i64 c.window,.int .i64 c.bits,.int .i64 c.rows,.int .i64 c.width,.int .i64 c.panes,.int .i64 c.size,.int .i64 c.degree,.int .i64 c.half,.int .i64 c.mark,.int .i64 c.s00,.int .i64 c.s01,.int .i64 c.s10,.int .i64 c.s11,.int .i64 c.s20,.int .i64 c.s21] 38)).alloc (.cells #[.func (.func (qBo k)) #[] #[],.func (.func (qA4 k)) #[] #[],.func (.func (qA3 k)) #[] #[],.func (.func (qAq k)) #[] #[],.func (.func (qA1 k)) #[] #[],.func (.func (qA5 k)) #[] #[]] 82)=W:=hW.symm
 rw[e0]
 rw[<-hW]at HB HT HK
 clear e0 hW
 generalize hcb:w.heap.size=cb at *
 have HCB:=hide hcb
 clear hcb
 have hsz:cb+1<W.heap.size:=(uh HT).lt
 have hsz0:cb<W.heap.size:=(uh HB).lt
 obtain⟨hv,hh⟩:=qBf (uh HB) 20 rfl
 have t0:W.cell? ⟨cb+1,0,none⟩=some (.func (.func (qBo k)) #[] #[]):=(uh HT).cell rfl
 have t1:W.cell? ⟨cb+1,1,none⟩=some (.func (.func (qA4 k)) #[] #[]):=(uh HT).cell rfl
 have t2:W.cell? ⟨cb+1,2,none⟩=some (.func (.func (qA3 k)) #[] #[]):=(uh HT).cell rfl
 have t3:W.cell? ⟨cb+1,3,none⟩=some (.func (.func (qAq k)) #[] #[]):=(uh HT).cell rfl
 have t4:W.cell? ⟨cb+1,4,none⟩=some (.func (.func (qA1 k)) #[] #[]):=(uh HT).cell rfl
 have t5:W.cell? ⟨cb+1,5,none⟩=some (.func (.func (qA5 k)) #[] #[]):=(uh HT).cell rfl
 go_region_held3 (λw'=>qAp w' cb 0 20=.agg c.cells.toArray/\qAu w' cb 0 20=true/\w'.cell? ⟨cb+1,0,none⟩=some (.func (.func (qBo k)) #[] #[])/\w'.cell? ⟨cb+1,1,none⟩=some (.func (.func (qA4 k)) #[] #[])/\w'.cell? ⟨cb+1,2,none⟩=some (.func (.func (qA3 k)) #[] #[])/\w'.cell? ⟨cb+1,3,none⟩=some (.func (.func (qAq k)) #[] #[])/\w'.cell? ⟨cb+1,4,none⟩=some (.func (.func (qA1 k)) #[] #[])/\w'.cell? ⟨cb+1,5,none⟩=some (.func (.func (qA5 k)) #[] #[]))
  (first | (simp[*,qAc,qAb,qAi,qAj,World.cell?_alloc_some];done) | (go_split_ands;exact⟨(qA2 hk2 (λh=>h) (by have:=hk1.size;simp at this;omega)).1.trans (by assumption),(qA2 hk2 (λh=>h) (by have:=hk1.size;simp at this;omega)).2.trans (by assumption),hk2.cell (by assumption) (λh=>h),hk2.cell (by assumption) (λh=>h),hk2.cell (by assumption) (λh=>h),hk2.cell (by assumption) (λh=>h),hk2.cell (by assumption) (λh=>h),hk2.cell (by assumption) (λh=>h)⟩) | (go_split_ands;exact⟨(qA2 hk1 (λh=>h) (by simpa using hsz0)).1.trans (by assumption),(qA2 hk1 (λh=>h) (by simpa using hsz0)).2.trans (by assumption),hk1.cell (by assumption) (λh=>h),hk1.cell (by assumption) (λh=>h),hk1.cell (by assumption) (λh=>h),hk1.cell (by assumption) (λh=>h),hk1.cell (by assumption) (λh=>h),hk1.cell (by assumption) (λh=>h)⟩))
  (first | (go_at_call 89;refine(new_any _).mono ?_;rintro e w2 ⟨rfl,hq2,hk2,hz2⟩) | (refine(qYb c k _ h1 h5 (uh HVV) (uh HKD)).mono ?_;rintro e w1 ⟨nb,rfl,hd1,hn1,hk1⟩))
 go_wp2
 go_ret
 have hkw:Keeps (λ_=>False) w w1:=((uh HK).drew).then hk1
 have hs1:=hkw.size
 have hka:∀O,Keeps (λ_=>False) w2 (w2.alloc O):=λO=>(Keeps.refl (λ_=>False) w2).alloc O
 have hcb:=uh HCB
 have hn2:=hn1.still hk2
 have hz2:w2.heap.size=w1.heap.size+1:=hz2
 refine⟨⟨w1.heap.size+1,w1.heap.size,none,nb⟩,rfl,⟨Blk.newAt hz2 (qB6 ⟨w1.heap.size+1,w1.heap.size,none,nb⟩ (qCj id c k)) 104,hq2.keeps (hka _) (λh=>h) (λ_ _ h=>h),hn2.still (hka _),?_,?_,λi hi=>⟨?_,?_,?_⟩⟩,?_,(hkw.then hk2).alloc _⟩
 ·show w1.heap.size+1≠w1.heap.size;omega
 ·intro g hg;cases hg
 ·have:=hn1.lt i hi;show i≠w1.heap.size+1;omega
 ·have:=hn1.lt i hi;show i≠w1.heap.size;omega
 ·intro hg;cases hg
 ·intro i hi
  rcases hi with hi | hi | hi | hi
  ·have:i=w1.heap.size+1:=hi
   omega
  ·have:i=w1.heap.size:=hi
   omega
  ·cases hi
  ·have h1:=hd1 i hi
   have h2:=(uh HK).size
   rw[World.size_drew]at h1
   omega
end
section
open Go.RowKit
attribute [local go_sem ↓] qAd qAe
attribute [local go_sem] qAf qAl qAc qAb qAn qAm qAi qAj qAg qAk
structure OpM where
 kind:Int
 id:Int
 a:Int
 b:Int
 c:Int
 cfg:Cfg
 bytes:ByteArray
def OpM.cells(o:OpM): List Value:=.int .i64 o.kind::.int .i64 o.id::.int .i64 o.a::.int .i64 o.b::.int .i64 o.c::o.cfg.vals [.string o.bytes]
def OpM.val(o:OpM): Value:=.agg o.cells.toArray
def qAa: ByteArray:=⟨#[]⟩
def qCl(code:Int)(v:Value): Value:=.agg #[.int .i64 code,v,.string qAa]
theorem qFp(code:Int)(w:World):
  Calls Tryz.prog 49 #[.int .i64 code] w λe w'=>e=.returned (qCl code (.slice none 0 0))/\Keeps (λ_=>False) w w':=by
 go_enter Tryz.func49,Tryz.ntmps49
 go_wp2
 refine bodyPost_ret (v:=qCl code (.slice none 0 0)) (by simp[results,Tryz.results49,go_sem,qCl];rfl) rfl ⟨rfl,?_⟩
 repeat (first | exact Keeps.refl _ _ | apply Keeps.alloc)
def ptrs(ps:List (SB×Ser)): List Value:=ps.map λp=>.pointer (some ⟨p.1.s,0,none⟩)
structure ERep (w:World) (e:Nat) (v:Value) (clock:Int) (ps:List (SB×Ser)):Prop where
 blk:Blk w e [.int .i64 clock,v] 56
 row:w.ownsRow 0 73 1 v ps.length (ptrs ps)
 reps:∀p,p∈ps->SRep w p.1 p.2
 apart:ps.Pairwise (λp q=>∀i,p.1.foot p.2.k i->¬q.1.foot q.2.k i)
 ev:v.ownBlock≠some e
 ef:∀p,p∈ps->∀i,p.1.foot p.2.k i->i≠e/\v.ownBlock≠some i
def EFoot(e:Nat)(v:Value)(ps:List (SB×Ser))(i:Nat): Prop:=i=e\/v.ownBlock=some i\/∃p,p∈ps/\p.1.foot p.2.k i
theorem qKv{w:World}{v:Value}{n:Nat}{xs:List Value}(h:w.ownsRow 0 73 1 v n xs): (n=0/\(v=.slice none 0 0\/∃g cap,v=.slice (some ⟨g,0,none⟩) 0 cap))\/∃g cap,v=.slice (some ⟨g,0,none⟩) n cap/\∀i u,xs[i]?=some u->w.cell? ⟨g,i,none⟩=some u:=by
 rcases h.2 with ⟨h1,h2⟩ | ⟨g,cap,cur,h1,_,h3,h4,h5,h6,h7⟩
 ·exact .inl ⟨h2,.inl h1⟩
 ·refine .inr ⟨g,cap,h1,λi u hu=>?_⟩
  have hi:i<n:=by have:=(List.getElem?_eq_some_iff.1 hu).1;have:=h.1;omega
  have:cur[i]?=some u:=by
   rw[<-h7]at hu
   rw[List.getElem?_take]at hu
   rw[if_pos (by omega)]at hu
   simpa using hu
  simp[World.cell?,h3,this]
def qDo(ps:List (SB×Ser))(id:Int): Option (SB×Ser):=ps.find? (λp=>p.2.id==id)
def qH4: Option (SB×Ser)->Value
 | some p=>.pointer (some ⟨p.1.s,0,none⟩)
 | none=>.pointer none
theorem qDm(e:Nat)(v:Value)(clock id:Int)(ps:List (SB×Ser))(w:World)(h:ERep w e v clock ps)(hl:ps.length<=1000):
  Calls Tryz.prog 59 #[.pointer (some ⟨e,0,none⟩),.int .i64 id] w λr w'=>r=.returned (qH4 (qDo ps id))/\w'=w:=by
 have hc1:w.cell? ⟨e,1,none⟩=some v:=h.blk.cell rfl
 rcases qKv h.row with ⟨h0,hv⟩ | ⟨g,cap,hv,hcells⟩
 ·have hps:ps=[]:=List.length_eq_zero_iff.1 h0
  subst hps
  clear h h0
  rcases hv with hv | ⟨g,cap,hv⟩
  all_goals
   subst hv
   go_enter Tryz.func59,Tryz.ntmps59
   go_wp2
   go_loop [12] (λi=>i=.int .i64 0) (λ_=>0)
   case atStart=>rfl
   case round =>
    subst hrel
    go_wp2
    go_ret
    exact⟨rfl,rfl⟩
 ·subst hv
  have HC:=hide hcells
  have HS:=hide (show ∀p,p∈ps->w.cell? ⟨p.1.s,0,none⟩=some (.int .i64 p.2.id) from λp hp=>(h.reps p hp).blk.cell rfl)
  clear h hcells
  generalize hn:ps.length=n at *
  have HN:=hide hn
  clear hn
  go_enter Tryz.func59,Tryz.ntmps59
  go_wp2
  go_loop [12] (λi=>∃k:Nat,k<=n/\i=.int .i64 k/\Hid (qDo ps id=qDo (ps.drop k) id)) (λi=>n-(intOf i).toNat)
  case atStart=>exact⟨0,Nat.zero_le _,rfl,rfl⟩
  case round =>
   obtain⟨k,hk,rfl,HE⟩:=hrel
   by_cases hlt:k<n
   ·obtain⟨p,hp⟩:∃p,ps[k]?=some p:=⟨ps[k]'(by rw[uh HN];exact hlt),List.getElem?_eq_getElem _⟩
    have hd:ps.drop k=p::ps.drop (k+1):=by
     rw[List.drop_eq_getElem_cons (by rw[uh HN];exact hlt)]
     rw[List.getElem?_eq_getElem (by rw[uh HN];exact hlt)]at hp
     cases hp;rfl
    have hck:w.cell? ⟨g,k,none⟩=some (.pointer (some ⟨p.1.s,0,none⟩)):=uh HC k _ (by unfold ptrs;rw[List.getElem?_map,hp];rfl)
    have hid:=uh HS p (List.mem_of_getElem? hp)
    have hk0:(0:Int)<=(k:Int):=by omega
    have hkn:(k:Int)<(n:Int):=by omega
    cases hb:(p.2.id==id)
    ·have HE':=hide (show qDo ps id=qDo (ps.drop (k+1)) id by rw[uh HE,hd];unfold qDo;rw[List.find?_cons];rw[hb])
     clear hd hp
     go_wp2
     go_round
     case rel=>exact⟨k+1,by omega,by go_num,HE'⟩
     case measure=>simp[intOf];omega
    ·have HE':=hide (show qDo ps id=some p by rw[uh HE,hd];unfold qDo;rw[List.find?_cons];rw[hb])
     clear hd hp
     go_wp2
     go_ret
     exact⟨by rw[uh HE'];rfl,rfl⟩
   ·have HE':=hide (show qDo ps id=none by rw[uh HE,List.drop_eq_nil_of_le (by rw[uh HN];omega)];rfl)
    go_wp2
    go_ret
    exact⟨by rw[uh HE'];rfl,rfl⟩
theorem ERep.lt{w:World}{e:Nat}{v:Value}{clock:Int}{ps:List (SB×Ser)}(h:ERep w e v clock ps)(i:Nat)(hi:EFoot e v ps i): i<w.heap.size:=by
 rcases hi with hi | hi | ⟨p,hp,hi⟩
 ·subst hi;exact h.blk.lt
 ·exact(h.row.lt i hi).2
 ·exact(h.reps p hp).lt i hi
theorem qBc{M:Nat->Prop}{w w':World}{base:Nat}{t size:Nat}{v:Value}{n:Nat}{xs:List Value}(h:w.ownsRow base t size v n xs)(hk:Keeps M w w')(hn:∀i,v.ownBlock=some i->¬M i): w'.ownsRow base t size v n xs:=by
 refine⟨h.1,?_⟩
 rcases h.2 with h2 | ⟨g,cap,cur,rfl,hb,hg,r⟩
 ·exact .inl h2
 ·exact .inr ⟨g,cap,cur,rfl,hb,by rw[hk.block g (Array.getElem?_eq_some_iff.1 hg).1 (hn g rfl)];exact hg,r⟩
theorem qIn{w:World}{base base':Nat}{t size:Nat}{v:Value}{n:Nat}{xs:List Value}(h:w.ownsRow base t size v n xs)(hb:base'<=base): w.ownsRow base' t size v n xs:=by
 refine⟨h.1,?_⟩
 rcases h.2 with h2 | ⟨g,cap,cur,rfl,hbb,r⟩
 ·exact .inl h2
 ·exact .inr ⟨g,cap,cur,rfl,Nat.le_trans hb hbb,r⟩
theorem ERep.keeps{M:Nat->Prop}{w w':World}{e:Nat}{v:Value}{clock:Int}{ps:List (SB×Ser)}(h:ERep w e v clock ps)(hk:Keeps M w w')(hn:∀i,EFoot e v ps i->¬M i): ERep w' e v clock ps :=
 ⟨h.blk.keeps hk (hn _ (.inl rfl)),qBc h.row hk (λi hi=>hn i (.inr (.inl hi))),λp hp=>(h.reps p hp).keeps hk (λi hi=>hn i (.inr (.inr ⟨p,hp,hi⟩))),h.apart,h.ev,h.ef⟩
theorem ERep.still{w w':World}{e:Nat}{v:Value}{clock:Int}{ps:List (SB×Ser)}(h:ERep w e v clock ps)(hk:Keeps (λ_=>False) w w'): ERep w' e v clock ps:=h.keeps hk (λ_ _ h=>h)
def StepPost(w:World)(e:Nat)(v:Value)(ps:List (SB×Ser))(clock':Int)(xs':List Ser)(code:Int)(nums:List Int)(r:Ending)(w':World): Prop :=
 ∃nv v' ps',r=.returned (qCl code nv)/\ERep w' e v' clock' ps'/\ps'.map (·.2)=xs'/\w'.ownsRow w.heap.size 3 1 nv nums.length (ints nums)/\Keeps (EFoot e v ps) w w' /\
  (∀i,EFoot e v' ps' i->EFoot e v ps i\/w.heap.size<=i)/\(∀i,nv.ownBlock=some i->¬EFoot e v' ps' i)
def zEt(code:Int)(v:Value)(bs:ByteArray): Value:=.agg #[.int .i64 code,v,.string bs]
def qFe(w:World)(e:Nat)(v:Value)(ps:List (SB×Ser))(clock':Int)(xs':List Ser)(code:Int)(nums:List Int)(bs:ByteArray)(r:Ending)(w':World): Prop :=
 ∃nv v' ps',r=.returned (zEt code nv bs)/\ERep w' e v' clock' ps'/\ps'.map (·.2)=xs'/\w'.ownsRow w.heap.size 3 1 nv nums.length (ints nums)/\Keeps (EFoot e v ps) w w' /\
  (∀i,EFoot e v' ps' i->EFoot e v ps i\/w.heap.size<=i)/\(∀i,nv.ownBlock=some i->¬EFoot e v' ps' i)
theorem StepPost.b{w:World}{e:Nat}{v:Value}{ps:List (SB×Ser)}{clock':Int}{xs':List Ser}{code:Int}{nums:List Int}{r:Ending}{w':World}(h:StepPost w e v ps clock' xs' code nums r w'): qFe w e v ps clock' xs' code nums qAa r w':=h
theorem qBx{w w':World}{e:Nat}{v:Value}{clock:Int}{ps:List (SB×Ser)}{code:Int}{nums:List Int}{nv:Value}(h:ERep w e v clock ps)(hk:Keeps (λ_=>False) w w')(hn:w'.ownsRow w.heap.size 3 1 nv nums.length (ints nums)):
  StepPost w e v ps clock (ps.map (·.2)) code nums (.returned (qCl code nv)) w':=by
 refine⟨nv,v,ps,rfl,h.still hk,rfl,hn,hk.mono (λ_ _ h=>h.elim),λi hi=>.inl hi,λi hi hf=>?_⟩
 have h1:=h.lt i hf
 have h2:=(hn.lt i hi).1
 omega
structure EInv (n:Int) (clock:Int) (xs:List Ser):Prop where
 c0:0<=clock
 c1:clock<=4611686018427387904
 six:xs.length<=6
 sers:∀x,x∈xs->SInv n x
 marks:∀x,x∈xs->x.last=0\/x.last<=clock-x.c.lag
theorem zBm(n:Int)(e:Nat)(v:Value)(clock:Int)(ps:List (SB×Ser))(o:OpM)(w:World)(h:ERep w e v clock ps)(hi:EInv n clock (ps.map (·.2)))(hf:qDo ps o.id=none):
  Calls Tryz.prog 46 #[.pointer (some ⟨e,0,none⟩),o.val] w λr w'=>StepPost w e v ps clock (ps.map (·.2)) 2 [] r w':=by
 have h1:o.cells[1]?=some (.int .i64 o.id):=rfl
 have HE:=hide h
 have HI:=hide hi
 have hl:ps.length<=1000:=by have:=hi.six;rw[List.length_map]at this;omega
 have HF:=hide hf
 clear h hi hf
 unfold OpM.val
 go_enter Tryz.func46,Tryz.ntmps46
 go_wp2_with fail
 have hk0:Keeps (λ_=>False) w ((w.alloc (.cells o.cells.toArray 40)).alloc (.cells #[.int .i64 0,.slice none 0 0,.string ⟨#[]⟩] 33)):=((Keeps.refl (λ_=>False) w).alloc _).alloc _
 have HO0:=hide (show Blk ((w.alloc (.cells o.cells.toArray 40)).alloc (.cells #[.int .i64 0,.slice none 0 0,.string ⟨#[]⟩] 33)) w.heap.size o.cells 40 from(Blk.new w o.cells 40).alloc _)
 have HR0:=hide (show Blk ((w.alloc (.cells o.cells.toArray 40)).alloc (.cells #[.int .i64 0,.slice none 0 0,.string ⟨#[]⟩] 33)) (w.heap.size+1) [.int .i64 0,.slice none 0 0,.string qAa] 33 from Blk.newAt (by simp) [_,_,_] 33)
 have HE0:=hide ((uh HE).still hk0)
 have HK0:=hide hk0
 clear hk0
 generalize(w.alloc (.cells o.cells.toArray 40)).alloc (.cells #[.int .i64 0,.slice none 0 0,.string ⟨#[]⟩] 33)=w0 at *
 have HLT:=hide (show ∀i,EFoot e v ps i->i<w.heap.size from(uh HE).lt)
 generalize hob:w.heap.size=ob at *
 have HOB:=hide hob
 clear hob
 have hsz0:ob+1<w0.heap.size:=(uh HR0).lt
 refine(qDm e v clock o.id ps w0 (uh HE0) hl).mono ?_
 rintro r w1 ⟨rfl,hw1⟩
 rw[hw1]
 clear hw1 w1
 rw[uh HF]
 unfold qH4
 go_wp2_with fail
 refine(qFp 2 w0).mono ?_
 rintro r w1 ⟨rfl,hk1⟩
 unfold qCl
 have HR1:=hide ((uh HR0).keeps hk1 (λh=>h))
 have HK1:=hide ((uh HK0).then hk1)
 clear hk1
 have r0:w1.cell? ⟨ob+1,0,none⟩=some (.int .i64 0):=(uh HR1).cell rfl
 have r1:w1.cell? ⟨ob+1,1,none⟩=some (.slice none 0 0):=(uh HR1).cell rfl
 have r2:w1.cell? ⟨ob+1,2,none⟩=some (.string qAa):=(uh HR1).cell rfl
 have rf:=(uh HR1).frozen
 go_wp2
 have hbf:=(((uh HR1).setCell 0 (.int .i64 2)).setCell 1 (.slice none 0 0)).setCell 2 (.string qAa)
 have HKF:=hide ((((Keeps.refl (λi=>i=ob+1) w1).setCell (p:=⟨ob+1,0,none⟩) (Or.inl rfl) (.int .i64 2)).setCell (p:=⟨ob+1,1,none⟩) (Or.inl rfl) (.slice none 0 0)).setCell (p:=⟨ob+1,2,none⟩) (Or.inl rfl) (.string qAa))
 have e9:(((w1.setCell ⟨ob+1,0,none⟩ (.int .i64 2)).setCell ⟨ob+1,1,none⟩ (.slice none 0 0)).setCell ⟨ob+1,2,none⟩ (.string ⟨#[]⟩))=(((w1.setCell ⟨ob+1,0,none⟩ (.int .i64 2)).setCell ⟨ob+1,1,none⟩ (.slice none 0 0)).setCell ⟨ob+1,2,none⟩ (.string qAa)):=rfl
 first | rw[e9] | skip
 generalize(((w1.setCell ⟨ob+1,0,none⟩ (.int .i64 2)).setCell ⟨ob+1,1,none⟩ (.slice none 0 0)).setCell ⟨ob+1,2,none⟩ (.string qAa))=w9 at *
 have q0:w9.cell? ⟨ob+1,0,none⟩=some (.int .i64 2):=hbf.cell rfl
 have q1:w9.cell? ⟨ob+1,1,none⟩=some (.slice none 0 0):=hbf.cell rfl
 have q2:w9.cell? ⟨ob+1,2,none⟩=some (.string qAa):=hbf.cell rfl
 refine bodyPost_ret (v:=qCl 2 (.slice none 0 0)) (by simp[results,Tryz.results46,go_sem,q0,q1,q2,qCl]) rfl ?_
 have hkf:=uh HKF
 have hob:=uh HOB
 have hkk:Keeps (λ_=>False) w w9:=(uh HK1).trans hkf (λi hi hlt=>by omega)
 exact qBx (uh HE) hkk (World.ownsRow_nil _ _ _ _)
theorem qXl(n:Int)(e:Nat)(v:Value)(clock:Int)(ps:List (SB×Ser))(o:OpM)(w:World)(h:ERep w e v clock ps)(hi:EInv n clock (ps.map (·.2)))(p:SB×Ser)(hf:qDo ps o.id=some p):
  Calls Tryz.prog 46 #[.pointer (some ⟨e,0,none⟩),o.val] w λr w'=>StepPost w e v ps clock (ps.map (·.2)) 0 (qCf p.2) r w':=by
 have hmem:p∈ps:=List.mem_of_find?_eq_some hf
 have HM:=hide hmem
 clear hmem
 have h1:o.cells[1]?=some (.int .i64 o.id):=rfl
 have HE:=hide h
 have HI:=hide hi
 have hl:ps.length<=1000:=by have:=hi.six;rw[List.length_map]at this;omega
 have HF:=hide hf
 clear h hi hf
 unfold OpM.val
 go_enter Tryz.func46,Tryz.ntmps46
 go_wp2_with fail
 have hk0:Keeps (λ_=>False) w ((w.alloc (.cells o.cells.toArray 40)).alloc (.cells #[.int .i64 0,.slice none 0 0,.string ⟨#[]⟩] 33)):=((Keeps.refl (λ_=>False) w).alloc _).alloc _
 have HO0:=hide (show Blk ((w.alloc (.cells o.cells.toArray 40)).alloc (.cells #[.int .i64 0,.slice none 0 0,.string ⟨#[]⟩] 33)) w.heap.size o.cells 40 from(Blk.new w o.cells 40).alloc _)
 have HR0:=hide (show Blk ((w.alloc (.cells o.cells.toArray 40)).alloc (.cells #[.int .i64 0,.slice none 0 0,.string ⟨#[]⟩] 33)) (w.heap.size+1) [.int .i64 0,.slice none 0 0,.string qAa] 33 from Blk.newAt (by simp) [_,_,_] 33)
 have HE0:=hide ((uh HE).still hk0)
 have HK0:=hide hk0
 clear hk0
 generalize(w.alloc (.cells o.cells.toArray 40)).alloc (.cells #[.int .i64 0,.slice none 0 0,.string ⟨#[]⟩] 33)=w0 at *
 have HLT:=hide (show ∀i,EFoot e v ps i->i<w.heap.size from(uh HE).lt)
 generalize hob:w.heap.size=ob at *
 have HOB:=hide hob
 clear hob
 have hsz0:ob+1<w0.heap.size:=(uh HR0).lt
 refine(qDm e v clock o.id ps w0 (uh HE0) hl).mono ?_
 rintro r w1 ⟨rfl,hw1⟩
 rw[hw1]
 clear hw1 w1
 rw[uh HF]
 unfold qH4
 go_wp2_with fail
 refine(qQo n p.1 p.2 w0 ((uh HE0).reps p (uh HM)) ((uh HI).sers p.2 (List.mem_map_of_mem (uh HM)))).mono ?_
 rintro r w1 ⟨nv,rfl,ho,hk1⟩
 obtain⟨g,cap,hnv,hg1,hg2⟩:=ho.form (by omega)
 rw[hnv]at ho ⊢
 have HOW:=hide ho
 have HR1:=hide ((uh HR0).keeps hk1 (λh=>h))
 have HK1:=hide ((uh HK0).then hk1)
 have HS0:=hide ((uh HK0).size)
 clear hk1 ho hnv
 have r0:w1.cell? ⟨ob+1,0,none⟩=some (.int .i64 0):=(uh HR1).cell rfl
 have r1:w1.cell? ⟨ob+1,1,none⟩=some (.slice none 0 0):=(uh HR1).cell rfl
 have r2:w1.cell? ⟨ob+1,2,none⟩=some (.string qAa):=(uh HR1).cell rfl
 have rf:=(uh HR1).frozen
 go_wp2
 have hbf:=(((uh HR1).setCell 0 (.int .i64 0)).setCell 1 (.slice (some ⟨g,0,none⟩) 9 cap)).setCell 2 (.string qAa)
 have HKF:=hide ((((Keeps.refl (λi=>i=ob+1) w1).setCell (p:=⟨ob+1,0,none⟩) (Or.inl rfl) (.int .i64 0)).setCell (p:=⟨ob+1,1,none⟩) (Or.inl rfl) (.slice (some ⟨g,0,none⟩) 9 cap)).setCell (p:=⟨ob+1,2,none⟩) (Or.inl rfl) (.string qAa))
 have e9:(((w1.setCell ⟨ob+1,0,none⟩ (.int .i64 0)).setCell ⟨ob+1,1,none⟩ (.slice (some ⟨g,0,none⟩) 9 cap)).setCell ⟨ob+1,2,none⟩ (.string ⟨#[]⟩))=(((w1.setCell ⟨ob+1,0,none⟩ (.int .i64 0)).setCell ⟨ob+1,1,none⟩ (.slice (some ⟨g,0,none⟩) 9 cap)).setCell ⟨ob+1,2,none⟩ (.string qAa)):=rfl
 first | rw[e9] | skip
 generalize(((w1.setCell ⟨ob+1,0,none⟩ (.int .i64 0)).setCell ⟨ob+1,1,none⟩ (.slice (some ⟨g,0,none⟩) 9 cap)).setCell ⟨ob+1,2,none⟩ (.string qAa))=w9 at *
 have q0:w9.cell? ⟨ob+1,0,none⟩=some (.int .i64 0):=hbf.cell rfl
 have q1:w9.cell? ⟨ob+1,1,none⟩=some (.slice (some ⟨g,0,none⟩) 9 cap):=hbf.cell rfl
 have q2:w9.cell? ⟨ob+1,2,none⟩=some (.string qAa):=hbf.cell rfl
 refine bodyPost_ret (v:=qCl 0 (.slice (some ⟨g,0,none⟩) 9 cap)) (by simp[results,Tryz.results46,go_sem,q0,q1,q2,qCl]) rfl ?_
 have hkf:=uh HKF
 have hob:=uh HOB
 have hkk:Keeps (λ_=>False) w w9:=(uh HK1).trans hkf (λi hi hlt=>by omega)
 exact qBx (uh HE) hkk (qBc (qIn (uh HOW) (uh HS0)) hkf (λi hi h=>(by have:g=i:=(by simpa[Value.ownBlock] using hi);omega)))
theorem qV5(n:Int)(e:Nat)(v:Value)(clock:Int)(ps:List (SB×Ser))(o:OpM)(w:World)(h:ERep w e v clock ps)(hi:EInv n clock (ps.map (·.2)))(hf:qDo ps o.id=none):
  Calls Tryz.prog 45 #[.pointer (some ⟨e,0,none⟩),o.val] w λr w'=>StepPost w e v ps clock (ps.map (·.2)) 2 [] r w':=by
 have h1:o.cells[1]?=some (.int .i64 o.id):=rfl
 have HE:=hide h
 have HI:=hide hi
 have hl:ps.length<=1000:=by have:=hi.six;rw[List.length_map]at this;omega
 have HF:=hide hf
 clear h hi hf
 unfold OpM.val
 go_enter Tryz.func45,Tryz.ntmps45
 go_wp2_with fail
 have hk0:Keeps (λ_=>False) w ((w.alloc (.cells o.cells.toArray 40)).alloc (.cells #[.int .i64 0,.slice none 0 0,.string ⟨#[]⟩] 33)):=((Keeps.refl (λ_=>False) w).alloc _).alloc _
 have HO0:=hide (show Blk ((w.alloc (.cells o.cells.toArray 40)).alloc (.cells #[.int .i64 0,.slice none 0 0,.string ⟨#[]⟩] 33)) w.heap.size o.cells 40 from(Blk.new w o.cells 40).alloc _)
 have HR0:=hide (show Blk ((w.alloc (.cells o.cells.toArray 40)).alloc (.cells #[.int .i64 0,.slice none 0 0,.string ⟨#[]⟩] 33)) (w.heap.size+1) [.int .i64 0,.slice none 0 0,.string qAa] 33 from Blk.newAt (by simp) [_,_,_] 33)
 have HE0:=hide ((uh HE).still hk0)
 have HK0:=hide hk0
 clear hk0
 generalize(w.alloc (.cells o.cells.toArray 40)).alloc (.cells #[.int .i64 0,.slice none 0 0,.string ⟨#[]⟩] 33)=w0 at *
 have HLT:=hide (show ∀i,EFoot e v ps i->i<w.heap.size from(uh HE).lt)
 generalize hob:w.heap.size=ob at *
 have HOB:=hide hob
 clear hob
 have hsz0:ob+1<w0.heap.size:=(uh HR0).lt
 refine(qDm e v clock o.id ps w0 (uh HE0) hl).mono ?_
 rintro r w1 ⟨rfl,hw1⟩
 rw[hw1]
 clear hw1 w1
 rw[uh HF]
 unfold qH4
 go_wp2_with fail
 refine(qFp 2 w0).mono ?_
 rintro r w1 ⟨rfl,hk1⟩
 unfold qCl
 have HR1:=hide ((uh HR0).keeps hk1 (λh=>h))
 have HK1:=hide ((uh HK0).then hk1)
 clear hk1
 have r0:w1.cell? ⟨ob+1,0,none⟩=some (.int .i64 0):=(uh HR1).cell rfl
 have r1:w1.cell? ⟨ob+1,1,none⟩=some (.slice none 0 0):=(uh HR1).cell rfl
 have r2:w1.cell? ⟨ob+1,2,none⟩=some (.string qAa):=(uh HR1).cell rfl
 have rf:=(uh HR1).frozen
 go_wp2
 have hbf:=(((uh HR1).setCell 0 (.int .i64 2)).setCell 1 (.slice none 0 0)).setCell 2 (.string qAa)
 have HKF:=hide ((((Keeps.refl (λi=>i=ob+1) w1).setCell (p:=⟨ob+1,0,none⟩) (Or.inl rfl) (.int .i64 2)).setCell (p:=⟨ob+1,1,none⟩) (Or.inl rfl) (.slice none 0 0)).setCell (p:=⟨ob+1,2,none⟩) (Or.inl rfl) (.string qAa))
 have e9:(((w1.setCell ⟨ob+1,0,none⟩ (.int .i64 2)).setCell ⟨ob+1,1,none⟩ (.slice none 0 0)).setCell ⟨ob+1,2,none⟩ (.string ⟨#[]⟩))=(((w1.setCell ⟨ob+1,0,none⟩ (.int .i64 2)).setCell ⟨ob+1,1,none⟩ (.slice none 0 0)).setCell ⟨ob+1,2,none⟩ (.string qAa)):=rfl
 first | rw[e9] | skip
 generalize(((w1.setCell ⟨ob+1,0,none⟩ (.int .i64 2)).setCell ⟨ob+1,1,none⟩ (.slice none 0 0)).setCell ⟨ob+1,2,none⟩ (.string qAa))=w9 at *
 have q0:w9.cell? ⟨ob+1,0,none⟩=some (.int .i64 2):=hbf.cell rfl
 have q1:w9.cell? ⟨ob+1,1,none⟩=some (.slice none 0 0):=hbf.cell rfl
 have q2:w9.cell? ⟨ob+1,2,none⟩=some (.string qAa):=hbf.cell rfl
 refine bodyPost_ret (v:=qCl 2 (.slice none 0 0)) (by simp[results,Tryz.results45,go_sem,q0,q1,q2,qCl]) rfl ?_
 have hkf:=uh HKF
 have hob:=uh HOB
 have hkk:Keeps (λ_=>False) w w9:=(uh HK1).trans hkf (λi hi hlt=>by omega)
 exact qBx (uh HE) hkk (World.ownsRow_nil _ _ _ _)
theorem qYl(k:Nat)(c:Cfg)(nt:Note)(a m:Int): (qJd k c nt a m).1=0\/(qJd k c nt a m).2=[]:=by
 unfold qJd zE7
 repeat (first | exact .inl rfl | exact .inr rfl | split)
theorem qVq(n:Int)(e:Nat)(v:Value)(clock:Int)(ps:List (SB×Ser))(o:OpM)(w:World)(h:ERep w e v clock ps)(hi:EInv n clock (ps.map (·.2)))(hn:n<=4611686018427387904)(p:SB×Ser)(hf:qDo ps o.id=some p):
  Calls Tryz.prog 45 #[.pointer (some ⟨e,0,none⟩),o.val] w λr w'=>StepPost w e v ps clock (ps.map (·.2)) (qJd p.2.k p.2.c p.2.nt o.a (clock-p.2.c.lag)).1 (qJd p.2.k p.2.c p.2.nt o.a (clock-p.2.c.lag)).2 r w':=by
 have hmem:p∈ps:=List.mem_of_find?_eq_some hf
 have HM:=hide hmem
 clear hmem
 have h1:o.cells[1]?=some (.int .i64 o.id):=rfl
 have HE:=hide h
 have HI:=hide hi
 have hl:ps.length<=1000:=by have:=hi.six;rw[List.length_map]at this;omega
 have HF:=hide hf
 clear h hi hf
 unfold OpM.val
 go_enter Tryz.func45,Tryz.ntmps45
 go_wp2_with fail
 have hk0:Keeps (λ_=>False) w ((w.alloc (.cells o.cells.toArray 40)).alloc (.cells #[.int .i64 0,.slice none 0 0,.string ⟨#[]⟩] 33)):=((Keeps.refl (λ_=>False) w).alloc _).alloc _
 have HO0:=hide (show Blk ((w.alloc (.cells o.cells.toArray 40)).alloc (.cells #[.int .i64 0,.slice none 0 0,.string ⟨#[]⟩] 33)) w.heap.size o.cells 40 from(Blk.new w o.cells 40).alloc _)
 have HR0:=hide (show Blk ((w.alloc (.cells o.cells.toArray 40)).alloc (.cells #[.int .i64 0,.slice none 0 0,.string ⟨#[]⟩] 33)) (w.heap.size+1) [.int .i64 0,.slice none 0 0,.string qAa] 33 from Blk.newAt (by simp) [_,_,_] 33)
 have HE0:=hide ((uh HE).still hk0)
 have HK0:=hide hk0
 clear hk0
 generalize(w.alloc (.cells o.cells.toArray 40)).alloc (.cells #[.int .i64 0,.slice none 0 0,.string ⟨#[]⟩] 33)=w0 at *
 have HLT:=hide (show ∀i,EFoot e v ps i->i<w.heap.size from(uh HE).lt)
 generalize hob:w.heap.size=ob at *
 have HOB:=hide hob
 clear hob
 have hsz0:ob+1<w0.heap.size:=(uh HR0).lt
 refine(qDm e v clock o.id ps w0 (uh HE0) hl).mono ?_
 rintro r w1 ⟨rfl,hw1⟩
 rw[hw1]
 clear hw1 w1
 rw[uh HF]
 unfold qH4
 have HS0:=hide ((uh HE0).reps p (uh HM))
 have HSI:=hide ((uh HI).sers p.2 (List.mem_map_of_mem (uh HM)))
 obtain⟨l0,l1,s0,s1,p1,p8⟩:=(uh HSI).common
 have cl0:=(uh HI).c0
 have cl1:=(uh HI).c1
 have hc25:w0.cell? ⟨p.1.s,28,none⟩=some (.func (.func (zEh p.2.k)) (qIs p.1.n.d) #[]):=(uh HS0).blk.cell rfl
 have hc2:w0.cell? ⟨p.1.s,2,none⟩=some (.int .i64 p.2.c.lag):=(uh HS0).blk.cell rfl
 have hce:w0.cell? ⟨e,0,none⟩=some (.int .i64 clock):=(uh HE0).blk.cell rfl
 have hoa:w0.cell? ⟨ob,2,none⟩=some (.int .i64 o.a):=(uh HO0).cell rfl
 have hown:=zCu p.2.k (uh HSI).k1 (uh HSI).k5
 have HRL:=hide (show p.2.rel<=4611686018427387904 by have h1:=(uh HSI).rela;have h2:=(uh HSI).accn;omega)
 go_wp2_with fail
 go_region_held3 (λw'=>w'.cell? ⟨p.1.s,28,none⟩=some (.func (.func (zEh p.2.k)) (qIs p.1.n.d) #[])/\w'.cell? ⟨p.1.s,2,none⟩=some (.int .i64 p.2.c.lag)/\w'.cell? ⟨e,0,none⟩=some (.int .i64 clock)/\w'.cell? ⟨ob,2,none⟩=some (.int .i64 o.a))
  (first | (simp[*];done) | (go_split_ands;exact⟨hk1.cell (by assumption) (λh=>h),hk1.cell (by assumption) (λh=>h),hk1.cell (by assumption) (λh=>h),hk1.cell (by assumption) (λh=>h)⟩))
  (first | (go_at_call 67;refine(qJt p.1.s p.2.c.lag clock _ (by go_keep) l0 l1 cl0 cl1).mono ?_;rintro e w' ⟨rfl,rfl⟩) | (refine(zCo (rel:=p.2.rel) (last:=p.2.last) p.2.k p.1.n p.2.c p.2.nt o.a (clock-p.2.c.lag) _ _ (by first | rfl | simp) (by exact(uh HS0).note.still (Keeps.refl _ _).drew) (uh HSI).note (uh HRL) (uh HSI).lastn (uh HSI).valid (uh HSI).kind (uh HSI).k1 (uh HSI).k5 (by omega) (by omega)).mono ?_;rintro e w1 ⟨og,nn,cp,rfl,hnum,hk1⟩))
 have hk0d:Keeps (λ_=>False) w0 w1:=((Keeps.refl (λ_=>False) w0).drew).then hk1
 have HR1:=hide ((uh HR0).keeps hk0d (λh=>h))
 have HK1:=hide ((uh HK0).then hk0d)
 have HSZ:=hide ((uh HK0).size)
 have HNUM:=hide (show qT6 w1 w0.heap.size (.slice og nn cp) (qJd p.2.k p.2.c p.2.nt o.a (clock-p.2.c.lag)).2 from hnum)
 have HCD:=hide (qYl p.2.k p.2.c p.2.nt o.a (clock-p.2.c.lag))
 clear hc25 hc2 hce hoa HR0 HK0 HE0 HO0 HS0 hk1 hnum hk0d hown
 generalize hnm:(qJd p.2.k p.2.c p.2.nt o.a (clock-p.2.c.lag)).2=nums at *
 generalize hco:(qJd p.2.k p.2.c p.2.nt o.a (clock-p.2.c.lag)).1=code at *
 have HNM:=hide hnm
 have HCO:=hide hco
 clear hnm hco
 by_cases hcode:code=0
 ·subst hcode
  have r0:w1.cell? ⟨ob+1,0,none⟩=some (.int .i64 0):=(uh HR1).cell rfl
  have r1:w1.cell? ⟨ob+1,1,none⟩=some (.slice none 0 0):=(uh HR1).cell rfl
  have r2:w1.cell? ⟨ob+1,2,none⟩=some (.string qAa):=(uh HR1).cell rfl
  have rf:=(uh HR1).frozen
  go_wp2
  have hbf:=(((uh HR1).setCell 0 (.int .i64 0)).setCell 1 (.slice og nn cp)).setCell 2 (.string qAa)
  have HKF:=hide ((((Keeps.refl (λi=>i=ob+1) w1).setCell (p:=⟨ob+1,0,none⟩) (Or.inl rfl) (.int .i64 0)).setCell (p:=⟨ob+1,1,none⟩) (Or.inl rfl) (.slice og nn cp)).setCell (p:=⟨ob+1,2,none⟩) (Or.inl rfl) (.string qAa))
  have e9:(((w1.setCell ⟨ob+1,0,none⟩ (.int .i64 0)).setCell ⟨ob+1,1,none⟩ (.slice og nn cp)).setCell ⟨ob+1,2,none⟩ (.string ⟨#[]⟩))=(((w1.setCell ⟨ob+1,0,none⟩ (.int .i64 0)).setCell ⟨ob+1,1,none⟩ (.slice og nn cp)).setCell ⟨ob+1,2,none⟩ (.string qAa)):=rfl
  first | rw[e9] | skip
  generalize(((w1.setCell ⟨ob+1,0,none⟩ (.int .i64 0)).setCell ⟨ob+1,1,none⟩ (.slice og nn cp)).setCell ⟨ob+1,2,none⟩ (.string qAa))=w9 at *
  have q0:w9.cell? ⟨ob+1,0,none⟩=some (.int .i64 0):=hbf.cell rfl
  have q1:w9.cell? ⟨ob+1,1,none⟩=some (.slice og nn cp):=hbf.cell rfl
  have q2:w9.cell? ⟨ob+1,2,none⟩=some (.string qAa):=hbf.cell rfl
  refine bodyPost_ret (v:=qCl 0 (.slice og nn cp)) (by simp[results,Tryz.results45,go_sem,q0,q1,q2,qCl]) rfl ?_
  have hkf:=uh HKF
  have hob:=uh HOB
  have hkk:Keeps (λ_=>False) w w9:=(uh HK1).trans hkf (λi hi hlt=>by omega)
  rw[uh HNM,uh HCO]
  exact qBx (uh HE) hkk (qIn (qBc (uh HNUM) hkf (λi hi h=>by
         rcases(uh HNUM).2 with ⟨h1,_⟩ | ⟨g,_,_,h1,h2,_⟩
         ·rw[h1]at hi;cases hi
         ·rw[h1]at hi
          have:g=i:=by simpa[Value.ownBlock] using hi
          have:=uh HSZ
          omega)) (by have:=uh HSZ;omega))
 ·have hne:(code !=0)=true:=by simpa using hcode
  have HNN:=hide (show nums=[] from(uh HCD).resolve_left hcode)
  clear hcode
  go_wp2_with fail
  refine(qFp code w1).mono ?_
  rintro r w2 ⟨rfl,hk2⟩
  unfold qCl
  have HR2:=hide ((uh HR1).keeps hk2 (λh=>h))
  have HK2:=hide ((uh HK1).then hk2)
  clear hk2 HR1 HK1
  have r0:w2.cell? ⟨ob+1,0,none⟩=some (.int .i64 0):=(uh HR2).cell rfl
  have r1:w2.cell? ⟨ob+1,1,none⟩=some (.slice none 0 0):=(uh HR2).cell rfl
  have r2:w2.cell? ⟨ob+1,2,none⟩=some (.string qAa):=(uh HR2).cell rfl
  have rf:=(uh HR2).frozen
  go_wp2
  have hbf:=(((uh HR2).setCell 0 (.int .i64 code)).setCell 1 (.slice none 0 0)).setCell 2 (.string qAa)
  have HKF:=hide ((((Keeps.refl (λi=>i=ob+1) w2).setCell (p:=⟨ob+1,0,none⟩) (Or.inl rfl) (.int .i64 code)).setCell (p:=⟨ob+1,1,none⟩) (Or.inl rfl) (.slice none 0 0)).setCell (p:=⟨ob+1,2,none⟩) (Or.inl rfl) (.string qAa))
  have e9:(((w2.setCell ⟨ob+1,0,none⟩ (.int .i64 code)).setCell ⟨ob+1,1,none⟩ (.slice none 0 0)).setCell ⟨ob+1,2,none⟩ (.string ⟨#[]⟩))=(((w2.setCell ⟨ob+1,0,none⟩ (.int .i64 code)).setCell ⟨ob+1,1,none⟩ (.slice none 0 0)).setCell ⟨ob+1,2,none⟩ (.string qAa)):=rfl
  first | rw[e9] | skip
  generalize(((w2.setCell ⟨ob+1,0,none⟩ (.int .i64 code)).setCell ⟨ob+1,1,none⟩ (.slice none 0 0)).setCell ⟨ob+1,2,none⟩ (.string qAa))=w9 at *
  have q0:w9.cell? ⟨ob+1,0,none⟩=some (.int .i64 code):=hbf.cell rfl
  have q1:w9.cell? ⟨ob+1,1,none⟩=some (.slice none 0 0):=hbf.cell rfl
  have q2:w9.cell? ⟨ob+1,2,none⟩=some (.string qAa):=hbf.cell rfl
  refine bodyPost_ret (v:=qCl code (.slice none 0 0)) (by simp[results,Tryz.results45,go_sem,q0,q1,q2,qCl]) rfl ?_
  have hkf:=uh HKF
  have hob:=uh HOB
  have hkk:Keeps (λ_=>False) w w9:=(uh HK2).trans hkf (λi hi hlt=>by omega)
  rw[uh HNM,uh HCO,uh HNN]
  exact qBx (uh HE) hkk (World.ownsRow_nil _ _ _ _)
end
section
open Go.RowKit
theorem qKy(a b:List (SB×Ser)): ptrs (a++b)=ptrs a++ptrs b:=by simp[ptrs]
theorem ERep.one{w w':World}{e:Nat}{v:Value}{clock:Int}{l1 l2:List (SB×Ser)}{p:SB×Ser}{b':SB}{x':Ser}(h:ERep w e v clock (l1++p::l2))(hk:Keeps (p.1.foot p.2.k) w w')(hs:SRep w' b' x')(hx:x'.k=p.2.k)(hn:p.1.next b' p.2.k w.heap.size): ERep w' e v clock (l1++(b',x')::l2):=by
 have hmem:p∈l1++p::l2:=by simp
 have hap:=List.pairwise_append.1 h.apart
 have hap2:=List.pairwise_cons.1 hap.2.1
 have hoth:∀q,q∈l1\/q∈l2->q∈l1++p::l2/\∀i,q.1.foot q.2.k i->¬p.1.foot p.2.k i:=by
  intro q hq
  rcases hq with hq | hq
  ·exact⟨by simp[hq],λi hi hp=>hap.2.2 q hq p (by simp) i hi hp⟩
  ·exact⟨by simp[hq],λi hi hp=>hap2.1 q hq i hp hi⟩
 have hnew:∀q,q∈l1\/q∈l2->∀i,b'.foot x'.k i->¬q.1.foot q.2.k i:=by
  intro q hq i hi hqi
  obtain⟨hm,hd⟩:=hoth q hq
  rw[hx]at hi
  rcases hn.2 i hi with hf | hf
  ·exact hd i hqi hf
  ·have:=(h.reps q hm).lt i hqi;omega
 have hrow:w'.ownsRow 0 73 1 v (l1++p::l2).length (ptrs (l1++p::l2)):=qBc h.row hk (λi hi hf=>(h.ef p hmem i hf).2 hi)
 have hptr:ptrs (l1++(b',x')::l2)=ptrs (l1++p::l2):=by
  simp only[ptrs,List.map_append,List.map_cons]
  rw[hn.1]
 refine⟨h.blk.keeps hk (λhf=>(h.ef p hmem e hf).1 rfl),?_,?_,?_,h.ev,?_⟩
 ·rw[hptr,show(l1++(b',x')::l2).length=(l1++p::l2).length by simp];exact hrow
 ·intro q hq
  rcases List.mem_append.1 hq with hq | hq
  ·exact(h.reps q (hoth q (.inl hq)).1).keeps hk (hoth q (.inl hq)).2
  ·rcases List.mem_cons.1 hq with hq | hq
   ·subst hq;exact hs
   ·exact(h.reps q (hoth q (.inr hq)).1).keeps hk (hoth q (.inr hq)).2
 ·refine List.pairwise_append.2 ⟨hap.1,List.pairwise_cons.2 ⟨λq hq i hi=>hnew q (.inr hq) i hi,hap2.2⟩,?_⟩
  intro q hq r hr i hi
  rcases List.mem_cons.1 hr with hr | hr
  ·subst hr;exact λhf=>hnew q (.inl hq) i hf hi
  ·exact hap.2.2 q hq r (by simp[hr]) i hi
 ·intro q hq i hi
  rcases List.mem_append.1 hq with hq | hq
  ·exact h.ef q (hoth q (.inl hq)).1 i hi
  ·rcases List.mem_cons.1 hq with hq | hq
   ·subst hq
    have hi':b'.foot p.2.k i:=by rw[<-hx];exact hi
    rcases hn.2 i hi' with hf | hf
    ·exact h.ef p hmem i hf
    ·have h1:=h.lt e (.inl rfl)
     refine⟨by omega,λhv=>?_⟩
     have:=h.lt i (.inr (.inl hv))
     omega
   ·exact h.ef q (hoth q (.inr hq)).1 i hi
theorem EFoot.one{w:World}{e:Nat}{v:Value}{l1 l2:List (SB×Ser)}{p:SB×Ser}{b':SB}{x':Ser}(hx:x'.k=p.2.k)(hn:p.1.next b' p.2.k w.heap.size)(i:Nat)(hi:EFoot e v (l1++(b',x')::l2) i):
  EFoot e v (l1++p::l2) i\/w.heap.size<=i:=by
 rcases hi with hi | hi | ⟨q,hq,hi⟩
 ·exact .inl (.inl hi)
 ·exact .inl (.inr (.inl hi))
 ·rcases List.mem_append.1 hq with hq | hq
  ·exact .inl (.inr (.inr ⟨q,by simp[hq],hi⟩))
  ·rcases List.mem_cons.1 hq with hq | hq
   ·subst hq
    have hi':b'.foot p.2.k i:=by rw[<-hx];exact hi
    rcases hn.2 i hi' with hf | hf
    ·exact .inl (.inr (.inr ⟨p,by simp,hf⟩))
    ·exact .inr hf
   ·exact .inl (.inr (.inr ⟨q,by simp[hq],hi⟩))
def qHt: List Ser->Int->Ser->List Ser
 | [],_,_=>[]
 | x::r,id,y=>if x.id==id then y::r else x::qHt r id y
def qEh(xs:List Ser)(id:Int): Option Ser:=xs.find? (λx=>x.id==id)
theorem qMo{ps:List (SB×Ser)}{id:Int}{p:SB×Ser}(h:qDo ps id=some p): ∃l1 l2,ps=l1++p::l2/\∀y:Ser,qHt (ps.map (·.2)) id y=l1.map (·.2)++y::l2.map (·.2):=by
 obtain⟨hp,l1,l2,he,hn⟩:=List.find?_eq_some_iff_append.1 h
 refine⟨l1,l2,he,λy=>?_⟩
 subst he
 clear h
 induction l1 with
 | nil=>simp[qHt,hp]
 | cons a l ih =>
  have ha:(a.2.id==id)=false:=by simpa using hn a (by simp)
  simp only[List.cons_append,List.map_cons,qHt,ha]
  rw[ih (λb hb=>hn b (by simp[hb]))]
  rfl
theorem qSf(ps:List (SB×Ser))(id:Int): qEh (ps.map (·.2)) id=(qDo ps id).map (·.2):=by
 unfold qEh qDo
 induction ps with
 | nil=>rfl
 | cons a l ih =>
  simp only[List.map_cons,List.find?_cons]
  cases (a.2.id==id) with
  | true=>rfl
  | false=>exact ih
def zDu(a b:Int): Int:=if a<b then a else b
def qSa(x:Ser)(c:Nat): Ser:={ x with ref:=x.ref.set c (zDu (qAz x.ref c+1) 4611686018427387904) }
theorem qM7(b:SB)(x:Ser)(c:Nat)(u:Int): (qB6 b x).set (35+c) (.int .i64 u)=qB6 b { x with ref:=x.ref.set c u }:=by
 have h1:(qB6 b x).set (35+c) (.int .i64 u)=.int .i64 x.id::x.c.vals (fn (qBo x.k)::fn (qA4 x.k)::fn (qA3 x.k)::fn (qAq x.k)::fn (qA1 x.k)::fn (qA5 x.k)::relV x.k b.n.d::qryV x.k b.n.d::swpV x.k b.n.d::savV x.k b.n.d::lodV x.k b.n.d::.pointer (some ⟨b.q,0,none⟩)::.int .i64 x.acc::.int .i64 x.rel::(x.ref.map (.int .i64 ·)).set c (.int .i64 u)):=by
  rw[Nat.add_comm];rfl
 rw[h1]
 unfold qB6
 simp only
 rw[List.map_set]
theorem zAn{n:Int}{x:Ser}(h:SInv n x)(c:Nat)(hn:(∀v,v∈x.ref->v<n)\/4611686018427387904<=n)(hc:c<12): SInv n (qSa x c):=by
 have hl:=h.reflen
 have hm:qAz x.ref c∈x.ref:=by unfold qAz;rw[List.getD_eq_getElem?_getD,List.getElem?_eq_getElem (by omega)];exact List.getElem_mem _
 refine⟨h.valid,h.kind,h.k1,h.k5,h.acc0,h.accn,h.rel0,h.rela,by simp[qSa,hl],?_,h.cap,h.times,h.note,h.heap,h.last0,h.lastn,h.lastl,h.fits⟩
 intro v hv
 rcases List.mem_or_eq_of_mem_set hv with hv | hv
 ·exact h.refn v hv
 ·subst hv
  have h1:=h.refn _ hm
  unfold zDu
  rcases hn with hn | hn
  ·have h2:=hn _ hm
   split <;> omega
  ·split <;> omega
theorem qJb(x:Ser)(clock:Int)(y:It): 0<=qJu x clock y/\qJu x clock y<=11:=by
 have hk:0<=qEi x.c x.k y/\qEi x.c x.k y<=11:=by
  unfold qEi qXu qG0 qMp
  repeat (first | omega | split)
 unfold qJu
 repeat (first | omega | split)
end
end Go.Proofs.YtahnliehdjncdaaGreatDoor
