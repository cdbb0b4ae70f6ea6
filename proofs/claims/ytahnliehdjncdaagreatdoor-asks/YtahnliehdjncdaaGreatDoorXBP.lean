import Derived.Test.YtahnliehdjncdaaGreatDoorXBO
set_option maxRecDepth 100000
set_option maxHeartbeats 16000000
namespace Go.Proofs.YtahnliehdjncdaaGreatDoor
section
open Go.RowKit
attribute [local go_sem ↓] qAd qAe
attribute [local go_sem] qAi qAj qAc qAb qAm qAn qAg qAh qAk qAo
attribute [local go_sem ↓] qH4
attribute [local go_sem] qKn
theorem qR4(e:Nat)(v:Value)(clock ticks:Int)(ps:List (RB×RSer))(o:OpM)(w:World)(h:RWRep w e v clock ticks ps)(hl:ps.length<6)(hid:inB o.id 0 99=true)(hf:qB2 ps o.id=none)(hv:qA0 o.cfg=true):
  Calls Tryz.prog 84 #[.pointer (some ⟨e,0,none⟩),o.val] w λr w'=>r=.returned (.int .i64 0)/\qIi w e v ps ⟨clock,ticks,ps.map (·.2)++[qLx o.id o.cfg]⟩ w':=by
 have h1:o.cells[1]?=some (.int .i64 o.id):=rfl
 have HE:=hide h
 have hk0:Keeps (λ_=>False) w (w.alloc (.cells o.cells.toArray 40)):=(Keeps.refl (λ_=>False) w).alloc _
 have HO0:=hide (show Blk (w.alloc (.cells o.cells.toArray 40)) w.heap.size o.cells 40 from Blk.new w o.cells 40)
 have HE0:=hide (h.still hk0)
 have HK0:=hide hk0
 obtain⟨i1,i2⟩:=qA9 hid
 clear h hk0 hid
 unfold OpM.val
 go_enter Tryz.func84,Tryz.ntmps84
 go_wp2_with fail
 generalize w.alloc (.cells o.cells.toArray 40)=w0 at *
 generalize hob:w.heap.size=ob at *
 have HOB:=hide hob
 clear hob
 refine(qCg e v clock ticks o.id ps w0 (uh HE0) (by omega)).mono ?_
 rintro r w1 ⟨rfl,hw1⟩
 rw[hw1,hf]
 clear hw1 w1
 unfold qEh
 obtain⟨hv0,hh0⟩:=qBe (uh HO0) 5 20 o.cfg.cells rfl rfl
 go_wp2_with fail
 refine(qM2 o.cfg w0).mono ?_
 rintro r w1 ⟨rfl,hk1⟩
 rw[hv]
 have HO1:=hide ((uh HO0).keeps hk1 (λh=>h))
 have HE1:=hide ((uh HE0).still hk1)
 have HK1:=hide ((uh HK0).then hk1)
 clear hk1 hv0 hh0 h1
 have o1:w1.cell? ⟨ob,1,none⟩=some (.int .i64 o.id):=(uh HO1).cell rfl
 have e2:w1.cell? ⟨e,2,none⟩=some v:=(uh HE1).blk.cell rfl
 have hfz:=(uh HE1).blk.frozen
 have hel:=(uh HE1).blk.lt
 obtain⟨hv1,hh1⟩:=qBe (uh HO1) 5 20 o.cfg.cells rfl rfl
 have hown:=(uh HE1).row
 have HEV:=hide (uh HE1).ev
 have hlv:∃a cap,v=.slice a ps.length cap:=by
  rcases(uh HE1).row.2 with ⟨h1,h2⟩ | ⟨g,cap,cur,h1,_⟩
  ·exact⟨none,0,by rw[h1,h2]⟩
  ·exact⟨some ⟨g,0,none⟩,cap,h1⟩
 obtain⟨va,vcap,hvv⟩:=hlv
 obtain⟨i0,hi0,hz0,hz1,hz2⟩:=info_parts zEn
 have hobl:ob<w1.heap.size:=(uh HO1).lt
 generalize hnn:ps.length=m at *
 have HNN:=hide hnn
 clear hnn
 have HF2:Hid (∀A B w2,((w1.alloc A).alloc B).drew.grownBy w2 v.ownBlock->w2.cell? ⟨e,2,none⟩=some v/\w2.frozen? ⟨e,2,none⟩=false):=λA B w2 hg=>by
  have hb1:w2.heap[e]?=w1.heap[e]?:=by
   rw[hg.block e (by simp;omega) (λh=>(uh HEV) h.symm)]
   show((w1.alloc A).alloc B).heap[e]?=_
   rw[Below.heap_alloc _ _ _ (by simp;omega),Below.heap_alloc _ _ _ hel]
  exact⟨(World.cell?_of_block (a:=⟨e,2,none⟩) hb1).trans e2,(World.frozen?_of_block (a:=⟨e,2,none⟩) hb1).trans (hfz 2)⟩
 have hnew:Hid (∀A B,((w1.alloc A).alloc B).drew.heap[w1.heap.size+1]?=some B):=λA B=>by
  have:=heap_alloc_new (w1.alloc A) B
  rwa [World.size_alloc]at this
 have HEND:=hide (λ(w2:World) (gg cap':Nat) (B:Obj) (hown1:w2.ownsRow 0 112 1 (.slice (some ⟨gg,0,none⟩) (m+1) cap') (m+1) (qIq ps++[.pointer (some ⟨w1.heap.size,0,none⟩)])) (hgrow:((w1.alloc (.cells (qDi ⟨0,.slice none 0 0,.slice none 0 0⟩ (qLx o.id o.cfg)).toArray 119)).alloc B).drew.grownBy w2 v.ownBlock) (hat:v.ownBlock=some gg\/gg=w1.heap.size+2) =>
    qSf (b2:=⟨w1.heap.size,.slice none 0 0,.slice none 0 0⟩) (x:=qLx o.id o.cfg) (uh HE1) (uh HNN) rfl rfl rfl rfl hown1 hgrow hat)
 rw[hvv]at e2 hown HF2
 have HVV:=hide hvv
 have h6:((m:Int)==6)=false:=by simp;omega
 clear hvv
 go_wp2_with fail
 go_region_law
  ((refine step_append_lies _ (by rfl) _ _ _ (by rfl) 0 112 i0 _ 1 8 Tryz.underlying109 hi0 hz0 hz1 hz2 rfl (by omega) (.slice va m vcap) m (qIq ps) (by rfl) (((hown.alloc _).alloc _).drew)
        ⟨w1.heap.size+1,0,none⟩ 1 1 [.pointer (some ⟨w1.heap.size,0,none⟩)] (by rfl) (by rfl) (World.news_of_block (cs:=#[.pointer (some ⟨w1.heap.size,0,none⟩)]) (t:=112) (fr:=(0,0)) (hnew.out _ _)) (by simp[Value.oneCell'])
        (by omega) (by unfold maxLen;omega) (by omega) (by omega) (w1.heap.size+2) (by simp) ?_;intro gg cap' w2 hown1 hgrow hat hlt;have hcq:=(HF2.out _ _ _ hgrow).1;have hfq:=(HF2.out _ _ _ hgrow).2))
 all_goals
  rw[<-uh HVV]at hgrow hat
  have HE2:=uh HEND _ _ _ _ hown1 hgrow hat
  obtain⟨hR2,hk2,hnx⟩:=HE2
  go_wp2
  go_ret
  refine⟨rfl,.slice (some ⟨gg,0,none⟩) (m+1) cap',_,hR2,by simp,?_,?_⟩
  ·exact((uh HK1).mono (M':=RFoot e v ps) (λ_ _ h=>h.elim)).then hk2
  ·intro i hi
   rcases hnx i hi with h | h
   ·exact .inl h
   ·exact .inr (by have:=(uh HK1).size;omega)
end
end Go.Proofs.YtahnliehdjncdaaGreatDoor
