import Derived.Test.YtahnliehdjncdaaGreatDoorXBG
set_option maxRecDepth 100000
set_option maxHeartbeats 16000000
namespace Go.Proofs.YtahnliehdjncdaaGreatDoor
section
open Go.RowKit
attribute [local go_sem ↓] qAd qAe
attribute [local go_sem] qAi qAj qAc qAb qAm qAn qAg qAh qAk qAo
theorem qZh(n:Int)(e:Nat)(v:Value)(clock ticks:Int)(ps:List (RB×RSer))(o:OpM)(w:World)(h:RWRep w e v clock ticks ps)(hi:RWInv n clock ticks (ps.map (·.2)))(hn:n<1099511627776)(p:RB×RSer)(hf:qB2 ps o.id=some p)(hr:qB6 p.2 clock o=0):
  Calls Tryz.prog 85 #[.pointer (some ⟨e,0,none⟩),o.val] w λr w'=>r=.returned (.tuple #[.int .i64 ((p.2.items.length:Int)+1),.int .i64 0])/\qIi w e v ps ⟨clock,ticks,qL0 (ps.map (·.2)) o.id (qUa p.2 o)⟩ w':=by
 have hmem:p∈ps:=List.mem_of_find?_eq_some hf
 have HM:=hide hmem
 have hip:=hi.sers p.2 (List.mem_map_of_mem hmem)
 have HIP:=hide hip
 have hil:=hip.items
 have hl:ps.length<=1000:=by have:=hi.six;rw[List.length_map]at this;omega
 have h1:o.cells[1]?=some (.int .i64 o.id):=rfl
 have HE:=hide h
 have hk0:Keeps (λ_=>False) w (w.alloc (.cells o.cells.toArray 40)):=(Keeps.refl (λ_=>False) w).alloc _
 have HO0:=hide (show Blk (w.alloc (.cells o.cells.toArray 40)) w.heap.size o.cells 40 from Blk.new w o.cells 40)
 have HE0:=hide (h.still hk0)
 have HK0:=hide hk0
 have hc0:=hi.c0
 have hc1:=hi.c1
 have HF:=hide hf
 clear h hk0 hip hmem hi hf
 unfold OpM.val
 go_enter Tryz.func85,Tryz.ntmps85
 go_wp2_with fail
 generalize w.alloc (.cells o.cells.toArray 40)=w0 at *
 generalize hob:w.heap.size=ob at *
 have HOB:=hide hob
 clear hob
 refine(qCg e v clock ticks o.id ps w0 (uh HE0) hl).mono ?_
 rintro r w1 ⟨rfl,hw1⟩
 rw[hw1,uh HF]
 clear hw1 w1
 unfold qEh
 obtain⟨hv0,hh0⟩:=qA4 (uh HO0) 26 rfl
 go_wp2_with fail
 refine(qJy n e clock p.1 p.2 o w0 ((uh HE0).reps p (uh HM)) (uh HIP) (by omega) ((uh HE0).blk.cell rfl) hc0 hc1).mono ?_
 rintro r w1 ⟨rfl,hk1⟩
 rw[hr]
 have HE1:=hide ((uh HE0).still hk1)
 have HO1:=hide ((uh HO0).keeps hk1 (λh=>h))
 have HK1:=hide ((uh HK0).then hk1)
 clear hk1 hv0 hh0
 have HR1:=hide ((uh HE1).reps p (uh HM))
 have hs21:w1.cell? ⟨p.1.s,21,none⟩=some p.1.iv:=(uh HR1).blk.cell rfl
 have hfz:=(uh HR1).blk.frozen
 have hown:=(uh HR1).its
 have hsl:=(uh HR1).blk.lt
 have o2:w1.cell? ⟨ob,2,none⟩=some (.int .i64 o.a):=(uh HO1).cell rfl
 have o3:w1.cell? ⟨ob,3,none⟩=some (.int .i64 o.b):=(uh HO1).cell rfl
 have o4:w1.cell? ⟨ob,4,none⟩=some (.int .i64 o.c):=(uh HO1).cell rfl
 have HSI:=hide (uh HR1).si
 obtain⟨i0,hi0,hz0,hz1,hz2⟩:=info_parts zCs
 have hlv:∃a cap,p.1.iv=.slice a p.2.items.length cap:=by
  rcases hown.2 with ⟨h1,h2⟩ | ⟨g,cap,cur,h1,_⟩
  ·exact⟨none,0,by rw[h1,h2]⟩
  ·exact⟨some ⟨g,0,none⟩,cap,h1⟩
 obtain⟨va,vcap,hvv⟩:=hlv
 generalize hnn:p.2.items.length=m at *
 have HNN:=hide hnn
 clear hnn
 have HF2:Hid (∀B w2,(w1.alloc B).drew.grownBy w2 p.1.iv.ownBlock->w2.cell? ⟨p.1.s,21,none⟩=some p.1.iv/\w2.frozen? ⟨p.1.s,21,none⟩=false):=λB w2 hg=>by
  have hb1:w2.heap[p.1.s]?=w1.heap[p.1.s]?:=by
   rw[hg.block p.1.s (by simp;omega) (λh=>(uh HSI) h.symm)]
   show(w1.alloc B).heap[p.1.s]?=_
   rw[Below.heap_alloc _ _ _ hsl]
  exact⟨(World.cell?_of_block (a:=⟨p.1.s,21,none⟩) hb1).trans hs21,(World.frozen?_of_block (a:=⟨p.1.s,21,none⟩) hb1).trans (hfz 21)⟩
 have hnew:Hid (∀B,(w1.alloc B).drew.heap[w1.heap.size]?=some B):=λB=>heap_alloc_new w1 B
 have HEND:=hide (λ(w2:World) (gg cap':Nat) (B:Obj) (hown1:w2.ownsRow 0 155 5 (.slice (some ⟨gg,0,none⟩) (m+1) cap') (m+1) (qE7 p.2.items++(⟨o.a,o.b,o.c,(m:Int)+1,0⟩:RIt).cells)) (hgrow:(w1.alloc B).drew.grownBy w2 p.1.iv.ownBlock) (hat:p.1.iv.ownBlock=some gg\/gg=w1.heap.size+1) =>
    zB7 (uh HR1) (uh HNN) rfl hown1 hgrow hat)
 rw[hvv]at hs21 hown HF2
 have HVV:=hide hvv
 have hwr:IntKind.i64.wrap ((m:Int)+1)=(m:Int)+1:=qIb (by omega) (by omega)
 clear hvv
 go_wp2_with fail
 go_region_law
  ((refine step_append_lies _ (by rfl) _ _ _ (by rfl) 0 155 i0 _ 5 40 Tryz.underlying115 hi0 hz0 hz1 hz2 rfl (by omega) (.slice va m vcap) m (qE7 p.2.items) (by rfl) ((hown.alloc _).drew)
        ⟨w1.heap.size,0,none⟩ 1 1 [.int .i64 o.a,.int .i64 o.b,.int .i64 o.c,.int .i64 ((m:Int)+1),.int .i64 0] (by rfl) (by rfl) (World.news_of_block (cs:=#[.int .i64 o.a,.int .i64 o.b,.int .i64 o.c,.int .i64 ((m:Int)+1),.int .i64 0]) (t:=155) (fr:=(0,0)) (hnew.out _)) (by simp[Value.oneCell'])
        (by omega) (by unfold maxLen;omega) (by omega) (by omega) (w1.heap.size+1) (by simp) ?_;intro gg cap' w2 hown1 hgrow hat hlt;have hcq:=(HF2.out _ _ hgrow).1;have hfq:=(HF2.out _ _ hgrow).2))
 all_goals
  have HG2:=hide hgrow
  rw[<-uh HVV]at hgrow hat
  have HE2:=uh HEND _ _ _ _ hown1 hgrow hat
  obtain⟨hR2,hk2,hnx⟩:=HE2
  go_wp2
  go_ret2
  refine⟨by rw[uh HNN];rfl,?_⟩
  obtain⟨l1,l2,hps,hup⟩:=qLg (uh HF)
  subst hps
  have hrs:RRep (w2.setCell ⟨p.1.s,21,none⟩ (.slice (some ⟨gg,0,none⟩) (m+1) cap')) ⟨p.1.s,.slice (some ⟨gg,0,none⟩) (m+1) cap',p.1.ev⟩ (qUa p.2 o):=by
   unfold qUa
   rw[uh HNN]
   exact hR2
  have hW:=(uh HE1).one hk2 hrs hnx
  refine⟨v,l1++(⟨p.1.s,.slice (some ⟨gg,0,none⟩) (m+1) cap',p.1.ev⟩,qUa p.2 o)::l2,hW,?_,?_,?_⟩
  ·simp only[hup]
   simp
  ·refine((uh HK1).mono (M':=RFoot e v (l1++p::l2)) (λ_ _ h=>h.elim)).trans hk2 (λi hi _=>.inr (.inr ⟨p,by simp,hi⟩))
  ·intro i hi
   rcases RFoot.one (w:=w1) hnx i hi with h | h
   ·exact .inl h
   ·exact .inr (by have:=(uh HK1).size;omega)
end
end Go.Proofs.YtahnliehdjncdaaGreatDoor
