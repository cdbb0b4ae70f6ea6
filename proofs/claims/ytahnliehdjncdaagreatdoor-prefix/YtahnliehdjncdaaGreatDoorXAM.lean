import Derived.Test.YtahnliehdjncdaaGreatDoorXAL
set_option maxRecDepth 100000
set_option maxHeartbeats 16000000
namespace Go.Proofs.YtahnliehdjncdaaGreatDoor
section
open Go.RowKit
attribute [local go_sem ↓] qAd qAe
attribute [local go_sem] qAh qAl qAb qAc qAm qAn qAg qAk
def qNa(c:Cfg)(l:List Bk)(m:Int): List Bk:=l.drop (pastN l (m-c.window))
def qQ1(c:Cfg)(l:List Bk)(t m:Int): List Bk:=qNa c l m++[⟨1,t⟩]
def zA8(c:Cfg)(l:List Bk)(t m:Int): List Bk:=joinL c.k ((qQ1 c l t m).length+1) (qQ1 c l t m) 1 (qQ1 c l t m).length
theorem qXz{c:Cfg}{l:List Bk}{m:Int}(t:Int)(h:BInv l)(hs:qDz l+1<=4611686018427387904)(hn:l.length+1<=4398046511104): BInv (qQ1 c l t m):=by
 unfold qQ1
 refine⟨λb hb=>?_,?_,by unfold qNa;rw[List.length_append,List.length_drop,List.length_singleton];omega⟩
 ·rcases List.mem_append.1 hb with hb | hb
  ·exact h.one b (List.mem_of_mem_drop hb)
  ·rw[List.mem_singleton]at hb;rw[hb];exact Int.le_refl _
 ·have h1:=qG6 l (pastN l (m-c.window))
  have h2:=qDm (l:=l.take (pastN l (m-c.window))) (λb hb=>h.one b (List.mem_of_mem_take hb))
  rw[qD6]
  unfold qNa
  simp only[qDz]
  omega
theorem qLp(d r:Nat)(og:Option Nat)(c:Cfg)(l:List Bk)(x:It)(m:Int)(w:World)(h:CRep w d r og c l)(hi:BInv l)(hs:qDz l+1<=4611686018427387904)(hn:l.length+1<=4398046511104)(m0:-100<=m)(m1:m<=4611686018427387904)(w0:0<=c.window)(w1:c.window<=1000)(k1:1<=c.k)(k10:c.k<=10):
  Calls Tryz.prog 158 #[.pointer (some ⟨d,0,none⟩),x.val,.int .i64 m] w λe w'=>e=.returned (.tuple #[])/\∃og',CRep w' d r og' c (zA8 c l x.t m)/\Keeps (λi=>i=r\/og=some i) w w'/\(og'=og\/∃k,og'=some k/\w.heap.size<=k):=by
 have hc20:w.cell? ⟨d,20,none⟩=some (.pointer (some ⟨r,0,none⟩)):=h.blk.cell rfl
 have HC:=hide h
 have HI:=hide hi
 have hl:=hi.len
 have HP:=hide (pastN_le l (m-c.window))
 have HL:=hide (qXz (c:=c) (m:=m) x.t hi hs hn)
 have HLL:=hide (show(qNa c l m).length<=4398046511104 from by have:=(hi.drop (pastN l (m-c.window))).len;exact this)
 have HRB:=hide (show zA8 c l x.t m=joinL c.k ((qQ1 c l x.t m).length+1) (qQ1 c l x.t m) 1 (qQ1 c l x.t m).length from rfl)
 have HLV:=hide (show qNa c l m=l.drop (pastN l (m-c.window)) from rfl)
 have hlt:=h.blk.lt
 clear h hi
 unfold It.val
 go_enter Tryz.func158,Tryz.ntmps158
 go_wp2_with fail
 have HX:=hide (Blk.new w [.int .i64 x.t,.int .i64 x.k,.int .i64 x.d,.int .i64 x.n] 87)
 have e0:(w.alloc (.cells [Value.int .i64 x.t,.int .i64 x.k,.int .i64 x.d,.int .i64 x.n].toArray 87))=(w.alloc (.cells #[.int .i64 x.t,.int .i64 x.k,.int .i64 x.d,.int .i64 x.n] 87)):=rfl
 rw[e0]at HX
 clear e0
 have HC0:=hide ((uh HC).still ((Keeps.refl (λ_=>False) w).alloc (.cells #[.int .i64 x.t,.int .i64 x.k,.int .i64 x.d,.int .i64 x.n] 87)))
 have HK0:=hide ((Keeps.refl (λi=>i=r\/og=some i) w).alloc (.cells #[.int .i64 x.t,.int .i64 x.k,.int .i64 x.d,.int .i64 x.n] 87))
 generalize w.alloc (.cells #[.int .i64 x.t,.int .i64 x.k,.int .i64 x.d,.int .i64 x.n] 87)=W at *
 have HNX:=hide (show w.heap.size≠r/\∀g,og=some g->w.heap.size≠g from by
    have h1:=(uh HC).row.lt
    exact⟨by omega,λg hg=>by have:=h1.2 g hg;omega⟩)
 generalize hbx:w.heap.size=bx at *
 have HBX:=hide hbx
 clear hbx hc20
 have hc20:W.cell? ⟨d,20,none⟩=some (.pointer (some ⟨r,0,none⟩)):=(uh HC0).blk.cell rfl
 go_region_with (first | (go_at_call 196;refine(qTt d r og c l m _ (by exact(uh HC0).still (Keeps.refl _ _).drew) hl m0 m1 w0 w1).mono ?_;rintro e W1 ⟨rfl,hkd⟩;have hc20d:=((uh HC0).still (((Keeps.refl (λ_=>False) W).drew).then hkd)).blk.cell (i:=20) rfl) | (go_at_call 195;refine(lose_any r og l (pastN l (m-c.window)) _ (by exact((uh HC0).still (((Keeps.refl (λ_=>False) W).drew).then hkd)).row) (uh HP)).mono ?_;rintro e W2 ⟨rfl,hr2,hk2⟩))
 all_goals
  have HC2:=hide (show CRep W2 d r og c (qNa c l m) from⟨(((uh HC0).blk.drew).keeps hkd (λh=>h)).keeps hk2 (λh=>h.elim (uh HC0).dr (λh=>(uh HC0).dg d h rfl)),by rw[uh HLV];exact hr2,(uh HC0).dr,(uh HC0).dg⟩)
  have HX2:=hide ((((uh HX).drew).keeps hkd (λh=>h)).keeps hk2 (λh=>h.elim (uh HNX).1 (λh=>(uh HNX).2 bx h rfl)))
  have HK2:=hide ((((uh HK0).drew).trans hkd (λ_ h _=>h.elim)).then hk2)
  clear hkd hk2 hr2 hc20
  have hc20:W2.cell? ⟨d,20,none⟩=some (.pointer (some ⟨r,0,none⟩)):=(uh HC2).blk.cell rfl
  have hx0:W2.cell? ⟨bx,0,none⟩=some (.int .i64 x.t):=(uh HX2).cell rfl
  go_wp2_with fail
  go_region_with (go_at_call 197;refine(rowPut_any r og (qNa c l m) ⟨1,x.t⟩ _ (by exact(uh HC2).row.still (Keeps.refl _ _).drew) (uh HLL)).mono ?_;rintro e W3 ⟨rfl,og',hr3,hk3,hog⟩)
  all_goals
   have HC3:=hide (show CRep W3 d r og' c (qQ1 c l x.t m) from⟨((uh HC2).blk.drew).keeps hk3 (λh=>h.elim (uh HC2).dr (λh=>(uh HC2).dg d h rfl)),hr3,(uh HC2).dr,λg hg=>by
        rcases hog with h | ⟨k,h,hk⟩
        ·exact(uh HC2).dg g (by rw[<-h,hg])
        ·rw[hg]at h
         injection h with h
         have:=(uh HC2).blk.lt
         rw[World.size_drew]at hk
         omega⟩)
   have HK3:=hide (((uh HK2).drew).then hk3)
   have HOG:=hide (show og'=og\/∃k,og'=some k/\W2.heap.size<=k from hog)
   have HSZ2:=hide (uh HK2).size
   clear hk3 hr3 hc20 hog
   go_wp2_with fail
   refine(qY9 d r og' c _ W3 (uh HC3) (uh HL) k1 k10).mono ?_
   rintro e W4 ⟨rfl,hc4,hk4⟩
   go_wp2
   go_end0
   refine⟨rfl,og',by rw[uh HRB];exact hc4,(uh HK3).trans hk4 (λi hi hlt=>?_),?_⟩
   ·rcases hi with hi | hi
    ·exact .inl hi
    ·rcases uh HOG with h | ⟨k,h,hk⟩
     ·exact .inr (by rw[<-h,hi])
     ·rw[hi]at h
      injection h with h
      have:=uh HSZ2
      have h5:=uh HBX
      omega
   ·rcases uh HOG with h | ⟨k,h,hk⟩
    ·exact .inl h
    ·have:=uh HSZ2
     have h5:=uh HBX
     exact .inr ⟨k,h,by omega⟩
end
end Go.Proofs.YtahnliehdjncdaaGreatDoor
