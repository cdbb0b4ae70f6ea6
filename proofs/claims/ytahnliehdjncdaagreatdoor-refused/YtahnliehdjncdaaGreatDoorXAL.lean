import Derived.Test.YtahnliehdjncdaaGreatDoorXAK
set_option maxRecDepth 100000
set_option maxHeartbeats 16000000
namespace Go.Proofs.YtahnliehdjncdaaGreatDoor
section
open Go.RowKit
attribute [local go_sem ↓] qAd qAe
attribute [local go_sem] qAf qAl qAc qAb qAn qAm qAg qAk
def qNz(c:Cfg)(l:List Bk)(m:Int): List Bk:=l.drop (pastN l (m-c.window))
def qRq(c:Cfg)(l:List Bk)(t m:Int): List Bk:=qNz c l m++[⟨1,t⟩]
def zCe(c:Cfg)(l:List Bk)(t m:Int): List Bk:=joinL c.k ((qRq c l t m).length+1) (qRq c l t m) 1 (qRq c l t m).length
theorem qYn{c:Cfg}{l:List Bk}{m:Int}(t:Int)(h:BInv l)(hs:qD2 l+1<=4611686018427387904)(hn:l.length+1<=4398046511104): BInv (qRq c l t m):=by
 unfold qRq
 refine⟨λb hb=>?_,?_,by unfold qNz;rw[List.length_append,List.length_drop,List.length_singleton];omega⟩
 ·rcases List.mem_append.1 hb with hb | hb
  ·exact h.one b (List.mem_of_mem_drop hb)
  ·rw[List.mem_singleton]at hb;rw[hb];exact Int.le_refl _
 ·have h1:=qG6 l (pastN l (m-c.window))
  have h2:=qDs (l:=l.take (pastN l (m-c.window))) (λb hb=>h.one b (List.mem_of_mem_take hb))
  rw[qEc]
  unfold qNz
  simp only[qD2]
  omega
theorem qL9(d r:Nat)(og:Option Nat)(c:Cfg)(l:List Bk)(x:It)(m:Int)(w:World)(h:CRep w d r og c l)(hi:BInv l)(hs:qD2 l+1<=4611686018427387904)(hn:l.length+1<=4398046511104)(m0:-100<=m)(m1:m<=4611686018427387904)(w0:0<=c.window)(w1:c.window<=1000)(k1:1<=c.k)(k10:c.k<=10):
  Calls Tryz.prog 158 #[.pointer (some ⟨d,0,none⟩),x.val,.int .i64 m] w λe w'=>e=.returned (.tuple #[])/\∃og',CRep w' d r og' c (zCe c l x.t m)/\Keeps (λi=>i=r\/og=some i) w w'/\(og'=og\/∃k,og'=some k/\w.heap.size<=k):=by
 have hc20:w.cell? ⟨d,20,none⟩=some (.pointer (some ⟨r,0,none⟩)):=h.blk.cell rfl
 have HC:=hide h
 have HI:=hide hi
 have hl:=hi.len
 have HP:=hide (pastN_le l (m-c.window))
 have HL:=hide (qYn (c:=c) (m:=m) x.t hi hs hn)
 have HLL:=hide (show(qNz c l m).length<=4398046511104 from by have:=(hi.drop (pastN l (m-c.window))).len;exact this)
 have HRB:=hide (show zCe c l x.t m=joinL c.k ((qRq c l x.t m).length+1) (qRq c l x.t m) 1 (qRq c l x.t m).length from rfl)
 have HLV:=hide (show qNz c l m=l.drop (pastN l (m-c.window)) from rfl)
 have hlt:=h.blk.lt
 clear h hi
 unfold It.val
 go_enter Tryz.func158,Tryz.ntmps158
 go_wp2_with fail
 have HX:=hide (Blk.new w [.int .i64 x.t,.int .i64 x.k,.int .i64 x.d,.int .i64 x.n] 87)
 have e0:(w.alloc (.cells [Value.int .i64 x.t,.int .i64 x.k,.int .i64 x.d,.int .i64 x.n].toArray 87))=(w.alloc (.cells #[.int .i64 x.t,.int .i64 x.k,.int .i64 x.d,.int .i64 x.n] 87)):=rfl
 rw[e0]at HX
 clear e0
 have HC0:=hide ((uh HC).still ((Keeps.refl (λ_=>False) w).alloc (.cells #[.int .i64 x.t,.int .i64 x.k,.int .i64 x.d,.int .i64 x.n] 87)))
 have HK0:=hide ((Keeps.refl (λi=>i=r\/og=some i) w).alloc (.cells #[.int .i64 x.t,.int .i64 x.k,.int .i64 x.d,.int .i64 x.n] 87))
 generalize w.alloc (.cells #[.int .i64 x.t,.int .i64 x.k,.int .i64 x.d,.int .i64 x.n] 87)=W at *
 have HNX:=hide (show w.heap.size≠r/\∀g,og=some g->w.heap.size≠g from by
    have h1:=(uh HC).row.lt
    exact⟨by omega,λg hg=>by have:=h1.2 g hg;omega⟩)
 generalize hbx:w.heap.size=bx at *
 have HBX:=hide hbx
 clear hbx hc20
 have hc20:W.cell? ⟨d,20,none⟩=some (.pointer (some ⟨r,0,none⟩)):=(uh HC0).blk.cell rfl
 go_region_with (first | (go_at_call 196;refine(qUp d r og c l m _ (by exact(uh HC0).still (Keeps.refl _ _).drew) hl m0 m1 w0 w1).mono ?_;rintro e W1 ⟨rfl,hkd⟩;have hc20d:=((uh HC0).still (((Keeps.refl (λ_=>False) W).drew).then hkd)).blk.cell (i:=20) rfl) | (go_at_call 195;refine(lose_any r og l (pastN l (m-c.window)) _ (by exact((uh HC0).still (((Keeps.refl (λ_=>False) W).drew).then hkd)).row) (uh HP)).mono ?_;rintro e W2 ⟨rfl,hr2,hk2⟩))
 all_goals
  have HC2:=hide (show CRep W2 d r og c (qNz c l m) from⟨(((uh HC0).blk.drew).keeps hkd (λh=>h)).keeps hk2 (λh=>h.elim (uh HC0).dr (λh=>(uh HC0).dg d h rfl)),by rw[uh HLV];exact hr2,(uh HC0).dr,(uh HC0).dg⟩)
  have HX2:=hide ((((uh HX).drew).keeps hkd (λh=>h)).keeps hk2 (λh=>h.elim (uh HNX).1 (λh=>(uh HNX).2 bx h rfl)))
  have HK2:=hide ((((uh HK0).drew).trans hkd (λ_ h _=>h.elim)).then hk2)
  clear hkd hk2 hr2 hc20
  have hc20:W2.cell? ⟨d,20,none⟩=some (.pointer (some ⟨r,0,none⟩)):=(uh HC2).blk.cell rfl
  have hx0:W2.cell? ⟨bx,0,none⟩=some (.int .i64 x.t):=(uh HX2).cell rfl
  go_wp2_with fail
  go_region_with (go_at_call 197;refine(rowPut_any r og (qNz c l m) ⟨1,x.t⟩ _ (by exact(uh HC2).row.still (Keeps.refl _ _).drew) (uh HLL)).mono ?_;rintro e W3 ⟨rfl,og',hr3,hk3,hog⟩)
  all_goals
   have HC3:=hide (show CRep W3 d r og' c (qRq c l x.t m) from⟨((uh HC2).blk.drew).keeps hk3 (λh=>h.elim (uh HC2).dr (λh=>(uh HC2).dg d h rfl)),hr3,(uh HC2).dr,λg hg=>by
        rcases hog with h | ⟨k,h,hk⟩
        ·exact(uh HC2).dg g (by rw[<-h,hg])
        ·rw[hg]at h
         injection h with h
         have:=(uh HC2).blk.lt
         rw[World.size_drew]at hk
         omega⟩)
   have HK3:=hide (((uh HK2).drew).then hk3)
   have HOG:=hide (show og'=og\/∃k,og'=some k/\W2.heap.size<=k from hog)
   have HSZ2:=hide (uh HK2).size
   clear hk3 hr3 hc20 hog
   go_wp2_with fail
   refine(zBo d r og' c _ W3 (uh HC3) (uh HL) k1 k10).mono ?_
   rintro e W4 ⟨rfl,hc4,hk4⟩
   go_wp2
   go_end0
   refine⟨rfl,og',by rw[uh HRB];exact hc4,(uh HK3).trans hk4 (λi hi hlt=>?_),?_⟩
   ·rcases hi with hi | hi
    ·exact .inl hi
    ·rcases uh HOG with h | ⟨k,h,hk⟩
     ·exact .inr (by rw[<-h,hi])
     ·rw[hi]at h
      injection h with h
      have:=uh HSZ2
      have h5:=uh HBX
      omega
   ·rcases uh HOG with h | ⟨k,h,hk⟩
    ·exact .inl h
    ·have:=uh HSZ2
     have h5:=uh HBX
     exact .inr ⟨k,h,by omega⟩
end
section
open Go.RowKit
attribute [local go_sem ↓] qAd qAe
attribute [local go_sem] qAf qAl qAc qAb qAn qAm qAg qAk
theorem qSn(d r:Nat)(og:Option Nat)(c:Cfg)(l:List Bk)(a m:Int)(w:World)(h:CRep w d r og c l)(ha:inB a 1 c.window=false):
  Calls Tryz.prog 159 #[.pointer (some ⟨d,0,none⟩),.int .i64 a,.int .i64 m] w λe w'=>e=.returned (.tuple #[.slice none 0 0,.int .i64 13])/\Keeps (λ_=>False) w w':=by
 have hc5:w.cell? ⟨d,5,none⟩=some (.int .i64 c.window):=h.blk.cell rfl
 clear h
 go_enter Tryz.func159,Tryz.ntmps159
 go_wp2_with (go_at_call 58;refine(qAh _ _ _ _).mono ?_;rintro e w' ⟨rfl,rfl⟩)
 go_ret2
 exact⟨rfl,Keeps.refl _ _⟩
theorem qPz(d r:Nat)(og:Option Nat)(c:Cfg)(l:List Bk)(a m:Int)(w:World)(h:CRep w d r og c l)(hi:BInv l)(ha:inB a 1 c.window=true)(m0:-100<=m)(m1:m<=4611686018427387904)(w1:c.window<=1000):
  Calls Tryz.prog 159 #[.pointer (some ⟨d,0,none⟩),.int .i64 a,.int .i64 m] w λe w'=>∃g,e=.returned (.tuple #[.slice (some ⟨g,0,none⟩) 1 1,.int .i64 0])/\w.heap.size<=g/\Blk w' g [.int .i64 (zEj l (m-a))] 3/\Keeps (λ_=>False) w w':=by
 have hc5:w.cell? ⟨d,5,none⟩=some (.int .i64 c.window):=h.blk.cell rfl
 have HC:=hide h
 have HI:=hide hi
 have ha1:1<=a/\a<=c.window:=by simpa[inB] using ha
 obtain⟨a1,a2⟩:=ha1
 have hwr:IntKind.i64.wrap (m-a)=m-a:=by rw[IntKind.wrap_i64];omega
 clear h hi
 go_enter Tryz.func159,Tryz.ntmps159
 go_wp2_with (first | (go_at_call 58;refine(qAh _ _ _ _).mono ?_;rintro e w' ⟨rfl,rfl⟩) | fail)
 refine(qQp d r og c l (m-a) _ (uh HC) (uh HI)).mono ?_
 rintro e w2 ⟨rfl,hk2⟩
 have HK2:=hide hk2
 clear hk2
 go_wp2
 go_ret2
 exact⟨w2.heap.size,rfl,(uh HK2).size,Blk.new w2 [.int .i64 (zEj l (m-a))] 3,(uh HK2).alloc _⟩
def qD1(c:Cfg)(l:List Bk)(m b:Int): Int:=min (pastN l (m-c.window):Int) b
theorem qPm(d r:Nat)(og:Option Nat)(c:Cfg)(l:List Bk)(m b:Int)(w:World)(h:CRep w d r og c l)(hi:BInv l)(m0:-100<=m)(m1:m<=4611686018427387904)(w0:0<=c.window)(w1:c.window<=1000)(b0:0<=b)(b1:b<=100):
  Calls Tryz.prog 160 #[.pointer (some ⟨d,0,none⟩),.int .i64 m,.int .i64 b] w λe w'=>e=.returned (.tuple #[.int .i64 (qD1 c l m b),.int .i64 ((pastN l (m-c.window):Int)-qD1 c l m b)])/\CRep w' d r og c (l.drop (qD1 c l m b).toNat)/\Keeps (λi=>i=r\/og=some i) w w':=by
 have HC:=hide h
 have hl:=hi.len
 have hp:=pastN_le l (m-c.window)
 have HT:=hide (show qD1 c l m b=min (pastN l (m-c.window):Int) b from rfl)
 clear h hi
 go_enter Tryz.func160,Tryz.ntmps160
 go_wp2_with fail
 refine(qUp d r og c l m w (uh HC) hl m0 m1 w0 w1).mono ?_
 rintro e W1 ⟨rfl,hk1⟩
 have HC1:=hide ((uh HC).still hk1)
 have HK1:=hide hk1
 clear hk1
 generalize hpp:pastN l (m-c.window)=p at *
 have HPP:=hide hpp
 clear hpp
 have hc20:W1.cell? ⟨d,20,none⟩=some (.pointer (some ⟨r,0,none⟩)):=(uh HC1).blk.cell rfl
 by_cases hbp:b<(p:Int)
 ·obtain⟨bn,rfl⟩:∃bn:Nat,b=(bn:Int):=⟨b.toNat,by omega⟩
  have HT2:=hide (show qD1 c l m bn=(bn:Int) by rw[uh HT];omega)
  have hwr:IntKind.i64.wrap ((p:Int)-(bn:Int))=(p:Int)-(bn:Int):=by rw[IntKind.wrap_i64];omega
  clear HT
  go_wp2_with fail
  refine(lose_any r og l bn W1 (uh HC1).row (by omega)).mono ?_
  rintro e W2 ⟨rfl,hr2,hk2⟩
  have HC2:=hide (show CRep W2 d r og c (l.drop bn) from⟨(uh HC1).blk.keeps hk2 (λh=>h.elim (uh HC1).dr (λh=>(uh HC1).dg d h rfl)),hr2,(uh HC1).dr,(uh HC1).dg⟩)
  have HK2:=hide (((uh HK1).mono (M':=λi=>i=r\/og=some i) (λ_ _ h=>h.elim)).then hk2)
  clear hr2 hk2 hc20
  go_wp2
  go_ret2
  refine⟨?_,?_,uh HK2⟩
  ·rw[uh HPP,uh HT2];rfl
  ·rw[uh HT2,Int.toNat_natCast];exact uh HC2
 ·have hbp':(p:Int)<=b:=by omega
  have HT2:=hide (show qD1 c l m b=(p:Int) by rw[uh HT];omega)
  have hwr:IntKind.i64.wrap ((p:Int)-(p:Int))=(p:Int)-(p:Int):=by rw[IntKind.wrap_i64];omega
  clear HT hbp
  go_wp2_with fail
  refine(lose_any r og l p W1 (uh HC1).row hp).mono ?_
  rintro e W2 ⟨rfl,hr2,hk2⟩
  have HC2:=hide (show CRep W2 d r og c (l.drop p) from⟨(uh HC1).blk.keeps hk2 (λh=>h.elim (uh HC1).dr (λh=>(uh HC1).dg d h rfl)),hr2,(uh HC1).dr,(uh HC1).dg⟩)
  have HK2:=hide (((uh HK1).mono (M':=λi=>i=r\/og=some i) (λ_ _ h=>h.elim)).then hk2)
  clear hr2 hk2 hc20
  go_wp2
  go_ret2
  refine⟨?_,?_,uh HK2⟩
  ·rw[uh HPP,uh HT2];simp
  ·rw[uh HT2,Int.toNat_natCast];exact uh HC2
def qO9(d:Nat): Value:=.func (.func 158) #[.pointer (some ⟨d,0,none⟩)] #[]
def qNm(d:Nat): Value:=.func (.func 162) #[.pointer (some ⟨d,0,none⟩)] #[]
def qOd(d:Nat): Value:=.func (.func 161) #[.pointer (some ⟨d,0,none⟩)] #[]
def qOs(d:Nat): Value:=.func (.func 159) #[.pointer (some ⟨d,0,none⟩)] #[]
def qOb(d:Nat): Value:=.func (.func 160) #[.pointer (some ⟨d,0,none⟩)] #[]
theorem qK9{w w':World}{b o n:Nat}(hk:Keeps (λ_=>False) w w')(hlt:b<w.heap.size): qAp w' b o n=qAp w b o n/\qAu w' b o n=qAu w b o n:=by
 have hc:∀j,w'.cell? ⟨b,o+j,none⟩=w.cell? ⟨b,o+j,none⟩:=λj=>World.cell?_of_block (a:=⟨b,o+j,none⟩) (hk.block b hlt (λh=>h))
 constructor
 ·unfold qAp qBs;simp only[hc]
 ·unfold qAu;simp only[hc]
def zB3(ty:TypeId)(ps:Array (Nat×Value)): Sem Next:=do pure (.value (<-Instr.build ty ps))
theorem qN7(ρ:Operand->Value)(dst:Option Tmp)(x:Array (Nat×Operand))(ty:TypeId)(pos:String)(after:Array Edge)(guard:Option (Nat×Bool)):
  execOp ρ { dst,op:=.build 214 x,type:=ty,pos,after,guard }=zB3 214 (x.map λ(i,y)=>(i,ρ y)):=rfl
theorem qWc(c:Cfg)(rb:Nat)(w:World):
  (zB3 214 #[(0,.agg c.cells.toArray),(1,.pointer (some ⟨rb,0,none⟩))]).run Tryz.prog w=.ok (.value (.agg (qNo c rb).toArray)) w:=by kernel_rfl
attribute [local go_sem ↓] qN7
attribute [local go_sem] qWc
theorem qRb(c:Cfg)(w:World):
  Calls Tryz.prog 157 #[c.val] w λe w'=>∃d r,e=.returned (.pointer (some ⟨d,0,none⟩))/\w.heap.size<=d/\w.heap.size<=r/\CRep w' d r none c []/\Keeps (λ_=>False) w w':=by
 have HB:=hide (Blk.new w c.cells 38)
 have HK:=hide ((Keeps.refl (λ_=>False) w).alloc (.cells c.cells.toArray 38))
 have hex:∃W,W=w.alloc (.cells c.cells.toArray 38):=⟨_,rfl⟩
 unfold Cfg.val
 go_enter Tryz.func157,Tryz.ntmps157
 go_wp2_with fail
 obtain⟨W,hW⟩:=hex
 have e0:w.alloc (.cells #[.int .i64 c.kind,.int .i64 c.lag,.int .i64 c.skew,.int .i64 c.cap,.int .i64 c.k,.int .i64 c.window,.int .i64 c.bits,.int .i64 c.rows,.int .i64 c.width,.int .i64 c.panes,.int .i64 c.size,.int .i64 c.degree,.int .i64 c.half,.int .i64 c.mark,.int .i64 c.s00,.int .i64 c.s01,.int .i64 c.s10,.int .i64 c.s11,.int .i64 c.s20,.int .i64 c.s21] 38)=W:=hW.symm
 rw[e0]
 rw[<-hW]at HB HK
 clear e0 hW
 generalize hcb:w.heap.size=cb at *
 have HCB:=hide hcb
 clear hcb
 have hsz0:cb<W.heap.size:=(uh HB).lt
 obtain⟨hv,hh⟩:=qBf (uh HB) 20 rfl
 go_region_held3 (λw'=>qAp w' cb 0 20=.agg c.cells.toArray/\qAu w' cb 0 20=true)
  (first | (simp[*,qAc,qAb,qAi,qAj];done) | (go_split_ands;exact⟨(qK9 hk1 (by simpa using hsz0)).1.trans (by assumption),(qK9 hk1 (by simpa using hsz0)).2.trans (by assumption)⟩))
  (first | (go_at_call 193;refine(rowNew_any _).mono ?_;rintro e W1 ⟨rfl,hr1,hk1,hz1⟩))
 go_wp2
 go_ret
 have hk1':Keeps (λ_=>False) W W1:=((Keeps.refl _ _).drew).then hk1
 have hka:∀O,Keeps (λ_=>False) W1 (W1.alloc O):=λO=>(Keeps.refl (λ_=>False) W1).alloc O
 have h2:=(uh HK).size
 have h3:=uh HCB
 have hz2:W1.heap.size=W.heap.size+1:=by simpa using hz1
 exact⟨W.heap.size+1,W.heap.size,rfl,by omega,by omega,⟨Blk.newAt hz2 (qNo c W.heap.size) 214,hr1.still (hka _),by omega,λg hg=>by cases hg⟩,((uh HK).then hk1').alloc _⟩
theorem qMi(c:Cfg)(w:World):
  Calls Tryz.prog 120 #[c.val] w λe w'=>∃d r,e=.returned (.agg #[qO9 d,qOs d,qOb d,qOd d,qNm d])/\w.heap.size<=d/\w.heap.size<=r/\CRep w' d r none c []/\Keeps (λ_=>False) w w':=by
 have HB:=hide (show Blk ((w.alloc (.cells c.cells.toArray 38)).alloc (.cells #[.nilFunc,.nilFunc,.nilFunc,.nilFunc,.nilFunc] 100)) w.heap.size c.cells 38 from(Blk.new w c.cells 38).alloc _)
 have HT:=hide (show Blk ((w.alloc (.cells c.cells.toArray 38)).alloc (.cells #[.nilFunc,.nilFunc,.nilFunc,.nilFunc,.nilFunc] 100)) (w.heap.size+1) [.nilFunc,.nilFunc,.nilFunc,.nilFunc,.nilFunc] 100 from Blk.newAt (by simp) _ _)
 have HK:=hide (((Keeps.refl (λ_=>False) w).alloc (.cells c.cells.toArray 38)).alloc (.cells #[.nilFunc,.nilFunc,.nilFunc,.nilFunc,.nilFunc] 100))
 have hex:∃W,W=(w.alloc (.cells c.cells.toArray 38)).alloc (.cells #[.nilFunc,.nilFunc,.nilFunc,.nilFunc,.nilFunc] 100):=⟨_,rfl⟩
 unfold Cfg.val
 go_enter Tryz.func120,Tryz.ntmps120
 go_wp2_with fail
 obtain⟨W,hW⟩:=hex
 have e0:(w.alloc (.cells #[.int .i64 c.kind,.int .i64 c.lag,.int .i64 c.skew,.int .i64 c.cap,.int .i64 c.k,.int .i64 c.window,.int .i64 c.bits,.int .i64 c.rows,.int .i64 c.width,.int .i64 c.panes,.int .i64 c.size,.int .i64 c.degree,.int .i64 c.half,.int .i64 c.mark,.int .i64 c.s00,.int .i64 c.s01,.int .i64 c.s10,.int .i64 c.s11,.int .i64 c.s20,.int .i64 c.s21] 38)).alloc (.cells #[.nilFunc,.nilFunc,.nilFunc,.nilFunc,.nilFunc] 100)=W:=hW.symm
 rw[e0]
 rw[<-hW]at HT HK
 clear e0 hW HB
 generalize hcb:w.heap.size=cb at *
 have HCB:=hide hcb
 clear hcb
 refine(qRb c W).mono ?_
 rintro e w2 ⟨d,r,rfl,hd,hr,hc2,hk2⟩
 have HC2:=hide hc2
 have HT2:=hide ((uh HT).keeps hk2 (λh=>h))
 have HK2:=hide ((uh HK).then hk2)
 have HSZ:=hide (uh HK).size
 have HLT:=hide (uh HT).lt
 clear hc2 hk2 HT HK
 have f0:=(uh HT2).frozen
 have q0:w2.cell? ⟨cb+1,0,none⟩=some .nilFunc:=(uh HT2).cell rfl
 have q1:w2.cell? ⟨cb+1,1,none⟩=some .nilFunc:=(uh HT2).cell rfl
 have q2:w2.cell? ⟨cb+1,2,none⟩=some .nilFunc:=(uh HT2).cell rfl
 have q3:w2.cell? ⟨cb+1,3,none⟩=some .nilFunc:=(uh HT2).cell rfl
 have q4:w2.cell? ⟨cb+1,4,none⟩=some .nilFunc:=(uh HT2).cell rfl
 go_wp2
 have hcb:=uh HCB
 have hsz:=uh HSZ
 have hkf:Keeps (λi=>i=cb+1) w2 (((((w2.setCell ⟨cb+1,0,none⟩ (qO9 d)).setCell ⟨cb+1,1,none⟩ (qOs d)).setCell ⟨cb+1,2,none⟩ (qOb d)).setCell ⟨cb+1,3,none⟩ (qOd d)).setCell ⟨cb+1,4,none⟩ (qNm d)):=(((((Keeps.refl (λi=>i=cb+1) w2).setCell (p:=⟨cb+1,0,none⟩) (Or.inl rfl) _).setCell (p:=⟨cb+1,1,none⟩) (Or.inl rfl) _).setCell (p:=⟨cb+1,2,none⟩) (Or.inl rfl) _).setCell (p:=⟨cb+1,3,none⟩) (Or.inl rfl) _).setCell (p:=⟨cb+1,4,none⟩) (Or.inl rfl) _
 refine bodyPost_ret (v:=.agg #[qO9 d,qOs d,qOb d,qOd d,qNm d]) (by simp[results,Tryz.results120,go_sem,q0,q1,q2,q3,q4,qO9,qOs,qOb,qOd,qNm]) rfl ⟨d,r,rfl,by omega,by omega,?_,?_⟩
 ·exact(uh HC2).keeps hkf (λh=>by have:=uh HLT;omega) (λh=>by have:=uh HLT;omega) (λg hg=>by cases hg)
 ·exact(uh HK2).trans hkf (λi hi hlt=>by omega)
end
end Go.Proofs.YtahnliehdjncdaaGreatDoor
