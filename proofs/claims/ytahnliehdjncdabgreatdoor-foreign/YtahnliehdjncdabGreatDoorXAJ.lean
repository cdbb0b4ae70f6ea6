import Derived.Test.YtahnliehdjncdabGreatDoorXAI
import Derived.Test.YtahnliehdjncdabGreatDoorXAH
set_option maxRecDepth 100000
set_option maxHeartbeats 16000000
namespace Go.Proofs.YtahnliehdjncdabGreatDoor
section
open Go.RowKit
attribute [local go_sem ↓] qAd qAe
attribute [local go_sem] qAf qAl qAc qAb qAm qAn qAh qAk
def qQm(c:Cfg)(l:List Bk)(m:Int): List Bk:=l.drop (pastN l (m-c.window))
def qTd(c:Cfg)(l:List Bk)(t m:Int): List Bk:=qQm c l m++[⟨1,t⟩]
def zFa(c:Cfg)(l:List Bk)(t m:Int): List Bk:=joinL c.k ((qTd c l t m).length+1) (qTd c l t m) 1 (qTd c l t m).length
theorem zBv{c:Cfg}{l:List Bk}{m:Int}(t:Int)(h:BInv l)(hs:qDn l+1<=4611686018427387904)(hn:l.length+1<=4398046511104): BInv (qTd c l t m):=by
 unfold qTd;refine⟨λb hb=>?_,?_,by unfold qQm;rw[List.length_append,List.length_drop,List.length_singleton];omega⟩
 ·rcases List.mem_append.1 hb with hb | hb
  ·exact h.one b (List.mem_of_mem_drop hb)
  ·rw[List.mem_singleton]at hb;rw[hb];exact Int.le_refl _
 ·have h1:=qH0 l (pastN l (m-c.window))
  have h2:=qCr (l:=l.take (pastN l (m-c.window))) (λb hb=>h.one b (List.mem_of_mem_take hb));rw[qDg];unfold qQm;simp only[qDn];omega
theorem qN8(d r:Nat)(og:Option Nat)(c:Cfg)(l:List Bk)(x:It)(m:Int)(w:World)(h:CRep w d r og c l)(hi:BInv l)(hs:qDn l+1<=4611686018427387904)(hn:l.length+1<=4398046511104)(m0:-100<=m)(m1:m<=4611686018427387904)(w0:0<=c.window)(w1:c.window<=1000)(k1:1<=c.k)(k10:c.k<=10):
  Calls Tryz.prog 145 #[.pointer (some ⟨d,0,none⟩),x.val,.int .i64 m] w λe w'=>e=.returned (.tuple #[])/\∃og',CRep w' d r og' c (zFa c l x.t m)/\Keeps (λi=>i=r\/og=some i) w w'/\(og'=og\/∃k,og'=some k/\w.heap.size<=k):=by
 have hc20:w.cell? ⟨d,20,none⟩=some (.pointer (some ⟨r,0,none⟩)):=h.blk.cell rfl;have HC:=hide h;have HI:=hide hi;have hl:=hi.len;have HP:=hide (pastN_le l (m-c.window));have HL:=hide (zBv (c:=c) (m:=m) x.t hi hs hn);have HLL:=hide (show(qQm c l m).length<=4398046511104 from by have:=(hi.drop (pastN l (m-c.window))).len;exact this);have HRB:=hide (show zFa c l x.t m=joinL c.k ((qTd c l x.t m).length+1) (qTd c l x.t m) 1 (qTd c l x.t m).length from rfl);have HLV:=hide (show qQm c l m=l.drop (pastN l (m-c.window)) from rfl);have hlt:=h.blk.lt;clear h hi;unfold It.val;go_enter Tryz.func145,Tryz.ntmps145
 go_wp2_with fail
 have HX:=hide (Blk.new w [.int .i64 x.t,.int .i64 x.k,.int .i64 x.d,.int .i64 x.n] 88);have e0:(w.alloc (.cells [Value.int .i64 x.t,.int .i64 x.k,.int .i64 x.d,.int .i64 x.n].toArray 88))=(w.alloc (.cells #[.int .i64 x.t,.int .i64 x.k,.int .i64 x.d,.int .i64 x.n] 88)):=rfl;rw[e0]at HX;clear e0;have HC0:=hide ((uh HC).still ((Keeps.refl (λ_=>False) w).alloc (.cells #[.int .i64 x.t,.int .i64 x.k,.int .i64 x.d,.int .i64 x.n] 88)));have HK0:=hide ((Keeps.refl (λi=>i=r\/og=some i) w).alloc (.cells #[.int .i64 x.t,.int .i64 x.k,.int .i64 x.d,.int .i64 x.n] 88));generalize w.alloc (.cells #[.int .i64 x.t,.int .i64 x.k,.int .i64 x.d,.int .i64 x.n] 88)=W at *
 have HNX:=hide (show w.heap.size≠r/\∀g,og=some g->w.heap.size≠g from by
    have h1:=(uh HC).row.lt
    exact⟨by omega,λg hg=>by have:=h1.2 g hg;omega⟩)
 generalize hbx:w.heap.size=bx at *;have HBX:=hide hbx;clear hbx hc20;have hc20:W.cell? ⟨d,20,none⟩=some (.pointer (some ⟨r,0,none⟩)):=(uh HC0).blk.cell rfl;go_region_with (first | (go_at_call 183;refine(qW2 d r og c l m _ (by exact(uh HC0).still (Keeps.refl _ _).drew) hl m0 m1 w0 w1).mono ?_;rintro e W1 ⟨rfl,hkd⟩;have hc20d:=((uh HC0).still (((Keeps.refl (λ_=>False) W).drew).then hkd)).blk.cell (i:=20) rfl) | (go_at_call 182;refine(lose_any r og l (pastN l (m-c.window)) _ (by exact((uh HC0).still (((Keeps.refl (λ_=>False) W).drew).then hkd)).row) (uh HP)).mono ?_;rintro e W2 ⟨rfl,hr2,hk2⟩))
 all_goals
  have HC2:=hide (show CRep W2 d r og c (qQm c l m) from⟨(((uh HC0).blk.drew).keeps hkd (λh=>h)).keeps hk2 (λh=>h.elim (uh HC0).dr (λh=>(uh HC0).dg d h rfl)),by rw[uh HLV];exact hr2,(uh HC0).dr,(uh HC0).dg⟩);have HX2:=hide ((((uh HX).drew).keeps hkd (λh=>h)).keeps hk2 (λh=>h.elim (uh HNX).1 (λh=>(uh HNX).2 bx h rfl)));have HK2:=hide ((((uh HK0).drew).trans hkd (λ_ h _=>h.elim)).then hk2);clear hkd hk2 hr2 hc20;have hc20:W2.cell? ⟨d,20,none⟩=some (.pointer (some ⟨r,0,none⟩)):=(uh HC2).blk.cell rfl;have hx0:W2.cell? ⟨bx,0,none⟩=some (.int .i64 x.t):=(uh HX2).cell rfl;go_wp2_with fail
  go_region_with (go_at_call 184;refine(rowPut_any r og (qQm c l m) ⟨1,x.t⟩ _ (by exact(uh HC2).row.still (Keeps.refl _ _).drew) (uh HLL)).mono ?_;rintro e W3 ⟨rfl,og',hr3,hk3,hog⟩)
  all_goals
   have HC3:=hide (show CRep W3 d r og' c (qTd c l x.t m) from⟨((uh HC2).blk.drew).keeps hk3 (λh=>h.elim (uh HC2).dr (λh=>(uh HC2).dg d h rfl)),hr3,(uh HC2).dr,λg hg=>by
        rcases hog with h | ⟨k,h,hk⟩
        ·exact(uh HC2).dg g (by rw[<-h,hg])
        ·rw[hg]at h
         injection h with h;have:=(uh HC2).blk.lt;rw[World.size_drew]at hk
         omega⟩)
   have HK3:=hide (((uh HK2).drew).then hk3);have HOG:=hide (show og'=og\/∃k,og'=some k/\W2.heap.size<=k from hog);have HSZ2:=hide (uh HK2).size;clear hk3 hr3 hc20 hog;go_wp2_with fail
   refine(zD6 d r og' c _ W3 (uh HC3) (uh HL) k1 k10).mono ?_;rintro e W4 ⟨rfl,hc4,hk4⟩;go_wp2
   go_end0
   refine⟨rfl,og',by rw[uh HRB];exact hc4,(uh HK3).trans hk4 (λi hi hlt=>?_),?_⟩
   ·rcases hi with hi | hi
    ·exact .inl hi
    ·rcases uh HOG with h | ⟨k,h,hk⟩
     ·exact .inr (by rw[<-h,hi])
     ·rw[hi]at h
      injection h with h;have:=uh HSZ2;have h5:=uh HBX;omega
   ·rcases uh HOG with h | ⟨k,h,hk⟩
    ·exact .inl h
    ·have:=uh HSZ2
     have h5:=uh HBX;exact .inr ⟨k,h,by omega⟩
end
section
open Go.RowKit
attribute [local go_sem ↓] qAd qAe
attribute [local go_sem] qAf qAl qAc qAb qAm qAn qAh qAk
theorem qTe(d r:Nat)(og:Option Nat)(c:Cfg)(l:List Bk)(a m:Int)(w:World)(h:CRep w d r og c l)(ha:inB a 1 c.window=false):
  Calls Tryz.prog 146 #[.pointer (some ⟨d,0,none⟩),.int .i64 a,.int .i64 m] w λe w'=>e=.returned (.tuple #[.slice none 0 0,.int .i64 13])/\Keeps (λ_=>False) w w':=by
 have hc5:w.cell? ⟨d,5,none⟩=some (.int .i64 c.window):=h.blk.cell rfl;clear h;go_enter Tryz.func146,Tryz.ntmps146
 go_wp2_with (go_at_call 45;refine(qAg _ _ _ _).mono ?_;rintro e w' ⟨rfl,rfl⟩)
 go_ret2
 exact⟨rfl,Keeps.refl _ _⟩
theorem qSm(d r:Nat)(og:Option Nat)(c:Cfg)(l:List Bk)(a m:Int)(w:World)(h:CRep w d r og c l)(hi:BInv l)(ha:inB a 1 c.window=true)(m0:-100<=m)(m1:m<=4611686018427387904)(w1:c.window<=1000):
  Calls Tryz.prog 146 #[.pointer (some ⟨d,0,none⟩),.int .i64 a,.int .i64 m] w λe w'=>∃g,e=.returned (.tuple #[.slice (some ⟨g,0,none⟩) 1 1,.int .i64 0])/\w.heap.size<=g/\Blk w' g [.int .i64 (zIe l (m-a))] 3/\Keeps (λ_=>False) w w':=by
 have hc5:w.cell? ⟨d,5,none⟩=some (.int .i64 c.window):=h.blk.cell rfl;have HC:=hide h;have HI:=hide hi;have ha1:1<=a/\a<=c.window:=by simpa[inB] using ha
 obtain⟨a1,a2⟩:=ha1;have hwr:IntKind.i64.wrap (m-a)=m-a:=by rw[IntKind.wrap_i64];omega
 clear h hi;go_enter Tryz.func146,Tryz.ntmps146
 go_wp2_with (first | (go_at_call 45;refine(qAg _ _ _ _).mono ?_;rintro e w' ⟨rfl,rfl⟩) | fail)
 refine(qRr d r og c l (m-a) _ (uh HC) (uh HI)).mono ?_;rintro e w2 ⟨rfl,hk2⟩;have HK2:=hide hk2;clear hk2;go_wp2
 go_ret2
 exact⟨w2.heap.size,rfl,(uh HK2).size,Blk.new w2 [.int .i64 (zIe l (m-a))] 3,(uh HK2).alloc _⟩
def qD7(c:Cfg)(l:List Bk)(m b:Int): Int:=min (pastN l (m-c.window):Int) b
theorem qRx(d r:Nat)(og:Option Nat)(c:Cfg)(l:List Bk)(m b:Int)(w:World)(h:CRep w d r og c l)(hi:BInv l)(m0:-100<=m)(m1:m<=4611686018427387904)(w0:0<=c.window)(w1:c.window<=1000)(b0:0<=b)(b1:b<=100):
  Calls Tryz.prog 147 #[.pointer (some ⟨d,0,none⟩),.int .i64 m,.int .i64 b] w λe w'=>e=.returned (.tuple #[.int .i64 (qD7 c l m b),.int .i64 ((pastN l (m-c.window):Int)-qD7 c l m b)])/\CRep w' d r og c (l.drop (qD7 c l m b).toNat)/\Keeps (λi=>i=r\/og=some i) w w':=by
 have HC:=hide h;have hl:=hi.len;have hp:=pastN_le l (m-c.window);have HT:=hide (show qD7 c l m b=min (pastN l (m-c.window):Int) b from rfl);clear h hi;go_enter Tryz.func147,Tryz.ntmps147
 go_wp2_with fail
 refine(qW2 d r og c l m w (uh HC) hl m0 m1 w0 w1).mono ?_;rintro e W1 ⟨rfl,hk1⟩;have HC1:=hide ((uh HC).still hk1);have HK1:=hide hk1;clear hk1;generalize hpp:pastN l (m-c.window)=p at *;have HPP:=hide hpp;clear hpp;have hc20:W1.cell? ⟨d,20,none⟩=some (.pointer (some ⟨r,0,none⟩)):=(uh HC1).blk.cell rfl
 by_cases hbp:b<(p:Int)
 ·obtain⟨bn,rfl⟩:∃bn:Nat,b=(bn:Int):=⟨b.toNat,by omega⟩
  have HT2:=hide (show qD7 c l m bn=(bn:Int) by rw[uh HT];omega);have hwr:IntKind.i64.wrap ((p:Int)-(bn:Int))=(p:Int)-(bn:Int):=by rw[IntKind.wrap_i64];omega
  clear HT;go_wp2_with fail
  refine(lose_any r og l bn W1 (uh HC1).row (by omega)).mono ?_;rintro e W2 ⟨rfl,hr2,hk2⟩;have HC2:=hide (show CRep W2 d r og c (l.drop bn) from⟨(uh HC1).blk.keeps hk2 (λh=>h.elim (uh HC1).dr (λh=>(uh HC1).dg d h rfl)),hr2,(uh HC1).dr,(uh HC1).dg⟩);have HK2:=hide (((uh HK1).mono (M':=λi=>i=r\/og=some i) (λ_ _ h=>h.elim)).then hk2);clear hr2 hk2 hc20;go_wp2
  go_ret2
  refine⟨?_,?_,uh HK2⟩
  ·rw[uh HPP,uh HT2];rfl
  ·rw[uh HT2,Int.toNat_natCast];exact uh HC2
 ·have hbp':(p:Int)<=b:=by omega
  have HT2:=hide (show qD7 c l m b=(p:Int) by rw[uh HT];omega);have hwr:IntKind.i64.wrap ((p:Int)-(p:Int))=(p:Int)-(p:Int):=by rw[IntKind.wrap_i64];omega
  clear HT hbp;go_wp2_with fail
  refine(lose_any r og l p W1 (uh HC1).row hp).mono ?_;rintro e W2 ⟨rfl,hr2,hk2⟩;have HC2:=hide (show CRep W2 d r og c (l.drop p) from⟨(uh HC1).blk.keeps hk2 (λh=>h.elim (uh HC1).dr (λh=>(uh HC1).dg d h rfl)),hr2,(uh HC1).dr,(uh HC1).dg⟩);have HK2:=hide (((uh HK1).mono (M':=λi=>i=r\/og=some i) (λ_ _ h=>h.elim)).then hk2);clear hr2 hk2 hc20;go_wp2
  go_ret2
  refine⟨?_,?_,uh HK2⟩
  ·rw[uh HPP,uh HT2];simp
  ·rw[uh HT2,Int.toNat_natCast];exact uh HC2
def qPn(d:Nat): Value:=.func (.func 145) #[.pointer (some ⟨d,0,none⟩)] #[]
def qPj(d:Nat): Value:=.func (.func 149) #[.pointer (some ⟨d,0,none⟩)] #[]
def qPt(d:Nat): Value:=.func (.func 148) #[.pointer (some ⟨d,0,none⟩)] #[]
def qQg(d:Nat): Value:=.func (.func 146) #[.pointer (some ⟨d,0,none⟩)] #[]
def qPq(d:Nat): Value:=.func (.func 147) #[.pointer (some ⟨d,0,none⟩)] #[]
theorem qLr{w w':World}{b o n:Nat}(hk:Keeps (λ_=>False) w w')(hlt:b<w.heap.size): qAu w' b o n=qAu w b o n/\qA2 w' b o n=qA2 w b o n:=by
 have hc:∀j,w'.cell? ⟨b,o+j,none⟩=w.cell? ⟨b,o+j,none⟩:=λj=>World.cell?_of_block (a:=⟨b,o+j,none⟩) (hk.block b hlt (λh=>h))
 constructor
 ·unfold qAu qB0;simp only[hc]
 ·unfold qA2;simp only[hc]
def zFp(ty:TypeId)(ps:Array (Nat×Value)): Sem Next:=do pure (.value (<-Instr.build ty ps))
theorem qPf(ρ:Operand->Value)(dst:Option Tmp)(x:Array (Nat×Operand))(ty:TypeId)(pos:String)(after:Array Edge)(guard:Option (Nat×Bool)):
  execOp ρ { dst,op:=.build 217 x,type:=ty,pos,after,guard }=zFp 217 (x.map λ(i,y)=>(i,ρ y)):=rfl
theorem qXg(c:Cfg)(rb:Nat)(w:World):
  (zFp 217 #[(0,.agg c.cells.toArray),(1,.pointer (some ⟨rb,0,none⟩))]).run Tryz.prog w=.ok (.value (.agg (qO6 c rb).toArray)) w:=by kernel_rfl
attribute [local go_sem ↓] qPf
attribute [local go_sem] qXg
theorem qRk(c:Cfg)(w:World):
  Calls Tryz.prog 144 #[c.val] w λe w'=>∃d r,e=.returned (.pointer (some ⟨d,0,none⟩))/\w.heap.size<=d/\w.heap.size<=r/\CRep w' d r none c []/\Keeps (λ_=>False) w w':=by
 have HB:=hide (Blk.new w c.cells 32);have HK:=hide ((Keeps.refl (λ_=>False) w).alloc (.cells c.cells.toArray 32));have hex:∃W,W=w.alloc (.cells c.cells.toArray 32):=⟨_,rfl⟩;unfold Cfg.val;go_enter Tryz.func144,Tryz.ntmps144
 go_wp2_with fail
 obtain⟨W,hW⟩:=hex;have e0:w.alloc (.cells #[.int .i64 c.kind,.int .i64 c.lag,.int .i64 c.skew,.int .i64 c.cap,.int .i64 c.k,.int .i64 c.window,.int .i64 c.bits,.int .i64 c.rows,.int .i64 c.width,.int .i64 c.panes,.int .i64 c.size,.int .i64 c.degree,.int .i64 c.half,.int .i64 c.mark,.int .i64 c.s00,.int .i64 c.s01,.int .i64 c.s10,.int .i64 c.s11,.int .i64 c.s20,.int .i64 c.s21] 32)=W:=hW.symm;rw[e0];rw[<-hW]at HB HK;clear e0 hW;generalize hcb:w.heap.size=cb at *;have HCB:=hide hcb;clear hcb;have hsz0:cb<W.heap.size:=(uh HB).lt;obtain⟨hv,hh⟩:=qBl (uh HB) 20 rfl;go_region_held3 (λw'=>qAu w' cb 0 20=.agg c.cells.toArray/\qA2 w' cb 0 20=true)
  (first | (simp[*,qAc,qAb,qAi,qAj];done) | (go_split_ands;exact⟨(qLr hk1 (by simpa using hsz0)).1.trans (by assumption),(qLr hk1 (by simpa using hsz0)).2.trans (by assumption)⟩))
  (first | (go_at_call 180;refine(rowNew_any _).mono ?_;rintro e W1 ⟨rfl,hr1,hk1,hz1⟩))
 go_wp2
 go_ret
 have hk1':Keeps (λ_=>False) W W1:=((Keeps.refl _ _).drew).then hk1;have hka:∀O,Keeps (λ_=>False) W1 (W1.alloc O):=λO=>(Keeps.refl (λ_=>False) W1).alloc O
 have h2:=(uh HK).size;have h3:=uh HCB;have hz2:W1.heap.size=W.heap.size+1:=by simpa using hz1
 exact⟨W.heap.size+1,W.heap.size,rfl,by omega,by omega,⟨Blk.newAt hz2 (qO6 c W.heap.size) 217,hr1.still (hka _),by omega,λg hg=>by cases hg⟩,((uh HK).then hk1').alloc _⟩
theorem qN0(c:Cfg)(w:World):
  Calls Tryz.prog 107 #[c.val] w λe w'=>∃d r,e=.returned (.agg #[qPn d,qQg d,qPq d,qPt d,qPj d])/\w.heap.size<=d/\w.heap.size<=r/\CRep w' d r none c []/\Keeps (λ_=>False) w w':=by
 have HB:=hide (show Blk ((w.alloc (.cells c.cells.toArray 32)).alloc (.cells #[.nilFunc,.nilFunc,.nilFunc,.nilFunc,.nilFunc] 101)) w.heap.size c.cells 32 from(Blk.new w c.cells 32).alloc _);have HT:=hide (show Blk ((w.alloc (.cells c.cells.toArray 32)).alloc (.cells #[.nilFunc,.nilFunc,.nilFunc,.nilFunc,.nilFunc] 101)) (w.heap.size+1) [.nilFunc,.nilFunc,.nilFunc,.nilFunc,.nilFunc] 101 from Blk.newAt (by simp) _ _);have HK:=hide (((Keeps.refl (λ_=>False) w).alloc (.cells c.cells.toArray 32)).alloc (.cells #[.nilFunc,.nilFunc,.nilFunc,.nilFunc,.nilFunc] 101));have hex:∃W,W=(w.alloc (.cells c.cells.toArray 32)).alloc (.cells #[.nilFunc,.nilFunc,.nilFunc,.nilFunc,.nilFunc] 101):=⟨_,rfl⟩;unfold Cfg.val;go_enter Tryz.func107,Tryz.ntmps107
 go_wp2_with fail
 obtain⟨W,hW⟩:=hex;have e0:(w.alloc (.cells #[.int .i64 c.kind,.int .i64 c.lag,.int .i64 c.skew,.int .i64 c.cap,.int .i64 c.k,.int .i64 c.window,.int .i64 c.bits,.int .i64 c.rows,.int .i64 c.width,.int .i64 c.panes,.int .i64 c.size,.int .i64 c.degree,.int .i64 c.half,.int .i64 c.mark,.int .i64 c.s00,.int .i64 c.s01,.int .i64 c.s10,.int .i64 c.s11,.int .i64 c.s20,.int .i64 c.s21] 32)).alloc (.cells #[.nilFunc,.nilFunc,.nilFunc,.nilFunc,.nilFunc] 101)=W:=hW.symm;rw[e0];rw[<-hW]at HT HK;clear e0 hW HB;generalize hcb:w.heap.size=cb at *;have HCB:=hide hcb;clear hcb;refine(qRk c W).mono ?_;rintro e w2 ⟨d,r,rfl,hd,hr,hc2,hk2⟩;have HC2:=hide hc2;have HT2:=hide ((uh HT).keeps hk2 (λh=>h));have HK2:=hide ((uh HK).then hk2);have HSZ:=hide (uh HK).size;have HLT:=hide (uh HT).lt;clear hc2 hk2 HT HK;have f0:=(uh HT2).frozen;have q0:w2.cell? ⟨cb+1,0,none⟩=some .nilFunc:=(uh HT2).cell rfl;have q1:w2.cell? ⟨cb+1,1,none⟩=some .nilFunc:=(uh HT2).cell rfl;have q2:w2.cell? ⟨cb+1,2,none⟩=some .nilFunc:=(uh HT2).cell rfl;have q3:w2.cell? ⟨cb+1,3,none⟩=some .nilFunc:=(uh HT2).cell rfl;have q4:w2.cell? ⟨cb+1,4,none⟩=some .nilFunc:=(uh HT2).cell rfl;go_wp2
 have hcb:=uh HCB;have hsz:=uh HSZ;have hkf:Keeps (λi=>i=cb+1) w2 (((((w2.setCell ⟨cb+1,0,none⟩ (qPn d)).setCell ⟨cb+1,1,none⟩ (qQg d)).setCell ⟨cb+1,2,none⟩ (qPq d)).setCell ⟨cb+1,3,none⟩ (qPt d)).setCell ⟨cb+1,4,none⟩ (qPj d)):=(((((Keeps.refl (λi=>i=cb+1) w2).setCell (p:=⟨cb+1,0,none⟩) (Or.inl rfl) _).setCell (p:=⟨cb+1,1,none⟩) (Or.inl rfl) _).setCell (p:=⟨cb+1,2,none⟩) (Or.inl rfl) _).setCell (p:=⟨cb+1,3,none⟩) (Or.inl rfl) _).setCell (p:=⟨cb+1,4,none⟩) (Or.inl rfl) _;refine bodyPost_ret (v:=.agg #[qPn d,qQg d,qPq d,qPt d,qPj d]) (by simp[results,Tryz.results107,go_sem,q0,q1,q2,q3,q4,qPn,qQg,qPq,qPt,qPj]) rfl ⟨d,r,rfl,by omega,by omega,?_,?_⟩
 ·exact(uh HC2).keeps hkf (λh=>by have:=uh HLT;omega) (λh=>by have:=uh HLT;omega) (λg hg=>by cases hg)
 ·exact(uh HK2).trans hkf (λi hi hlt=>by omega)
end
end Go.Proofs.YtahnliehdjncdabGreatDoor
namespace Go.Proofs.YtahnliehdjncdabGreatDoor.Mk
open Go.RowKit
structure BRow (w:World) (g cap:Nat) (l:List Bk):Prop where
 ex:∃cur:List Value,Blk w g cur 225/\cur.length=cap*2/\cur.take (l.length*2)=qBu l
 le:l.length<=cap
 max:cap<=maxLen
theorem BRow.lt{w:World}{g cap:Nat}{l:List Bk}(h:BRow w g cap l): g<w.heap.size:=by obtain⟨cur,hb,_⟩:=h.ex;exact hb.lt
theorem BRow.keeps{M:Nat->Prop}{w w':World}{g cap:Nat}{l:List Bk}(h:BRow w g cap l)(k:Keeps M w w')(hn:¬M g): BRow w' g cap l:=by
 obtain⟨cur,hb,r⟩:=h.ex;exact⟨⟨cur,hb.keeps k hn,r⟩,h.le,h.max⟩
theorem BRow.cells{w:World}{g cap:Nat}{l:List Bk}(h:BRow w g cap l)(i:Nat)(hi:i<l.length):
  w.cell? ⟨g,i*2,none⟩=some (.int .i64 (qCf l i).sz)/\w.cell? ⟨g,i*2+1,none⟩=some (.int .i64 (qCf l i).t):=by
 obtain⟨cur,hb,hl,ht⟩:=h.ex;have hg:∀k,k<l.length*2->cur[k]?=(qBu l)[k]?:=λk hk=>by rw[<-ht,List.getElem?_take,if_pos hk]
 obtain⟨a,b⟩:=qRy l i hi;exact⟨hb.cell (by rw[hg _ (by omega)];exact a),hb.cell (by rw[hg _ (by omega)];exact b)⟩
theorem BRow.owns{w:World}{g cap:Nat}{l:List Bk}(h:BRow w g cap l): w.ownsRow 0 225 2 (.slice (some ⟨g,0,none⟩) l.length cap) l.length (qBu l):=by
 obtain⟨cur,hc,hl,ht⟩:=h.ex;exact⟨qC1 l,.inr ⟨g,cap,cur.toArray,rfl,Nat.zero_le _,hc,h.le,h.max,by simp[hl],by simpa using ht⟩⟩
theorem brow_of_owns{w:World}{g n cap:Nat}{l:List Bk}(hn:l.length=n)(h:w.ownsRow 0 225 2 (.slice (some ⟨g,0,none⟩) n cap) n (qBu l)): BRow w g cap l:=by
 rcases h.2 with ⟨h1,_⟩ | ⟨g',cap',cur,h1,_,h3,h4,h5,h6,h7⟩
 ·cases h1
 ·cases h1
  subst hn;exact⟨⟨cur.toList,by unfold Blk;simpa using h3,by simpa using h6,h7⟩,h4,h5⟩
theorem infoBk: (Tryz.prog.info? 225).map (λi=>(i.zero,i.size,i.bytes))=some (some (.agg #[.int .i64 0,.int .i64 0]),2,16):=by kernel_rfl
theorem qCo(w:World)(ty:TypeId)(b o n c:Nat)(cs:List Value)(h:Blk w b cs 225)(hn:0<n)(hl:o+n*2<=cs.length):
  (Builtin.clear_ #[273] ty #[.slice (some ⟨b,o,none⟩) n c]).run Tryz.prog w=.ok (.tuple #[]) (w.setCells b o (qCm n)):=by
 have hst:=run_storeCells_cells (P:=Tryz.prog) b o (qCm n) 0 w (λj hj=>h.some (by rw[qBo]at hj;omega)) (λj _=>h.frozen _) (qOm n);simp only[Nat.add_zero]at hst;obtain⟨m,rfl⟩:∃m,n=m+1:=⟨n-1,by omega⟩;simp[Builtin.clear_,run_underlying Tryz.underlying273,qJp,hst]
theorem qF2{w:World}{g cap n j:Nat}{l:List Bk}{cur:List Value}(hn:l.length=n)(hb:Blk w g cur 225)(hl:cur.length=cap*2)(hle:n<=cap)(hmax:cap<=maxLen)(hj:j<=n):
  BRow ((w.setCells g 0 (qBu (l.drop j))).setCells g ((n-j)*2) (qCm j)) g cap (l.drop j):=by
 have h1:(qBu (l.drop j)).length=(n-j)*2:=by rw[qC1];simp[hn]
 have hb1:=Blk.setCells (qBu (l.drop j)) 0 w cur hb (by rw[h1];omega);have hl1:(over cur 0 (qBu (l.drop j))).length=cap*2:=by rw[qBi (by rw[h1];omega),hl]
 have hb2:=Blk.setCells (qCm j) ((n-j)*2) _ _ hb1 (by rw[hl1,qBo];omega);refine⟨⟨_,hb2,by rw[qBi (by rw[hl1,qBo];omega),hl1],?_⟩,by simp[hn];omega,hmax⟩;have hlen:(l.drop j).length*2=(n-j)*2:=by simp[hn]
 rw[hlen];unfold over;rw[List.append_assoc,List.take_append_of_le_length (by simp[h1])];rw[List.take_take,Nat.min_self];simp only[List.take_zero,List.nil_append];rw[List.take_append_of_le_length (by omega),List.take_of_length_le (by omega)]
theorem qEk(w:World):
  Calls Tryz.prog 229 #[.slice none 0 0,.int .i64 0,.int .i64 0] w λe w'=>e=.returned (.slice none 0 0)/\w'=w:=by
 go_enter Tryz.func229,Tryz.ntmps229
 go_wp2
 go_ret
 exact⟨rfl,rfl⟩
theorem qDx(g cap n:Nat)(w:World)(hle:n<=cap):
  Calls Tryz.prog 229 #[.slice (some ⟨g,0,none⟩) n cap,.int .i64 0,.int .i64 0] w λe w'=>e=.returned (.slice (some ⟨g,0,none⟩) n cap)/\w'=w:=by
 have h0:(0:Int)<=(n:Int):=by omega
 have h1:(n:Int)<=(cap:Int):=by omega
 go_enter Tryz.func229,Tryz.ntmps229
 go_wp2
 go_ret
 exact⟨rfl,rfl⟩
theorem qGc(g cap n j:Nat)(l:List Bk)(w:World)(hn:l.length=n)(hr:BRow w g cap l)(hj0:0<j)(hj:j<=n):
  Calls Tryz.prog 229 #[.slice (some ⟨g,0,none⟩) n cap,.int .i64 0,.int .i64 j] w λe w'=>e=.returned (.slice (some ⟨g,0,none⟩) (n-j) cap)/\BRow w' g cap (l.drop j)/\Keeps (·=g) w w':=by
 obtain⟨cur,hb,hl,ht⟩:=hr.ex;have hle:=hr.le;rw[hn]at hle;have hmax:=hr.max;have hcap:cap<=9223372036854775807:=by unfold maxLen at hmax;omega
 have HFIN:=hide (qF2 (w:=w.drew) hn (by exact hb.drew) hl hle hmax hj);obtain⟨news,hnews⟩:∃news,news=qBu (l.drop j):=⟨_,rfl⟩;rw[<-hnews]at HFIN;have hlen:news.length=(n-j)*2:=by rw[hnews,qC1];simp[hn]
 have hget:∀t u,news[t]?=some u->w.cell? ⟨g,j*2+t,none⟩=some u:=by
  intro t u hu;refine hb.cell ?_;have htl:t<(n-j)*2:=by have:=(List.getElem?_eq_some_iff.1 hu).1;omega
  rw[hnews,qKp,List.getElem?_drop,<-ht,List.getElem?_take,if_pos (by omega)]at hu;exact hu
 obtain⟨A,hA,hsrc⟩:∃A:Addr,(if cap=j then some (⟨g,0,none⟩:Addr) else some ⟨g,j*2,none⟩)=some A/\Hid (∀t u,news[t]?=some u->w.drew.cell? (A.add t)=some u):=by
  by_cases h:cap=j
  ·refine⟨⟨g,0,none⟩,by simp[h],λt u hu=>?_⟩
   have h0:news.length=0:=by omega
   rw[List.length_eq_zero_iff.1 h0]at hu;simp at hu
  ·refine⟨⟨g,j*2,none⟩,by simp[h],λt u hu=>?_⟩
   rw[Addr.add_lit];exact hget t u hu
 have s1:Hid (news.length=(n-j)*2):=hlen;have s2:Hid (∀u∈news,u.oneCell'=true):=by rw[hnews];exact qMb _
 have s3:Hid (∀t,t<news.length->(w.drew.cell? ⟨g,0+0*2+t,none⟩).isSome=true/\w.drew.frozen? ⟨g,0+0*2+t,none⟩=false):=by
  intro t ht';exact⟨hb.some (by omega),hb.frozen _⟩
 obtain⟨W1,hW1⟩:∃W1,W1=w.drew.setCells g 0 news:=⟨_,rfl⟩;have hbW:Blk W1 g (over cur 0 news) 225:=by rw[hW1];exact Blk.setCells _ _ _ _ hb.drew (by omega)
 have hcl:∀ty,(Builtin.clear_ #[273] ty #[.slice (some ⟨g,(n-j)*2,none⟩) (n-(n-j)) (cap-(n-j))]).run Tryz.prog W1=.ok (.tuple #[]) (W1.setCells g ((n-j)*2) (qCm (n-(n-j)))) :=
  λty=>qCo W1 ty g _ _ _ _ hbW (by omega) (by rw[qBi (by omega)];omega)
 have hW:Hid (W1=w.drew.setCells g (0+0*2) news):=hW1;have HK:=hide (show Keeps (·=g) w W1 by rw[hW1];exact Keeps.setCells (M:=λx=>x=g) (Or.inl rfl) _ _ _ (Keeps.refl _ _).drew);rw[<-hW1]at HFIN;obtain⟨i0,hi0,hz0,hz1,hz2⟩:=info_parts infoBk;have hjc:j<=cap:=by omega
 have HNJ:=hide (show n-(n-j)=j by omega);clear hW1 hbW hget hnews hlen hb ht hl hr hn hmax hz0 hz2;go_enter Tryz.func229,Tryz.ntmps229
 go_wp2_with fail
 go_region_law (refine step_append_room rfl (.tmp 22) (.tmp 25) 273 rfl 225 i0 2 Tryz.underlying273 hi0 hz1 g 0 0 cap (by simp[Act.eval,Act.put]) A (n-j) (cap-j) news (by simp[Act.eval,Act.put]) s1.out hsrc.out s2.out (by omega) s3.out ?_;rw[<-hW.out])
 go_wp2
 go_ret
 refine⟨by simp,?_,?_⟩
 ·have:=uh HFIN;rw[uh HNJ];exact this
 ·exact Keeps.setCells (M:=λx=>x=g) (Or.inl rfl) _ _ _ (uh HK)
end Go.Proofs.YtahnliehdjncdabGreatDoor.Mk
