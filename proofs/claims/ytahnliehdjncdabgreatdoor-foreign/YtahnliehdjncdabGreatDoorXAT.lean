import Derived.Test.YtahnliehdjncdabGreatDoorXAS
import Derived.Test.YtahnliehdjncdabGreatDoorXAN
import Derived.Test.YtahnliehdjncdabGreatDoorXAJ
import Derived.Test.YtahnliehdjncdabGreatDoorXAL
import Derived.Test.YtahnliehdjncdabGreatDoorXAB
import Derived.Test.YtahnliehdjncdabGreatDoorXAR
import Derived.Test.YtahnliehdjncdabGreatDoorXAF
set_option maxRecDepth 100000
set_option maxHeartbeats 16000000
namespace Go.Proofs.YtahnliehdjncdabGreatDoor
section
open Go.RowKit
theorem zAk(q:Nat)(og:Option Nat)(l:List Dr.It)(w:World)(h:Dr.QRep w q og l)(hl:l.length<=900):
  Calls Tryz.prog 219 #[.pointer (some ⟨q,0,none⟩)] w λe w'=>∃g cp,e=.returned (.slice (some ⟨g,0,none⟩) l.length cp)/\w.heap.size<=g/\Dr.IRow w' g cp (Dr.allL (l.length+1) l)/\(Dr.allL (l.length+1) l).length=l.length/\Keeps (λ_=>False) w w':=by
 cases og with
 | none =>
  obtain⟨rfl,hb⟩:=h;refine(Dr.all_none q w ⟨rfl,hb⟩).mono ?_;rintro e w' ⟨g,cp,rfl,hg,hr,hk⟩;exact⟨g,cp,rfl,hg,hr,rfl,hk⟩
 | some g=>exact Dr.all_some q g l w h hl
theorem qJ8{w:World}{base base':Nat}{v:Value}{n:Nat}{xs:List Value}(h:w.ownsRow base 3 1 v n xs)(hb:base'<=base): w.ownsRow base' 3 1 v n xs:=by
 rcases h.2 with ⟨h1,h2⟩ | ⟨g,cap,cur,h1,h2,h3⟩
 ·exact⟨h.1,.inl ⟨h1,h2⟩⟩
 ·exact⟨h.1,.inr ⟨g,cap,cur,h1,Nat.le_trans hb h2,h3⟩⟩
def three(l:List Dr.It): List Int:=l.flatMap λx=>[x.t,x.k,x.d]
theorem qHb(a b:List Dr.It): three (a++b)=three a++three b:=by simp[three]
theorem qDl(l:List Dr.It): (three l).length=3*l.length:=by
 induction l with
 | nil=>rfl
 | cons x l ih=>simp[three]at ih ⊢;omega
def qTy(s:Nat)(r:List Dr.It): Dr.It:=if s<r.length then Dr.itAt r s else⟨0,0,0,0,0⟩
def qT1(c:Cfg)(l:List Dr.It): List Int :=
 let r:=(Dr.allL (l.length+1) l).reverse
 three (r.take (min c.size.toNat r.length))++[(qTy c.size.toNat r).v,(qTy c.size.toNat r).d]
theorem qSe(d q:Nat)(og:Option Nat)(c:Cfg)(l:List Dr.It)(a m:Int)(w:World)(h:TRep w d q og c l)(s0:1<=c.size)(s1:c.size<=5)(hl:l.length<=6):
  Calls Tryz.prog 171 #[.pointer (some ⟨d,0,none⟩),.int .i64 a,.int .i64 m] w λe w'=>∃g cp,e=.returned (.tuple #[.slice (some ⟨g,0,none⟩) (qT1 c l).length cp,.int .i64 0]) /\
   w'.ownsRow w.heap.size 3 1 (.slice (some ⟨g,0,none⟩) (qT1 c l).length cp) (qT1 c l).length (qAv (qT1 c l))/\Keeps (λ_=>False) w w':=by
 have HT:=hide h;have c20:w.cell? ⟨d,20,none⟩=some (.pointer (some ⟨q,0,none⟩)):=h.blk.cell rfl;have hqr:=h.que;clear h;go_enter Tryz.func171,Tryz.ntmps171
 go_wp2_with fail
 refine(zAk q og l w hqr (by omega)).mono ?_;rintro e W1 ⟨g,cp,rfl,hg,hr1,hlen,hk1⟩;obtain⟨n,hn⟩:∃n,n=l.length:=⟨_,rfl⟩;rw[<-hn]at hr1 hlen ⊢;have HRev:=hide (Dr.reverse_any g cp n (Dr.allL (n+1) l) W1 hlen (by omega) hr1);have HK1:=hide hk1;have HN:=hide hn;have HLEN:=hide hlen;have hn6:n<=6:=by omega
 clear hr1 hk1 hqr c20 hn hlen;go_wp2_with fail
 refine(uh HRev).mono ?_;rintro e W2 ⟨rfl,hr2,hk2⟩;have HK2:=hide ((uh HK1).trans hk2 (λi hi hlt=>by omega));obtain⟨r,hr⟩:∃r,r=(Dr.allL (n+1) l).reverse:=⟨_,rfl⟩;rw[<-hr]at hr2;have HQ:=hide (show qT1 c l=three (r.take (min c.size.toNat r.length))++[(qTy c.size.toNat r).v,(qTy c.size.toNat r).d] by unfold qT1;rw[<-uh HN,<-hr]);have HRL:=hide (show r.length=n by rw[hr];simp[uh HLEN]);have HR2:=hide hr2;have c10:W2.cell? ⟨d,10,none⟩=some (.int .i64 c.size):=((uh HT).blk.keeps (uh HK2) (λh=>h)).cell rfl;have HG:=hide hg;have HTL:=hide (show d<W2.heap.size from Nat.lt_of_lt_of_le (uh HT).blk.lt (uh HK2).size);clear hk2 hr2 hr HRev hg;obtain⟨s,hs⟩:∃s:Nat,c.size=(s:Int):=⟨c.size.toNat,by omega⟩;rw[hs]at c10 s0 s1;have HS:=hide hs;clear hs;have hncp:n<=cp:=by have:=(uh HR2).le;rw[uh HRL]at this;exact this
 have hs0N:1<=s:=by omega
 have hs5:s<=5:=by omega
 by_cases hsn:(s:Int)<(n:Int)
 ·have hscp:s<=cp:=by omega
  have hscpI:(s:Int)<=(cp:Int):=by omega
  have hcp0:¬cp=0:=by omega
  go_wp2_with fail
  go_loopw [9,31] (λv i wr=>∃k:Nat,i=.int .i64 k/\k<=s/\Hid (wr.ownsRow W2.heap.size 3 1 v (3*k) (qAv (three (r.take k))))/\Hid (Keeps (λ_=>False) W2 wr)) (λ_ i _=>s-(intOf i).toNat)
  case atStart=>exact⟨0,rfl,Nat.zero_le _,World.ownsRow_nil _ _ _ _,Keeps.refl _ _⟩
  case round =>
   obtain⟨k,rfl,hk,HO,HK⟩:=hrel;generalize u9=v at *;have HIr:=hide ((uh HR2).keeps (uh HK) (λh=>h));have hk0:(0:Int)<=(k:Int):=by omega
   have HFT:=hide (qH9 (uh HO))
   by_cases hlt:k<s
   ·have hkE:(k:Int)<(s:Int):=by omega
    obtain⟨x0,x1,x2,x3,x4⟩:=(uh HIr).cells k (by rw[uh HRL];omega)
    have HTK:=hide (show three (r.take (k+1))=three (r.take k)++[(Dr.itAt r k).t,(Dr.itAt r k).k,(Dr.itAt r k).d] by
       have hkr:k<r.length:=by rw[uh HRL];omega
       rw[List.take_add_one,qHb,List.getElem?_eq_getElem hkr]
       simp[three,Dr.itAt,List.getD_eq_getElem?_getD,List.getElem?_eq_getElem hkr])
    generalize Dr.itAt r k=x at *;have hszr:=(uh HK).size;have HL3:=hide (show(three (r.take k)).length=3*k by rw[qDl,List.length_take,uh HRL,Nat.min_eq_left (by omega)]);go_wp2_with (at_builtin;refine qBj rfl _ _ rfl W2.heap.size _ (3*k) (three (r.take k)) rfl (by exact qCt (uh HO) (((Keeps.refl (λ_=>False) wr).alloc _).alloc _) (λ_ _ h=>h)) (wr.heap.size+1) 3 [x.t,x.k,x.d] rfl rfl (by exact Blk.newAt (by simp) [.int .i64 x.t,.int .i64 x.k,.int .i64 x.d] 3) (by omega) (by omega) (by simp;omega) ?_;intro g2 c2 W4 hown4 hk4 hat4)
    have HK4:=hide ((((uh HK).alloc (.cells #[.int .i64 x.t,.int .i64 x.k,.int .i64 x.d,.int .i64 x.n,.int .i64 x.v] 254)).alloc (.cells #[.int .i64 x.t,.int .i64 x.k,.int .i64 x.d] 3)).trans hk4 (λi hi hlt=>by have:=uh HFT i hi;omega));have HO4:=hide hown4;clear hown4 hk4 hat4;refine⟨⟨k+1,by go_num,by omega,?_,HK4⟩,by simp[intOf];omega⟩;show World.ownsRow _ _ _ _ _ _ _;rw[uh HTK];exact uh HO4
   ·have hkE:k=s:=by omega
    subst hkE;have hkf:decide ((k:Int)<(k:Int))=false:=by simp
    have hszr:=(uh HK).size;obtain⟨x0,x1,x2,x3,x4⟩:=(uh HIr).cells k (by rw[uh HRL];omega)
    have HQ2:=hide (show qT1 c l=three (r.take k)++[(Dr.itAt r k).v,(Dr.itAt r k).d] by
       rw[uh HQ,uh HS,Int.toNat_natCast,uh HRL,Nat.min_eq_left (by omega)];unfold qTy
       rw[if_pos (by rw[uh HRL];omega)])
    generalize Dr.itAt r k=x at *;have hgt:decide ((k:Int)<(n:Int))=true:=by simp;omega
    have hd10:wr.cell? ⟨d,10,none⟩=some (.int .i64 k):=(uh HK).cell c10 (λh=>h);have hdlt:d<wr.heap.size:=by have:=uh HTL;omega
    have hglt:g<wr.heap.size:=(uh HIr).lt;have hdne:d≠wr.heap.size:=by omega
    have hgne:g≠wr.heap.size:=by omega
    have HL3:=hide (show(three (r.take k)).length=3*k by rw[qDl,List.length_take,uh HRL,Nat.min_eq_left (by omega)]);go_wp2_with (at_builtin;refine qBj rfl _ _ rfl W2.heap.size _ (3*k) (three (r.take k)) rfl (by exact qCt (uh HO) (((Keeps.refl (λ_=>False) wr).alloc _).alloc _) (λ_ _ h=>h)) (wr.heap.size+1) 2 [x.v,x.d] rfl rfl (by exact Blk.newAt (by simp) [.int .i64 x.v,.int .i64 x.d] 3) (by omega) (by omega) (by simp;omega) ?_;intro g2 c2 W4 hown4 hk4 hat4)
    go_ret2
    have hlq:(qT1 c l).length=3*k+2:=by rw[uh HQ2];simp[uh HL3]
    refine⟨g2,c2,by rw[hlq];rfl,?_,?_⟩
    ·rw[hlq,uh HQ2]
     exact qJ8 hown4 (uh HK2).size
    ·exact(uh HK2).then ((((uh HK).alloc _).alloc _).trans hk4 (λi hi hlt=>by have:=uh HFT i hi;omega))
 ·by_cases hns:(n:Int)<(s:Int)
  ·go_wp2_with fail
   go_loopw [9,31] (λv i wr=>∃k:Nat,i=.int .i64 k/\k<=n/\Hid (wr.ownsRow W2.heap.size 3 1 v (3*k) (qAv (three (r.take k))))/\Hid (Keeps (λ_=>False) W2 wr)) (λ_ i _=>n-(intOf i).toNat)
   case atStart=>exact⟨0,rfl,Nat.zero_le _,World.ownsRow_nil _ _ _ _,Keeps.refl _ _⟩
   case round =>
    obtain⟨k,rfl,hk,HO,HK⟩:=hrel;generalize u9=v at *;have HIr:=hide ((uh HR2).keeps (uh HK) (λh=>h));have hk0:(0:Int)<=(k:Int):=by omega
    have HFT:=hide (qH9 (uh HO))
    by_cases hlt:k<n
    ·have hkE:(k:Int)<(n:Int):=by omega
     obtain⟨x0,x1,x2,x3,x4⟩:=(uh HIr).cells k (by rw[uh HRL];omega)
     have HTK:=hide (show three (r.take (k+1))=three (r.take k)++[(Dr.itAt r k).t,(Dr.itAt r k).k,(Dr.itAt r k).d] by
        have hkr:k<r.length:=by rw[uh HRL];omega
        rw[List.take_add_one,qHb,List.getElem?_eq_getElem hkr]
        simp[three,Dr.itAt,List.getD_eq_getElem?_getD,List.getElem?_eq_getElem hkr])
     generalize Dr.itAt r k=x at *;have hszr:=(uh HK).size;have HL3:=hide (show(three (r.take k)).length=3*k by rw[qDl,List.length_take,uh HRL,Nat.min_eq_left (by omega)]);go_wp2_with (at_builtin;refine qBj rfl _ _ rfl W2.heap.size _ (3*k) (three (r.take k)) rfl (by exact qCt (uh HO) (((Keeps.refl (λ_=>False) wr).alloc _).alloc _) (λ_ _ h=>h)) (wr.heap.size+1) 3 [x.t,x.k,x.d] rfl rfl (by exact Blk.newAt (by simp) [.int .i64 x.t,.int .i64 x.k,.int .i64 x.d] 3) (by omega) (by omega) (by simp;omega) ?_;intro g2 c2 W4 hown4 hk4 hat4)
     have HK4:=hide ((((uh HK).alloc (.cells #[.int .i64 x.t,.int .i64 x.k,.int .i64 x.d,.int .i64 x.n,.int .i64 x.v] 254)).alloc (.cells #[.int .i64 x.t,.int .i64 x.k,.int .i64 x.d] 3)).trans hk4 (λi hi hlt=>by have:=uh HFT i hi;omega));have HO4:=hide hown4;clear hown4 hk4 hat4;refine⟨⟨k+1,by go_num,by omega,?_,HK4⟩,by simp[intOf];omega⟩;show World.ownsRow _ _ _ _ _ _ _;rw[uh HTK];exact uh HO4
    ·have hkE:k=n:=by omega
     subst hkE;have hkf:decide ((k:Int)<(k:Int))=false:=by simp
     have hszr:=(uh HK).size
     have HQ2:=hide (show qT1 c l=three (r.take k)++[0,0] by
        rw[uh HQ,uh HS,Int.toNat_natCast,uh HRL,Nat.min_eq_right (by omega)];unfold qTy
        rw[if_neg (by rw[uh HRL];omega)])
     have hgt:decide ((s:Int)<(k:Int))=false:=by simp;omega
     have hd10:wr.cell? ⟨d,10,none⟩=some (.int .i64 s):=(uh HK).cell c10 (λh=>h);have hdlt:d<wr.heap.size:=by have:=uh HTL;omega
     have hdne:d≠wr.heap.size:=by omega
     have HL3:=hide (show(three (r.take k)).length=3*k by rw[qDl,List.length_take,uh HRL,Nat.min_eq_left (by omega)]);go_wp2_with (at_builtin;refine qBj rfl _ _ rfl W2.heap.size _ (3*k) (three (r.take k)) rfl (by exact qCt (uh HO) (((Keeps.refl (λ_=>False) wr).alloc _).alloc _) (λ_ _ h=>h)) (wr.heap.size+1) 2 [0,0] rfl rfl (by exact Blk.newAt (by simp) [.int .i64 0,.int .i64 0] 3) (by omega) (by omega) (by simp;omega) ?_;intro g2 c2 W4 hown4 hk4 hat4)
     go_ret2
     have hlq:(qT1 c l).length=3*k+2:=by rw[uh HQ2];simp[uh HL3]
     refine⟨g2,c2,by rw[hlq];rfl,?_,?_⟩
     ·rw[hlq,uh HQ2]
      exact qJ8 hown4 (uh HK2).size
     ·exact(uh HK2).then ((((uh HK).alloc _).alloc _).trans hk4 (λi hi hlt=>by have:=uh HFT i hi;omega))
  ·have hsE:n=s:=by omega
   subst hsE;go_wp2_with fail
   go_loopw [9,31] (λv i wr=>∃k:Nat,i=.int .i64 k/\k<=n/\Hid (wr.ownsRow W2.heap.size 3 1 v (3*k) (qAv (three (r.take k))))/\Hid (Keeps (λ_=>False) W2 wr)) (λ_ i _=>n-(intOf i).toNat)
   case atStart=>exact⟨0,rfl,Nat.zero_le _,World.ownsRow_nil _ _ _ _,Keeps.refl _ _⟩
   case round =>
    obtain⟨k,rfl,hk,HO,HK⟩:=hrel;generalize u9=v at *;have HIr:=hide ((uh HR2).keeps (uh HK) (λh=>h));have hk0:(0:Int)<=(k:Int):=by omega
    have HFT:=hide (qH9 (uh HO))
    by_cases hlt:k<n
    ·have hkE:(k:Int)<(n:Int):=by omega
     obtain⟨x0,x1,x2,x3,x4⟩:=(uh HIr).cells k (by rw[uh HRL];omega)
     have HTK:=hide (show three (r.take (k+1))=three (r.take k)++[(Dr.itAt r k).t,(Dr.itAt r k).k,(Dr.itAt r k).d] by
        have hkr:k<r.length:=by rw[uh HRL];omega
        rw[List.take_add_one,qHb,List.getElem?_eq_getElem hkr]
        simp[three,Dr.itAt,List.getD_eq_getElem?_getD,List.getElem?_eq_getElem hkr])
     generalize Dr.itAt r k=x at *;have hszr:=(uh HK).size;have HL3:=hide (show(three (r.take k)).length=3*k by rw[qDl,List.length_take,uh HRL,Nat.min_eq_left (by omega)]);go_wp2_with (at_builtin;refine qBj rfl _ _ rfl W2.heap.size _ (3*k) (three (r.take k)) rfl (by exact qCt (uh HO) (((Keeps.refl (λ_=>False) wr).alloc _).alloc _) (λ_ _ h=>h)) (wr.heap.size+1) 3 [x.t,x.k,x.d] rfl rfl (by exact Blk.newAt (by simp) [.int .i64 x.t,.int .i64 x.k,.int .i64 x.d] 3) (by omega) (by omega) (by simp;omega) ?_;intro g2 c2 W4 hown4 hk4 hat4)
     have HK4:=hide ((((uh HK).alloc (.cells #[.int .i64 x.t,.int .i64 x.k,.int .i64 x.d,.int .i64 x.n,.int .i64 x.v] 254)).alloc (.cells #[.int .i64 x.t,.int .i64 x.k,.int .i64 x.d] 3)).trans hk4 (λi hi hlt=>by have:=uh HFT i hi;omega));have HO4:=hide hown4;clear hown4 hk4 hat4;refine⟨⟨k+1,by go_num,by omega,?_,HK4⟩,by simp[intOf];omega⟩;show World.ownsRow _ _ _ _ _ _ _;rw[uh HTK];exact uh HO4
    ·have hkE:k=n:=by omega
     subst hkE;have hkf:decide ((k:Int)<(k:Int))=false:=by simp
     have hszr:=(uh HK).size
     have HQ2:=hide (show qT1 c l=three (r.take k)++[0,0] by
        rw[uh HQ,uh HS,Int.toNat_natCast,uh HRL,Nat.min_eq_right (by omega)];unfold qTy
        rw[if_neg (by rw[uh HRL];omega)])
     have hgt:decide ((k:Int)<(k:Int))=false:=by simp
     have hd10:wr.cell? ⟨d,10,none⟩=some (.int .i64 k):=(uh HK).cell c10 (λh=>h);have hdlt:d<wr.heap.size:=by have:=uh HTL;omega
     have hdne:d≠wr.heap.size:=by omega
     have HL3:=hide (show(three (r.take k)).length=3*k by rw[qDl,List.length_take,uh HRL,Nat.min_eq_left (by omega)]);go_wp2_with (at_builtin;refine qBj rfl _ _ rfl W2.heap.size _ (3*k) (three (r.take k)) rfl (by exact qCt (uh HO) (((Keeps.refl (λ_=>False) wr).alloc _).alloc _) (λ_ _ h=>h)) (wr.heap.size+1) 2 [0,0] rfl rfl (by exact Blk.newAt (by simp) [.int .i64 0,.int .i64 0] 3) (by omega) (by omega) (by simp;omega) ?_;intro g2 c2 W4 hown4 hk4 hat4)
     go_ret2
     have hlq:(qT1 c l).length=3*k+2:=by rw[uh HQ2];simp[uh HL3]
     refine⟨g2,c2,by rw[hlq];rfl,?_,?_⟩
     ·rw[hlq,uh HQ2]
      exact qJ8 hown4 (uh HK2).size
     ·exact(uh HK2).then ((((uh HK).alloc _).alloc _).trans hk4 (λi hi hlt=>by have:=uh HFT i hi;omega))
end
section
open Go.RowKit
attribute [local go_sem ↓] qAd qAe
attribute [local go_sem] qAf qAl qAc qAb qAm qAn qAh qAk
def zAx(ty:TypeId)(ps:Array (Nat×Value)): Sem Next:=do pure (.value (<-Instr.build ty ps))
theorem qNy(ρ:Operand->Value)(dst:Option Tmp)(x:Array (Nat×Operand))(ty:TypeId)(pos:String)(after:Array Edge)(guard:Option (Nat×Bool)):
  execOp ρ { dst,op:=.build 257 x,type:=ty,pos,after,guard }=zAx 257 (x.map λ(i,y)=>(i,ρ y)):=rfl
theorem qT8(c:Cfg)(q:Nat)(w:World):
  (zAx 257 #[(0,.agg c.cells.toArray),(1,.pointer (some ⟨q,0,none⟩))]).run Tryz.prog w=.ok (.value (.agg (qQq c q).toArray)) w:=by kernel_rfl
attribute [local go_sem ↓] qNy
attribute [local go_sem] qT8
theorem qRi(c:Cfg)(w:World):
  Calls Tryz.prog 169 #[c.val] w λe w'=>∃d q,e=.returned (.pointer (some ⟨d,0,none⟩))/\w.heap.size<=d/\w.heap.size<=q/\TRep w' d q none c []/\Keeps (λ_=>False) w w':=by
 obtain⟨W,hW⟩:∃W,W=w.alloc (.cells c.cells.toArray 32):=⟨_,rfl⟩;have HB:=hide (show Blk W w.heap.size c.cells 32 by rw[hW];exact Blk.new w _ _);have HK:=hide (show Keeps (λ_=>False) w W by rw[hW];exact(Keeps.refl (λ_=>False) w).alloc _);have HW:=hide hW;clear hW;unfold Cfg.val;go_enter Tryz.func169,Tryz.ntmps169
 go_wp2_with fail
 rw[show w.alloc (.cells #[.int .i64 c.kind,.int .i64 c.lag,.int .i64 c.skew,.int .i64 c.cap,.int .i64 c.k,.int .i64 c.window,.int .i64 c.bits,.int .i64 c.rows,.int .i64 c.width,.int .i64 c.panes,.int .i64 c.size,.int .i64 c.degree,.int .i64 c.half,.int .i64 c.mark,.int .i64 c.s00,.int .i64 c.s01,.int .i64 c.s10,.int .i64 c.s11,.int .i64 c.s20,.int .i64 c.s21] 32)=W from(uh HW).symm];generalize hcb:w.heap.size=cb at *;have HCB:=hide hcb;clear hcb;have hsz0:cb<W.heap.size:=(uh HB).lt;obtain⟨hv,hh⟩:=qBl (uh HB) 20 rfl;go_region_held3 (λw'=>qAu w' cb 0 20=.agg c.cells.toArray/\qA2 w' cb 0 20=true)
  (first | (simp[*,qAc,qAb,qAi,qAj];done) | (go_split_ands;exact⟨(qD1 hk1 (by simpa using hsz0)).1.trans (by assumption),(qD1 hk1 (by simpa using hsz0)).2.trans (by assumption)⟩))
  (first | (go_at_call 214;refine(Dr.new_any _).mono ?_;rintro e W1 ⟨rfl,hr1,hk1,hz1⟩))
 go_wp2
 go_ret
 have hk1':Keeps (λ_=>False) W W1:=((Keeps.refl _ _).drew).then hk1;have hka:∀O,Keeps (λ_=>False) W1 (W1.alloc O):=λO=>(Keeps.refl (λ_=>False) W1).alloc O
 have h2:=(uh HK).size;have h3:=uh HCB;have hz2:W1.heap.size=W.heap.size+1:=by simpa using hz1
 exact⟨W.heap.size+1,W.heap.size,rfl,by omega,by omega,⟨Blk.newAt hz2 (qQq c W.heap.size) 257,hr1.keeps (hka _) (λh=>h) (λ_ h=>by cases h),by omega,λg hg=>by cases hg⟩,((uh HK).then hk1').alloc _⟩
def qQi(d:Nat): Value:=.func (.func 170) #[.pointer (some ⟨d,0,none⟩)] #[]
def qPm(d:Nat): Value:=.func (.func 173) #[.pointer (some ⟨d,0,none⟩)] #[]
def qPe(d:Nat): Value:=.func (.func 172) #[.pointer (some ⟨d,0,none⟩)] #[]
def qPy(d:Nat): Value:=.func (.func 171) #[.pointer (some ⟨d,0,none⟩)] #[]
theorem qNk(c:Cfg)(w:World):
  Calls Tryz.prog 126 #[c.val] w λe w'=>∃d q,e=.returned (.agg #[qQi d,qPy d,qG0,qPe d,qPm d])/\w.heap.size<=d/\w.heap.size<=q/\TRep w' d q none c []/\Keeps (λ_=>False) w w':=by
 obtain⟨W,hW⟩:∃W,W=(w.alloc (.cells c.cells.toArray 32)).alloc (.cells #[.nilFunc,.nilFunc,.nilFunc,.nilFunc,.nilFunc] 101):=⟨_,rfl⟩;have HT:=hide (show Blk W (w.heap.size+1) [.nilFunc,.nilFunc,.nilFunc,.nilFunc,.nilFunc] 101 by rw[hW];exact Blk.newAt (by simp) _ _);have HK:=hide (show Keeps (λ_=>False) w W by rw[hW];exact((Keeps.refl (λ_=>False) w).alloc _).alloc _);have HW:=hide hW;have HN:=hide (qRi c W);clear hW;unfold Cfg.val at *;go_enter Tryz.func126,Tryz.ntmps126
 go_wp2_with fail
 rw[show(w.alloc (.cells #[.int .i64 c.kind,.int .i64 c.lag,.int .i64 c.skew,.int .i64 c.cap,.int .i64 c.k,.int .i64 c.window,.int .i64 c.bits,.int .i64 c.rows,.int .i64 c.width,.int .i64 c.panes,.int .i64 c.size,.int .i64 c.degree,.int .i64 c.half,.int .i64 c.mark,.int .i64 c.s00,.int .i64 c.s01,.int .i64 c.s10,.int .i64 c.s11,.int .i64 c.s20,.int .i64 c.s21] 32)).alloc (.cells #[.nilFunc,.nilFunc,.nilFunc,.nilFunc,.nilFunc] 101)=W from(uh HW).symm];generalize hcb:w.heap.size=cb at *;have HCB:=hide hcb;clear hcb;refine(uh HN).mono ?_;rintro e w2 ⟨d,q,rfl,hd,hq,hc2,hk2⟩;have HC2:=hide hc2;have HT2:=hide ((uh HT).keeps hk2 (λh=>h));have HK2:=hide ((uh HK).then hk2);have HSZ:=hide (uh HK).size;have HLT:=hide (uh HT).lt;clear hc2 hk2 HT HK HN;have f0:=(uh HT2).frozen;have q0:w2.cell? ⟨cb+1,0,none⟩=some .nilFunc:=(uh HT2).cell rfl;have q1:w2.cell? ⟨cb+1,1,none⟩=some .nilFunc:=(uh HT2).cell rfl;have q2:w2.cell? ⟨cb+1,2,none⟩=some .nilFunc:=(uh HT2).cell rfl;have q3:w2.cell? ⟨cb+1,3,none⟩=some .nilFunc:=(uh HT2).cell rfl;have q4:w2.cell? ⟨cb+1,4,none⟩=some .nilFunc:=(uh HT2).cell rfl;go_wp2
 have hcb:=uh HCB;have hsz:=uh HSZ;have hkf:Keeps (λi=>i=cb+1) w2 (((((w2.setCell ⟨cb+1,0,none⟩ (qQi d)).setCell ⟨cb+1,1,none⟩ (qPy d)).setCell ⟨cb+1,2,none⟩ qG0).setCell ⟨cb+1,3,none⟩ (qPe d)).setCell ⟨cb+1,4,none⟩ (qPm d)):=(((((Keeps.refl (λi=>i=cb+1) w2).setCell (p:=⟨cb+1,0,none⟩) (Or.inl rfl) _).setCell (p:=⟨cb+1,1,none⟩) (Or.inl rfl) _).setCell (p:=⟨cb+1,2,none⟩) (Or.inl rfl) _).setCell (p:=⟨cb+1,3,none⟩) (Or.inl rfl) _).setCell (p:=⟨cb+1,4,none⟩) (Or.inl rfl) _;refine bodyPost_ret (v:=.agg #[qQi d,qPy d,qG0,qPe d,qPm d]) (by simp[results,Tryz.results126,go_sem,q0,q1,q2,q3,q4,qQi,qPy,qG0,qPe,qPm]) rfl ⟨d,q,rfl,by omega,by omega,?_,?_⟩
 ·exact(uh HC2).keeps hkf (λh=>by have:=uh HLT;omega) (λh=>by have:=uh HLT;omega) (λg hg=>by cases hg)
 ·exact(uh HK2).trans hkf (λi hi hlt=>by omega)
end
section
open Go.RowKit
theorem qP2(c:Cfg): ∀(n s j:Nat),qGd c n s=true->s<=j->j<s+n->c.seed j=true
 | 0,s,j,_,h1,h2=>by omega
 | n+1,s,j,h,h1,h2=>by
  unfold qGd at h;rw[Bool.and_eq_true]at h
  by_cases e:j=s
  ·rw[e];exact h.1
  ·exact qP2 c n (s+1) j h.2 (by omega) (by omega)
theorem zAj{c:Cfg}{j:Nat}(h:c.seed j=true): 0<=sdA c j/\sdA c j<2305843009213693951/\0<=sdB c j/\sdB c j<2305843009213693951:=by
 match j with
 | 0=>simp only[Cfg.seed,qT7,inB,Bool.and_eq_true,decide_eq_true_eq]at h;show 0<=c.s00/\c.s00<_/\0<=c.s01/\c.s01<_;omega
 | 1=>simp only[Cfg.seed,qT7,inB,Bool.and_eq_true,decide_eq_true_eq]at h;show 0<=c.s10/\c.s10<_/\0<=c.s11/\c.s11<_;omega
 | j+2=>simp only[Cfg.seed,qT7,inB,Bool.and_eq_true,decide_eq_true_eq]at h;show 0<=c.s20/\c.s20<_/\0<=c.s21/\c.s21<_;omega
theorem qBr{c:Cfg}{k:Nat}(h:qA5 c=true)(hk:c.kind=k)(h3:k=3): c.paned/\c.rowed/\1<=qBd c/\qBd c<=1000/\c.panes*qBd c=c.window:=by
 subst h3;simp only[qA5,hk,Bool.and_eq_true]at h;have h2:qIo c=true:=h.2.2;simp only[qIo,qD4,inB,Bool.and_eq_true,decide_eq_true_eq,beq_iff_eq]at h2;obtain⟨⟨r0,r1⟩,⟨w0,w1⟩,⟨p0,p1⟩,⟨n0,n1⟩,hm,hs⟩:=h2;have hd:c.panes*(c.window/c.panes)=c.window:=by have:=Int.mul_ediv_add_emod c.window c.panes;omega
 have hl0:1<=c.window/c.panes:=by
  rcases Int.lt_or_le (c.window/c.panes) 1 with h | h
  ·have h0:0<=c.window/c.panes:=Int.ediv_nonneg (by omega) (by omega)
   have h1:c.window/c.panes=0:=by omega
   rw[h1]at hd;omega
  ·exact h
 have hl1:c.window/c.panes<=c.window:=Int.ediv_le_self _ (by omega);refine⟨⟨n0,n1,p0,p1⟩,⟨r0,r1,w0,w1,λj hj=>zAj (qP2 c c.rows.toNat 0 j hs (Nat.zero_le _) (by omega))⟩,hl0,by show c.window/c.panes<=1000;omega,hd⟩
theorem qCa{c:Cfg}{k:Nat}(h:qA5 c=true)(hk:c.kind=k)(h2:k=2): c.pair0/\1<=c.bits/\c.bits<=4/\1<=c.window/\c.window<=1000:=by
 subst h2;simp only[qA5,hk,Bool.and_eq_true]at h;have h2:qG7 c=true:=h.2.2;simp only[qG7,qD4,inB,Bool.and_eq_true,decide_eq_true_eq]at h2;obtain⟨⟨b0,b1⟩,⟨n0,n1⟩,hs⟩:=h2;have:=zAj (qP2 c 1 0 0 hs (Nat.le_refl _) (by omega));obtain⟨a0,a1,a2,a3⟩:=this;exact⟨⟨a0,a1,a2,a3⟩,b0,b1,n0,n1⟩
theorem qC4{c:Cfg}{k:Nat}(h:qA5 c=true)(hk:c.kind=k)(h5:k=5): 1<=c.size/\c.size<=5:=by
 subst h5;simp only[qA5,hk,Bool.and_eq_true]at h;have h2:qKy c=true:=h.2.2;simp only[qKy,inB,Bool.and_eq_true,decide_eq_true_eq]at h2;omega
theorem qU8{c:Cfg}{l:List Dr.It}(y:It)(h:(l.length:Int)<=c.size+1): ((qG1 c l y).length:Int)<=c.size+1:=by
 unfold qG1
 split
 ·rw[Dr.takeL_length,Dr.riseL_length,List.length_append]
  simp only[List.length_singleton];omega
 ·rename_i h1
  rw[Dr.riseL_length,List.length_append];simp only[List.length_singleton];omega
theorem qMy(c:Cfg)(n:Nat)(ls:Nat->List Bk)(y:It)(m:Int)(j:Nat): (qNx c n ls y m j).length<=(ls j).length+1:=by
 unfold qNx
 split
 ·have:=qRg ((ls j).drop (Mk.pastN (ls j) (m-c.window))) ⟨y.t,qLk (qD8 c.s00 c.s01 y.k/n)⟩
  rw[List.length_drop]at this;omega
 ·omega
theorem qXx{c:Cfg}{n:Nat}{ls:Nat->List Bk}(h:∀i,∀b∈ls i,1<=b.t/\b.t<=40)(y:It)(m:Int): ∀i,∀b∈qNx c n ls y m i,1<=b.t/\b.t<=40:=by
 intro i b hb;unfold qNx at hb
 split at hb
 ·rcases qMd hb with h1 | h1
  ·exact h i b (List.mem_of_mem_drop h1)
  ·rw[h1];exact zEt _
 ·exact h i b hb
structure Note where
 q:Int
 r:Int
 bs:List Bk
 rg:Nat->List Bk
 op:Pa.Pn
 cl:List Pa.Pn
 tk:List Dr.It
def qC9: Note:=⟨0,0,[],λ_=>[],Pa.pn0,[],[]⟩
structure NB where
 d:Nat
 r:Nat
 g:Option Nat
 qs:List (Nat×Option Nat)
def qEn(k:Nat)(b:NB)(i:Nat): Prop :=
 (k=1/\(i=b.d\/i=b.r\/b.g=some i))\/(k=4/\i=b.d)\/(k=2/\(i=b.d\/i=b.r\/∃j,j<b.qs.length/\qf (qAt b.qs j) i)) \/
 (k=3/\(i=b.d\/i=b.r\/b.g=some i))\/(k=5/\(i=b.d\/i=b.r\/b.g=some i))
def qFx(c:Cfg): Nat:=2 ^ c.bits.toNat
structure NRep (w:World) (k:Nat) (b:NB) (c:Cfg) (nt:Note):Prop where
 dec:k=4->Blk w b.d (qDc c nt.q nt.r) 201
 cnt:k=1->CRep w b.d b.r b.g c nt.bs
 dis:k=2->DRep w b.d b.r b.qs c nt.rg/\b.qs.length=qFx c
 oft:k=3->ORep w b.d b.r b.g c nt.op nt.cl
 drw:k=5->TRep w b.d b.r b.g c nt.tk
def qWf(k:Nat)(c:Cfg)(nt:Note)(y:It)(m:Int): Note :=
 if k=4 then { nt with q:=nt.q+(nt.r+qCb (qBg c y.t))/2305843009213693952,r:=(nt.r+qCb (qBg c y.t))%2305843009213693952 }
 else if k=1 then { nt with bs:=zFa c nt.bs y.t m }
 else if k=2 then { nt with rg:=qNx c (qFx c) nt.rg y m }
 else if k=3 then { nt with op:=(qYa c nt.op nt.cl y m).1,cl:=(qYa c nt.op nt.cl y m).2 }
 else if k=5 then { nt with tk:=qG1 c nt.tk y } else nt
def qKt(k:Nat)(c:Cfg)(nt:Note)(a m:Int): Int×List Int :=
 if k=4 then(0,[nt.q,nt.r,qCb (qBg c m)])
 else if k=1 then(if inB a 1 c.window=true then(0,[zIe nt.bs (m-a)]) else(13,[]))
 else if k=2 then zIp c (qFx c) nt.rg a m
 else if k=3 then(if inB a 0 2147483648=true then(0,[qryO c nt.op nt.cl a m]) else(10,[]))
 else if k=5 then(0,qT1 c nt.tk) else(1,[])
def qP8(k:Nat)(c:Cfg)(nt:Note)(m b:Int): Note×Int×Int :=
 if k=1 then({ nt with bs:=nt.bs.drop (qD7 c nt.bs m b).toNat },qD7 c nt.bs m b,(pastN nt.bs (m-c.window):Int)-qD7 c nt.bs m b) else(nt,0,0)
structure NInv (k:Nat) (c:Cfg) (rel last:Int) (nt:Note):Prop where
 q0:0<=nt.q
 qn:nt.q<=rel
 r0:0<=nt.r
 r1:nt.r<2305843009213693952
 one:∀b∈nt.bs,1<=b.sz
 sum:qDn nt.bs<=rel
 rk:∀i,∀b∈nt.rg i,1<=b.t/\b.t<=40
 rl:∀i,((nt.rg i).length:Int)<=rel
 oi:k=3->OInv c rel last nt.op nt.cl
 tl:k=5->(nt.tk.length:Int)<=c.size+1
 lw:k=1->1<=c.k/\c.k<=10/\Lw c.k.toNat 0 nt.bs
 nb:k≠1->nt.bs=[]
 rf:∀i,Fall (nt.rg i)
theorem NInv.few{k:Nat}{c:Cfg}{rel last:Int}{nt:Note}(h:NInv k c rel last nt)(hr:rel<=4611686018427387904): nt.bs.length<=682/\∀b∈nt.bs,b.sz<4611686018427387904:=by
 by_cases e:k=1
 ·obtain⟨h1,h2,h3⟩:=h.lw e
  have h4:=h.sum;have:=h3.few (by omega) (by omega);refine⟨?_,this.2⟩;have h5:62*(c.k.toNat+1)<=62*11:=Nat.mul_le_mul_left _ (by omega);omega
 ·rw[h.nb e];exact⟨by simp,λb hb=>by cases hb⟩
theorem NInv.binv{k:Nat}{c:Cfg}{rel last:Int}{nt:Note}(h:NInv k c rel last nt)(hr:rel<=4611686018427387904): BInv nt.bs:=⟨h.one,by have:=h.sum;omega,by have:=(h.few hr).1;omega⟩
theorem NInv.forty{k:Nat}{c:Cfg}{rel last:Int}{nt:Note}(h:NInv k c rel last nt)(i:Nat): (nt.rg i).length<=40:=by
 have:=qGi (nt.rg i) 40 (h.rf i) (h.rk i);omega
theorem NInv.rel0{k:Nat}{c:Cfg}{rel last:Int}{nt:Note}(h:NInv k c rel last nt): 0<=rel:=by have:=h.q0;have:=h.qn;omega
theorem zAi{K:Int}(hK:0<=K)(f:Nat)(l:List Bk)(sz:Int)(e:Nat)(h1:∀b∈l,1<=b.sz)(he:e<=l.length)(z1:1<=sz): (∀b∈joinL K f l sz e,1<=b.sz)/\qDn (joinL K f l sz e)=qDn l:=by
 induction f generalizing l sz e with
 | zero=>exact⟨h1,rfl⟩
 | succ f ih =>
  unfold joinL
  split
  ·exact⟨h1,rfl⟩
  ·rename_i h
   have hs:qCg l sz e+2<=e:=by omega
   have a1:(qCf l (qCg l sz e)).sz=sz:=qJw l sz e _ (by omega) (by omega);have a2:(qCf l (qCg l sz e+1)).sz=sz:=qJw l sz e _ (by omega) (by omega);have hsum:=qN9 l (qCg l sz e) ⟨2*sz,(qCf l (qCg l sz e+1)).t⟩ (by omega) (by show 2*sz=_;omega);have hlen:=qDt (⟨2*sz,(qCf l (qCg l sz e+1)).t⟩:Bk) (l:=l) (i:=qCg l sz e) (by omega);have:=ih (qDa l (qCg l sz e) ⟨2*sz,(qCf l (qCg l sz e+1)).t⟩) (2*sz) (qCg l sz e+1) (qKo l _ _ h1 (by show 1<=2*sz;omega)) (by omega) (by omega);exact⟨this.1,this.2.trans hsum⟩
theorem NInv.drop{k:Nat}{c:Cfg}{rel last:Int}{nt:Note}(h:NInv k c rel last nt)(j:Nat): NInv k c rel last { nt with bs:=nt.bs.drop j }:=by
 refine⟨h.q0,h.qn,h.r0,h.r1,λb hb=>h.one b (List.mem_of_mem_drop hb),?_,h.rk,h.rl,h.oi,h.tl,λe=>⟨(h.lw e).1,(h.lw e).2.1,(h.lw e).2.2.drop (by have:=(h.lw e).1;omega) j⟩,λe=>by show nt.bs.drop j=[];rw[h.nb e];exact List.drop_nil,h.rf⟩;have h1:=qH0 nt.bs j;have h2:=qCr (l:=nt.bs.take j) (λb hb=>h.one b (List.mem_of_mem_take hb));have h3:=h.sum;show qDn (nt.bs.drop j)<=rel;omega
theorem zC4{k:Nat}{c:Cfg}{rel last:Int}{nt:Note}(h:NInv k c rel last nt)(m b:Int): NInv k c rel last (qP8 k c nt m b).1:=by
 unfold qP8
 split
 ·exact h.drop _
 ·exact h
theorem qBy{c:Cfg}{k:Nat}(h:qA5 c=true)(hk:c.kind=k)(h1:k=1): 1<=c.k/\c.k<=10/\1<=c.window/\c.window<=1000:=by
 subst h1;simp only[qA5,hk,Bool.and_eq_true]at h;have h2:countB c=true:=h.2.2;simp only[countB,qD4,inB,Bool.and_eq_true,decide_eq_true_eq]at h2;omega
theorem qEb{c:Cfg}{k:Nat}(hv:qA5 c=true)(hk:c.kind=k)(h4:4<=k)(h5:k<=5): c.weighs:=by
 have hd:qIm c=true:=by
  have:k=4\/k=5:=by omega
  simp only[qA5,hk,Int.toNat_natCast,Bool.and_eq_true]at hv;rcases this with e | e
  ·have:=hv.2.2;rw[e]at this;exact this
  ·have:=hv.2.2;rw[e]at this
   simp only[qFn,qKy,Bool.and_eq_true]at this;exact this.2
 simp only[qIm,inB,Bool.and_eq_true,decide_eq_true_eq]at hd;exact⟨by omega,by omega,by omega,by omega,by omega,by omega⟩
theorem zD4(b:Int)(hb:1<=b)(n:Nat)(p:Int)(p1:1<=p)(p2:p<=2305843009213693952): 0<=qCb (qGy b n p)/\qCb (qGy b n p)<=2305843009213693952:=by
 induction n generalizing p with
 | zero=>simp only[qGy,qCb];omega
 | succ n ih =>
  unfold qGy
  split
  ·simp[qCb]
  ·rename_i h
   obtain⟨h1,h2⟩:=qZ5 p b p1 hb h;exact ih _ h1 h2
theorem qL2(c:Cfg)(t:Int): 0<=qCb (qBg c t)/\qCb (qBg c t)<=2305843009213693952:=by
 unfold qBg
 split
 ·simp[qCb]
 ·split
  ·exact zD4 _ (by omega) _ 1 (by omega) (by omega)
  ·split
   ·simp[qCb]
   ·rename_i h1 h2 h3
    have:=qJ6 ((t-c.mark)/c.half).toNat (by omega);simp only[qCb];omega
theorem zEj{k:Nat}{c:Cfg}{rel last:Int}{nt:Note}(h:NInv k c rel last nt)(hv:qA5 c=true)(hk:c.kind=k)(y:It)(m:Int)(hy:last<=y.t)(hm:y.t<=m): NInv k c (rel+1) y.t (qWf k c nt y m):=by
 have hw:=qL2 c y.t;have a:=h.q0;have b:=h.qn;have r0:=h.r0;have r1:=h.r1;have hs:=h.sum
 have hrl:∀i,((nt.rg i).length:Int)<=rel+1:=λi=>by have:=h.rl i;omega
 unfold qWf
 split
 ·rename_i h4
  exact⟨by show 0<=nt.q+_;omega,by show nt.q+_<=_;omega,by show 0<=_%_;omega,by show _%_<_;omega,h.one,by show qDn nt.bs<=_;omega,h.rk,hrl,λe=>by omega,h.tl,λe=>by omega,h.nb,h.rf⟩
 ·split
  ·rename_i h1
   obtain⟨k1,k2,w1,w2⟩:=qBy hv hk h1;have hp:∀b∈qTd c nt.bs y.t m,1<=b.sz:=λb hb=>by
    unfold qTd at hb;rcases List.mem_append.1 hb with hb | hb
    ·exact h.one b (List.mem_of_mem_drop hb)
    ·rw[List.mem_singleton]at hb;rw[hb];exact Int.le_refl _
   have hj:=zAi (K:=c.k) (by omega) ((qTd c nt.bs y.t m).length+1) (qTd c nt.bs y.t m) 1 _ hp (Nat.le_refl _) (by omega);refine⟨a,by show nt.q<=_;omega,r0,r1,hj.1,?_,h.rk,hrl,λe=>by omega,h.tl,λe=>⟨k1,k2,(zB5 (c:=c) (K:=c.k.toNat) (by omega) (by omega) nt.bs y.t m (h.lw e).2.2).1⟩,λe=>absurd h1 e,h.rf⟩;show qDn (zFa c nt.bs y.t m)<=_;unfold zFa;rw[hj.2];have h1:=qH0 nt.bs (pastN nt.bs (m-c.window));have h2:=qCr (l:=nt.bs.take (pastN nt.bs (m-c.window))) (λb hb=>h.one b (List.mem_of_mem_take hb));unfold qTd;rw[qDg];unfold qQm;simp only[qDn];omega
  ·split
   ·exact⟨a,by show nt.q<=_;omega,r0,r1,h.one,by show qDn nt.bs<=_;omega,qXx h.rk y m,λi=>by
       have h1:=qMy c (qFx c) nt.rg y m i;have h2:=h.rl i;show((qNx c (qFx c) nt.rg y m i).length:Int)<=_;omega,λe=>by omega,h.tl,λe=>by omega,h.nb,λi=>by
       show Fall (qNx c (qFx c) nt.rg y m i);unfold qNx
       split
       ·exact qOw _ ((h.rf i).drop _)
       ·exact h.rf i⟩
   ·split
    ·rename_i h3
     obtain⟨hp,hr,hL,hL1,hpl⟩:=qBr hv hk h3;exact⟨a,by show nt.q<=_;omega,r0,r1,h.one,by show qDn nt.bs<=_;omega,h.rk,hrl,λ_=>zEf (h.oi h3) y m hL hpl hp.p0 hr hy hm,h.tl,λe=>by omega,h.nb,h.rf⟩
    ·rename_i h3
     split
     ·rename_i h5
      exact⟨a,by show nt.q<=_;omega,r0,r1,h.one,by show qDn nt.bs<=_;omega,h.rk,hrl,λe=>(h3 e).elim,λe=>qU8 y (h.tl e),λe=>by omega,h.nb,h.rf⟩
     ·rename_i h1 _ _
      exact⟨a,by omega,r0,r1,h.one,by omega,h.rk,hrl,λe=>(h3 e).elim,h.tl,λe=>absurd e (by omega),h.nb,h.rf⟩
theorem NInv.zero(k:Nat)(c:Cfg)(hv:qA5 c=true)(hk:c.kind=k): NInv k c 0 0 qC9:=by
 refine⟨Int.le_refl _,Int.le_refl _,Int.le_refl _,by show(0:Int)<_;omega,(λb hb=>(List.not_mem_nil hb).elim),by show qDn []<=0;simp[qDn],(λi b hb=>(List.not_mem_nil hb).elim),(λi=>by show((([]:List Bk).length:Nat):Int)<=0;simp),?_,?_,(λe=>⟨(qBy hv hk e).1,(qBy hv hk e).2.1,Lw.nil _ _⟩),(λ_=>rfl),(λ_=>List.Pairwise.nil)⟩
 ·intro e
  exact OInv.zero c (qBr hv hk e).1.p0
 ·intro e
  have:=(qC4 hv hk e).1;show(0:Int)<=_;omega
theorem NRep.keeps{M:Nat->Prop}{w w':World}{k:Nat}{b:NB}{c:Cfg}{nt:Note}(h:NRep w k b c nt)(hk:Keeps M w w')(hn:∀i,qEn k b i->¬M i): NRep w' k b c nt :=
 ⟨λh4=>(h.dec h4).keeps hk (hn _ (.inr (.inl ⟨h4,rfl⟩))),
    λh1=>(h.cnt h1).keeps hk (hn _ (.inl ⟨h1,.inl rfl⟩)) (hn _ (.inl ⟨h1,.inr (.inl rfl)⟩)) (λ_ hg=>hn _ (.inl ⟨h1,.inr (.inr hg)⟩)),
    λh2=>⟨(h.dis h2).1.keeps hk (hn _ (.inr (.inr (.inl ⟨h2,.inl rfl⟩)))) (hn _ (.inr (.inr (.inl ⟨h2,.inr (.inl rfl)⟩)))) (λi _ hi ha=>hn _ (.inr (.inr (.inl ⟨h2,.inr (.inr ⟨i,hi,ha⟩)⟩)))),(h.dis h2).2⟩,
    λh3=>(h.oft h3).keeps hk (hn _ (.inr (.inr (.inr (.inl ⟨h3,.inl rfl⟩))))) (hn _ (.inr (.inr (.inr (.inl ⟨h3,.inr (.inl rfl)⟩))))) (λ_ hg=>hn _ (.inr (.inr (.inr (.inl ⟨h3,.inr (.inr hg)⟩))))),
    λh5=>(h.drw h5).keeps hk (hn _ (.inr (.inr (.inr (.inr ⟨h5,.inl rfl⟩))))) (hn _ (.inr (.inr (.inr (.inr ⟨h5,.inr (.inl rfl)⟩))))) (λ_ hg=>hn _ (.inr (.inr (.inr (.inr ⟨h5,.inr (.inr hg)⟩)))))⟩
theorem NRep.still{w w':World}{k:Nat}{b:NB}{c:Cfg}{nt:Note}(h:NRep w k b c nt)(hk:Keeps (λ_=>False) w w'): NRep w' k b c nt:=h.keeps hk (λ_ _ h=>h)
theorem NRep.lt{w:World}{k:Nat}{b:NB}{c:Cfg}{nt:Note}(h:NRep w k b c nt)(i:Nat)(hi:qEn k b i): i<w.heap.size:=by
 rcases hi with ⟨h1,hi | hi | hi⟩ | ⟨h4,hi⟩ | ⟨h2,hi | hi | ⟨j,hj,hi | hi⟩⟩ | ⟨h3,hi | hi | hi⟩ | ⟨h5,hi | hi | hi⟩
 ·rw[hi];exact(h.cnt h1).blk.lt
 ·rw[hi];exact(h.cnt h1).row.lt.1
 ·exact((h.cnt h1).row.lt.2 i hi).1
 ·rw[hi];exact(h.dec h4).lt
 ·rw[hi];exact(h.dis h2).1.blk.lt
 ·rw[hi];exact(h.dis h2).1.reg.lt
 ·rw[hi];exact((h.dis h2).1.row j hj).lt.1
 ·exact(((h.dis h2).1.row j hj).lt.2 i hi).1
 ·rw[hi];exact(h.oft h3).blk.lt
 ·rw[hi];exact(h.oft h3).row.lt.1
 ·exact((h.oft h3).row.lt.2 i hi).1
 ·rw[hi];exact(h.drw h5).blk.lt
 ·rw[hi];exact(h.drw h5).que.lt.1
 ·exact((h.drw h5).que.lt.2 i hi).1
def zJy: Nat->Nat | 1=>145 | 2=>153 | 3=>159 | 4=>164 | _=>170
def zIh: Nat->Nat | 1=>146 | 2=>154 | 3=>160 | 4=>165 | _=>171
def zIg: Nat->Nat | 1=>147 | _=>155
def zIf: Nat->Nat | 1=>148 | 2=>156 | 3=>161 | 4=>166 | _=>172
def zIu: Nat->Nat | 1=>149 | 2=>157 | 3=>162 | 4=>167 | _=>173
def qJt(d:Nat): Array Value:=#[.pointer (some ⟨d,0,none⟩)]
def zDq(k d:Nat): Array Value:=if k=1 then #[.pointer (some ⟨d,0,none⟩)] else #[]
def relV(k d:Nat): Value:=.func (.func (zJy k)) (qJt d) #[]
def qryV(k d:Nat): Value:=.func (.func (zIh k)) (qJt d) #[]
def savV(k d:Nat): Value:=.func (.func (zIf k)) (qJt d) #[]
def lodV(k d:Nat): Value:=.func (.func (zIu k)) (qJt d) #[]
def swpV(k d:Nat): Value:=.func (.func (zIg k)) (zDq k d) #[]
theorem ownCR(args:Array Value)(w:World): (callFunc 145 args).run Tryz.prog w=.ok (.enter 145 args) w:=qA3 Tryz.func145 (by kernel_rfl) (by kernel_rfl) args w
theorem ownCQ(args:Array Value)(w:World): (callFunc 146 args).run Tryz.prog w=.ok (.enter 146 args) w:=qA3 Tryz.func146 (by kernel_rfl) (by kernel_rfl) args w
theorem ownCS(args:Array Value)(w:World): (callFunc 147 args).run Tryz.prog w=.ok (.enter 147 args) w:=qA3 Tryz.func147 (by kernel_rfl) (by kernel_rfl) args w
theorem ownDR(args:Array Value)(w:World): (callFunc 164 args).run Tryz.prog w=.ok (.enter 164 args) w:=qA3 Tryz.func164 (by kernel_rfl) (by kernel_rfl) args w
theorem ownDQ(args:Array Value)(w:World): (callFunc 165 args).run Tryz.prog w=.ok (.enter 165 args) w:=qA3 Tryz.func165 (by kernel_rfl) (by kernel_rfl) args w
theorem ownSR(args:Array Value)(w:World): (callFunc 153 args).run Tryz.prog w=.ok (.enter 153 args) w:=qA3 Tryz.func153 (by kernel_rfl) (by kernel_rfl) args w
theorem ownSQ(args:Array Value)(w:World): (callFunc 154 args).run Tryz.prog w=.ok (.enter 154 args) w:=qA3 Tryz.func154 (by kernel_rfl) (by kernel_rfl) args w
theorem ownOR(args:Array Value)(w:World): (callFunc 159 args).run Tryz.prog w=.ok (.enter 159 args) w:=qA3 Tryz.func159 (by kernel_rfl) (by kernel_rfl) args w
theorem ownOQ(args:Array Value)(w:World): (callFunc 160 args).run Tryz.prog w=.ok (.enter 160 args) w:=qA3 Tryz.func160 (by kernel_rfl) (by kernel_rfl) args w
theorem ownTR(args:Array Value)(w:World): (callFunc 170 args).run Tryz.prog w=.ok (.enter 170 args) w:=qA3 Tryz.func170 (by kernel_rfl) (by kernel_rfl) args w
theorem ownTQ(args:Array Value)(w:World): (callFunc 171 args).run Tryz.prog w=.ok (.enter 171 args) w:=qA3 Tryz.func171 (by kernel_rfl) (by kernel_rfl) args w
theorem ownSN(args:Array Value)(w:World): (callFunc 155 args).run Tryz.prog w=.ok (.enter 155 args) w:=qA3 Tryz.func155 (by kernel_rfl) (by kernel_rfl) args w
theorem zJn(args:Array Value)(w:World): (callFunc 148 args).run Tryz.prog w=.ok (.enter 148 args) w:=qA3 Tryz.func148 (by kernel_rfl) (by kernel_rfl) args w
theorem zI7(args:Array Value)(w:World): (callFunc 149 args).run Tryz.prog w=.ok (.enter 149 args) w:=qA3 Tryz.func149 (by kernel_rfl) (by kernel_rfl) args w
theorem zJd(args:Array Value)(w:World): (callFunc 156 args).run Tryz.prog w=.ok (.enter 156 args) w:=qA3 Tryz.func156 (by kernel_rfl) (by kernel_rfl) args w
theorem zJt(args:Array Value)(w:World): (callFunc 157 args).run Tryz.prog w=.ok (.enter 157 args) w:=qA3 Tryz.func157 (by kernel_rfl) (by kernel_rfl) args w
theorem zJc(args:Array Value)(w:World): (callFunc 161 args).run Tryz.prog w=.ok (.enter 161 args) w:=qA3 Tryz.func161 (by kernel_rfl) (by kernel_rfl) args w
theorem zJ0(args:Array Value)(w:World): (callFunc 162 args).run Tryz.prog w=.ok (.enter 162 args) w:=qA3 Tryz.func162 (by kernel_rfl) (by kernel_rfl) args w
theorem zJx(args:Array Value)(w:World): (callFunc 166 args).run Tryz.prog w=.ok (.enter 166 args) w:=qA3 Tryz.func166 (by kernel_rfl) (by kernel_rfl) args w
theorem zJ2(args:Array Value)(w:World): (callFunc 167 args).run Tryz.prog w=.ok (.enter 167 args) w:=qA3 Tryz.func167 (by kernel_rfl) (by kernel_rfl) args w
theorem zJg(args:Array Value)(w:World): (callFunc 172 args).run Tryz.prog w=.ok (.enter 172 args) w:=qA3 Tryz.func172 (by kernel_rfl) (by kernel_rfl) args w
theorem zIl(args:Array Value)(w:World): (callFunc 173 args).run Tryz.prog w=.ok (.enter 173 args) w:=qA3 Tryz.func173 (by kernel_rfl) (by kernel_rfl) args w
theorem five{k:Nat}(h1:1<=k)(h5:k<=5): k=1\/k=2\/k=3\/k=4\/k=5:=by omega
theorem zIa(k:Nat)(h1:1<=k)(h5:k<=5)(args:Array Value)(w:World): (callFunc (zJy k) args).run Tryz.prog w=.ok (.enter (zJy k) args) w:=by
 rcases five h1 h5 with hk | hk | hk | hk | hk <;> subst hk
 ·exact ownCR args w
 ·exact ownSR args w
 ·exact ownOR args w
 ·exact ownDR args w
 ·exact ownTR args w
theorem zHv(k:Nat)(h1:1<=k)(h5:k<=5)(args:Array Value)(w:World): (callFunc (zIh k) args).run Tryz.prog w=.ok (.enter (zIh k) args) w:=by
 rcases five h1 h5 with hk | hk | hk | hk | hk <;> subst hk
 ·exact ownCQ args w
 ·exact ownSQ args w
 ·exact ownOQ args w
 ·exact ownDQ args w
 ·exact ownTQ args w
theorem zGn(k:Nat)(h1:1<=k)(h5:k<=5)(args:Array Value)(w:World): (callFunc (zIg k) args).run Tryz.prog w=.ok (.enter (zIg k) args) w:=by
 rcases five h1 h5 with hk | hk | hk | hk | hk <;> subst hk
 ·exact ownCS args w
 all_goals exact ownSN args w
theorem zGi(k:Nat)(h1:1<=k)(h5:k<=5)(args:Array Value)(w:World): (callFunc (zIf k) args).run Tryz.prog w=.ok (.enter (zIf k) args) w:=by
 rcases five h1 h5 with hk | hk | hk | hk | hk <;> subst hk
 ·exact zJn args w
 ·exact zJd args w
 ·exact zJc args w
 ·exact zJx args w
 ·exact zJg args w
theorem zHd(k:Nat)(h1:1<=k)(h5:k<=5)(args:Array Value)(w:World): (callFunc (zIu k) args).run Tryz.prog w=.ok (.enter (zIu k) args) w:=by
 rcases five h1 h5 with hk | hk | hk | hk | hk <;> subst hk
 ·exact zI7 args w
 ·exact zJt args w
 ·exact zJ0 args w
 ·exact zJ2 args w
 ·exact zIl args w
theorem zHb{rel last:Int}(k:Nat)(b:NB)(c:Cfg)(nt:Note)(y:It)(m:Int)(args:Array Value)(w:World)(ha:args=qJt b.d++#[y.val,.int .i64 m])(h:NRep w k b c nt)(hi:NInv k c rel last nt)(hr:rel+1<=4611686018427387904)(hv:qA5 c=true)(hk:c.kind=k)(k1:1<=k)(k5:k<=5)(m0:-100<=m)(m1:m<=4611686018427387904)(t0:0<=y.t)(t1:y.t<=4611686018427387904)(hky:k=2\/k=3->0<=y.k/\y.k<=2147483648)(hT:Tab w)(hT0:¬qEn k b 2)(hl:last<=4611686018427387904):
  Calls Tryz.prog (zJy k) args w λe w'=>e=.returned (.tuple #[])/\∃b':NB,NRep w' k b' c (qWf k c nt y m)/\b'.d=b.d/\(∀i,qEn k b' i->qEn k b i\/w.heap.size<=i)/\Keeps (qEn k b) w w':=by
 subst ha;rcases five k1 k5 with e | e | e | e | e
 ·subst e
  obtain⟨a1,a2,a3,a4⟩:=qBy hv hk rfl;refine(qN8 b.d b.r b.g c nt.bs y m w (h.cnt rfl) (hi.binv (by omega)) (by have:=hi.sum;omega) (by have:=(hi.few (by omega)).1;omega) m0 m1 (by omega) a4 a1 a2).mono ?_;rintro e w' ⟨rfl,og',hc,hk,hog⟩;refine⟨rfl,⟨b.d,b.r,og',[]⟩,⟨(λh=>by omega),(λ_=>hc),(λh=>by omega),(λh=>by omega),(λh=>by omega)⟩,rfl,?_,hk.mono (λi _ hi=>.inl ⟨rfl,.inr hi⟩)⟩;rintro i (⟨_,hi | hi | hi⟩ | ⟨h4,_⟩ | ⟨h4,_⟩ | ⟨h4,_⟩ | ⟨h4,_⟩)
  ·exact .inl (.inl ⟨rfl,.inl hi⟩)
  ·exact .inl (.inl ⟨rfl,.inr (.inl hi)⟩)
  ·rcases hog with h | ⟨j,h,hj⟩
   ·exact .inl (.inl ⟨rfl,.inr (.inr (by rw[<-h];exact hi))⟩)
   ·have hi':og'=some i:=hi
    rw[h]at hi';injection hi' with hi';exact .inr (by omega)
  all_goals omega
 ·subst e
  obtain⟨a1,a2,a3,a4,a5⟩:=qCa hv hk rfl;obtain⟨hd,hq⟩:=h.dis rfl;obtain⟨y0,y1⟩:=hky (.inl rfl);have hq1:1<=b.qs.length:=by rw[hq];exact Nat.pow_pos (by omega)
  have hq2:b.qs.length<=16:=by rw[hq];exact Nat.pow_le_pow_right (n:=2) (by omega) (show c.bits.toNat<=4 by omega)
  refine(qNp b.d b.r b.qs c nt.rg y m w hd hT (λi hi h0=>hT0 (.inr (.inr (.inl ⟨rfl,.inr (.inr ⟨i,hi,h0⟩)⟩)))) hq1 hq2 a1 (by omega) a5 m0 m1 y0 y1 (λi=>by have:=hi.forty i;omega)).mono ?_;rintro e w' ⟨rfl,qs',hd',hl',hf',hk'⟩;refine⟨rfl,⟨b.d,b.r,b.g,qs'⟩,⟨(λh=>by omega),(λh=>by omega),(λ_=>⟨by rw[hq]at hd';exact hd',hl'.trans hq⟩),(λh=>by omega),(λh=>by omega)⟩,rfl,?_,hk'.mono (λi _ hi=>.inr (.inr (.inl ⟨rfl,.inr (.inr hi)⟩)))⟩;rintro i (⟨h4,_⟩ | ⟨h4,_⟩ | ⟨_,hi | hi | ⟨j,hj,hi⟩⟩ | ⟨h4,_⟩ | ⟨h4,_⟩)
  ·omega
  ·omega
  ·exact .inl (.inr (.inr (.inl ⟨rfl,.inl hi⟩)))
  ·exact .inl (.inr (.inr (.inl ⟨rfl,.inr (.inl hi)⟩)))
  ·rcases hf' j i hj hi with h1 | h1
   ·exact .inl (.inr (.inr (.inl ⟨rfl,.inr (.inr h1)⟩)))
   ·exact .inr h1
  ·omega
  ·omega
 ·subst e
  obtain⟨a1,a2,a3,a4,a5⟩:=qBr hv hk rfl;obtain⟨y0,y1⟩:=hky (.inr rfl);have ho:=hi.oi rfl;have hcl:nt.cl.length<=8:=by have:=ho.len;have:=a1.p1;omega
  refine(qNh b.d b.r b.g c nt.op nt.cl y m w (h.oft rfl) a1 a2 a3 t0 t1 y0 y1 (by omega) m1 (by omega) (ho.okC hl a3 a4) (ho.okO hl a3 a4) (λx hx=>by have:=ho.cel.1 x hx;omega)).mono ?_;rintro e w' ⟨rfl,og',hc,hk',hog⟩;refine⟨rfl,⟨b.d,b.r,og',[]⟩,⟨(λh=>by omega),(λh=>by omega),(λh=>by omega),(λ_=>hc),(λh=>by omega)⟩,rfl,?_,hk'.mono (λi _ hi=>.inr (.inr (.inr (.inl ⟨rfl,hi⟩))))⟩;rintro i (⟨h4,_⟩ | ⟨h4,_⟩ | ⟨h4,_⟩ | ⟨_,hi | hi | hi⟩ | ⟨h4,_⟩)
  ·omega
  ·omega
  ·omega
  ·exact .inl (.inr (.inr (.inr (.inl ⟨rfl,.inl hi⟩))))
  ·exact .inl (.inr (.inr (.inr (.inl ⟨rfl,.inr (.inl hi)⟩))))
  ·have hi':og'=some i:=hi
   rcases hog with h | ⟨j,h,hj⟩
   ·exact .inl (.inr (.inr (.inr (.inl ⟨rfl,.inr (.inr (by rw[<-h];exact hi'))⟩))))
   ·rw[h]at hi'
    injection hi' with hi';exact .inr (by omega)
  ·omega
 ·subst e
  have hw:=qL2 c y.t;refine(qN6 b.d c nt.q nt.r y m w (h.dec rfl) (qEb hv hk (by omega) (by omega)) t0 t1 hi.r0 hi.r1 hi.q0 (by have:=hi.qn;omega) hw.1 hw.2).mono ?_;rintro e w' ⟨rfl,hb,hk⟩;exact⟨rfl,b,⟨(λ_=>hb),(λh=>by omega),(λh=>by omega),(λh=>by omega),(λh=>by omega)⟩,rfl,(λ_ h=>.inl h),hk.mono (λi _ hi=>.inr (.inl ⟨rfl,hi⟩))⟩
 ·subst e
  obtain⟨a1,a2⟩:=qC4 hv hk rfl;refine(qIg b.d b.r b.g c nt.tk y m w (h.drw rfl) (qEb hv hk (by omega) (by omega)) t0 t1 a1 a2 (by have:=hi.tl rfl;omega)).mono ?_;rintro e w' ⟨rfl,og',hc,hk',hog⟩;refine⟨rfl,⟨b.d,b.r,og',[]⟩,⟨(λh=>by omega),(λh=>by omega),(λh=>by omega),(λh=>by omega),(λ_=>hc)⟩,rfl,?_,hk'.mono (λi _ hi=>.inr (.inr (.inr (.inr ⟨rfl,.inr hi⟩))))⟩;rintro i (⟨h4,_⟩ | ⟨h4,_⟩ | ⟨h4,_⟩ | ⟨h4,_⟩ | ⟨_,hi | hi | hi⟩)
  ·omega
  ·omega
  ·omega
  ·omega
  ·exact .inl (.inr (.inr (.inr (.inr ⟨rfl,.inl hi⟩))))
  ·exact .inl (.inr (.inr (.inr (.inr ⟨rfl,.inr (.inl hi)⟩))))
  ·have hi':og'=some i:=hi
   rcases hog with h | ⟨j,h,hj⟩
   ·exact .inl (.inr (.inr (.inr (.inr ⟨rfl,.inr (.inr (by rw[<-h];exact hi'))⟩))))
   ·rw[h]at hi'
    injection hi' with hi';exact .inr (by omega)
def qWc(w:World)(base:Nat)(v:Value)(l:List Int): Prop:=w.ownsRow base 3 1 v l.length (l.map (.int .i64 ·))
theorem zF5{rel last:Int}(k:Nat)(b:NB)(c:Cfg)(nt:Note)(a m:Int)(args:Array Value)(w:World)(ha:args=qJt b.d++#[.int .i64 a,.int .i64 m])(h:NRep w k b c nt)(hi:NInv k c rel last nt)(hr:rel<=4611686018427387904)(hlast:last<=4611686018427387904)(hv:qA5 c=true)(hk:c.kind=k)(k1:1<=k)(k5:k<=5)(m0:-100<=m)(m1:m<=4611686018427387904):
  Calls Tryz.prog (zIh k) args w λe w'=>∃og n cp,e=.returned (.tuple #[.slice og n cp,.int .i64 (qKt k c nt a m).1])/\qWc w' w.heap.size (.slice og n cp) (qKt k c nt a m).2/\Keeps (λ_=>False) w w':=by
 subst ha;have hnil:∀w':World,qWc w' w.heap.size (.slice none 0 0) []:=λw'=>World.ownsRow_nil _ _ _ _
 rcases five k1 k5 with e | e | e | e | e
 ·subst e
  obtain⟨a1,a2,a3,a4⟩:=qBy hv hk rfl;cases hin:inB a 1 c.window
  ·refine(qTe b.d b.r b.g c nt.bs a m w (h.cnt rfl) hin).mono ?_
   rintro e w' ⟨rfl,hk⟩;have hq:qKt 1 c nt a m=(13,[]):=by unfold qKt;rw[if_neg (by omega),if_pos rfl,if_neg (by rw[hin];simp)]
   rw[hq];exact⟨none,0,0,rfl,hnil _,hk⟩
  ·refine(qSm b.d b.r b.g c nt.bs a m w (h.cnt rfl) (hi.binv hr) hin m0 m1 a4).mono ?_
   rintro e w' ⟨g,rfl,hg,hb,hk⟩;have hq:qKt 1 c nt a m=(0,[zIe nt.bs (m-a)]):=by unfold qKt;rw[if_neg (by omega),if_pos rfl,if_pos hin]
   rw[hq];exact⟨some ⟨g,0,none⟩,1,1,rfl,⟨rfl,.inr ⟨g,1,_,rfl,hg,hb,by simp,by unfold maxLen;omega,rfl,rfl⟩⟩,hk⟩
 ·subst e
  obtain⟨a1,a2,a3,a4,a5⟩:=qCa hv hk rfl;obtain⟨hd,hq⟩:=h.dis rfl;have hq1:1<=b.qs.length:=by rw[hq];exact Nat.pow_pos (by omega)
  have hq2:b.qs.length<=16:=by rw[hq];exact Nat.pow_le_pow_right (n:=2) (by omega) (show c.bits.toNat<=4 by omega)
  cases hin:inB a 1 c.window
  ·refine(qUl b.d b.r b.qs c nt.rg a m w hd hin).mono ?_
   rintro e w' ⟨rfl,hk⟩;have hqn:qKt 2 c nt a m=(13,[]):=by unfold qKt;rw[if_neg (by omega),if_neg (by omega),if_pos rfl];unfold zIp;rw[if_neg (by rw[hin];simp)]
   rw[hqn];exact⟨none,0,0,rfl,hnil _,hk⟩
  ·refine(qS5 b.d b.r b.qs c nt.rg a m w hd hin hq1 hq2 a5 m0 m1 (λi=>by have:=hi.forty i;omega) hi.rk).mono ?_
   rintro e w' ⟨g,cp,rfl,ho,hk⟩;have hqn:qKt 2 c nt a m=(0,qEq nt.rg b.qs.length (m-a)++[7*b.qs.length*b.qs.length*1099511627776/(10*qTk (qEq nt.rg b.qs.length (m-a)))]):=by unfold qKt;rw[if_neg (by omega),if_neg (by omega),if_pos rfl];unfold zIp;rw[if_pos hin,hq]
   rw[hqn];refine⟨some ⟨g,0,none⟩,b.qs.length+1,cp,rfl,?_,hk⟩;unfold qWc;rw[List.length_append,qGn,List.length_singleton];exact ho
 ·subst e
  obtain⟨a1,a2,a3,a4,a5⟩:=qBr hv hk rfl;have ho:=hi.oi rfl;have hcl:nt.cl.length<=8:=by have:=ho.len;have:=a1.p1;omega
  cases hin:inB a 0 2147483648
  ·refine(qUs b.d a m w hin).mono ?_
   rintro e w' ⟨rfl,hk⟩;have hqn:qKt 3 c nt a m=(10,[]):=by unfold qKt;rw[if_neg (by omega),if_neg (by omega),if_neg (by omega),if_pos rfl,if_neg (by rw[hin];simp)]
   rw[hqn];exact⟨none,0,0,rfl,hnil _,hk⟩
  ·refine(qSu b.d b.r b.g c nt.op nt.cl a m w (h.oft rfl) hin a1 a2 (by omega) m1 (by omega) (ho.okC hlast a3 a4) (ho.okO hlast a3 a4) ho.ocs ho.ccs (by have:=ho.tops;omega)).mono ?_
   rintro e w' ⟨g,rfl,hg,hb,hk⟩;have hqn:qKt 3 c nt a m=(0,[qryO c nt.op nt.cl a m]):=by unfold qKt;rw[if_neg (by omega),if_neg (by omega),if_neg (by omega),if_pos rfl,if_pos hin]
   rw[hqn];exact⟨some ⟨g,0,none⟩,1,1,rfl,⟨rfl,.inr ⟨g,1,_,rfl,hg,hb,by simp,by unfold maxLen;omega,rfl,rfl⟩⟩,hk⟩
 ·subst e
  refine(qRq b.d c nt.q nt.r a m w (h.dec rfl) (qEb hv hk (by omega) (by omega)) m0 m1).mono ?_;rintro e w' ⟨g,rfl,hg,hb,hk⟩;exact⟨some ⟨g,0,none⟩,3,3,rfl,⟨rfl,.inr ⟨g,3,_,rfl,hg,hb,by simp[qKt],by unfold maxLen;omega,rfl,rfl⟩⟩,hk⟩
 ·subst e
  obtain⟨a1,a2⟩:=qC4 hv hk rfl;refine(qSe b.d b.r b.g c nt.tk a m w (h.drw rfl) a1 a2 (by have:=hi.tl rfl;omega)).mono ?_;rintro e w' ⟨g,cp,rfl,ho,hk⟩;exact⟨some ⟨g,0,none⟩,_,cp,rfl,ho,hk⟩
theorem zH9{rel last:Int}(k:Nat)(b:NB)(c:Cfg)(nt:Note)(m bu:Int)(args:Array Value)(w:World)(ha:args=zDq k b.d++#[.int .i64 m,.int .i64 bu])(h:NRep w k b c nt)(hi:NInv k c rel last nt)(hr:rel<=4611686018427387904)(hv:qA5 c=true)(hk:c.kind=k)(k1:1<=k)(k5:k<=5)(m0:-100<=m)(m1:m<=4611686018427387904)(b0:0<=bu)(b1:bu<=100):
  Calls Tryz.prog (zIg k) args w λe w'=>e=.returned (.tuple #[.int .i64 (qP8 k c nt m bu).2.1,.int .i64 (qP8 k c nt m bu).2.2])/\NRep w' k b c (qP8 k c nt m bu).1/\Keeps (qEn k b) w w':=by
 subst ha;rcases five k1 k5 with e | e | e | e | e
 ·subst e
  obtain⟨a1,a2,a3,a4⟩:=qBy hv hk rfl;refine(qRx b.d b.r b.g c nt.bs m bu w (h.cnt rfl) (hi.binv hr) m0 m1 (by omega) a4 b0 b1).mono ?_;rintro e w' ⟨rfl,hc,hk⟩;exact⟨rfl,⟨(λh=>by omega),(λ_=>hc),(λh=>by omega),(λh=>by omega),(λh=>by omega)⟩,hk.mono (λi _ hi=>.inl ⟨rfl,.inr hi⟩)⟩
 all_goals
  subst e;refine(qLi m bu w).mono ?_;rintro e w' ⟨rfl,rfl⟩;exact⟨rfl,h,Keeps.refl _ _⟩
end
section
open Go.RowKit
attribute [local go_sem ↓] qAd qAe
attribute [local go_sem] qAf qAl qAc qAb qAm qAn qAh qAk
def qK0(c:Cfg): List Value:=c.cells++(Pa.pn0.cells++[.pointer none])
theorem qPd(ρ:Operand->Value)(dst:Option Tmp)(x:Array (Nat×Operand))(ty:TypeId)(pos:String)(after:Array Edge)(guard:Option (Nat×Bool)):
  execOp ρ { dst,op:=.build 240 x,type:=ty,pos,after,guard }=qMk 240 (x.map λ(i,y)=>(i,ρ y)):=rfl
theorem qOa(c:Cfg)(w:World):
  (qMk 240 #[(0,.agg c.cells.toArray)]).run Tryz.prog w=.ok (.value (.agg (qK0 c).toArray)) w:=by kernel_rfl
theorem qVl(c:Cfg)(w:World):
  (qMk 240 #[(0,.agg #[.int .i64 c.kind,.int .i64 c.lag,.int .i64 c.skew,.int .i64 c.cap,.int .i64 c.k,.int .i64 c.window,.int .i64 c.bits,.int .i64 c.rows,.int .i64 c.width,.int .i64 c.panes,.int .i64 c.size,.int .i64 c.degree,.int .i64 c.half,.int .i64 c.mark,.int .i64 c.s00,.int .i64 c.s01,.int .i64 c.s10,.int .i64 c.s11,.int .i64 c.s20,.int .i64 c.s21])]).run Tryz.prog w=.ok (.value (.agg (qK0 c).toArray)) w:=qOa c w
attribute [local go_sem ↓] qPd
attribute [local go_sem] qOa qVl
theorem qXv(c:Cfg)(q:Nat): (qK0 c).set 69 (.pointer (some ⟨q,0,none⟩))=qA4 c Pa.pn0 q:=by
 unfold qK0 qA4;have hc:c.cells.length=20:=by simp[Cfg.cells]
 rw[List.set_append_right _ _ (by omega),hc,List.set_append_right _ _ (by rw[Pa.Pn.cells_length];omega),Pa.Pn.cells_length];rfl
theorem qY2(c:Cfg): (qK0 c)[69]?=some (.pointer none):=by
 unfold qK0;rw[List.getElem?_append_right (by simp[Cfg.cells]),List.getElem?_append_right (by rw[Pa.Pn.cells_length];simp[Cfg.cells])];simp[Cfg.cells,Pa.Pn.cells_length]
theorem qRe(c:Cfg)(w:World):
  Calls Tryz.prog 158 #[c.val] w λe w'=>∃d q,e=.returned (.pointer (some ⟨d,0,none⟩))/\w.heap.size<=d/\w.heap.size<=q/\ORep w' d q none c Pa.pn0 []/\Keeps (λ_=>False) w w':=by
 obtain⟨W,hW⟩:∃W,W=w.alloc (.cells c.cells.toArray 32):=⟨_,rfl⟩;have HB:=hide (show Blk W w.heap.size c.cells 32 by rw[hW];exact Blk.new w _ _);have HK:=hide (show Keeps (λ_=>False) w W by rw[hW];exact(Keeps.refl (λ_=>False) w).alloc _);have HW:=hide hW;clear hW;unfold Cfg.val;go_enter Tryz.func158,Tryz.ntmps158
 go_wp2_with fail
 rw[show w.alloc (.cells #[.int .i64 c.kind,.int .i64 c.lag,.int .i64 c.skew,.int .i64 c.cap,.int .i64 c.k,.int .i64 c.window,.int .i64 c.bits,.int .i64 c.rows,.int .i64 c.width,.int .i64 c.panes,.int .i64 c.size,.int .i64 c.degree,.int .i64 c.half,.int .i64 c.mark,.int .i64 c.s00,.int .i64 c.s01,.int .i64 c.s10,.int .i64 c.s11,.int .i64 c.s20,.int .i64 c.s21] 32)=W from(uh HW).symm];generalize hcb:w.heap.size=cb at *;have HCB:=hide hcb;clear hcb;have hsz0:cb<W.heap.size:=(uh HB).lt;obtain⟨hv,hh⟩:=qBl (uh HB) 20 rfl;go_wp2_with fail
 have hWs:W.heap.size=cb+1:=by rw[uh HW];simp[uh HCB]
 obtain⟨W1,hW1⟩:∃W1,W1=W.alloc (.cells (qK0 c).toArray 240):=⟨_,rfl⟩;rw[<-hW1];have HB1:=hide (show Blk W1 (cb+1) (qK0 c) 240 by rw[hW1];exact Blk.newAt hWs _ _);have HK1:=hide (show Keeps (λ_=>False) W W1 by rw[hW1];exact(Keeps.refl _ _).alloc _);have hs1:W1.heap.size=cb+1+1:=by rw[hW1];simp[hWs]
 clear hW1 hv hh;refine(Pa.rowNew_any (cb+1) W1).mono ?_;rintro e W2 ⟨rfl,hr2,hk2,hz2⟩;rw[hs1]at hr2 ⊢;have HB2:=hide ((uh HB1).keeps hk2 (λh=>h));have c69:W2.cell? ⟨cb+1,69,none⟩=some (.pointer none):=(uh HB2).cell (qY2 c);have f69:=(uh HB2).frozen;have HK2:=hide (((uh HK).then (uh HK1)).then hk2);have HR2:=hide hr2;clear hk2 hr2;go_wp2
 go_ret
 have hb3:=(uh HB2).setCell 69 (.pointer (some ⟨cb+1+1,0,none⟩));rw[qXv]at hb3;have hcb:=uh HCB;refine⟨cb+1,cb+1+1,rfl,by omega,by omega,⟨hb3,?_,by omega,λg hg=>by cases hg⟩,?_⟩
 ·exact(uh HR2).keeps (M:=λi=>i=cb+1) ((Keeps.refl (λi=>i=cb+1) _).setCell (p:=⟨cb+1,69,none⟩) (Or.inl rfl) _) (λh=>by have h':cb+1+1=cb+1:=h;omega) (λg hg=>by cases hg)
 ·exact(uh HK2).trans ((Keeps.refl (λi=>i=cb+1) _).setCell (p:=⟨cb+1,69,none⟩) (Or.inl rfl) _) (λi hi hlt=>by omega)
def qP6(d:Nat): Value:=.func (.func 159) #[.pointer (some ⟨d,0,none⟩)] #[]
def qPv(d:Nat): Value:=.func (.func 162) #[.pointer (some ⟨d,0,none⟩)] #[]
def qO4(d:Nat): Value:=.func (.func 161) #[.pointer (some ⟨d,0,none⟩)] #[]
def qQe(d:Nat): Value:=.func (.func 160) #[.pointer (some ⟨d,0,none⟩)] #[]
theorem qNt(c:Cfg)(w:World):
  Calls Tryz.prog 117 #[c.val] w λe w'=>∃d q,e=.returned (.agg #[qP6 d,qQe d,qG0,qO4 d,qPv d])/\w.heap.size<=d/\w.heap.size<=q/\ORep w' d q none c Pa.pn0 []/\Keeps (λ_=>False) w w':=by
 obtain⟨W,hW⟩:∃W,W=(w.alloc (.cells c.cells.toArray 32)).alloc (.cells #[.nilFunc,.nilFunc,.nilFunc,.nilFunc,.nilFunc] 101):=⟨_,rfl⟩;have HT:=hide (show Blk W (w.heap.size+1) [.nilFunc,.nilFunc,.nilFunc,.nilFunc,.nilFunc] 101 by rw[hW];exact Blk.newAt (by simp) _ _);have HK:=hide (show Keeps (λ_=>False) w W by rw[hW];exact((Keeps.refl (λ_=>False) w).alloc _).alloc _);have HW:=hide hW;have HN:=hide (qRe c W);clear hW;unfold Cfg.val at *;go_enter Tryz.func117,Tryz.ntmps117
 go_wp2_with fail
 rw[show(w.alloc (.cells #[.int .i64 c.kind,.int .i64 c.lag,.int .i64 c.skew,.int .i64 c.cap,.int .i64 c.k,.int .i64 c.window,.int .i64 c.bits,.int .i64 c.rows,.int .i64 c.width,.int .i64 c.panes,.int .i64 c.size,.int .i64 c.degree,.int .i64 c.half,.int .i64 c.mark,.int .i64 c.s00,.int .i64 c.s01,.int .i64 c.s10,.int .i64 c.s11,.int .i64 c.s20,.int .i64 c.s21] 32)).alloc (.cells #[.nilFunc,.nilFunc,.nilFunc,.nilFunc,.nilFunc] 101)=W from(uh HW).symm];generalize hcb:w.heap.size=cb at *;have HCB:=hide hcb;clear hcb;refine(uh HN).mono ?_;rintro e w2 ⟨d,q,rfl,hd,hq,hc2,hk2⟩;have HC2:=hide hc2;have HT2:=hide ((uh HT).keeps hk2 (λh=>h));have HK2:=hide ((uh HK).then hk2);have HSZ:=hide (uh HK).size;have HLT:=hide (uh HT).lt;clear hc2 hk2 HT HK HN;have f0:=(uh HT2).frozen;have q0:w2.cell? ⟨cb+1,0,none⟩=some .nilFunc:=(uh HT2).cell rfl;have q1:w2.cell? ⟨cb+1,1,none⟩=some .nilFunc:=(uh HT2).cell rfl;have q2:w2.cell? ⟨cb+1,2,none⟩=some .nilFunc:=(uh HT2).cell rfl;have q3:w2.cell? ⟨cb+1,3,none⟩=some .nilFunc:=(uh HT2).cell rfl;have q4:w2.cell? ⟨cb+1,4,none⟩=some .nilFunc:=(uh HT2).cell rfl;go_wp2
 have hcb:=uh HCB;have hsz:=uh HSZ;have hkf:Keeps (λi=>i=cb+1) w2 (((((w2.setCell ⟨cb+1,0,none⟩ (qP6 d)).setCell ⟨cb+1,1,none⟩ (qQe d)).setCell ⟨cb+1,2,none⟩ qG0).setCell ⟨cb+1,3,none⟩ (qO4 d)).setCell ⟨cb+1,4,none⟩ (qPv d)):=(((((Keeps.refl (λi=>i=cb+1) w2).setCell (p:=⟨cb+1,0,none⟩) (Or.inl rfl) _).setCell (p:=⟨cb+1,1,none⟩) (Or.inl rfl) _).setCell (p:=⟨cb+1,2,none⟩) (Or.inl rfl) _).setCell (p:=⟨cb+1,3,none⟩) (Or.inl rfl) _).setCell (p:=⟨cb+1,4,none⟩) (Or.inl rfl) _;refine bodyPost_ret (v:=.agg #[qP6 d,qQe d,qG0,qO4 d,qPv d]) (by simp[results,Tryz.results117,go_sem,q0,q1,q2,q3,q4,qP6,qQe,qG0,qO4,qPv]) rfl ⟨d,q,rfl,by omega,by omega,?_,?_⟩
 ·exact(uh HC2).keeps hkf (λh=>by have:=uh HLT;omega) (λh=>by have:=uh HLT;omega) (λg hg=>by cases hg)
 ·exact(uh HK2).trans hkf (λi hi hlt=>by omega)
end
section
open Go.RowKit
theorem zBa(c:Cfg)(k:Nat)(w:World)(h1:1<=k)(h5:k<=5)(hv:qA5 c=true)(hkd:c.kind=k):
  Calls Tryz.prog (qA9 k) #[c.val] w λe w'=>∃b:NB,e=.returned (.agg #[relV k b.d,qryV k b.d,swpV k b.d,savV k b.d,lodV k b.d])/\(∀i,qEn k b i->w.heap.size<=i)/\NRep w' k b c qC9/\Keeps (λ_=>False) w w':=by
 rcases five h1 h5 with hk | hk | hk | hk | hk
 ·subst hk
  refine(qN0 c w).mono ?_;rintro e w' ⟨d,r,rfl,hd,hr,hc,hk⟩;refine⟨⟨d,r,none,[]⟩,rfl,?_,⟨(λh=>by omega),(λ_=>hc),(λh=>by omega),(λh=>by omega),(λh=>by omega)⟩,hk⟩;rintro i (⟨_,hi | hi | hi⟩ | ⟨h4,_⟩ | ⟨h4,_⟩ | ⟨h4,_⟩ | ⟨h4,_⟩)
  ·have:i=d:=hi;omega
  ·have:i=r:=hi;omega
  ·cases hi
  all_goals omega
 ·subst hk
  obtain⟨a1,a2,a3,a4,a5⟩:=qCa hv hkd rfl;refine(qKm c (qFx c) w (by omega) a3 rfl).mono ?_;rintro e w' ⟨d,rg,qs,rfl,hd,hr,hq,hn,hc,hk⟩;refine⟨⟨d,rg,none,qs⟩,rfl,?_,⟨(λh=>by omega),(λh=>by omega),(λ_=>⟨hc,hn⟩),(λh=>by omega),(λh=>by omega)⟩,hk⟩;rintro i (⟨h4,_⟩ | ⟨h4,_⟩ | ⟨_,hi | hi | ⟨j,hj,hi⟩⟩ | ⟨h4,_⟩ | ⟨h4,_⟩)
  ·omega
  ·omega
  ·have:i=d:=hi;omega
  ·have:i=rg:=hi;omega
  ·exact hq j i hj hi
  all_goals omega
 ·subst hk
  refine(qNt c w).mono ?_;rintro e w' ⟨d,r,rfl,hd,hr,hc,hk⟩;refine⟨⟨d,r,none,[]⟩,rfl,?_,⟨(λh=>by omega),(λh=>by omega),(λh=>by omega),(λ_=>hc),(λh=>by omega)⟩,hk⟩;rintro i (⟨h4,_⟩ | ⟨h4,_⟩ | ⟨h4,_⟩ | ⟨_,hi | hi | hi⟩ | ⟨h4,_⟩)
  ·omega
  ·omega
  ·omega
  ·have:i=d:=hi;omega
  ·have:i=r:=hi;omega
  ·cases hi
  ·omega
 ·subst hk
  refine(qNr c w).mono ?_;rintro e w' ⟨d,rfl,hd,hb,hk⟩;refine⟨⟨d,0,none,[]⟩,rfl,?_,⟨(λ_=>hb),(λh=>by omega),(λh=>by omega),(λh=>by omega),(λh=>by omega)⟩,hk⟩;rintro i (⟨h4,_⟩ | ⟨_,hi⟩ | ⟨h4,_⟩ | ⟨h4,_⟩ | ⟨h4,_⟩)
  ·omega
  ·have:i=d:=hi;omega
  all_goals omega
 ·subst hk
  refine(qNk c w).mono ?_;rintro e w' ⟨d,r,rfl,hd,hr,hc,hk⟩;refine⟨⟨d,r,none,[]⟩,rfl,?_,⟨(λh=>by omega),(λh=>by omega),(λh=>by omega),(λh=>by omega),(λ_=>hc)⟩,hk⟩;rintro i (⟨h4,_⟩ | ⟨h4,_⟩ | ⟨h4,_⟩ | ⟨h4,_⟩ | ⟨_,hi | hi | hi⟩)
  ·omega
  ·omega
  ·omega
  ·omega
  ·have:i=d:=hi;omega
  ·have:i=r:=hi;omega
  ·cases hi
end
section
def leP(a b:It): Prop:=a.t<b.t\/(a.t=b.t/\a.n<=b.n)
theorem leP.refl(a:It): leP a a:=.inr ⟨rfl,Int.le_refl _⟩
theorem leP.trans{a b c:It}(h:leP a b)(k:leP b c): leP a c:=by
 unfold leP at *;omega
theorem qMj{a b:It}(h:qCj a b=true): leP a b:=by
 unfold qCj at h;unfold leP
 split at h
 ·rename_i he;simp at h;omega
 ·simp at h;omega
theorem qGo{a b:It}(h:qCj a b=false): leP b a:=by
 unfold qCj at h;unfold leP
 split at h
 ·rename_i he;simp at h;omega
 ·simp at h;omega
def HeapL(l:List It): Prop:=∀i,0<i->i<l.length->leP (itAt l ((i-1)/2)) (itAt l i)
theorem qBx(l:List It)(i j k:Nat)(hi:i<l.length)(hj:j<l.length)(hk:k<l.length):
  itAt (swapL l i j) k=if k=j then itAt l i else if k=i then itAt l j else itAt l k:=by
 unfold swapL itAt;rw[List.getD_eq_getElem?_getD,List.getElem?_set]
 by_cases h1:j=k
 ·subst h1;simp[hj]
 ·rw[if_neg h1,if_neg (Ne.symm h1),List.getElem?_set]
  by_cases h2:i=k
  ·subst h2;simp[hi]
  ·rw[if_neg h2,if_neg (Ne.symm h2),List.getD_eq_getElem?_getD]
structure RiseAt (l:List It) (i:Nat):Prop where
 up:∀j,0<j->j<l.length->j≠i->leP (itAt l ((j-1)/2)) (itAt l j)
 over:∀c,0<i->c<l.length->0<c->(c-1)/2=i->leP (itAt l ((i-1)/2)) (itAt l c)
theorem qJ9(f:Nat): ∀(l:List It) (i:Nat),i<l.length->i<f->RiseAt l i->HeapL (riseL f l i):=by
 induction f with
 | zero=>intro l i _ h;omega
 | succ f ih =>
  intro l i hl hf h;unfold riseL
  split
  ·rename_i h0
   intro j hj hjl;exact h.up j hj hjl (by omega)
  ·rename_i h0
   split
   ·rename_i ha
    have hle:=qMj ha;have hp:(i-1)/2<i:=by omega
    generalize hpp:(i-1)/2=p at *;refine ih _ p (by rw[qAp];omega) (by omega) ⟨?_,?_⟩
    ·intro j hj hjl hjp
     rw[qAp]at hjl;rw[qBx l i p _ hl (by omega) (by omega),qBx l i p j hl (by omega) hjl];rw[if_neg hjp]
     by_cases hji:j=i
     ·subst hji
      rw[if_pos hpp,if_pos rfl];exact hle
     ·rw[if_neg hji]
      by_cases h1:(j-1)/2=p
      ·rw[if_pos h1]
       have:=h.up j hj hjl hji;rw[h1]at this;exact hle.trans this
      ·rw[if_neg h1]
       by_cases h2:(j-1)/2=i
       ·rw[if_pos h2]
        have:=h.over j (by omega) hjl hj h2;rw[hpp]at this;exact this
       ·rw[if_neg h2]
        exact h.up j hj hjl hji
    ·intro c hp0 hcl hc0 hcp
     rw[qAp]at hcl;rw[qBx l i p _ hl (by omega) (by omega),qBx l i p c hl (by omega) hcl];rw[if_neg (show(p-1)/2≠p by omega),if_neg (show(p-1)/2≠i by omega),if_neg (show c≠p by omega)];have hpp':=h.up p hp0 (by omega) (by omega)
     by_cases hci:c=i
     ·rw[if_pos hci];exact hpp'
     ·rw[if_neg hci]
      have:=h.up c hc0 hcl hci;rw[hcp]at this;exact hpp'.trans this
   ·rename_i ha
    have hle:=qGo (by simpa using ha);intro j hj hjl
    by_cases hji:j=i
    ·subst hji;exact hle
    ·exact h.up j hj hjl hji
structure SinkAt (l:List It) (i:Nat):Prop where
 up:∀j,0<j->j<l.length->(j-1)/2≠i->leP (itAt l ((j-1)/2)) (itAt l j)
 over:∀c,0<i->c<l.length->0<c->(c-1)/2=i->leP (itAt l ((i-1)/2)) (itAt l c)
theorem qHo(l:List It)(i c:Nat)(h:qB1 l i=c): 0<c/\(c-1)/2=i/\∀d,d<l.length->0<d->(d-1)/2=i->leP (itAt l c) (itAt l d):=by
 unfold qB1 at h
 split at h
 ·split at h
  ·split at h
   ·rename_i h1 h2 h3
    have hc:c=2*i+2:=by omega
    subst hc;refine⟨by omega,by omega,λd hd h0 hp=>?_⟩;have:d=2*i+1\/d=2*i+2:=by omega
    rcases this with rfl | rfl
    ·exact qMj h3
    ·exact leP.refl _
   ·rename_i h1 h2 h3
    have hc:c=2*i+1:=by omega
    subst hc;refine⟨by omega,by omega,λd hd h0 hp=>?_⟩;have:d=2*i+1\/d=2*i+2:=by omega
    rcases this with rfl | rfl
    ·exact leP.refl _
    ·exact qGo (by simpa using h3)
  ·rename_i h1 h2
   have hc:c=2*i+1:=by omega
   subst hc;refine⟨by omega,by omega,λd hd h0 hp=>?_⟩;have:d=2*i+1:=by omega
   subst this;exact leP.refl _
 ·omega
theorem qIz(l:List It)(i:Nat)(h:qB1 l i<0): ∀d,d<l.length->0<d->(d-1)/2≠i:=by
 intro d hd h0 hp;unfold qB1 at h
 split at h
 ·split at h
  ·split at h <;> omega
  ·omega
 ·omega
theorem qKa(f:Nat): ∀(l:List It) (i:Nat),i<l.length->l.length<=f+i->SinkAt l i->HeapL (sinkL f l i):=by
 induction f with
 | zero=>intro l i _ h;omega
 | succ f ih =>
  intro l i hl hf h;unfold sinkL
  split
  ·rename_i h0
   intro j hj hjl;exact h.up j hj hjl (qIz l i h0 j hjl hj)
  ·rename_i h0
   rcases qDf l i with hc | ⟨c,hc,hic,hcl⟩
   ·omega
   ·rw[hc,Int.toNat_natCast]
    obtain⟨hc0,hcp,hcm⟩:=qHo l i c hc
    split
    ·rename_i ha
     have hle:=qMj ha;refine ih _ c (by rw[qAp];omega) (by rw[qAp];omega) ⟨?_,?_⟩
     ·intro j hj hjl hjp
      rw[qAp]at hjl;rw[qBx l i c _ hl hcl (by omega),qBx l i c j hl hcl hjl,if_neg hjp]
      by_cases hjc:j=c
      ·subst hjc
       rw[if_pos hcp,if_pos rfl];exact hle
      ·rw[if_neg hjc]
       by_cases hji:j=i
       ·subst hji
        rw[if_neg (show(j-1)/2≠j by omega),if_pos rfl];exact h.over c hj hcl hc0 hcp
       ·rw[if_neg hji]
        by_cases h2:(j-1)/2=i
        ·rw[if_pos h2];exact hcm j hjl hj h2
        ·rw[if_neg h2];exact h.up j hj hjl h2
     ·intro d hc' hdl hd0 hdp
      rw[qAp]at hdl;rw[qBx l i c _ hl hcl (by omega),qBx l i c d hl hcl hdl];rw[if_neg (show(c-1)/2≠c by omega),if_pos hcp,if_neg (show d≠c by omega),if_neg (show d≠i by omega)];have:=h.up d hd0 hdl (by omega);rw[hdp]at this;exact this
    ·rename_i ha
     have hle:=qGo (by simpa using ha);intro j hj hjl
     by_cases h2:(j-1)/2=i
     ·rw[h2];exact hle.trans (hcm j hjl hj h2)
     ·exact h.up j hj hjl h2
theorem HeapL.first{l:List It}(h:HeapL l)(j:Nat)(hj:j<l.length): leP (itAt l 0) (itAt l j):=by
 induction j using Nat.strongRecOn with
 | _ j ih =>
  by_cases h0:j=0
  ·subst h0;exact leP.refl _
  ·exact(ih ((j-1)/2) (by omega) (by omega)).trans (h j (by omega) hj)
theorem HeapL.first_mem{l:List It}(h:HeapL l){y:It}(hy:y∈l): (itAt l 0).t<=y.t:=by
 obtain⟨j,hj,rfl⟩:=List.mem_iff_getElem.1 hy;have h1:=h.first j hj
 have h2:itAt l j=l[j]:=by unfold itAt;rw[List.getD_eq_getElem?_getD,List.getElem?_eq_getElem hj];rfl
 rw[h2]at h1;unfold leP at h1;omega
theorem itAt_get(l:List It)(j:Nat)(hj:j<l.length): itAt l j=l[j]:=by
 unfold itAt;rw[List.getD_eq_getElem?_getD,List.getElem?_eq_getElem hj];rfl
theorem qF9(l:List It)(i j:Nat)(hi:i<l.length)(hj:j<l.length): (swapL l i j).Perm l:=by
 unfold swapL;rw[itAt_get l i hi,itAt_get l j hj];exact List.set_set_perm hi hj
theorem qKq(f:Nat): ∀(l:List It) (i:Nat),i<l.length->(riseL f l i).Perm l:=by
 induction f with
 | zero=>intro l i _;exact List.Perm.refl _
 | succ f ih =>
  intro l i hl;unfold riseL
  split
  ·exact List.Perm.refl _
  ·split
   ·exact(ih _ _ (by rw[qAp];omega)).trans (qF9 l _ _ hl (by omega))
   ·exact List.Perm.refl _
theorem qKs(f:Nat): ∀(l:List It) (i:Nat),i<l.length->(sinkL f l i).Perm l:=by
 induction f with
 | zero=>intro l i _;exact List.Perm.refl _
 | succ f ih =>
  intro l i hl;unfold sinkL
  split
  ·exact List.Perm.refl _
  ·rename_i h0
   rcases qDf l i with hc | ⟨c,hc,hic,hcl⟩
   ·omega
   ·rw[hc,Int.toNat_natCast]
    split
    ·exact(ih _ _ (by rw[qAp];omega)).trans (qF9 l _ _ hl hcl)
    ·exact List.Perm.refl _
theorem put_heap(l:List It)(x:It)(h:HeapL l): HeapL (riseL (l.length+1) (l++[x]) l.length)/\(riseL (l.length+1) (l++[x]) l.length).Perm (x::l):=by
 have hat:∀j,j<l.length->itAt (l++[x]) j=itAt l j:=by
  intro j hj;unfold itAt;rw[List.getD_eq_getElem?_getD,List.getD_eq_getElem?_getD,List.getElem?_append_left hj]
 refine⟨qJ9 _ _ _ (by simp) (by omega) ⟨?_,?_⟩,(qKq _ _ _ (by simp)).trans (List.perm_append_singleton x l)⟩
 ·intro j hj hjl hne
  rw[List.length_append,List.length_singleton]at hjl;rw[hat _ (by omega),hat j (by omega)];exact h j hj (by omega)
 ·intro c h0 hcl hc0 hcp
  rw[List.length_append,List.length_singleton]at hcl;omega
theorem take_heap(l:List It)(h:HeapL l)(hl:l≠[]): HeapL (takeL l)/\(itAt l 0::takeL l).Perm l:=by
 have hpos:0<l.length:=List.length_pos_iff.2 hl;unfold takeL
 by_cases h1:l.length=1
 ·obtain⟨a,rfl⟩:=List.length_eq_one_iff.1 h1
  refine⟨?_,?_⟩
  ·intro i _ hi
   rw[show(([a].set 0 (itAt [a] ([a].length-1))).take ([a].length-1))=[] from rfl]at hi;have:(sinkL [a].length [] 0).length=0:=rfl;omega
  ·exact List.Perm.refl _
 ·obtain⟨a,m,rfl⟩:∃a m,l=a::m:=by cases l with | nil=>exact absurd rfl hl | cons a m=>exact⟨a,m,rfl⟩
  obtain⟨m',z,rfl⟩:∃m' z,m=m'++[z]:=by
   refine⟨m.dropLast,m.getLast (by intro e;subst e;simp at h1),?_⟩;rw[List.dropLast_concat_getLast]
  have hz:itAt (a::(m'++[z])) ((a::(m'++[z])).length-1)=z:=by
   rw[itAt_get _ _ (by simp)];simp
  have he:((a::(m'++[z])).set 0 (itAt (a::(m'++[z])) ((a::(m'++[z])).length-1))).take ((a::(m'++[z])).length-1)=z::m':=by
   rw[hz];simp
  rw[he];have hat:∀j,0<j->j<(z::m').length->itAt (z::m') j=itAt (a::(m'++[z])) j:=by
   intro j h0 hj;simp only[List.length_cons]at hj;rw[itAt_get _ _ (by simpa using hj),itAt_get _ _ (by simp;omega)];obtain⟨j,rfl⟩:∃k,j=k+1:=⟨j-1,by omega⟩;simp only[List.getElem_cons_succ];rw[List.getElem_append_left (by omega)]
  refine⟨qKa _ _ 0 (by simp) (by simp) ⟨?_,?_⟩,?_⟩
  ·intro j hj hjl hne
   rw[hat _ (by omega) (by omega),hat j hj hjl];exact h j hj (by simp at hjl ⊢;omega)
  ·intro c h0;omega
  ·refine(List.Perm.cons _ (qKs _ _ 0 (by simp))).trans ?_
   show(a::z::m').Perm (a::(m'++[z]));exact List.Perm.cons a (List.perm_append_singleton z m').symm
end
section
open Go.RowKit
attribute [local go_sem ↓] qAd qAe
attribute [local go_sem] qAf qAl qAc qAb qAm qAn qAi qAj qAh qAk
structure Ser where
 id:Int
 c:Cfg
 k:Nat
 acc:Int
 rel:Int
 ref:List Int
 l:List It
 nt:Note
 last:Int
structure SB where
 s:Nat
 q:Nat
 g:Option Nat
 n:NB
def Cfg.vals(c:Cfg)(rest:List Value): List Value:=.int .i64 c.kind::.int .i64 c.lag::.int .i64 c.skew::.int .i64 c.cap::.int .i64 c.k::.int .i64 c.window::.int .i64 c.bits::.int .i64 c.rows::.int .i64 c.width::.int .i64 c.panes::.int .i64 c.size::.int .i64 c.degree::.int .i64 c.half::.int .i64 c.mark::.int .i64 c.s00::.int .i64 c.s01::.int .i64 c.s10::.int .i64 c.s11::.int .i64 c.s20::.int .i64 c.s21::rest
def qCi(b:SB)(x:Ser): List Value :=
 .int .i64 x.id::x.c.vals (fn (qBw x.k)::fn (qA7 x.k)::fn (qA8 x.k)::fn (qAr x.k)::fn (qA6 x.k)::fn (qA9 x.k)::relV x.k b.n.d::qryV x.k b.n.d::swpV x.k b.n.d::savV x.k b.n.d::lodV x.k b.n.d::.pointer (some ⟨b.q,0,none⟩)::.int .i64 x.acc::.int .i64 x.rel::x.ref.map (.int .i64 ·))
structure SRep (w:World) (b:SB) (x:Ser):Prop where
 blk:Blk w b.s (qCi b x) 105
 que:QRep w b.q b.g x.l
 note:NRep w x.k b.n x.c x.nt
 sq:b.s≠b.q
 sg:∀g,b.g=some g->b.s≠g
 sn:∀i,qEn x.k b.n i->i≠b.s/\i≠b.q/\b.g≠some i
def SB.foot(b:SB)(k:Nat)(i:Nat): Prop:=i=b.s\/i=b.q\/b.g=some i\/qEn k b.n i
theorem SRep.keeps{M:Nat->Prop}{w w':World}{b:SB}{x:Ser}(h:SRep w b x)(hk:Keeps M w w')(hn:∀i,b.foot x.k i->¬M i): SRep w' b x :=
 ⟨h.blk.keeps hk (hn _ (.inl rfl)),h.que.keeps hk (hn _ (.inr (.inl rfl))) (λ_ hg=>hn _ (.inr (.inr (.inl hg)))),
    h.note.keeps hk (λi hi=>hn i (.inr (.inr (.inr hi)))),h.sq,h.sg,h.sn⟩
theorem SRep.still{w w':World}{b:SB}{x:Ser}(h:SRep w b x)(hk:Keeps (λ_=>False) w w'): SRep w' b x:=h.keeps hk (λ_ _ h=>h)
theorem SRep.lt{w:World}{b:SB}{x:Ser}(h:SRep w b x)(i:Nat)(hi:b.foot x.k i): i<w.heap.size:=by
 rcases hi with hi | hi | hi | hi
 ·subst hi;exact h.blk.lt
 ·subst hi;exact h.que.lt.1
 ·exact(h.que.lt.2 i hi).1
 ·exact h.note.lt i hi
structure SInv (n:Int) (x:Ser):Prop where
 valid:qA5 x.c=true
 kind:x.c.kind=x.k
 k1:1<=x.k
 k5:x.k<=5
 acc0:0<=x.acc
 accn:x.acc<=n
 rel0:0<=x.rel
 rela:x.rel+x.l.length=x.acc
 reflen:x.ref.length=12
 refn:∀v,v∈x.ref->0<=v/\v<=n
 cap:(x.l.length:Int)<=x.c.cap
 times:∀y,y∈x.l->0<=y.t/\y.t<=4611686018427387904
 note:NInv x.k x.c x.rel x.last x.nt
 heap:HeapL x.l
 last0:0<=x.last
 lastn:x.last<=4611686018427387904
 lastl:∀y,y∈x.l->x.last<=y.t
 fits:∀y,y∈x.l->qCy x.c x.k y=0
theorem SInv.common{n:Int}{x:Ser}(h:SInv n x): 0<=x.c.lag/\x.c.lag<=100/\0<=x.c.skew/\x.c.skew<=100/\1<=x.c.cap/\x.c.cap<=8:=by
 have:=h.valid;simp only[qA5,qDm,inB,Bool.and_eq_true,decide_eq_true_eq]at this;omega
theorem SInv.weighs{n:Int}{x:Ser}(h:SInv n x)(h4:4<=x.k): x.c.weighs:=qEb h.valid h.kind h4 h.k5
theorem qK8(s:Nat)(lag clock:Int)(w:World)(h:w.cell? ⟨s,2,none⟩=some (.int .i64 lag))(l0:0<=lag)(l1:lag<=100)(c0:0<=clock)(c1:clock<=4611686018427387904):
  Calls Tryz.prog 54 #[.pointer (some ⟨s,0,none⟩),.int .i64 clock] w λe w'=>e=.returned (.int .i64 (clock-lag))/\w'=w:=by
 go_enter Tryz.func54,Tryz.ntmps54
 go_wp2
 go_ret
 exact⟨rfl,rfl⟩
def qIw(x:Ser)(clock:Int)(y:It): Int :=
 if inB y.t 0 4611686018427387904 then
  if y.t<=clock-x.c.lag then 6
  else if clock+x.c.skew<y.t then 7
  else if qCy x.c x.k y≠0 then qCy x.c x.k y
  else if x.c.cap<=x.l.length then 11 else if 4611686018427387904<=x.acc then 11 else 0
 else 5
end
end Go.Proofs.YtahnliehdjncdabGreatDoor
