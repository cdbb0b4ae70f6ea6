import Derived.BigQuiet
import Derived.BigRegion
import Derived.Deep.QuietTactic
import Derived.Deep.RegionHeld3
import Derived.Test.YtahnliehdjncdabGreatDoorXAA
set_option maxRecDepth 100000
set_option maxHeartbeats 16000000
namespace Go.Proofs.YtahnliehdjncdabGreatDoor
section
open Go.RowKit
def qCw: Value:=.func (.func 77) #[] #[]
structure QB (w:World) (q:Nat) (v:Value):Prop where
 b:Blk w q [qCw,v] 166
def swapL(l:List It)(i j:Nat): List It:=(l.set i (itAt l j)).set j (itAt l i)
theorem qJj(q g i j cap n:Nat)(w:World)(l:List It)(hn:l.length=n)(hq:QB w q (.slice (some ⟨g,0,none⟩) n cap))(hr:IRow w g cap l)(hi:i<n)(hj:j<n)(hij:i≠j)(hqg:q≠g):
  Calls Tryz.prog 174 #[.pointer (some ⟨q,0,none⟩),.int .i64 i,.int .i64 j] w λe w'=>e=.returned (.tuple #[])/\Keeps (·=g) w w'/\IRow w' g cap (swapL l i j):=by
 have hq1:w.cell? ⟨q,1,none⟩=some (.slice (some ⟨g,0,none⟩) n cap):=hq.b.cell rfl;have hi0:(0:Int)<=(i:Int):=by omega
 have hin:(i:Int)<(n:Int):=by omega
 have hj0:(0:Int)<=(j:Int):=by omega
 have hjn:(j:Int)<(n:Int):=by omega
 obtain⟨x0,x1,x2,x3⟩:=hr.cells i (by omega);obtain⟨y0,y1,y2,y3⟩:=hr.cells j (by omega);have hf:=hr.frozen;have hne:i*4≠j*4:=by omega
 have HR:Hid (IRow w g cap l):=hr;clear hr hq hn;have HS:Hid (swapL l i j=(l.set i (itAt l j)).set j (itAt l i)):=rfl;generalize itAt l i=x at *;generalize itAt l j=y at *;go_enter Tryz.func174,Tryz.ntmps174
 go_region
 go_end0
 refine⟨rfl,?_,?_⟩
 ·exact(((Keeps.refl (λk=>k=g) w).putIt (Or.inl rfl) i y).putIt (Or.inl rfl) j x).drew
 ·rw[HS.out];exact((HR.out.put i y).put j x).drew
def riseL: Nat->List It->Nat->List It
 | 0,l,_=>l
 | f+1,l,i=>if i=0 then l else if qCj (itAt l i) (itAt l ((i-1)/2)) then riseL f (swapL l i ((i-1)/2)) ((i-1)/2) else l
theorem qAp(l:List It)(i j:Nat): (swapL l i j).length=l.length:=by simp[swapL]
theorem qQy(q g i cap n:Nat)(w:World)(l:List It)(hn:l.length=n)(hn8:n<=1000)(hq:QB w q (.slice (some ⟨g,0,none⟩) n cap))(hr:IRow w g cap l)(hi:i<n)(hqg:q≠g):
  Calls Tryz.prog 127 #[.pointer (some ⟨q,0,none⟩),.int .i64 i] w λe w'=>e=.returned (.tuple #[])/\Keeps (·=g) w w'/\IRow w' g cap (riseL (i+1) l i):=by
 have HQ:Hid (QB w q (.slice (some ⟨g,0,none⟩) n cap)):=hq;have HR:Hid (IRow w g cap l):=hr;have HN:Hid (l.length=n):=hn;clear hq hr hn;go_enter Tryz.func127,Tryz.ntmps127
 go_wp2
 go_loopw [1] (λs wr=>∃(k f:Nat) (m:List It),s=.int .i64 k/\k<n/\k<=f/\Hid (m.length=n)/\Hid (Keeps (·=g) w wr)/\Hid (IRow wr g cap m)/\Hid (riseL (i+1) l i=riseL (f+1) m k)) (λs _=>(intOf s).toNat)
 case atStart=>exact⟨i,i,l,rfl,hi,Nat.le_refl _,HN,Keeps.refl _ _,HR,rfl⟩
 case round =>
  obtain⟨k,f,m,rfl,hk,hf,HL,HK,HI,HE⟩:=hrel
  by_cases h0:0<k
  ·have hq1:wr.cell? ⟨q,1,none⟩=some (.slice (some ⟨g,0,none⟩) n cap):=HK.out.cell (HQ.out.b.cell rfl) hqg
   have hq0:wr.cell? ⟨q,0,none⟩=some qCw:=HK.out.cell (HQ.out.b.cell rfl) hqg;unfold qCw at hq0;obtain⟨p,hp⟩:∃p,p=(k-1)/2:=⟨_,rfl⟩;have hpk:p<k:=by omega
   have hpi:((k:Int)-1)/2=(p:Int):=by omega
   have HP:Hid (p=(k-1)/2):=hp;clear hp;obtain⟨x0,x1,x2,x3⟩:=HI.out.cells k (by rw[HL.out];exact hk);obtain⟨y0,y1,y2,y3⟩:=HI.out.cells p (by rw[HL.out];omega);have hk0:(0:Int)<=(k:Int):=by omega
   have hkn:(k:Int)<(n:Int):=by omega
   have hp0:(0:Int)<=(p:Int):=by omega
   have hpn:(p:Int)<(n:Int):=by omega
   generalize hx:itAt m k=x at *;generalize hy:itAt m p=y at *;have HX:Hid (itAt m k=x):=hx;have HY:Hid (itAt m p=y):=hy;clear hx hy;cases hab:qCj x y
   all_goals
    go_wp2
    go_region_held3 (λw'=>w'.cell? ⟨q,0,none⟩=some (.func (.func 77) #[] #[])/\w'.cell? ⟨q,1,none⟩=some (.slice (some ⟨g,0,none⟩) n cap) /\
       w'.cell? ⟨g,k*4,none⟩=some (.int .i64 x.t)/\w'.cell? ⟨g,k*4+1,none⟩=some (.int .i64 x.k)/\w'.cell? ⟨g,k*4+2,none⟩=some (.int .i64 x.d)/\w'.cell? ⟨g,k*4+3,none⟩=some (.int .i64 x.n) /\
       w'.cell? ⟨g,p*4,none⟩=some (.int .i64 y.t)/\w'.cell? ⟨g,p*4+1,none⟩=some (.int .i64 y.k)/\w'.cell? ⟨g,p*4+2,none⟩=some (.int .i64 y.d)/\w'.cell? ⟨g,p*4+3,none⟩=some (.int .i64 y.n)) (go_keep)
     (first | (go_at_call 77;refine(qGa x y _).mono ?_;rintro e w' ⟨rfl,rfl⟩))
    have hk1:Keeps (λ_=>False) wr ((wr.alloc (.cells x.cells 88)).alloc (.cells y.cells 88)).drew:=(((Keeps.refl _ _).alloc _).alloc _).drew;generalize((wr.alloc (.cells x.cells 88)).alloc (.cells y.cells 88)).drew=W1 at *;have HK1:Hid (Keeps (λ_=>False) wr W1):=hk1;clear hk1
   ·go_wp2
    refine bodyPost_ret (results_none rfl _ _ _) rfl ?_;refine⟨rfl,HK.out.trans HK1.out (λ_ h=>h.elim),?_⟩;have hab':=hab;rw[<-HX.out,<-HY.out,HP.out]at hab';rw[HE.out];simp only[riseL,if_neg (show ¬k=0 by omega),hab'];exact HI.out.keeps HK1.out (λh=>h)
   ·go_wp2_with fail
    refine(qJj q g k p cap n W1 m HL.out ⟨(HQ.out.b.keeps HK.out hqg).keeps HK1.out (λh=>h)⟩ (HI.out.keeps HK1.out (λh=>h)) hk (by omega) (by omega) hqg).mono ?_;rintro e w2 ⟨rfl,hk2,hr2⟩;have HK2:Hid (Keeps (·=g) W1 w2):=hk2;have HR2:Hid (IRow w2 g cap (swapL m k p)):=hr2;clear hk2 hr2;go_wp2
    go_roundw
    case rel =>
     obtain⟨f',rfl⟩:∃f',f=f'+1:=⟨f-1,by omega⟩;refine⟨p,f',swapL m k p,rfl,by omega,by omega,(qAp _ _ _).trans HL.out,(HK.out.trans HK1.out (λ_ h=>h.elim)).then HK2.out,HR2,?_⟩;show _=_;have hab':=hab;rw[<-HX.out,<-HY.out,HP.out]at hab';rw[HE.out,HP.out]
     conv=>lhs;unfold riseL
     rw[if_neg (by omega),if_pos hab']
    case measure=>simp[intOf];omega
  ·go_wp2
   go_end0
   refine⟨rfl,HK.out,?_⟩;rw[HE.out,show k=0 by omega];simpa[riseL] using HI.out
end
end Go.Proofs.YtahnliehdjncdabGreatDoor
