import Derived.Test.YtahnliehdjncdabGreatDoorXAO
set_option maxRecDepth 100000
set_option maxHeartbeats 16000000
namespace Go.Proofs.YtahnliehdjncdabGreatDoor.Dr
open Go.RowKit
def qB1(l:List It)(i:Nat): Int :=
 if 2*i+1<l.length then
  if 2*i+2<l.length then(if qCj (itAt l (2*i+2)) (itAt l (2*i+1)) then(2*i+2:Nat) else(2*i+1:Nat)) else(2*i+1:Nat)
 else -1
theorem qNa(q g i cap n:Nat)(w:World)(l:List It)(hn:l.length=n)(hn8:n<=1000)(hi8:i<=1000)(hq:QB w q (.slice (some ⟨g,0,none⟩) n cap))(hr:IRow w g cap l):
  Calls Tryz.prog 247 #[.pointer (some ⟨q,0,none⟩),.int .i64 i] w λe w'=>e=.returned (.int .i64 (qB1 l i))/\Keeps (λ_=>False) w w':=by
 have hq1:w.cell? ⟨q,1,none⟩=some (.slice (some ⟨g,0,none⟩) n cap):=hq.b.cell rfl;have hq0:w.cell? ⟨q,0,none⟩=some (.func (.func 215) #[] #[]):=hq.b.cell rfl;obtain⟨a,ha⟩:∃a,a=2*i+1:=⟨_,rfl⟩;obtain⟨b,hb⟩:∃b,b=2*i+2:=⟨_,rfl⟩;have e1:2*(i:Int)+1=(a:Int):=by omega
 have e2:(a:Int)+1=(b:Int):=by omega
 have hdef:qB1 l i=if a<n then(if b<n then(if qCj (itAt l b) (itAt l a) then(b:Int) else(a:Int)) else(a:Int)) else -1:=by
  subst ha hb hn;rfl
 have ha8:a<=2001:=by omega
 have hb8:b<=2002:=by omega
 have ha0:(0:Int)<=(a:Int):=by omega
 have hb0:(0:Int)<=(b:Int):=by omega
 by_cases hL:a<n
 ·have hL':(a:Int)<(n:Int):=by omega
  by_cases hR:b<n
  ·have hR':(b:Int)<(n:Int):=by omega
   obtain⟨x0,x1,x2,x3,x4⟩:=hr.cells b (by omega);obtain⟨y0,y1,y2,y3,y4⟩:=hr.cells a (by omega);generalize itAt l b=x at *;generalize itAt l a=y at *;cases hab:qCj x y
   ·have HC:Hid (qB1 l i=(a:Int)):=by show _=_;rw[hdef,if_pos hL,if_pos hR,hab];rfl
    clear hr hq hn ha hb hdef;go_enter Tryz.func247,Tryz.ntmps247
    go_wp2
    go_region_held3 (λw'=>w'.cell? ⟨q,0,none⟩=some (.func (.func 215) #[] #[])/\w'.cell? ⟨q,1,none⟩=some (.slice (some ⟨g,0,none⟩) n cap) /\
       w'.cell? ⟨g,b*5,none⟩=some (.int .i64 x.t)/\w'.cell? ⟨g,b*5+1,none⟩=some (.int .i64 x.k)/\w'.cell? ⟨g,b*5+2,none⟩=some (.int .i64 x.d)/\w'.cell? ⟨g,b*5+3,none⟩=some (.int .i64 x.n)/\w'.cell? ⟨g,b*5+4,none⟩=some (.int .i64 x.v) /\
       w'.cell? ⟨g,a*5,none⟩=some (.int .i64 y.t)/\w'.cell? ⟨g,a*5+1,none⟩=some (.int .i64 y.k)/\w'.cell? ⟨g,a*5+2,none⟩=some (.int .i64 y.d)/\w'.cell? ⟨g,a*5+3,none⟩=some (.int .i64 y.n)/\w'.cell? ⟨g,a*5+4,none⟩=some (.int .i64 y.v)) (first | (go_split_ands;exact⟨by assumption,by assumption,by assumption,by assumption,by assumption,by assumption,by assumption,by assumption,by assumption,by assumption,by assumption,by assumption⟩) | (go_split_ands;exact⟨hka.cell (by assumption) (λh=>h),hka.cell (by assumption) (λh=>h),hka.cell (by assumption) (λh=>h),hka.cell (by assumption) (λh=>h),hka.cell (by assumption) (λh=>h),hka.cell (by assumption) (λh=>h),hka.cell (by assumption) (λh=>h),hka.cell (by assumption) (λh=>h),hka.cell (by assumption) (λh=>h),hka.cell (by assumption) (λh=>h),hka.cell (by assumption) (λh=>h),hka.cell (by assumption) (λh=>h)⟩))
     (first | (go_at_call 215;refine(qGx x y _).mono ?_;rintro e W1 ⟨rfl,hka⟩))
    go_wp2
    go_ret
    exact⟨qBa HC.out.symm,((Keeps.refl _ _).drew).then hka⟩
   ·have HC:Hid (qB1 l i=(b:Int)):=by show _=_;rw[hdef,if_pos hL,if_pos hR,hab];rfl
    clear hr hq hn ha hb hdef;go_enter Tryz.func247,Tryz.ntmps247
    go_wp2
    go_region_held3 (λw'=>w'.cell? ⟨q,0,none⟩=some (.func (.func 215) #[] #[])/\w'.cell? ⟨q,1,none⟩=some (.slice (some ⟨g,0,none⟩) n cap) /\
       w'.cell? ⟨g,b*5,none⟩=some (.int .i64 x.t)/\w'.cell? ⟨g,b*5+1,none⟩=some (.int .i64 x.k)/\w'.cell? ⟨g,b*5+2,none⟩=some (.int .i64 x.d)/\w'.cell? ⟨g,b*5+3,none⟩=some (.int .i64 x.n)/\w'.cell? ⟨g,b*5+4,none⟩=some (.int .i64 x.v) /\
       w'.cell? ⟨g,a*5,none⟩=some (.int .i64 y.t)/\w'.cell? ⟨g,a*5+1,none⟩=some (.int .i64 y.k)/\w'.cell? ⟨g,a*5+2,none⟩=some (.int .i64 y.d)/\w'.cell? ⟨g,a*5+3,none⟩=some (.int .i64 y.n)/\w'.cell? ⟨g,a*5+4,none⟩=some (.int .i64 y.v)) (first | (go_split_ands;exact⟨by assumption,by assumption,by assumption,by assumption,by assumption,by assumption,by assumption,by assumption,by assumption,by assumption,by assumption,by assumption⟩) | (go_split_ands;exact⟨hka.cell (by assumption) (λh=>h),hka.cell (by assumption) (λh=>h),hka.cell (by assumption) (λh=>h),hka.cell (by assumption) (λh=>h),hka.cell (by assumption) (λh=>h),hka.cell (by assumption) (λh=>h),hka.cell (by assumption) (λh=>h),hka.cell (by assumption) (λh=>h),hka.cell (by assumption) (λh=>h),hka.cell (by assumption) (λh=>h),hka.cell (by assumption) (λh=>h),hka.cell (by assumption) (λh=>h)⟩))
     (first | (go_at_call 215;refine(qGx x y _).mono ?_;rintro e W1 ⟨rfl,hka⟩))
    go_wp2
    go_ret
    exact⟨qBa HC.out.symm,((Keeps.refl _ _).drew).then hka⟩
  ·have hR':decide ((b:Int)<(n:Int))=false:=by simp;omega
   have HC:Hid (qB1 l i=(a:Int)):=by show _=_;rw[hdef,if_pos hL,if_neg hR]
   clear hr hq hn ha hb hdef;go_enter Tryz.func247,Tryz.ntmps247
   go_wp2
   go_quiet (fail)
   go_wp2
   go_ret
   exact⟨qBa HC.out.symm,⟨rfl,rfl,rfl,Nat.le_refl _,λ_ _ _=>rfl⟩⟩
 ·have hL':decide ((a:Int)<(n:Int))=false:=by simp;omega
  have HC:Hid (qB1 l i=-1):=by show _=_;rw[hdef,if_neg hL]
  have hLn:(n:Int)<=(a:Int):=by omega
  clear hr hq hn ha hb hdef;go_enter Tryz.func247,Tryz.ntmps247
  go_wp2
  go_ret
  exact⟨qBa HC.out.symm,Keeps.refl _ _⟩
def sinkL: Nat->List It->Nat->List It
 | 0,l,_=>l
 | f+1,l,i=>if qB1 l i<0 then l else if qCj (itAt l (qB1 l i).toNat) (itAt l i) then sinkL f (swapL l i (qB1 l i).toNat) (qB1 l i).toNat else l
theorem qDf(l:List It)(i:Nat): qB1 l i=-1\/∃c:Nat,qB1 l i=c/\i<c/\c<l.length:=by
 unfold qB1
 split
 ·split
  ·split
   ·exact .inr ⟨_,rfl,by omega,by omega⟩
   ·exact .inr ⟨_,rfl,by omega,by omega⟩
  ·exact .inr ⟨_,rfl,by omega,by omega⟩
 ·exact .inl rfl
theorem qLn(q g i cap n:Nat)(w:World)(l:List It)(hn:l.length=n)(hn8:n<=1000)(hi8:i<=1000)(hq:QB w q (.slice (some ⟨g,0,none⟩) n cap))(hr:IRow w g cap l)(hi:i<n\/n=0)(hqg:q≠g):
  Calls Tryz.prog 242 #[.pointer (some ⟨q,0,none⟩),.int .i64 i] w λe w'=>e=.returned (.tuple #[])/\Keeps (·=g) w w'/\IRow w' g cap (sinkL (n+1) l i):=by
 have HQ:Hid (QB w q (.slice (some ⟨g,0,none⟩) n cap)):=hq;have HR:Hid (IRow w g cap l):=hr;have HN:Hid (l.length=n):=hn;have HI0:Hid (i<n\/n=0):=hi;clear hq hr hn hi;go_enter Tryz.func242,Tryz.ntmps242
 go_wp2
 go_loopw [1] (λs wr=>∃(k f:Nat) (m:List It),s=.int .i64 k/\Hid (k<n\/n=0)/\k<=1000/\n<=k+f/\Hid (m.length=n)/\Hid (Keeps (·=g) w wr)/\Hid (IRow wr g cap m)/\Hid (sinkL (n+1) l i=sinkL (f+1) m k)) (λs _=>2000-(intOf s).toNat)
 case atStart=>exact⟨i,n,l,rfl,HI0,hi8,by omega,HN,Keeps.refl _ _,HR,rfl⟩
 case round =>
  obtain⟨k,f,m,rfl,HKN,hk8,hf,HL,HK,HI,HE⟩:=hrel;go_wp2_with fail
  refine(qNa q g k cap n wr m HL.out hn8 hk8 ⟨HQ.out.b.keeps HK.out hqg⟩ HI.out).mono ?_;rintro e W1 ⟨rfl,hk1⟩;have HK1:Hid (Keeps (λ_=>False) wr W1):=hk1;have HI1:Hid (IRow W1 g cap m):=HI.out.keeps hk1 (λh=>h);have HQ1:Hid (QB W1 q (.slice (some ⟨g,0,none⟩) n cap)):=⟨(HQ.out.b.keeps HK.out hqg).keeps hk1 (λh=>h)⟩;clear hk1;have hq1:W1.cell? ⟨q,1,none⟩=some (.slice (some ⟨g,0,none⟩) n cap):=HQ1.out.b.cell rfl;have hq0:W1.cell? ⟨q,0,none⟩=some (.func (.func 215) #[] #[]):=HQ1.out.b.cell rfl;rcases qDf m k with hc | ⟨c,hc,hkc,hcn⟩
  ·have HC:Hid (qB1 m k=-1):=hc
   rw[hc];clear hc;go_wp2
   go_quiet (fail)
   go_wp2
   refine bodyPost_ret (results_none rfl _ _ _) rfl ?_;refine⟨rfl,(HK.out.trans HK1.out (λ_ h=>h.elim)).trans (Keeps.drewN (λ_=>False) W1 _) (λ_ h=>h.elim),?_⟩;rw[HE.out];simp only[sinkL,HC.out];exact HI1.out.keeps (Keeps.drewN (λ_=>False) W1 _) (λh=>h)
  ·have HC:Hid (qB1 m k=(c:Int)):=hc
   rw[hc];clear hc;have hcn':c<n:=by rw[HL.out]at hcn;exact hcn
   clear hcn;have hkn:k<n:=by omega
   obtain⟨x0,x1,x2,x3,x4⟩:=HI1.out.cells c (by rw[HL.out];exact hcn');obtain⟨y0,y1,y2,y3,y4⟩:=HI1.out.cells k (by rw[HL.out];exact hkn);have hk0:(0:Int)<=(k:Int):=by omega
   have hkn':(k:Int)<(n:Int):=by omega
   have hc0:(0:Int)<=(c:Int):=by omega
   have hcn2:(c:Int)<(n:Int):=by omega
   have hcneg:decide ((c:Int)<0)=false:=by simp
   generalize hx:itAt m c=x at *;generalize hy:itAt m k=y at *;have HX:Hid (itAt m c=x):=hx;have HY:Hid (itAt m k=y):=hy;clear hx hy;cases hab:qCj x y
   all_goals
    go_wp2
    go_region_held3 (λw'=>w'.cell? ⟨q,0,none⟩=some (.func (.func 215) #[] #[])/\w'.cell? ⟨q,1,none⟩=some (.slice (some ⟨g,0,none⟩) n cap) /\
       w'.cell? ⟨g,c*5,none⟩=some (.int .i64 x.t)/\w'.cell? ⟨g,c*5+1,none⟩=some (.int .i64 x.k)/\w'.cell? ⟨g,c*5+2,none⟩=some (.int .i64 x.d)/\w'.cell? ⟨g,c*5+3,none⟩=some (.int .i64 x.n)/\w'.cell? ⟨g,c*5+4,none⟩=some (.int .i64 x.v) /\
       w'.cell? ⟨g,k*5,none⟩=some (.int .i64 y.t)/\w'.cell? ⟨g,k*5+1,none⟩=some (.int .i64 y.k)/\w'.cell? ⟨g,k*5+2,none⟩=some (.int .i64 y.d)/\w'.cell? ⟨g,k*5+3,none⟩=some (.int .i64 y.n)/\w'.cell? ⟨g,k*5+4,none⟩=some (.int .i64 y.v)) (first | (go_split_ands;exact⟨by assumption,by assumption,by assumption,by assumption,by assumption,by assumption,by assumption,by assumption,by assumption,by assumption,by assumption,by assumption⟩) | (go_split_ands;exact⟨hka.cell (by assumption) (λh=>h),hka.cell (by assumption) (λh=>h),hka.cell (by assumption) (λh=>h),hka.cell (by assumption) (λh=>h),hka.cell (by assumption) (λh=>h),hka.cell (by assumption) (λh=>h),hka.cell (by assumption) (λh=>h),hka.cell (by assumption) (λh=>h),hka.cell (by assumption) (λh=>h),hka.cell (by assumption) (λh=>h),hka.cell (by assumption) (λh=>h),hka.cell (by assumption) (λh=>h)⟩))
     (first | (go_at_call 215;refine(qGx x y _).mono ?_;rintro e W2 ⟨rfl,hka⟩))
    have hk2:Keeps (λ_=>False) W1 W2:=((Keeps.refl _ _).drew).then hka;clear hka;have HK2:Hid (Keeps (λ_=>False) W1 W2):=hk2;clear hk2
   ·go_wp2
    refine bodyPost_ret (results_none rfl _ _ _) rfl ?_;refine⟨rfl,(HK.out.trans HK1.out (λ_ h=>h.elim)).trans HK2.out (λ_ h=>h.elim),?_⟩;rw[HE.out];simp only[sinkL,HC.out,Int.toNat_natCast,HX.out,HY.out,hab,if_neg (show ¬((c:Int)<0) by omega)];exact HI1.out.keeps HK2.out (λh=>h)
   ·go_wp2_with fail
    refine(qJj q g k c cap n W2 m HL.out ⟨HQ1.out.b.keeps HK2.out (λh=>h)⟩ (HI1.out.keeps HK2.out (λh=>h)) hkn (by omega) (by omega) hqg).mono ?_;rintro e w3 ⟨rfl,hk3,hr3⟩;have HK3:Hid (Keeps (·=g) W2 w3):=hk3;have HR3:Hid (IRow w3 g cap (swapL m k c)):=hr3;clear hk3 hr3;go_wp2
    go_roundw
    case rel =>
     obtain⟨f',rfl⟩:∃f',f=f'+1:=⟨f-1,by omega⟩;refine⟨c,f',swapL m k c,rfl,.inl hcn',by omega,by omega,(qAp _ _ _).trans HL.out,((HK.out.trans HK1.out (λ_ h=>h.elim)).trans HK2.out (λ_ h=>h.elim)).then HK3.out,HR3,?_⟩;show _=_;rw[HE.out]
     conv=>lhs;unfold sinkL
     simp only[HC.out,Int.toNat_natCast,HX.out,HY.out,hab,if_neg (show ¬((c:Int)<0) by omega),if_true]
    case measure=>simp[intOf];omega
end Go.Proofs.YtahnliehdjncdabGreatDoor.Dr
