import Derived.Test.YtahnliehdjncdabGreatDoorXAC
set_option maxRecDepth 100000
set_option maxHeartbeats 16000000
namespace Go.Proofs.YtahnliehdjncdabGreatDoor
section
open Go.RowKit
def qB1(l:List It)(i:Nat): Int :=
 if 2*i+1<l.length then
  if 2*i+2<l.length then(if qCj (itAt l (2*i+2)) (itAt l (2*i+1)) then(2*i+2:Nat) else(2*i+1:Nat)) else(2*i+1:Nat)
 else -1
theorem qNa(q g i cap n:Nat)(w:World)(l:List It)(hn:l.length=n)(hn8:n<=1000)(hi8:i<=1000)(hq:QB w q (.slice (some ⟨g,0,none⟩) n cap))(hr:IRow w g cap l):
  Calls Tryz.prog 175 #[.pointer (some ⟨q,0,none⟩),.int .i64 i] w λe w'=>e=.returned (.int .i64 (qB1 l i))/\Keeps (λ_=>False) w w':=by
 have hq1:w.cell? ⟨q,1,none⟩=some (.slice (some ⟨g,0,none⟩) n cap):=hq.b.cell rfl;have hq0:w.cell? ⟨q,0,none⟩=some (.func (.func 77) #[] #[]):=hq.b.cell rfl;obtain⟨a,ha⟩:∃a,a=2*i+1:=⟨_,rfl⟩;obtain⟨b,hb⟩:∃b,b=2*i+2:=⟨_,rfl⟩;have e1:2*(i:Int)+1=(a:Int):=by omega
 have e2:(a:Int)+1=(b:Int):=by omega
 have hdef:qB1 l i=if a<n then(if b<n then(if qCj (itAt l b) (itAt l a) then(b:Int) else(a:Int)) else(a:Int)) else -1:=by
  subst ha hb hn;rfl
 have ha8:a<=2001:=by omega
 have hb8:b<=2002:=by omega
 have ha0:(0:Int)<=(a:Int):=by omega
 have hb0:(0:Int)<=(b:Int):=by omega
 by_cases hL:a<n
 ·have hL':(a:Int)<(n:Int):=by omega
  by_cases hR:b<n
  ·have hR':(b:Int)<(n:Int):=by omega
   obtain⟨x0,x1,x2,x3⟩:=hr.cells b (by omega);obtain⟨y0,y1,y2,y3⟩:=hr.cells a (by omega);generalize itAt l b=x at *;generalize itAt l a=y at *;cases hab:qCj x y
   ·have HC:Hid (qB1 l i=(a:Int)):=by show _=_;rw[hdef,if_pos hL,if_pos hR,hab];rfl
    clear hr hq hn ha hb hdef;go_enter Tryz.func175,Tryz.ntmps175
    go_wp2
    go_region_held3 (λw'=>w'.cell? ⟨q,0,none⟩=some (.func (.func 77) #[] #[])/\w'.cell? ⟨q,1,none⟩=some (.slice (some ⟨g,0,none⟩) n cap) /\
       w'.cell? ⟨g,b*4,none⟩=some (.int .i64 x.t)/\w'.cell? ⟨g,b*4+1,none⟩=some (.int .i64 x.k)/\w'.cell? ⟨g,b*4+2,none⟩=some (.int .i64 x.d)/\w'.cell? ⟨g,b*4+3,none⟩=some (.int .i64 x.n) /\
       w'.cell? ⟨g,a*4,none⟩=some (.int .i64 y.t)/\w'.cell? ⟨g,a*4+1,none⟩=some (.int .i64 y.k)/\w'.cell? ⟨g,a*4+2,none⟩=some (.int .i64 y.d)/\w'.cell? ⟨g,a*4+3,none⟩=some (.int .i64 y.n)) (go_keep)
     (first | (go_at_call 77;refine(qGa x y _).mono ?_;rintro e w' ⟨rfl,rfl⟩))
    go_wp2
    go_ret
    exact⟨qBa HC.out.symm,(((Keeps.refl _ _).alloc _).alloc _).drew⟩
   ·have HC:Hid (qB1 l i=(b:Int)):=by show _=_;rw[hdef,if_pos hL,if_pos hR,hab];rfl
    clear hr hq hn ha hb hdef;go_enter Tryz.func175,Tryz.ntmps175
    go_wp2
    go_region_held3 (λw'=>w'.cell? ⟨q,0,none⟩=some (.func (.func 77) #[] #[])/\w'.cell? ⟨q,1,none⟩=some (.slice (some ⟨g,0,none⟩) n cap) /\
       w'.cell? ⟨g,b*4,none⟩=some (.int .i64 x.t)/\w'.cell? ⟨g,b*4+1,none⟩=some (.int .i64 x.k)/\w'.cell? ⟨g,b*4+2,none⟩=some (.int .i64 x.d)/\w'.cell? ⟨g,b*4+3,none⟩=some (.int .i64 x.n) /\
       w'.cell? ⟨g,a*4,none⟩=some (.int .i64 y.t)/\w'.cell? ⟨g,a*4+1,none⟩=some (.int .i64 y.k)/\w'.cell? ⟨g,a*4+2,none⟩=some (.int .i64 y.d)/\w'.cell? ⟨g,a*4+3,none⟩=some (.int .i64 y.n)) (go_keep)
     (first | (go_at_call 77;refine(qGa x y _).mono ?_;rintro e w' ⟨rfl,rfl⟩))
    go_wp2
    go_ret
    exact⟨qBa HC.out.symm,(((Keeps.refl _ _).alloc _).alloc _).drew⟩
  ·have hR':decide ((b:Int)<(n:Int))=false:=by simp;omega
   have HC:Hid (qB1 l i=(a:Int)):=by show _=_;rw[hdef,if_pos hL,if_neg hR]
   clear hr hq hn ha hb hdef;go_enter Tryz.func175,Tryz.ntmps175
   go_wp2
   go_quiet (fail)
   go_wp2
   go_ret
   exact⟨qBa HC.out.symm,⟨rfl,rfl,rfl,Nat.le_refl _,λ_ _ _=>rfl⟩⟩
 ·have hL':decide ((a:Int)<(n:Int))=false:=by simp;omega
  have HC:Hid (qB1 l i=-1):=by show _=_;rw[hdef,if_neg hL]
  have hLn:(n:Int)<=(a:Int):=by omega
  clear hr hq hn ha hb hdef;go_enter Tryz.func175,Tryz.ntmps175
  go_wp2
  go_ret
  exact⟨qBa HC.out.symm,Keeps.refl _ _⟩
end
end Go.Proofs.YtahnliehdjncdabGreatDoor
