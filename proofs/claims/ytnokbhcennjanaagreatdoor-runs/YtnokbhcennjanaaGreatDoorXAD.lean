import Derived.Test.YtnokbhcennjanaaGreatDoorXAC
open Go.RowKit Go.Proofs.Tryz
set_option maxRecDepth 100000
set_option maxHeartbeats 16000000
namespace Go.Proofs.YtnokbhcennjanaaGreatDoor
section
def Bi(l:List It)(i:Nat): Int :=
 if 2*i+1<l.length then
  if 2*i+2<l.length then(if BU (itAt l (2*i+2)) (itAt l (2*i+1)) then(2*i+2:Nat) else(2*i+1:Nat)) else(2*i+1:Nat)
 else -1
theorem Mt(h g i o n:Nat)(w:World)(l:List It)(s:l.length=n)(I:n<=1000)(H:i<=1000)(k:QB w h (.slice (some ⟨g,0,none⟩) n o))(m:aP w g o l):
  Calls prog 164 #[.pointer (some ⟨h,0,none⟩),.int .i64 i] w λu c=>u=.returned (.int .i64 (Bi l i))/\lO w c:=by
 have L:w.cell? ⟨h,1,none⟩=some (.slice (some ⟨g,0,none⟩) n o):=k.b.cell rfl;have J:w.cell? ⟨h,0,none⟩=some (.func (.func 66) #[] #[]):=k.b.cell rfl;obtain⟨a,q⟩:∃a,a=2*i+1:=⟨_,rfl⟩;obtain⟨b,r⟩:∃b,b=2*i+2:=⟨_,rfl⟩;have A:2*(i:Int)+1=(a:Int):=by omega
 have B:(a:Int)+1=(b:Int):=by omega
 have e:Bi l i=if a<n then(if b<n then(if BU (itAt l b) (itAt l a) then(b:Int) else(a:Int)) else(a:Int)) else -1:=by
  subst q r s;rfl
 have E:a<=2001:=by omega
 have G:b<=2002:=by omega
 have D:(0:Int)<=(a:Int):=by omega
 have F:(0:Int)<=(b:Int):=by omega
 by_cases t:a<n
 ·have x:(a:Int)<(n:Int):=by omega
  by_cases v:b<n
  ·have z:(b:Int)<(n:Int):=by omega
   obtain⟨M,N,O,P⟩:=m.cells b (by omega);obtain⟨Q,R,S,T⟩:=m.cells a (by omega);generalize itAt l b=d at *
   generalize itAt l a=y at *
   cases hab:BU d y
   ·have j:Hid (Bi l i=(a:Int)):=by show _=_;rw[e,h9 t,h9 v,hab];rfl
    clear m k s q r e;go_enter func164,ntmps164;go_wp2
    go_region_held3 (λc=>c.cell? ⟨h,0,none⟩=some (.func (.func 66) #[] #[])/\c.cell? ⟨h,1,none⟩=some (.slice (some ⟨g,0,none⟩) n o) /\
       c.cell? ⟨g,b*4,none⟩=some (.int .i64 d.t)/\c.cell? ⟨g,b*4+1,none⟩=some (.int .i64 d.k)/\c.cell? ⟨g,b*4+2,none⟩=some (.int .i64 d.d)/\c.cell? ⟨g,b*4+3,none⟩=some (.int .i64 d.n) /\
       c.cell? ⟨g,a*4,none⟩=some (.int .i64 y.t)/\c.cell? ⟨g,a*4+1,none⟩=some (.int .i64 y.k)/\c.cell? ⟨g,a*4+2,none⟩=some (.int .i64 y.d)/\c.cell? ⟨g,a*4+3,none⟩=some (.int .i64 y.n)) (go_keep)
     (first | (go_at_call 66;refine(H7 d y _).mono ?_;rintro u c ⟨rfl,rfl⟩))
    go_wp2;go_ret;exact⟨A9 j.out.symm,(((aA.refl _ _).alloc _).alloc _).drew⟩
   have j:Hid (Bi l i=(b:Int)):=by show _=_;rw[e,h9 t,h9 v,hab];rfl
   clear m k s q r e;go_enter func164,ntmps164;go_wp2
   go_region_held3 (λc=>c.cell? ⟨h,0,none⟩=some (.func (.func 66) #[] #[])/\c.cell? ⟨h,1,none⟩=some (.slice (some ⟨g,0,none⟩) n o) /\
      c.cell? ⟨g,b*4,none⟩=some (.int .i64 d.t)/\c.cell? ⟨g,b*4+1,none⟩=some (.int .i64 d.k)/\c.cell? ⟨g,b*4+2,none⟩=some (.int .i64 d.d)/\c.cell? ⟨g,b*4+3,none⟩=some (.int .i64 d.n) /\
      c.cell? ⟨g,a*4,none⟩=some (.int .i64 y.t)/\c.cell? ⟨g,a*4+1,none⟩=some (.int .i64 y.k)/\c.cell? ⟨g,a*4+2,none⟩=some (.int .i64 y.d)/\c.cell? ⟨g,a*4+3,none⟩=some (.int .i64 y.n)) (go_keep)
    (first | (go_at_call 66;refine(H7 d y _).mono ?_;rintro u c ⟨rfl,rfl⟩))
   go_wp2;go_ret;exact⟨A9 j.out.symm,(((aA.refl _ _).alloc _).alloc _).drew⟩
  have z:decide ((b:Int)<(n:Int))=false:=by simp;omega
  have j:Hid (Bi l i=(a:Int)):=by show _=_;rw[e,h9 t,hZ v]
  clear m k s q r e;go_enter func164,ntmps164;go_wp2;go_quiet (fail)
  go_wp2;go_ret;exact⟨A9 j.out.symm,⟨rfl,rfl,rfl,il _,λ_ _ _=>rfl⟩⟩
 have x:decide ((a:Int)<(n:Int))=false:=by simp;omega
 have j:Hid (Bi l i=-1):=by show _=_;rw[e,hZ t]
 have C:(n:Int)<=(a:Int):=by omega
 clear m k s q r e;go_enter func164,ntmps164;go_wp2;go_ret;exact⟨A9 j.out.symm,aA.refl _ _⟩
