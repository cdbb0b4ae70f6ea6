import Derived.Test.YtnokbhcennjanaaGreatDoorXAA
open Go.RowKit Go.Proofs.Tryz
set_option maxRecDepth 100000
set_option maxHeartbeats 16000000
namespace Go.Proofs.YtnokbhcennjanaaGreatDoor
section
def Ci: Value:=.func (.func 66) #[] #[]
structure QB (w:World) (q:Nat) (v:Value):Prop where
 b:aD w q [Ci,v] 159
def swapL(l:List It)(i j:Nat): List It:=(l.set i (itAt l j)).set j (itAt l i)
theorem Jt(d g i j a n:Nat)(w:World)(l:List It)(r:l.length=n)(e:QB w d (.slice (some ⟨g,0,none⟩) n a))(c:aP w g a l)(hi:i<n)(z:j<n)(v:i≠j)(E:d≠g):
  Calls prog 163 #[.pointer (some ⟨d,0,none⟩),.int .i64 i,.int .i64 j] w λq h=>q=.returned (.tuple #[])/\aA (·=g) w h/\aP h g a (swapL l i j):=by
 have D:w.cell? ⟨d,1,none⟩=some (.slice (some ⟨g,0,none⟩) n a):=e.b.cell rfl;have u:(0:Int)<=(i:Int):=by omega
 have x:(i:Int)<(n:Int):=by omega
 have A:(0:Int)<=(j:Int):=by omega
 have B:(j:Int)<(n:Int):=by omega
 obtain⟨F,G,H,I⟩:=c.cells i (by omega);obtain⟨J,L,M,N⟩:=c.cells j (by omega);have t:=c.frozen;have C:i*4≠j*4:=by omega
 have m:Hid (aP w g a l):=c;clear c e r;have o:Hid (swapL l i j=(l.set i (itAt l j)).set j (itAt l i)):=rfl;generalize itAt l i=k at *
 generalize itAt l j=y at *
 go_enter func163,ntmps163;go_region
 go_end0;refine⟨rfl,?_,?_⟩
 ·exact(((aA.refl (λs=>s=g) w).bP (Or.inl rfl) i y).bP (Or.inl rfl) j k).drew
 rw[o.out];exact((m.out.put i y).put j k).drew
def riseL: Nat->List It->Nat->List It
 | 0,l,_=>l
 | f+1,l,i=>if i=0 then l else if BU (itAt l i) (itAt l ((i-1)/2)) then riseL f (swapL l i ((i-1)/2)) ((i-1)/2) else l
theorem Ca(l:List It)(i j:Nat): (swapL l i j).length=l.length:=by simp[swapL]
theorem M5(j g i e n:Nat)(w:World)(l:List It)(I:l.length=n)(aa:n<=1000)(L:QB w j (.slice (some ⟨g,0,none⟩) n e))(M:aP w g e l)(hi:i<n)(t:j≠g):
  Calls prog 116 #[.pointer (some ⟨j,0,none⟩),.int .i64 i] w λA c=>A=.returned (.tuple #[])/\aA (·=g) w c/\aP c g e (riseL (i+1) l i):=by
 have x:Hid (QB w j (.slice (some ⟨g,0,none⟩) n e)):=L;have T:Hid (aP w g e l):=M;have S:Hid (l.length=n):=I;clear L M I;go_enter func116,ntmps116;go_wp2;go_loopw [1] (λC wr=>∃(a f:Nat) (d:List It),C=.int .i64 a/\a<n/\a<=f/\Hid (d.length=n)/\Hid (aA (·=g) w wr)/\Hid (aP wr g e d)/\Hid (riseL (i+1) l i=riseL (f+1) d a)) (λC _=>(intOf C).toNat)
 case atStart=>exact⟨i,i,l,rfl,hi,il _,S,aA.refl _ _,T,rfl⟩
 case round =>
  obtain⟨a,f,d,rfl,F,X,s,m,o,u⟩:=hrel;by_cases W:0<a
  ·have ag:wr.cell? ⟨j,1,none⟩=some (.slice (some ⟨g,0,none⟩) n e):=m.out.cell (x.out.b.cell rfl) t;have V:wr.cell? ⟨j,0,none⟩=some Ci:=m.out.cell (x.out.b.cell rfl) t;unfold Ci at V;obtain⟨p,J⟩:∃p,p=(a-1)/2:=⟨_,rfl⟩;have ae:p<a:=by omega
   have ad:((a:Int)-1)/2=(p:Int):=by omega
   have v:Hid (p=(a-1)/2):=J;clear J;obtain⟨ah,ai,aj,ak⟩:=o.out.cells a (by rw[s.out];exact F);obtain⟨al,am,an,ao⟩:=o.out.cells p (by rw[s.out];omega);have Y:(0:Int)<=(a:Int):=by omega
   have Z:(a:Int)<(n:Int):=by omega
   have ab:(0:Int)<=(p:Int):=by omega
   have af:(p:Int)<(n:Int):=by omega
   generalize O:itAt d a=k at *
   generalize P:itAt d p=y at *
   have D:Hid (itAt d a=k):=O;have E:Hid (itAt d p=y):=P;clear O P;cases hab:BU k y;all_goals
    go_wp2
    go_region_held3 (λc=>c.cell? ⟨j,0,none⟩=some (.func (.func 66) #[] #[])/\c.cell? ⟨j,1,none⟩=some (.slice (some ⟨g,0,none⟩) n e) /\
       c.cell? ⟨g,a*4,none⟩=some (.int .i64 k.t)/\c.cell? ⟨g,a*4+1,none⟩=some (.int .i64 k.k)/\c.cell? ⟨g,a*4+2,none⟩=some (.int .i64 k.d)/\c.cell? ⟨g,a*4+3,none⟩=some (.int .i64 k.n) /\
       c.cell? ⟨g,p*4,none⟩=some (.int .i64 y.t)/\c.cell? ⟨g,p*4+1,none⟩=some (.int .i64 y.k)/\c.cell? ⟨g,p*4+2,none⟩=some (.int .i64 y.d)/\c.cell? ⟨g,p*4+3,none⟩=some (.int .i64 y.n)) (go_keep)
     (first | (go_at_call 66;refine(H7 k y _).mono ?_;rintro A c ⟨rfl,rfl⟩))
    have G:lO wr ((wr.alloc (.cells k.cells 80)).alloc (.cells y.cells 80)).drew:=(((aA.refl _ _).alloc _).alloc _).drew;generalize((wr.alloc (.cells k.cells 80)).alloc (.cells y.cells 80)).drew=z at *
    have q:Hid (lO wr z):=G;clear G
   ·go_wp2;refine iN (ks rfl _ _ _) rfl ?_;refine⟨rfl,m.out.trans q.out (λ_ h=>h.elim),?_⟩;have r:=hab;rw[<-D.out,<-E.out,v.out]at r;rw[u.out];simp only[riseL,hZ (show ¬a=0 by omega),r];exact o.out.keeps q.out id
   go_wp2_with fail
   refine(Jt j g a p e n z d s.out ⟨(x.out.b.keeps m.out t).keeps q.out id⟩ (o.out.keeps q.out id) F (by omega) (by omega) t).mono ?_;rintro A Q ⟨rfl,H,N⟩;have R:Hid (aA (·=g) z Q):=H;have U:Hid (aP Q g e (swapL d a p)):=N;clear H N;go_wp2;go_roundw;case rel =>
    obtain⟨B,rfl⟩:∃B,f=B+1:=⟨f-1,by omega⟩;refine⟨p,B,swapL d a p,rfl,by omega,by omega,(Ca _ _ _).trans s.out,(m.out.trans q.out (λ_ h=>h.elim)).then R.out,U,?_⟩;show _=_;have r:=hab;rw[<-D.out,<-E.out,v.out]at r;rw[u.out,v.out]
    conv=>lhs;unfold riseL
    rw[hZ (by omega),h9 r]
   case measure=>simp[intOf];omega
  go_wp2;go_end0;refine⟨rfl,m.out,?_⟩;rw[u.out,show a=0 by omega];simpa[riseL] using o.out
