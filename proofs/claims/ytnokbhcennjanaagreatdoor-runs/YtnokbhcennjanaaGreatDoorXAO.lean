import Derived.Test.YtnokbhcennjanaaGreatDoorXAN
open Go.RowKit Go.Proofs.Tryz
set_option maxRecDepth 100000
set_option maxHeartbeats 16000000
namespace Go.Proofs.YtnokbhcennjanaaGreatDoor.Dr
def Bi(l:List It)(i:Nat): Int :=
 if 2*i+1<l.length then
  if 2*i+2<l.length then(if BU (itAt l (2*i+2)) (itAt l (2*i+1)) then(2*i+2:Nat) else(2*i+1:Nat)) else(2*i+1:Nat)
 else -1
theorem Mt(k g i r n:Nat)(w:World)(l:List It)(u:l.length=n)(M:n<=1000)(L:i<=1000)(o:QB w k (.slice (some ⟨g,0,none⟩) n r))(q:aP w g r l):
  Calls prog 236 #[.pointer (some ⟨k,0,none⟩),.int .i64 i] w λx e=>x=.returned (.int .i64 (Bi l i))/\lO w e:=by
 have O:w.cell? ⟨k,1,none⟩=some (.slice (some ⟨g,0,none⟩) n r):=o.b.cell rfl;have N:w.cell? ⟨k,0,none⟩=some (.func (.func 204) #[] #[]):=o.b.cell rfl;obtain⟨c,s⟩:∃c,c=2*i+1:=⟨_,rfl⟩;obtain⟨b,t⟩:∃b,b=2*i+2:=⟨_,rfl⟩;have D:2*(i:Int)+1=(c:Int):=by omega
 have E:(c:Int)+1=(b:Int):=by omega
 have j:Bi l i=if c<n then(if b<n then(if BU (itAt l b) (itAt l c) then(b:Int) else(c:Int)) else(c:Int)) else -1:=by
  subst s t u;rfl
 have H:c<=2001:=by omega
 have J:b<=2002:=by omega
 have G:(0:Int)<=(c:Int):=by omega
 have I:(0:Int)<=(b:Int):=by omega
 by_cases v:c<n
 ·have B:(c:Int)<(n:Int):=by omega
  by_cases z:b<n
  ·have C:(b:Int)<(n:Int):=by omega
   obtain⟨P,Q,R,S,T⟩:=q.cells b (by omega);obtain⟨U,V,W,X,Y⟩:=q.cells c (by omega);generalize itAt l b=h at *
   generalize itAt l c=y at *
   cases hab:BU h y
   ·have m:Hid (Bi l i=(c:Int)):=by show _=_;rw[j,h9 v,h9 z,hab];rfl
    clear q o u s t j;go_enter func236,ntmps236;go_wp2
    go_region_held3 (λe=>e.cell? ⟨k,0,none⟩=some (.func (.func 204) #[] #[])/\e.cell? ⟨k,1,none⟩=some (.slice (some ⟨g,0,none⟩) n r) /\
       e.cell? ⟨g,b*5,none⟩=some (.int .i64 h.t)/\e.cell? ⟨g,b*5+1,none⟩=some (.int .i64 h.k)/\e.cell? ⟨g,b*5+2,none⟩=some (.int .i64 h.d)/\e.cell? ⟨g,b*5+3,none⟩=some (.int .i64 h.n)/\e.cell? ⟨g,b*5+4,none⟩=some (.int .i64 h.v) /\
       e.cell? ⟨g,c*5,none⟩=some (.int .i64 y.t)/\e.cell? ⟨g,c*5+1,none⟩=some (.int .i64 y.k)/\e.cell? ⟨g,c*5+2,none⟩=some (.int .i64 y.d)/\e.cell? ⟨g,c*5+3,none⟩=some (.int .i64 y.n)/\e.cell? ⟨g,c*5+4,none⟩=some (.int .i64 y.v)) (first | (go_split_ands;exact⟨by assumption,by assumption,by assumption,by assumption,by assumption,by assumption,by assumption,by assumption,by assumption,by assumption,by assumption,by assumption⟩) | (go_split_ands;exact⟨d.cell (by assumption) id,d.cell (by assumption) id,d.cell (by assumption) id,d.cell (by assumption) id,d.cell (by assumption) id,d.cell (by assumption) id,d.cell (by assumption) id,d.cell (by assumption) id,d.cell (by assumption) id,d.cell (by assumption) id,d.cell (by assumption) id,d.cell (by assumption) id⟩))
     (first | (go_at_call 204;refine(JN h y _).mono ?_;rintro x A ⟨rfl,d⟩))
    go_wp2;go_ret;exact⟨A9 m.out.symm,((aA.refl _ _).drew).then d⟩
   have m:Hid (Bi l i=(b:Int)):=by show _=_;rw[j,h9 v,h9 z,hab];rfl
   clear q o u s t j;go_enter func236,ntmps236;go_wp2
   go_region_held3 (λe=>e.cell? ⟨k,0,none⟩=some (.func (.func 204) #[] #[])/\e.cell? ⟨k,1,none⟩=some (.slice (some ⟨g,0,none⟩) n r) /\
      e.cell? ⟨g,b*5,none⟩=some (.int .i64 h.t)/\e.cell? ⟨g,b*5+1,none⟩=some (.int .i64 h.k)/\e.cell? ⟨g,b*5+2,none⟩=some (.int .i64 h.d)/\e.cell? ⟨g,b*5+3,none⟩=some (.int .i64 h.n)/\e.cell? ⟨g,b*5+4,none⟩=some (.int .i64 h.v) /\
      e.cell? ⟨g,c*5,none⟩=some (.int .i64 y.t)/\e.cell? ⟨g,c*5+1,none⟩=some (.int .i64 y.k)/\e.cell? ⟨g,c*5+2,none⟩=some (.int .i64 y.d)/\e.cell? ⟨g,c*5+3,none⟩=some (.int .i64 y.n)/\e.cell? ⟨g,c*5+4,none⟩=some (.int .i64 y.v)) (first | (go_split_ands;exact⟨by assumption,by assumption,by assumption,by assumption,by assumption,by assumption,by assumption,by assumption,by assumption,by assumption,by assumption,by assumption⟩) | (go_split_ands;exact⟨d.cell (by assumption) id,d.cell (by assumption) id,d.cell (by assumption) id,d.cell (by assumption) id,d.cell (by assumption) id,d.cell (by assumption) id,d.cell (by assumption) id,d.cell (by assumption) id,d.cell (by assumption) id,d.cell (by assumption) id,d.cell (by assumption) id,d.cell (by assumption) id⟩))
    (first | (go_at_call 204;refine(JN h y _).mono ?_;rintro x A ⟨rfl,d⟩))
   go_wp2;go_ret;exact⟨A9 m.out.symm,((aA.refl _ _).drew).then d⟩
  have C:decide ((b:Int)<(n:Int))=false:=by simp;omega
  have m:Hid (Bi l i=(c:Int)):=by show _=_;rw[j,h9 v,hZ z]
  clear q o u s t j;go_enter func236,ntmps236;go_wp2;go_quiet (fail)
  go_wp2;go_ret;exact⟨A9 m.out.symm,⟨rfl,rfl,rfl,il _,λ_ _ _=>rfl⟩⟩
 have B:decide ((c:Int)<(n:Int))=false:=by simp;omega
 have m:Hid (Bi l i=-1):=by show _=_;rw[j,hZ v]
 have F:(n:Int)<=(c:Int):=by omega
 clear q o u s t j;go_enter func236,ntmps236;go_wp2;go_ret;exact⟨A9 m.out.symm,aA.refl _ _⟩
def sinkL: Nat->List It->Nat->List It
 | 0,l,_=>l
 | f+1,l,i=>if Bi l i<0 then l else if BU (itAt l (Bi l i).toNat) (itAt l i) then sinkL f (swapL l i (Bi l i).toNat) (Bi l i).toNat else l
theorem G8(l:List It)(i:Nat): Bi l i=-1\/∃a:Nat,Bi l i=a/\i<a/\a<l.length:=by
 unfold Bi;split
 ·split
  ·split
   ·exact .inr ⟨_,rfl,by omega,by omega⟩
   exact .inr ⟨_,rfl,by omega,by omega⟩
  exact .inr ⟨_,rfl,by omega,by omega⟩
 exact .inl rfl
theorem Ko(m g i k n:Nat)(w:World)(l:List It)(S:l.length=n)(ah:n<=1000)(af:i<=1000)(T:QB w m (.slice (some ⟨g,0,none⟩) n k))(U:aP w g k l)(hi:i<n\/n=0)(H:m≠g):
  Calls prog 231 #[.pointer (some ⟨m,0,none⟩),.int .i64 i] w λA h=>A=.returned (.tuple #[])/\aA (·=g) w h/\aP h g k (sinkL (n+1) l i):=by
 have L:Hid (QB w m (.slice (some ⟨g,0,none⟩) n k)):=T;have ad:Hid (aP w g k l):=U;have ab:Hid (l.length=n):=S;have Z:Hid (i<n\/n=0):=hi;clear T U S hi;go_enter func231,ntmps231;go_wp2;go_loopw [1] (λI wr=>∃(c f:Nat) (e:List It),I=.int .i64 c/\Hid (c<n\/n=0)/\c<=1000/\n<=c+f/\Hid (e.length=n)/\Hid (aA (·=g) w wr)/\Hid (aP wr g k e)/\Hid (sinkL (n+1) l i=sinkL (f+1) e c)) (λI _=>2000-(intOf I).toNat)
 case atStart=>exact⟨i,n,l,rfl,Z,af,by omega,ab,aA.refl _ _,ad,rfl⟩
 case round =>
  obtain⟨c,f,e,rfl,ai,ag,am,s,u,J,C⟩:=hrel;go_wp2_with fail
  refine(Mt m g c k n wr e s.out ah ag ⟨L.out.b.keeps u.out H⟩ J.out).mono ?_;rintro A o ⟨rfl,B⟩;have D:Hid (lO wr o):=B;have t:Hid (aP o g k e):=J.out.keeps B id;have E:Hid (QB o m (.slice (some ⟨g,0,none⟩) n k)):=⟨(L.out.b.keeps u.out H).keeps B id⟩;clear B;have ar:o.cell? ⟨m,1,none⟩=some (.slice (some ⟨g,0,none⟩) n k):=E.out.b.cell rfl;have aq:o.cell? ⟨m,0,none⟩=some (.func (.func 204) #[] #[]):=E.out.b.cell rfl;rcases G8 e c with r | ⟨d,r,ao,G⟩
  ·have x:Hid (Bi e c=-1):=r;rw[r];clear r;go_wp2;go_quiet (fail)
   go_wp2;refine iN (ks rfl _ _ _) rfl ?_;refine⟨rfl,(u.out.trans D.out (λ_ a=>a.elim)).trans (aA.drewN (λ_=>False) o _) (λ_ a=>a.elim),?_⟩;rw[C.out];simp only[sinkL,x.out];exact t.out.keeps (aA.drewN (λ_=>False) o _) id
  have x:Hid (Bi e c=(d:Int)):=r;rw[r];clear r;have O:d<n:=by rw[s.out]at G;exact G
  clear G;have R:c<n:=by omega
  obtain⟨au,av,aw,ax,ay⟩:=t.out.cells d (by rw[s.out];exact O);obtain⟨az,a0,a1,a2,a3⟩:=t.out.cells c (by rw[s.out];exact R);have an:(0:Int)<=(c:Int):=by omega
  have ap:(c:Int)<(n:Int):=by omega
  have aj:(0:Int)<=(d:Int):=by omega
  have ak:(d:Int)<(n:Int):=by omega
  have al:decide ((d:Int)<0)=false:=by simp
  generalize W:itAt e d=q at *
  generalize X:itAt e c=y at *
  have M:Hid (itAt e d=q):=W;have N:Hid (itAt e c=y):=X;clear W X;cases hab:BU q y;all_goals
   go_wp2
   go_region_held3 (λh=>h.cell? ⟨m,0,none⟩=some (.func (.func 204) #[] #[])/\h.cell? ⟨m,1,none⟩=some (.slice (some ⟨g,0,none⟩) n k) /\
      h.cell? ⟨g,d*5,none⟩=some (.int .i64 q.t)/\h.cell? ⟨g,d*5+1,none⟩=some (.int .i64 q.k)/\h.cell? ⟨g,d*5+2,none⟩=some (.int .i64 q.d)/\h.cell? ⟨g,d*5+3,none⟩=some (.int .i64 q.n)/\h.cell? ⟨g,d*5+4,none⟩=some (.int .i64 q.v) /\
      h.cell? ⟨g,c*5,none⟩=some (.int .i64 y.t)/\h.cell? ⟨g,c*5+1,none⟩=some (.int .i64 y.k)/\h.cell? ⟨g,c*5+2,none⟩=some (.int .i64 y.d)/\h.cell? ⟨g,c*5+3,none⟩=some (.int .i64 y.n)/\h.cell? ⟨g,c*5+4,none⟩=some (.int .i64 y.v)) (first | (go_split_ands;exact⟨by assumption,by assumption,by assumption,by assumption,by assumption,by assumption,by assumption,by assumption,by assumption,by assumption,by assumption,by assumption⟩) | (go_split_ands;exact⟨j.cell (by assumption) id,j.cell (by assumption) id,j.cell (by assumption) id,j.cell (by assumption) id,j.cell (by assumption) id,j.cell (by assumption) id,j.cell (by assumption) id,j.cell (by assumption) id,j.cell (by assumption) id,j.cell (by assumption) id,j.cell (by assumption) id,j.cell (by assumption) id⟩))
    (first | (go_at_call 204;refine(JN q y _).mono ?_;rintro A z ⟨rfl,j⟩))
   have P:lO o z:=((aA.refl _ _).drew).then j;clear j;have v:Hid (lO o z):=P;clear P
  ·go_wp2;refine iN (ks rfl _ _ _) rfl ?_;refine⟨rfl,(u.out.trans D.out (λ_ a=>a.elim)).trans v.out (λ_ a=>a.elim),?_⟩;rw[C.out];simp only[sinkL,x.out,iH,M.out,N.out,hab,hZ (show ¬((d:Int)<0) by omega)];exact t.out.keeps v.out id
  go_wp2_with fail
  refine(Jt m g c d k n z e s.out ⟨E.out.b.keeps v.out id⟩ (t.out.keeps v.out id) R (by omega) (by omega) H).mono ?_;rintro A Y ⟨rfl,Q,V⟩;have aa:Hid (aA (·=g) z Y):=Q;have ae:Hid (aP Y g k (swapL e c d)):=V;clear Q V;go_wp2;go_roundw;case rel =>
   obtain⟨F,rfl⟩:∃F,f=F+1:=⟨f-1,by omega⟩;refine⟨d,F,swapL e c d,rfl,.inl O,by omega,by omega,(Ca _ _ _).trans s.out,((u.out.trans D.out (λ_ a=>a.elim)).trans v.out (λ_ a=>a.elim)).then aa.out,ae,?_⟩;show _=_;rw[C.out]
   conv=>lhs;unfold sinkL
   simp only[x.out,iH,M.out,N.out,hab,hZ (show ¬((d:Int)<0) by omega),lH]
  case measure=>simp[intOf];omega
