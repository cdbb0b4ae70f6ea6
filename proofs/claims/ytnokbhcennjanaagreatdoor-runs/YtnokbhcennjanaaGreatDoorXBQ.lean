import Derived.Test.YtnokbhcennjanaaGreatDoorXBP
open Go.RowKit Go.Proofs.Tryz
set_option maxRecDepth 100000
set_option maxHeartbeats 16000000
namespace Go.Proofs.YtnokbhcennjanaaGreatDoor
section
def IU(m acc rel:Int)(nv:Value): List Value:=[.int .i64 m,.int .i64 acc,.int .i64 rel,nv]
theorem TT(a i n:Nat)(c:Cfg)(h e m acc rel:Int)(nv:Value)(tl:List Nat)(w:World)(Q:aD w a (E7 c 0 0) 194)(d:aR w i (Ae [h,e]++tl))(A:aD w n (IU m acc rel nv) 177)(r:a≠i)(U:n≠i)(T:n≠a)(X:0<=h)(av:h<=rel)(P:0<=e)(aj:e<=2305843009213693951)(a3:rel<=4611686018427387904)(R:h<rel\/e=0)(S:0<h\/rel<=e):
  Calls prog 156 #[.pointer (some ⟨a,0,none⟩),.pointer (some ⟨i,0,none⟩),.pointer (some ⟨n,0,none⟩)] w λD C=>D=.returned (.tuple #[])/\aD C a (E7 c h e) 194/\aR C i tl/\aA (λj=>j=i\/j=a) w C:=by
 rw[BN,Ei,List.append_assoc]at d;have E:=Aa Q;have H:=Aa A;have au:=A.c2;have J:=Aa (EJ i h 0 rel (enc e++tl) w d X (by omega) X av);clear d Q A;go_enter func156,ntmps156;go_wp2_with fail
 refine J.o.mono ?_;rintro D o ⟨rfl,V,s⟩;have u:=Aa (E.o.keeps s r);have aa:=Aa (H.o.keeps s U);have am:o.cell? ⟨a,20,none⟩=some (.int .i64 0):=u.o.cell rfl;have ao:=u.o.frozen;have F:=Aa (show aD (o.setCell ⟨a,20,none⟩ (.int .i64 h)) a (E7 c h 0) 194 from u.o.setCell 20 (.int .i64 h));have M:=Aa (V.keeps ((aA.refl (λj=>j=a) o).setCell (p:=⟨a,20,none⟩) (Or.inl rfl) (.int .i64 h)) (λd=>r d.symm));have I:=Aa (aa.o.aW (p:=⟨a,20,none⟩) (λd=>T d.symm) (.int .i64 h));have L:=Aa (show aA (λj=>j=i\/j=a) w (o.setCell ⟨a,20,none⟩ (.int .i64 h)) from(s.mono (λ_ _ d=>.inl d)).setCell (p:=⟨a,20,none⟩) (Or.inl (.inr rfl)) _);clear V s au J E H;go_wp2_with fail
 clear am ao;generalize o.setCell ⟨a,20,none⟩ (.int .i64 h)=ax at *
 refine(EJ i e 0 2305843009213693951 tl ax M.o P (by omega) P aj).mono ?_;rintro D q ⟨rfl,W,t⟩;have v:=Aa (F.o.keeps t r);have ab:=Aa (I.o.keeps t U);have an:q.cell? ⟨a,21,none⟩=some (.int .i64 0):=v.o.cell rfl;have ap:=v.o.frozen;have x:=Aa (show aD (q.setCell ⟨a,21,none⟩ (.int .i64 e)) a (E7 c h e) 194 from v.o.setCell 21 (.int .i64 e));have N:=Aa (W.keeps ((aA.refl (λj=>j=a) q).setCell (p:=⟨a,21,none⟩) (Or.inl rfl) (.int .i64 e)) (λd=>r d.symm));have ad:=Aa (ab.o.aW (p:=⟨a,21,none⟩) (λd=>T d.symm) (.int .i64 e));have ae:=Aa (show aA (λj=>j=i\/j=a) w (q.setCell ⟨a,21,none⟩ (.int .i64 e)) from(L.o.trans t (λ_ d _=>.inl d)).setCell (p:=⟨a,21,none⟩) (Or.inl (.inr rfl)) _);clear W t F M I L;go_wp2_with fail
 clear an ap;generalize q.setCell ⟨a,21,none⟩ (.int .i64 e)=k at *
 have ag:k.cell? ⟨a,20,none⟩=some (.int .i64 h):=x.o.cell rfl;have ah:k.cell? ⟨a,21,none⟩=some (.int .i64 e):=x.o.cell rfl;have ai:=ad.o.c2;have G:=Aa (show ∀z B,Calls prog 124 #[.pointer (some ⟨i,0,none⟩),.bool true] (World.drewN z B) λe aw=>e=.returned (.tuple #[])/\aw=World.drewN z B from λz B=>Gc i _);have aq:(decide (h<rel)=true)\/(decide (h<rel)=false/\(e==0)=true):=by
  by_cases d:h<rel
  ·exact .inl (by simpa using d)
  refine .inr ⟨by simpa using d,?_⟩;rcases R with l | l
  ·exact absurd l d
  simpa using l
 have ar:(decide (0<h)=true)\/(decide (0<h)=false/\decide (rel<=e)=true):=by
  by_cases d:0<h
  ·exact .inl (by simpa using d)
  refine .inr ⟨by simpa using d,?_⟩;rcases S with l | l
  ·exact absurd l d
  simpa using l
 clear R S;rcases aq with ak | ⟨ak,a1⟩;all_goals
  go_quiet (first | (go_at_call 124;refine jv (G.o k _)))
  have ay:(k.drewN nq).cell? ⟨a,20,none⟩=some (.int .i64 h):=ag;have az:(k.drewN nq).cell? ⟨a,21,none⟩=some (.int .i64 e):=ah;have a0:(k.drewN nq).cell? ⟨n,2,none⟩=some (.int .i64 rel):=ai;have Z:=Aa (show aD (k.drewN nq) a (E7 c h e) 194 from x.o);have O:=Aa (show aR (k.drewN nq) i tl from⟨N.o.aF,N.o.len⟩);have af:=Aa (ae.o.trans (aA.drewN (λ_=>False) k nq) (λ_ d _=>d.elim));generalize k.drewN nq=Y at *
  go_wp2_with fail
  rcases ar with al | ⟨al,a2⟩;all_goals
   go_quiet (first | (go_at_call 124;refine jv (G.o Y _)))
   go_wp2;go_end0;exact⟨rfl,Z.o,⟨O.o.aF,O.o.len⟩,af.o.trans (aA.drewN (λ_=>False) Y _) (λ_ d _=>d.elim)⟩
end
section
attribute [local go_sem ↓] AN JC
attribute [local go_sem] AO A5 A6 AI AJ BC BD Bf B3
theorem Rs(k j:Nat)(c:AE[k]?=some j)(w:World): (Instr.index 127 (.agg #[.int .i64 5,.int .i64 6,.int .i64 7,.int .i64 8,.int .i64 10,.int .i64 9,.int .i64 11]) (.int .i64 (k:Int))).run prog w=.ok (.int .i64 (j:Int)) w:=by
 have h:k<7:=by have:=(ik.1 c).1;exact this
 have e:k=0\/k=1\/k=2\/k=3\/k=4\/k=5\/k=6:=by omega
 rcases e with a | a | a | a | a | a | a;all_goals
  subst a;have d:=jA c;rw[<-d];clear d c
 ·exact KS w
 ·exact KT w
 ·exact KU w
 ·exact KV w
 ·exact KX w
 ·exact KY w
 exact KZ w
def Dn(c:Cfg)(clock:Int): Int :=
 let t:=if 0<(if clock-c.aK+1<clock then clock-c.aK+1 else clock) then(if clock-c.aK+1<clock then clock-c.aK+1 else clock) else 0
 if 4611686018427387904/c.cap<t then 4611686018427387904 else c.cap*t
theorem WV(m:SB)(x:aI)(clock:Int)(w:World)(e:bJ w m x)(A:0<=x.c.aK)(B:x.c.aK<=100)(O:1<=x.c.cap)(P:x.c.cap<=8)(c0:0<=clock)(c1:clock<=4611686018427387904):
  Calls prog 126 #[.pointer (some ⟨m.s,0,none⟩),.int .i64 clock] w λn D=>n=.returned (.int .i64 (Dn x.c clock))/\D=w:=by
 have q:=e.aF.c2;have J:=e.aF.c4;have t:=Aa (Gt m.s x.c.aK clock w q A B c0 c1);clear e q;obtain⟨d,i,I⟩:∃d,(if clock-x.c.aK+1<clock then clock-x.c.aK+1 else clock)=d/\d<=clock:=⟨_,rfl,by split <;> omega⟩;obtain⟨c,j,M,z⟩:∃c,(if 0<d then d else 0)=c/\c<=clock/\0<=c:=⟨_,rfl,by split <;> omega,by split <;> omega⟩;have s:=Aa (show Dn x.c clock=if 4611686018427387904/x.c.cap<c then 4611686018427387904 else x.c.cap*c by unfold Dn;simp only;rw[i,j]);have Q:IntKind.i64.wrap (clock-x.c.aK+1)=clock-x.c.aK+1:=by rw[ic];omega
 have L:(4611686018427387904:Int).tdiv x.c.cap=4611686018427387904/x.c.cap:=jl (by omega);generalize x.c.cap=a at *
 generalize x.c.aK=C at *
 have G:0<=4611686018427387904/a:=jK (by omega) (by omega);have H:4611686018427387904/a<=4611686018427387904:=jN _ (by omega);have N:wrap64 (4611686018427387904/a)=4611686018427387904/a:=by
  have:=ic (4611686018427387904/a);unfold wrap64;omega
 have v:4611686018427387904/a<c\/(c<=4611686018427387904/a/\IntKind.i64.wrap (a*c)=a*c):=by
  by_cases e:4611686018427387904/a<c
  ·exact .inl e
  refine .inr ⟨by omega,?_⟩;have l:a*c<=4611686018427387904:=by
   have h:c<=4611686018427387904/a:=by omega
   have o:=jo h (show 0<=a by omega);have u:=Int.mul_ediv_self_le (x:=4611686018427387904) (k:=a) (by omega);omega
  have F:0<=a*c:=kF (by omega) z;rw[ic];omega
 by_cases l:clock-C+1<clock;all_goals
  by_cases h:0<d;all_goals
   rcases v with o | ⟨o,u⟩;all_goals
    first | rw[h9 l]at i | rw[hZ l]at i
    first | rw[h9 h]at j | rw[hZ h]at j
    subst j;subst i
   all_goals
    first
     | (exfalso;omega)
     | (go_enter func126,ntmps126
        go_wp2_with fail
        refine t.o.mono ?_;rintro n E ⟨rfl,r⟩;rw[r];clear r E;go_wp2;go_ret
        exact⟨by rw[s.o];first | (rw[h9 (by omega)];rfl) | (rw[hZ (by omega)];simp[go_sem];done),rfl⟩)
structure eI (w:World) (r:Nat) (sb:SB) (x:aI) (tl:List Nat) (w':World):Prop where
 cW:bJ w' sb x
 rd:aR w' r tl
 kp:aA (λi=>i=r) w w'
 new:∀i,sb.aQ x.k i->w.heap.size<=i
 rl:r<w.heap.size
theorem eI.apart{w:World}{c:Nat}{d:SB}{x:aI}{tl:List Nat}{w':World}(a:eI w c d x tl w')(i:Nat)(hi:d.aQ x.k i): ¬i=c:=λe=>by
 have h:=a.new i hi;have j:=a.rl;omega
theorem eI.still{w:World}{d:Nat}{e:SB}{x:aI}{tl:List Nat}{w' h:World}(a:eI w d e x tl w')(c:lO w' h): eI w d e x tl h :=
 ⟨a.cW.still c,a.rd.keeps c id,a.kp.trans c (λ_ a _=>a.elim),a.new,a.rl⟩
theorem eI.number{w:World}{c:Nat}{i:SB}{x:aI}{n lo hi:Int}{tl:List Nat}{w':World}(a:eI w c i x (enc n++tl) w')(o:0<=n)(n1:n<=9223372036854775807)(k:lo<=n)(l:n<=hi):
  Calls prog 77 #[.pointer (some ⟨c,0,none⟩),.int .i64 lo,.int .i64 hi] w' λh j=>h=.returned (.int .i64 n)/\eI w c i x tl j/\aA (λe=>e=c) w' j:=by
 refine(EJ c n lo hi tl w' a.rd o n1 k l).mono ?_;rintro h q ⟨rfl,m,d⟩;exact⟨rfl,⟨a.cW.keeps d (λe hi=>a.apart e hi),m,a.kp.then d,a.new,a.rl⟩,d⟩
theorem eI.set{w:World}{k:Nat}{c:SB}{x x2:aI}{tl:List Nat}{w':World}(a:eI w k c x tl w')(o:Nat)(v:Value)(m:(D1 c x).set o v=D1 c x2)(q:x2.l=x.l)(j:x2.k=x.k)(l:x2.c=x.c)(r:x2.nt=x.nt): eI w k c x2 tl (w'.setCell ⟨c.s,o,none⟩ v):=by
 have e:aA (λd=>d=c.s) w' (w'.setCell ⟨c.s,o,none⟩ v):=(aA.refl (λd=>d=c.s) w').setCell (p:=⟨c.s,o,none⟩) (Or.inl rfl) v;have z:=a.new c.s (.inl rfl);have u:=a.rl;refine⟨⟨?_,?_,?_,a.cW.sq,a.cW.sg,?_⟩,a.rd.keeps e (show ¬(k=c.s) by omega),a.kp.trans e (λd i t=>by have s:d=c.s:=i;omega),?_,a.rl⟩
 ·rw[<-m];exact a.cW.aF.setCell o v
 ·rw[q];exact a.cW.dL.keeps e (λh=>a.cW.sq h.symm) (λg n h=>a.cW.sg g n h.symm)
 ·rw[j,l,r];exact a.cW.note.keeps e (λd i=>(a.cW.sn d i).1)
 ·rw[j];exact a.cW.sn
 rw[j];exact a.new
def CF(l:List Int): Nat->List Int
 | 0=>[0,0,0,0,0,0,0,0,0,0,0,0]
 | k+1=>(CF l k).set (AE.getD k 0) (Ac l (AE.getD k 0))
theorem N6(l:List Int)(k:Nat): (CF l k).length=12:=by
 induction k with
 | zero=>rfl
 | succ k a=>unfold CF;rw[jx,a]
theorem Ma(c:Nat)(l:List Nat)(w:World)(a:aR w c l): Calls prog 79 #[.pointer (some ⟨c,0,none⟩)] w λd e=>d=.returned (.bool false)/\e=w:=by
 have h:=a.aF.c1;clear a;go_enter func79,ntmps79;go_wp2;go_ret;exact⟨rfl,rfl⟩
structure gK (x:aI) (clock:Int):Prop where
 fQ:0<=x.id/\x.id<=99
 cfg:∀n,n∈BR x.k x.c->0<=n/\n<=9223372036854775807
 p0:0<=Bb x.k x.c
 p3:Bb x.k x.c<=3
 kind:x.c.kind=x.k
 k1:1<=x.k
 k5:x.k<=5
 valid:Ak (Al x.k x.c)=true
 ref:∀j,0<=Ac x.ref j/\Ac x.ref j<=4611686018427387904
 dI:0<=x.rel
 hI:x.rel<=Dn (Al x.k x.c) clock
 hJ:x.rel<=4611686018427387000
 c0:0<=clock
 c1:clock<=4611686018427387904
 aK:0<=(Al x.k x.c).aK/\(Al x.k x.c).aK<=100
 cap:1<=(Al x.k x.c).cap/\(Al x.k x.c).cap<=8
end
section
theorem Oc{w:World}{base:Nat}{v:Value}{l:List Int}(i:w.ownsRow base 3 1 v l.length (Af l)): ∃h c,v=.slice h l.length c/\(0<l.length->∃g,h=some ⟨g,0,none⟩/\∀a,a<l.length->w.cell? ⟨g,a,none⟩=some (.int .i64 (l.getD a 0))):=by
 rcases LS i with ⟨d,e⟩ | ⟨g,c,d,e⟩
 ·exact⟨none,0,by rw[e,d],λi=>by omega⟩
 refine⟨_,c,d,λ_=>⟨g,rfl,λa j=>e a _ ?_⟩⟩;unfold Af;rw[iP,hX j,List.getD_eq_getElem?_getD,hX j];rfl
theorem ZO(v:Value)(base:Nat)(l:List Int)(n:Int)(w:World)(j:w.ownsRow base 3 1 v l.length (Af l))(A:l.length<=1000)(o:n ∉ l):
  Calls prog 211 #[v,.int .i64 n] w λt C=>t=.returned (.int .i64 (-1))/\C=w:=by
 obtain⟨D,E,q,k⟩:=Oc j;obtain⟨c,e⟩:∃c,l.length=c:=⟨_,rfl⟩;rw[e]at q A;subst q;have r:=Aa k;have i:=Aa e;have s:=Aa o;clear j k e o;go_enter func211,ntmps211;go_wp2;go_loopw [8] (λh wr=>∃a:Nat,a<=c/\h=.int .i64 a/\wr=w) (λh _=>c-(intOf h).toNat)
 case atStart=>exact⟨0,by omega,rfl,rfl⟩
 case round =>
  obtain⟨a,G,rfl,rfl⟩:=hrel;by_cases z:a<c
  ·obtain⟨g,u,m⟩:=r.o (by rw[i.o];omega);subst u;have d:a<l.length:=by rw[i.o];exact z
   have F:=m a d;have J:(n==l.getD a 0)=false:=by
    have B:l.getD a 0∈l:=by rw[List.getD_eq_getElem?_getD,hX d];exact jc d
    cases hb:(n==l.getD a 0) with
    | false=>rfl
    | true=>exact absurd (by rw[beq_iff_eq]at hb;rw[hb];exact B) s.o
   generalize l.getD a 0=L at *
   have H:(0:Int)<=(a:Int):=by omega
   have I:(a:Int)<(c:Int):=by omega
   clear m d;go_wp2;go_roundw;case rel=>exact⟨a+1,by omega,by go_num,by trivial⟩
   case measure=>simp[intOf];omega
  have x:a=c:=by omega
  subst x;go_wp2;go_ret;exact⟨rfl,rfl⟩
theorem U9(v:Value)(base:Nat)(l:List Int)(n:Int)(w:World)(c:w.ownsRow base 3 1 v l.length (Af l))(i:l.length<=1000)(d:n ∉ l):
  Calls prog 168 #[v,.int .i64 n] w λa j=>a=.returned (.bool false)/\j=w:=by
 have h:=Aa (ZO v base l n w c i d);clear c d;go_enter func168,ntmps168;go_wp2_with fail
 refine h.o.mono ?_;rintro a k ⟨rfl,e⟩;rw[e];clear e k;go_wp2;go_ret;exact⟨rfl,rfl⟩
structure dA (w:World) (kn:Nat) (m acc rel:Int) (nv:Value) (ns:List Int):Prop where
 aF:aD w kn (IU m acc rel nv) 177
 row:w.ownsRow (kn+1) 3 1 nv ns.length (Af ns)
theorem dA.keeps{M:Nat->Prop}{w w':World}{a:Nat}{m acc rel:Int}{nv:Value}{ns:List Int}(c:dA w a m acc rel nv ns)(d:aA M w w')(h:¬M a)(i:∀e,nv.ownBlock=some e->¬M e): dA w' a m acc rel nv ns :=
 ⟨c.aF.keeps d h,F4 c.row d i⟩
theorem N5(h c:Nat)(m acc rel n:Int)(nv:Value)(ns:List Int)(tl:List Nat)(w:World)(d:aR w h (enc n++tl))(z:dA w c m acc rel nv ns)(am:h<c)(n1:1<=n)(ag:n<=acc)(ah:acc<=4611686018427387904)(N:n ∉ ns)(ae:ns.length<=900):
  Calls prog 127 #[.pointer (some ⟨c,0,none⟩),.pointer (some ⟨h,0,none⟩)] w λv G=>v=.returned (.int .i64 n)/\aR G h tl/\(∃R,dA G c m acc rel R (ns++[n])/\(∀a,R.ownBlock=some a->nv.ownBlock=some a\/w.heap.size<=a))/\aA (λa=>a=h\/a=c\/nv.ownBlock=some a) w G:=by
 have V:=Aa z;have af:=z.aF.c1;have J:=Aa (EJ h n 1 acc tl w d (by omega) (by omega) n1 ag);have X:=Aa N;have M:=λa j=>(z.row.lt a j).1;have u:=Aa (show ∀a,nv.ownBlock=some a->c+1<=a from M);clear d z N M;go_enter func127,ntmps127;go_wp2_with fail
 refine J.o.mono ?_;rintro v l ⟨rfl,P,D⟩;have aa:=Aa P;have I:=Aa D;have o:=Aa (V.o.keeps D (show ¬(c=h) by omega) (λa j=>show ¬(a=h) by have:=u.o a j;omega));have ao:=o.o.aF.c3;clear P D af J;go_wp2_with fail
 refine(U9 nv (c+1) ns n l o.o.row (by omega) X.o).mono ?_;rintro v H ⟨rfl,s⟩;rw[s];clear s H;go_wp2_with fail
 refine(Gc h _).mono ?_;rintro v H ⟨rfl,s⟩;rw[s];clear s H;obtain⟨q,r,Q,_⟩:=Oc o.o.row;obtain⟨e,B⟩:∃e,ns.length=e:=⟨_,rfl⟩;rw[B]at Q ae;subst Q;have al:=o.o.aF.lt;have ad:=Aa (show l.ownsRow (c+1) 3 1 (.slice q e r) e (Af ns) by have:=o.o.row;rw[B]at this;exact this);have Z:=Aa B;have U:=Aa (o.o.aF.alloc (.cells #[.int .i64 n] 3));clear B;go_wp2_with (at_builtin;refine Fe rfl _ _ rfl (c+1) (.slice q e r) e ns rfl (by exact DT ad.o ((aA.refl (λ_=>False) l).alloc _) (λ_ _ d=>d)) l.heap.size 1 [n] rfl rfl (by exact aD.new l [.int .i64 n] 3) (by omega) (by omega) (by simp;omega) ?_;intro k c2 t O F C;have x:=U.o.keeps F (λd=>by have:=u.o c d;omega);have ai:=x.cell (i:=3) rfl;have aj:=x.frozen)
 have ak:k≠c:=by
  rcases C with d | d
  ·have:=u.o k d;omega
  simp at d;omega
 have an:=I.o.size;have A:aA (λa=>a=c) t (t.setCell ⟨c,3,none⟩ (.slice (some ⟨k,0,none⟩) (e+1) c2)):=(aA.refl (λa=>a=c) t).setCell (p:=⟨c,3,none⟩) (Or.inl rfl) _;have T:=Aa (x.setCell 3 (.slice (some ⟨k,0,none⟩) (e+1) c2));have Y:=Aa (F4 O A (λa j=>show ¬(a=c) by have L:k=a:=(by simpa[Value.ownBlock] using j);omega));have E:aA (λa=>(Value.slice q e r).ownBlock=some a) l t:=((aA.refl _ l).alloc _).then F;have ab:=Aa ((aa.o.keeps E (λd=>by have:=u.o h d;omega)).keeps A (show ¬(h=c) by omega));have W:=Aa (show aA (λa=>a=h\/a=c\/(Value.slice q e r).ownBlock=some a) w (t.setCell ⟨c,3,none⟩ (.slice (some ⟨k,0,none⟩) (e+1) c2)) from((I.o.mono (λ_ _ d=>.inl d)).trans E (λa j _=>.inr (.inr j))).trans A (λa j _=>.inr (.inl j)))
 have S:=Aa (show ∀a,(Value.slice (some ⟨k,0,none⟩) (e+1) c2).ownBlock=some a->(Value.slice q e r).ownBlock=some a\/w.heap.size<=a from λa j=>by
    have L:k=a:=by simpa[Value.ownBlock] using j
    subst L;rcases C with d | d
    ·exact .inl d
    simp at d;exact .inr (by omega))
 clear x O F C A E;go_wp2;go_ret;exact⟨rfl,ab.o,⟨_,⟨T.o,by rw[hY,iZ,Z.o];exact Y.o⟩,S.o⟩,W.o⟩
def rowFrom(cs:List Int)(k:Nat): Nat->Nat->List Int
 | 0,_=>[]
 | n+1,j=>cs.getD (k*16+j) 0::rowFrom cs k n (j+1)
def Fg(cs:List Int)(wd:Nat): Nat->Nat->List Int
 | 0,_=>[]
 | n+1,k=>rowFrom cs k wd 0++Fg cs wd n (k+1)
theorem VX(cs:List Int)(k n j:Nat): (List.range' j n).map (λj=>cs.getD (k*16+j) 0)=rowFrom cs k n j:=by
 induction n generalizing j with
 | zero=>rfl
 | succ n a=>rw[lq,iC,rowFrom,a]
theorem Q1(cs:List Int)(k a:Nat): CI a cs k=rowFrom cs k a 0:=by rw[<-VX,<-List.range_eq_range'];rfl
theorem SS(cs:List Int)(a n k:Nat): (List.range' k n).flatMap (CI a cs)=Fg cs a n k:=by
 induction n generalizing k with
 | zero=>rfl
 | succ n c=>rw[lq,ju,Fg,c,Q1]
theorem Xw(cs:List Int)(a n:Nat): Ek n a cs=Fg cs a n 0:=by rw[<-SS,<-List.range_eq_range'];rfl
def Bm(l:List Int): Int:=l.foldr (λa b=>a+b) 0
structure fG (R W:Nat) (most s:Int) (cs:List Int):Prop where
 nn:∀i,0<=cs.getD i 0
 ze:∀i,(R<=i/16\/W<=i%16)->cs.getD i 0=0
 row:∀j,j<R->Bm (CI W cs j)=s
 s0:0<s
 s1:s<=most
theorem TH{R W:Nat}{d s:Int}{cs:List Int}(a:fG R W d s cs)(k n j:Nat): 0<=Bm (rowFrom cs k n j):=by
 induction n generalizing j with
 | zero=>exact iG _
 | succ n c =>
  have e:=c (j+1);have h:=a.nn (k*16+j);show 0<=cs.getD (k*16+j) 0+Bm (rowFrom cs k n (j+1));omega
theorem Y2{w:World}{a e:Nat}{c:Cfg}{p p':Pa.Pn}(i:Nat)(x:Int)(hi:i<48)(j:aD w a (Be c p e) 233)(k:p'.no=p.no)(l:p'.cs=p.cs.set i x):
  aD (w.setCell ⟨a,21+i,none⟩ (.int .i64 x)) a (Be c p' e) 233:=by
 have d:=j.setCell (21+i) (.int .i64 x);rw[show 21+i=20+(i+1) by omega,PU c p e (i+1) _ (by omega)]at d;have h:p.cells.set (i+1) (.int .i64 x)=p'.cells:=by
  unfold Pa.Pn.cells;rw[List.set_cons_succ,k,l,kH]
 rw[h]at d;rw[show 21+i=20+(i+1) by omega];exact d
theorem YU{w:World}{a d:Nat}{c:Cfg}{p:Pa.Pn}(i:Nat)(hi:i<48)(e:aD w a (Be c p d) 233): w.cell? ⟨a,21+i,none⟩=some (.int .i64 (p.cs.getD i 0)):=by
 rw[show 21+i=20+(i+1) by omega];refine e.cell ((Jp c _ d (i+1) (by omega)).trans ?_);show((.int .i64 p.no::p.cs.map (.int .i64 ·):List Value))[i+1]?=_;rw[kR,iP,List.getD_eq_getElem?_getD,hX (by rw[p.len];exact hi)];rfl
theorem Vm(l:List Int)(i j:Nat)(x:Int)(hi:i<l.length): (l.set i x).getD j 0=if j=i then x else l.getD j 0:=by
 simp only[List.getD_eq_getElem?_getD,jE];by_cases a:i=j
 ·subst a;simp[hi]
 simp[a,lx a]
theorem Z4(i u l R W:Nat)(c:Cfg)(z:Int)(cs:List Int)(F:cs.length=48)(C s:Int)(tl:List Nat)(w:World)(P:aD w i (Be c (Ct z) u) 233)(ag:aR w l (Ae (Ek R W cs)++tl))(af:i≠l)(ad:c.rows=(R:Int))(ae:c.width=(W:Int))(a1:1<=R)(a2:R<=3)(a3:W<=16)(M:fG R W C s cs)(bf:C<=4611686018427387904):
  Calls prog 199 #[.pointer (some ⟨i,0,none⟩),.pointer (some ⟨l,0,none⟩),.int .i64 C] w λt X=>t=.returned (.int .i64 s)/\aD X i (Be c ⟨z,cs,F⟩ u) 233/\aR X l tl/\aA (λd=>d=l\/d=i) w X:=by
 have c7:w.cell? ⟨i,7,none⟩=some (.int .i64 (R:Int)):=ad ▸ P.cell (Cd c _ u 7 (by omega));have n:=Aa P;have q:=Aa ag;have D:=Aa M;have ap:=Aa ae;have bg:=M.s0;have bh:=M.s1;clear P ag M ad ae;go_enter func199,ntmps199;go_wp2_with fail
 clear c7;go_loopw [7,17] (λO x wr=>∃(H:Int) (a r:Nat) (p:Pa.Pn),O=.int .i64 H/\x=.int .i64 (a:Int)/\a+r=R/\(a=0\/H=s)/\Hid (p.no=z)/\Hid (∀d,(d<a*16->p.cs.getD d 0=cs.getD d 0)/\(a*16<=d->p.cs.getD d 0=0))/\Hid (aD wr i (Be c p u) 233)/\Hid (aR wr l (Ae (Fg cs W r a)++tl))/\Hid (aA (λd=>d=l\/d=i) w wr)) (λ_ x _=>R-(intOf x).toNat)
 case atStart =>
  refine⟨0,0,R,Ct z,rfl,rfl,by omega,.inl rfl,rfl,λd=>⟨λh=>by omega,λ_=>?_⟩,n,?_,aA.refl _ _⟩
  ·show(List.replicate 48 (0:Int)).getD d 0=0;rw[List.getD_eq_getElem?_getD,kQ];split <;> rfl
  have:=q.o;rw[Xw]at this;exact this
 case round =>
  clear q n;obtain⟨H,a,r,p,rfl,rfl,be,S,B,o,n,q,A⟩:=hrel;cases r with
  | zero =>
   have U:a=R:=by omega
   subst U;have au:decide ((a:Int)<(a:Int))=false:=by simp
   have av:H=s:=by rcases S with h | h;omega;exact h
   subst av
   have ar:=Aa (show aD wr i (Be c ⟨z,cs,F⟩ u) 233 by
      have t:p=⟨z,cs,F⟩:=by
       have aa:p.cs=cs:=by
        apply j4;intro d;by_cases h:d<48
        ·have L:p.cs.getD d 0=cs.getD d 0:=by
          by_cases v:d<a*16
          ·exact(o.o d).1 v
          rw[(o.o d).2 (by omega),D.o.ze d (.inl (by omega))]
         simp only[List.getD_eq_getElem?_getD]at L;rw[hX (by rw[p.len];exact h),hX (by rw[F];exact h)]at L ⊢;exact congrArg some L
        rw[jz (by rw[p.len];omega),jz (by rw[F];omega)]
       have ab:=B.o;cases p;simp only at aa ab;subst aa ab;rfl
      rw[<-t]
      exact n.o)
   go_wp2;go_ret;refine⟨rfl,ar.o,?_,A.o⟩;have:=q.o;rw[Fg]at this;exact this
  | succ r =>
   have U:a<R:=by omega
   have bd:(a:Int)<(R:Int):=by omega
   have bb:(0:Int)<=(a:Int):=by omega
   have bc:(a:Int)<3:=by omega
   have c8:wr.cell? ⟨i,8,none⟩=some (.int .i64 (W:Int)):=ap.o ▸ n.o.cell (Cd c _ u 8 (by omega))
   have E:=Aa (show aR wr l (Ae (rowFrom cs a W 0)++(Ae (Fg cs W r (a+1))++tl)) by
      have:=q.o;rw[Fg,By,List.append_assoc]at this
      exact this)
   have ao:=Aa (show Bm (rowFrom cs a W 0)=s by rw[<-Q1];exact D.o.row a U);clear q;go_wp2_with fail
   clear c8;go_loopw [9,25] (λO x wr=>∃(k:Int) (e m:Nat) (p:Pa.Pn),O=.int .i64 k/\x=.int .i64 (e:Int)/\e+m=W/\0<=k/\k<=s/\Hid (k+Bm (rowFrom cs a m e)=s)/\Hid (p.no=z)/\Hid (∀d,(d<a*16+e->p.cs.getD d 0=cs.getD d 0)/\(a*16+e<=d->p.cs.getD d 0=0))/\Hid (aD wr i (Be c p u) 233)/\Hid (aR wr l (Ae (rowFrom cs a m e)++(Ae (Fg cs W r (a+1))++tl)))/\Hid (aA (λd=>d=l\/d=i) w wr)) (λ_ x _=>W-(intOf x).toNat)
   case atStart=>exact⟨0,0,W,p,rfl,rfl,by omega,by omega,by omega,by show _=_;rw[ao.o];omega,B,o,n,E,A⟩
   case round =>
    clear B o n E A;obtain⟨k,e,m,p,rfl,rfl,ba,bi,bj,Z,B,o,n,q,A⟩:=hrel;cases m with
    | zero =>
     have aw:e=W:=by omega
     subst aw;have au:decide ((e:Int)<(e:Int))=false:=by simp
     have ay:k=s:=by have:=Z.o;rw[rowFrom]at this;simpa[Bm] using this
     subst ay;have an:=Aa (show aR wr l (Ae (Fg cs e r (a+1))++tl) from q.o)
     have N:=Aa (show ∀d,(d<(a+1)*16->p.cs.getD d 0=cs.getD d 0)/\((a+1)*16<=d->p.cs.getD d 0=0) from λd=>⟨λh=>by
          by_cases v:d<a*16+e
          ·exact(o.o d).1 v
          rw[(o.o d).2 (by omega),D.o.ze d (.inr (by omega))],λh=>(o.o d).2 (by omega)⟩)
     have ax:((a:Int)==0)=true\/(((a:Int)==0)=false/\(k==H)=true):=by
      rcases S with h | h
      ·exact .inl (by simp[h])
      by_cases v:a=0
      ·exact .inl (by simp[v])
      exact .inr ⟨by simp;omega,by simp[h]⟩
     clear S;rcases ax with g | ⟨g,a6⟩;all_goals
      go_wp2_with fail
      refine(Gc l _).mono ?_;rintro t az ⟨rfl,ai⟩;rw[ai];clear ai az;go_wp2;go_roundw;case rel=>exact⟨k,a+1,r,p,rfl,by go_num,by omega,.inr rfl,B,N,n,an,A⟩
      case measure=>simp[intOf];omega
    | succ m =>
     obtain⟨j,G⟩:∃j,cs.getD (a*16+e) 0=j:=⟨_,rfl⟩;have aj:0<=j:=by rw[<-G];exact D.o.nn _
     have Y:=Aa (show(k+j)+Bm (rowFrom cs a m (e+1))=s by
        have h:=Z.o;rw[rowFrom,G]at h;have v:Bm (j::rowFrom cs a m (e+1))=j+Bm (rowFrom cs a m (e+1)):=rfl
        omega)
     have a0:k+j<=s:=by have L:=Y.o;have v:=TH D.o a m (e+1);omega
     have E:=Aa (show aR wr l (enc j++(Ae (rowFrom cs a m (e+1))++(Ae (Fg cs W r (a+1))++tl))) by
        have:=q.o;rw[rowFrom,BN,G,List.append_assoc]at this
        exact this)
     have a9:(e:Int)<(W:Int):=by omega
     have a7:(0:Int)<=(e:Int):=by omega
     have a8:(e:Int)<16:=by omega
     have Q:a*16+e<48:=by omega
     have bk:IntKind.i64.wrap (C-k)=C-k:=by rw[ic];omega
     have bl:IntKind.i64.wrap (k+j)=k+j:=by rw[ic];omega
     have aq:=Aa G;clear q G;go_wp2_with fail
     refine(EJ l j 0 (C-k) _ wr E.o aj (by omega) aj (by omega)).mono ?_;rintro t I ⟨rfl,ah,T⟩;have J:=Aa (n.o.keeps T af);have a5:I.cell? ⟨i,21+a*16+e,none⟩=some (.int .i64 (p.cs.getD (a*16+e) 0)):=by rw[show 21+a*16+e=21+(a*16+e) by omega];exact YU (a*16+e) Q J.o
     have a4:=J.o.frozen;have V:aA (λd=>d=i) I (I.setCell ⟨i,21+a*16+e,none⟩ (.int .i64 j)):=(aA.refl (λd=>d=i) I).setCell (p:=⟨i,21+a*16+e,none⟩) (Or.inl rfl) _;have am:=Aa (ah.keeps V (λh=>af h.symm));have al:=Aa ((A.o.trans T (λ_ h _=>.inl h)).trans V (λ_ h _=>.inr h))
     have ak:=Aa (show aD (I.setCell ⟨i,21+a*16+e,none⟩ (.int .i64 j)) i (Be c ⟨p.no,p.cs.set (a*16+e) j,by rw[jx];exact p.len⟩ u) 233 by
        rw[show 21+a*16+e=21+(a*16+e) by omega]
        exact Y2 (a*16+e) j Q J.o rfl rfl)
     have N:=Aa (show ∀d,(d<a*16+(e+1)->(p.cs.set (a*16+e) j).getD d 0=cs.getD d 0)/\(a*16+(e+1)<=d->(p.cs.set (a*16+e) j).getD d 0=0) from λd=>by
        rw[Vm _ _ _ _ (by rw[p.len];exact Q)];refine⟨λh=>?_,λh=>?_⟩
        ·by_cases t:d=a*16+e
         ·rw[h9 t,t,aq.o]
         rw[hZ t];exact(o.o d).1 (by omega)
        rw[hZ (by omega)];exact(o.o d).2 (by omega))
     clear ah T V E n J;go_wp2;go_roundw;case rel=>exact⟨k+j,e+1,m,⟨p.no,p.cs.set (a*16+e) j,by rw[jx];exact p.len⟩,rfl,by go_num,by omega,by omega,a0,Y,B,N,ak,am,al⟩
     case measure=>simp[intOf];omega
