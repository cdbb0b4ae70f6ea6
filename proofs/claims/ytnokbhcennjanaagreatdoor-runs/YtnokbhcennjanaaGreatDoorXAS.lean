import Derived.Test.YtnokbhcennjanaaGreatDoorXAR
open Go.RowKit Go.Proofs.Tryz
set_option maxRecDepth 100000
set_option maxHeartbeats 16000000
namespace Go.Proofs.YtnokbhcennjanaaGreatDoor
section
attribute [local go_sem ↓] AN B2
attribute [local go_sem] AO B4 A5 A6 AI AJ Bf B3
def QI(ty:TypeId)(ps:Array (Nat×Value)): Sem Next:=do pure (.value (<-Instr.build ty ps))
theorem RY(ρ:Operand->Value)(dst:Option Tmp)(x:Array (Nat×Operand))(c:TypeId)(pos:String)(after:Array Edge)(guard:Option (Nat×Bool)):
  execOp ρ { dst,op:=.build 250 x,type:=c,pos,after,guard }=QI 250 (x.map λ(a,y)=>(a,ρ y)):=rfl
theorem TV(c:Cfg)(a:Nat)(w:World):
  (QI 250 #[(0,.agg c.cells.toArray),(1,.pointer (some ⟨a,0,none⟩))]).run prog w=.ok (.value (.agg (Mz c a).toArray)) w:=by kernel_rfl
attribute [local go_sem ↓] RY
attribute [local go_sem] TV
theorem Td(c:Cfg)(w:World):
  Calls prog 158 #[c.val] w λq e=>∃k t,q=.returned (.pointer (some ⟨k,0,none⟩))/\w.heap.size<=k/\w.heap.size<=t/\dM e k t none c []/\lO w e:=by
 obtain⟨a,h⟩:∃a,a=w.alloc (.cells c.cells.toArray 46):=⟨_,rfl⟩;have n:=Aa (show aD a w.heap.size c.cells 46 by rw[h];exact aD.new w _ _);have o:=Aa (show lO w a by rw[h];exact(aA.refl (λ_=>False) w).alloc _);have v:=Aa h;clear h;unfold Cfg.val;go_enter func158,ntmps158;go_wp2_with fail
 rw[show w.alloc (.cells #[.int .i64 c.kind,.int .i64 c.aK,.int .i64 c.bF,.int .i64 c.cap,.int .i64 c.k,.int .i64 c.aB,.int .i64 c.bits,.int .i64 c.rows,.int .i64 c.width,.int .i64 c.aM,.int .i64 c.size,.int .i64 c.degree,.int .i64 c.half,.int .i64 c.mark,.int .i64 c.bV,.int .i64 c.bW,.int .i64 c.cG,.int .i64 c.cH,.int .i64 c.cQ,.int .i64 c.cR] 46)=a from v.o.symm];generalize r:w.heap.size=j at *
 have u:=Aa r;clear r;have s:j<a.heap.size:=n.o.lt;obtain⟨H,G⟩:=CE n.o 20 rfl;go_region_held3 (λe=>Ao e j 0 20=.agg c.cells.toArray/\Ay e j 0 20=true)
  (first | (simp[*,A5,A6,BC,BD];done) | (go_split_ands;exact⟨(Fz m (by simpa using s)).1.trans (by assumption),(Fz m (by simpa using s)).2.trans (by assumption)⟩))
  (first | (go_at_call 203;refine(Dr.new_any _).mono ?_;rintro q d ⟨rfl,B,m,C⟩))
 go_wp2;go_ret;have z:lO a d:=((aA.refl _ _).drew).then m;have A:∀i,lO d (d.alloc i):=λi=>(aA.refl (λ_=>False) d).alloc i;have E:=o.o.size;have F:=u.o;have D:d.heap.size=a.heap.size+1:=by simpa using C
 exact⟨a.heap.size+1,a.heap.size,rfl,by omega,by omega,⟨aD.newAt D (Mz c a.heap.size) 250,B.keeps (A _) id (λ_ l=>by cases l),by omega,λg x=>by cases x⟩,(o.o.then z).alloc _⟩
def KC(d:Nat): Value:=.func (.func 159) #[.pointer (some ⟨d,0,none⟩)] #[]
def Kz(d:Nat): Value:=.func (.func 162) #[.pointer (some ⟨d,0,none⟩)] #[]
def Kx(d:Nat): Value:=.func (.func 161) #[.pointer (some ⟨d,0,none⟩)] #[]
def KB(d:Nat): Value:=.func (.func 160) #[.pointer (some ⟨d,0,none⟩)] #[]
theorem RI(c:Cfg)(w:World):
  Calls prog 115 #[c.val] w λu A=>∃a k,u=.returned (.agg #[KC a,KB a,ES,Kx a,Kz a])/\w.heap.size<=a/\w.heap.size<=k/\dM A a k none c []/\lO w A:=by
 obtain⟨h,i⟩:∃h,h=(w.alloc (.cells c.cells.toArray 46)).alloc (.cells #[.nilFunc,.nilFunc,.nilFunc,.nilFunc,.nilFunc] 94):=⟨_,rfl⟩;have m:=Aa (show aD h (w.heap.size+1) [.nilFunc,.nilFunc,.nilFunc,.nilFunc,.nilFunc] 94 by rw[i];exact aD.newAt (by simp) _ _);have l:=Aa (show lO w h by rw[i];exact((aA.refl (λ_=>False) w).alloc _).alloc _);have F:=Aa i;have t:=Aa (Td c h);clear i;unfold Cfg.val at *
 go_enter func115,ntmps115;go_wp2_with fail
 rw[show(w.alloc (.cells #[.int .i64 c.kind,.int .i64 c.aK,.int .i64 c.bF,.int .i64 c.cap,.int .i64 c.k,.int .i64 c.aB,.int .i64 c.bits,.int .i64 c.rows,.int .i64 c.width,.int .i64 c.aM,.int .i64 c.size,.int .i64 c.degree,.int .i64 c.half,.int .i64 c.mark,.int .i64 c.bV,.int .i64 c.bW,.int .i64 c.cG,.int .i64 c.cH,.int .i64 c.cQ,.int .i64 c.cR] 46)).alloc (.cells #[.nilFunc,.nilFunc,.nilFunc,.nilFunc,.nilFunc] 94)=h from F.o.symm];generalize o:w.heap.size=d at *
 have C:=Aa o;clear o;refine t.o.mono ?_;rintro u r ⟨a,k,rfl,O,R,x,q⟩;have B:=Aa x;have e:=Aa (m.o.keeps q id);have D:=Aa (l.o.then q);have E:=Aa l.o.size;have s:=Aa m.o.lt;clear x q m l t;have N:=e.o.frozen;have H:=e.o.c0;have I:=e.o.c1;have J:=e.o.c2;have L:=e.o.c3;have M:=e.o.c4;go_wp2;have o:=C.o;have S:=E.o;have z:aA (λj=>j=d+1) r (((((r.setCell ⟨d+1,0,none⟩ (KC a)).setCell ⟨d+1,1,none⟩ (KB a)).setCell ⟨d+1,2,none⟩ ES).setCell ⟨d+1,3,none⟩ (Kx a)).setCell ⟨d+1,4,none⟩ (Kz a)):=(((((aA.refl (λj=>j=d+1) r).setCell (p:=⟨d+1,0,none⟩) (Or.inl rfl) _).setCell (p:=⟨d+1,1,none⟩) (Or.inl rfl) _).setCell (p:=⟨d+1,2,none⟩) (Or.inl rfl) _).setCell (p:=⟨d+1,3,none⟩) (Or.inl rfl) _).setCell (p:=⟨d+1,4,none⟩) (Or.inl rfl) _;refine iN (v:=.agg #[KC a,KB a,ES,Kx a,Kz a]) (by simp[results,results115,go_sem,H,I,J,L,M,KC,KB,ES,Kx,Kz]) rfl ⟨a,k,rfl,by omega,by omega,?_,?_⟩
 ·exact B.o.keeps z (λn=>by have:=s.o;omega) (λn=>by have:=s.o;omega) (λg G=>by cases G)
 exact D.o.trans z (λj P Q=>by omega)
end
section
theorem MA(c:Cfg): ∀(n s j:Nat),Fh c n s=true->s<=j->j<s+n->c.seed j=true
 | 0,s,j,_,h1,h2=>by omega
 | n+1,s,j,h,h1,h2=>by
  unfold Fh at h;rw[iK]at h;by_cases a:j=s
  ·rw[a];exact h.1
  exact MA c n (s+1) j h.2 (by omega) (by omega)
theorem Q5{c:Cfg}{j:Nat}(a:c.seed j=true): 0<=CW c j/\CW c j<2305843009213693951/\0<=CX c j/\CX c j<2305843009213693951:=by
 match j with
 | 0=>simp only[Cfg.seed,FP,Ab,iK,iI]at a;show 0<=c.bV/\c.bV<_/\0<=c.bW/\c.bW<_;omega
 | 1=>simp only[Cfg.seed,FP,Ab,iK,iI]at a;show 0<=c.cG/\c.cG<_/\0<=c.cH/\c.cH<_;omega
 | j+2=>simp only[Cfg.seed,FP,Ab,iK,iI]at a;show 0<=c.cQ/\c.cQ<_/\0<=c.cR/\c.cR<_;omega
theorem Dw{c:Cfg}{k:Nat}(a:Ak c=true)(j:c.kind=k)(i:k=3): c.paned/\c.rowed/\1<=Ag c/\Ag c<=1000/\c.aM*Ag c=c.aB:=by
 subst i;simp only[Ak,j,iK]at a;have d:ER c=true:=a.2.2;simp only[ER,Cc,Ab,iK,iI,beq_iff_eq]at d;obtain⟨⟨t,u⟩,⟨v,w⟩,⟨r,s⟩,⟨o,q⟩,B,m⟩:=d;have e:c.aM*(c.aB/c.aM)=c.aB:=by have:=Int.mul_ediv_add_emod c.aB c.aM;omega
 have l:1<=c.aB/c.aM:=by
  rcases Int.lt_or_le (c.aB/c.aM) 1 with a | a
  ·have x:0<=c.aB/c.aM:=jK (by omega) (by omega);have h:c.aB/c.aM=0:=by omega
   rw[h]at e;omega
  exact a
 have A:c.aB/c.aM<=c.aB:=jN _ (by omega);refine⟨⟨o,q,r,s⟩,⟨t,u,v,w,λn z=>Q5 (MA c c.rows.toNat 0 n m (iM _) (by omega))⟩,l,by show c.aB/c.aM<=1000;omega,e⟩
theorem FD{c:Cfg}{k:Nat}(d:Ak c=true)(n:c.kind=k)(a:k=2): c.pair0/\1<=c.bits/\c.bits<=4/\1<=c.aB/\c.aB<=1000:=by
 subst a;simp only[Ak,n,iK]at d;have a:G9 c=true:=d.2.2;simp only[G9,Cc,Ab,iK,iI]at a;obtain⟨⟨l,m⟩,⟨q,r⟩,o⟩:=a;have:=Q5 (MA c 1 0 0 o (il _) (by omega));obtain⟨e,h,i,j⟩:=this;exact⟨⟨e,h,i,j⟩,l,m,q,r⟩
theorem E4{c:Cfg}{k:Nat}(a:Ak c=true)(h:c.kind=k)(e:k=5): 1<=c.size/\c.size<=5:=by
 subst e;simp only[Ak,h,iK]at a;have d:Fs c=true:=a.2.2;simp only[Fs,Ab,iK,iI]at d;omega
theorem TP{c:Cfg}{l:List Dr.It}(y:It)(a:(l.length:Int)<=c.size+1): ((AU c l y).length:Int)<=c.size+1:=by
 unfold AU;split
 ·rw[Dr.takeL_length,Dr.riseL_length,hY];simp only[iZ];omega
 rename_i d;rw[Dr.riseL_length,hY];simp only[iZ];omega
theorem Oa(c:Cfg)(n:Nat)(a:Nat->List Bk)(y:It)(m:Int)(j:Nat): (BQ c n a y m j).length<=(a j).length+1:=by
 unfold BQ;split
 ·have:=SE ((a j).drop (Mk.pastN (a j) (m-c.aB))) ⟨y.t,Cm (AG c.bV c.bW y.k/n)⟩;rw[iQ]at this;omega
 omega
theorem V6{c:Cfg}{n:Nat}{i:Nat->List Bk}(h:∀a,∀b∈i a,1<=b.t/\b.t<=40)(y:It)(m:Int): ∀a,∀b∈BQ c n i y m a,1<=b.t/\b.t<=40:=by
 intro a b d;unfold BQ at d;split at d
 ·rcases Jf d with e | e
  ·exact h a b (iB e)
  rw[e];exact Ks _
 exact h a b d
structure aU where
 q:Int
 r:Int
 bs:List Bk
 rg:Nat->List Bk
 op:Pa.Pn
 cl:List Pa.Pn
 tk:List Dr.It
def C8: aU:=⟨0,0,[],λ_=>[],Pa.pn0,[],[]⟩
structure NB where
 d:Nat
 r:Nat
 g:Option Nat
 qs:List (Nat×Option Nat)
def BH(k:Nat)(b:NB)(i:Nat): Prop :=
 (k=1/\(i=b.d\/i=b.r\/b.g=some i))\/(k=4/\i=b.d)\/(k=2/\(i=b.d\/i=b.r\/∃j,j<b.qs.length/\qf (Aq b.qs j) i)) \/
 (k=3/\(i=b.d\/i=b.r\/b.g=some i))\/(k=5/\(i=b.d\/i=b.r\/b.g=some i))
def Bw(c:Cfg): Nat:=2 ^ c.bits.toNat
structure cB (w:World) (k:Nat) (b:NB) (c:Cfg) (nt:aU):Prop where
 dec:k=4->aD w b.d (E7 c nt.q nt.r) 194
 bL:k=1->bU w b.d b.r b.g c nt.bs
 dQ:k=2->cZ w b.d b.r b.qs c nt.rg/\b.qs.length=Bw c
 dW:k=3->cP w b.d b.r b.g c nt.op nt.cl
 cX:k=5->dM w b.d b.r b.g c nt.tk
def B9(k:Nat)(c:Cfg)(nt:aU)(y:It)(m:Int): aU :=
 if k=4 then { nt with q:=nt.q+(nt.r+Ar (Am c y.t))/2305843009213693952,r:=(nt.r+Ar (Am c y.t))%2305843009213693952 }
 else if k=1 then { nt with bs:=C1 c nt.bs y.t m }
 else if k=2 then { nt with rg:=BQ c (Bw c) nt.rg y m }
 else if k=3 then { nt with op:=(Cg c nt.op nt.cl y m).1,cl:=(Cg c nt.op nt.cl y m).2 }
 else if k=5 then { nt with tk:=AU c nt.tk y } else nt
def AY(k:Nat)(c:Cfg)(nt:aU)(a m:Int): Int×List Int :=
 if k=4 then(0,[nt.q,nt.r,Ar (Am c m)])
 else if k=1 then(if Ab a 1 c.aB=true then(0,[Fb nt.bs (m-a)]) else(13,[]))
 else if k=2 then FT c (Bw c) nt.rg a m
 else if k=3 then(if Ab a 0 2147483648=true then(0,[FX c nt.op nt.cl a m]) else(10,[]))
 else if k=5 then(0,D9 c nt.tk) else(1,[])
def Bc(k:Nat)(c:Cfg)(nt:aU)(m b:Int): aU×Int×Int :=
 if k=1 then({ nt with bs:=nt.bs.drop (DF c nt.bs m b).toNat },DF c nt.bs m b,(pastN nt.bs (m-c.aB):Int)-DF c nt.bs m b) else(nt,0,0)
structure bT (k:Nat) (c:Cfg) (rel last:Int) (nt:aU):Prop where
 q0:0<=nt.q
 qn:nt.q<=rel
 r0:0<=nt.r
 r1:nt.r<2305843009213693952
 one:∀b∈nt.bs,1<=b.sz
 sum:An nt.bs<=rel
 rk:∀i,∀b∈nt.rg i,1<=b.t/\b.t<=40
 rl:∀i,((nt.rg i).length:Int)<=rel
 oi:k=3->cS c rel last nt.op nt.cl
 tl:k=5->(nt.tk.length:Int)<=c.size+1
 lw:k=1->1<=c.k/\c.k<=10/\Lw c.k.toNat 0 nt.bs
 nb:k≠1->nt.bs=[]
 rf:∀i,dN (nt.rg i)
theorem bT.fP{k:Nat}{c:Cfg}{rel last:Int}{d:aU}(a:bT k c rel last d)(o:rel<=4611686018427387904): d.bs.length<=682/\∀b∈d.bs,b.sz<4611686018427387904:=by
 by_cases e:k=1
 ·obtain⟨j,l,h⟩:=a.lw e;have m:=a.sum;have:=h.fP (by omega) (by omega);refine⟨?_,this.2⟩;have n:62*(c.k.toNat+1)<=62*11:=Nat.mul_le_mul_left _ (by omega);omega
 rw[a.nb e];exact⟨by simp,λb i=>by cases i⟩
theorem bT.fX{k:Nat}{c:Cfg}{rel last:Int}{d:aU}(a:bT k c rel last d)(e:rel<=4611686018427387904): cN d.bs:=⟨a.one,by have:=a.sum;omega,by have:=(a.fP e).1;omega⟩
theorem bT.fZ{k:Nat}{c:Cfg}{rel last:Int}{a:aU}(d:bT k c rel last a)(i:Nat): (a.rg i).length<=40:=by
 have:=JK (a.rg i) 40 (d.rf i) (d.rk i);omega
theorem bT.dI{k:Nat}{c:Cfg}{rel last:Int}{d:aU}(a:bT k c rel last d): 0<=rel:=by have:=a.q0;have:=a.qn;omega
theorem OF{K:Int}(n:0<=K)(f:Nat)(l:List Bk)(a:Int)(e:Nat)(c:∀b∈l,1<=b.sz)(o:e<=l.length)(r:1<=a): (∀b∈joinL K f l a e,1<=b.sz)/\An (joinL K f l a e)=An l:=by
 induction f generalizing l a e with
 | zero=>exact⟨c,rfl⟩
 | succ f h =>
  unfold joinL;split
  ·exact⟨c,rfl⟩
  rename_i m;have q:AC l a e+2<=e:=by omega
  have j:(Ad l (AC l a e)).sz=a:=H6 l a e _ (by omega) (by omega);have k:(Ad l (AC l a e+1)).sz=a:=H6 l a e _ (by omega) (by omega);have d:=O4 l (AC l a e) ⟨2*a,(Ad l (AC l a e+1)).t⟩ (by omega) (by show 2*a=_;omega);have hlen:=Ff (⟨2*a,(Ad l (AC l a e+1)).t⟩:Bk) (l:=l) (i:=AC l a e) (by omega);have:=h (BG l (AC l a e) ⟨2*a,(Ad l (AC l a e+1)).t⟩) (2*a) (AC l a e+1) (JU l _ _ c (by show 1<=2*a;omega)) (by omega) (by omega);exact⟨this.1,this.2.trans d⟩
theorem bT.drop{k:Nat}{c:Cfg}{rel last:Int}{d:aU}(a:bT k c rel last d)(j:Nat): bT k c rel last { d with bs:=d.bs.drop j }:=by
 refine⟨a.q0,a.qn,a.r0,a.r1,λb h=>a.one b (iB h),?_,a.rk,a.rl,a.oi,a.tl,λe=>⟨(a.lw e).1,(a.lw e).2.1,(a.lw e).2.2.drop (by have:=(a.lw e).1;omega) j⟩,λe=>by show d.bs.drop j=[];rw[a.nb e];exact List.drop_nil,a.rf⟩;have i:=H0 d.bs j;have m:=Ee (l:=d.bs.take j) (λb h=>a.one b (jn h));have n:=a.sum;show An (d.bs.drop j)<=rel;omega
theorem Zq{k:Nat}{c:Cfg}{rel last:Int}{d:aU}(a:bT k c rel last d)(m b:Int): bT k c rel last (Bc k c d m b).1:=by
 unfold Bc;split
 ·exact a.drop _
 exact a
theorem Ef{c:Cfg}{k:Nat}(a:Ak c=true)(h:c.kind=k)(d:k=1): 1<=c.k/\c.k<=10/\1<=c.aB/\c.aB<=1000:=by
 subst d;simp only[Ak,h,iK]at a;have e:countB c=true:=a.2.2;simp only[countB,Cc,Ab,iK,iI]at e;omega
theorem FZ{c:Cfg}{k:Nat}(d:Ak c=true)(h:c.kind=k)(i:4<=k)(j:k<=5): c.bH:=by
 have e:CN c=true:=by
  have:k=4\/k=5:=by omega
  simp only[Ak,h,iH,iK]at d;rcases this with a | a
  ·have:=d.2.2;rw[a]at this;exact this
  have:=d.2.2;rw[a]at this;simp only[Gj,Fs,iK]at this;exact this.2
 simp only[CN,Ab,iK,iI]at e;exact⟨by omega,by omega,by omega,by omega,by omega,by omega⟩
theorem Zy(b:Int)(e:1<=b)(n:Nat)(p:Int)(i:1<=p)(j:p<=2305843009213693952): 0<=Ar (Bj b n p)/\Ar (Bj b n p)<=2305843009213693952:=by
 induction n generalizing p with
 | zero=>simp only[Bj,Ar];omega
 | succ n h =>
  unfold Bj;split
  ·simp[Ar]
  rename_i a;obtain⟨c,d⟩:=KI p b i e a;exact h _ c d
theorem Gf(c:Cfg)(t:Int): 0<=Ar (Am c t)/\Ar (Am c t)<=2305843009213693952:=by
 unfold Am;split
 ·simp[Ar]
 split
 ·exact Zy _ (by omega) _ 1 (by omega) (by omega)
 split
 ·simp[Ar]
 rename_i a d e;have:=Gp ((t-c.mark)/c.half).toNat (by omega);simp only[Ar];omega
theorem ZR{k:Nat}{c:Cfg}{rel last:Int}{d:aU}(a:bT k c rel last d)(w:Ak c=true)(v:c.kind=k)(y:It)(m:Int)(D:last<=y.t)(A:y.t<=m): bT k c (rel+1) y.t (B9 k c d y m):=by
 have L:=Gf c y.t;have j:=a.q0;have b:=a.qn;have r:=a.r0;have s:=a.r1;have J:=a.sum
 have q:∀h,((d.rg h).length:Int)<=rel+1:=λh=>by have:=a.rl h;omega
 unfold B9;split
 ·rename_i G;exact⟨by show 0<=d.q+_;omega,by show d.q+_<=_;omega,by show 0<=_%_;omega,by show _%_<_;omega,a.one,by show An d.bs<=_;omega,a.rk,q,λe=>by omega,a.tl,λe=>by omega,a.nb,a.rf⟩
 split
 ·rename_i n;obtain⟨E,F,M,N⟩:=Ef w v n;have t:∀b∈Cz c d.bs y.t m,1<=b.sz:=λb i=>by
   unfold Cz at i;rcases ig.1 i with i | i
   ·exact a.one b (iB i)
   rw[ij]at i;rw[i];exact iG _
  have u:=OF (K:=c.k) (by omega) ((Cz c d.bs y.t m).length+1) (Cz c d.bs y.t m) 1 _ t (il _) (by omega);refine⟨j,by show d.q<=_;omega,r,s,u.1,?_,a.rk,q,λe=>by omega,a.tl,λe=>⟨E,F,(QG (c:=c) (K:=c.k.toNat) (by omega) (by omega) d.bs y.t m (a.lw e).2.2).1⟩,λe=>absurd n e,a.rf⟩;show An (C1 c d.bs y.t m)<=_;unfold C1;rw[u.2];have n:=H0 d.bs (pastN d.bs (m-c.aB));have x:=Ee (l:=d.bs.take (pastN d.bs (m-c.aB))) (λb i=>a.one b (jn i));unfold Cz;rw[Fx];unfold EE;simp only[An];omega
 split
 ·exact⟨j,by show d.q<=_;omega,r,s,a.one,by show An d.bs<=_;omega,V6 a.rk y m,λh=>by
     have n:=Oa c (Bw c) d.rg y m h;have x:=a.rl h;show((BQ c (Bw c) d.rg y m h).length:Int)<=_;omega,λe=>by omega,a.tl,λe=>by omega,a.nb,λh=>by
     show dN (BQ c (Bw c) d.rg y m h);unfold BQ;split
     ·exact O9 _ ((a.rf h).drop _)
     exact a.rf h⟩
 split
 ·rename_i o;obtain⟨t,C,z,I,B⟩:=Dw w v o;exact⟨j,by show d.q<=_;omega,r,s,a.one,by show An d.bs<=_;omega,a.rk,q,λ_=>Z2 (a.oi o) y m z B t.p0 C D A,a.tl,λe=>by omega,a.nb,a.rf⟩
 rename_i o;split
 ·rename_i H;exact⟨j,by show d.q<=_;omega,r,s,a.one,by show An d.bs<=_;omega,a.rk,q,λe=>(o e).elim,λe=>TP y (a.tl e),λe=>by omega,a.nb,a.rf⟩
 rename_i n _ _;exact⟨j,by omega,r,s,a.one,by omega,a.rk,q,λe=>(o e).elim,a.tl,λe=>absurd e (by omega),a.nb,a.rf⟩
theorem bT.zero(k:Nat)(c:Cfg)(e:Ak c=true)(d:c.kind=k): bT k c 0 0 C8:=by
 refine⟨iG _,iG _,iG _,by show(0:Int)<_;omega,(λb h=>(lu h).elim),by show An []<=0;simp[An],(λi b h=>(lu h).elim),(λi=>by show((([]:List Bk).length:Nat):Int)<=0;simp),?_,?_,(λa=>⟨(Ef e d a).1,(Ef e d a).2.1,Lw.nil _ _⟩),(λ_=>rfl),(λ_=>List.Pairwise.nil)⟩
 ·intro a;exact cS.zero c (Dw e d a).1.p0
 intro a;have:=(E4 e d a).1;show(0:Int)<=_;omega
theorem cB.keeps{M:Nat->Prop}{w w':World}{k:Nat}{b:NB}{c:Cfg}{q:aU}(d:cB w k b c q)(i:aA M w w')(a:∀n,BH k b n->¬M n): cB w' k b c q :=
 ⟨λo=>(d.dec o).keeps i (a _ (.inr (.inl ⟨o,rfl⟩))),
    λj=>(d.bL j).keeps i (a _ (.inl ⟨j,.inl rfl⟩)) (a _ (.inl ⟨j,.inr (.inl rfl)⟩)) (λ_ h=>a _ (.inl ⟨j,.inr (.inr h)⟩)),
    λe=>⟨(d.dQ e).1.keeps i (a _ (.inr (.inr (.inl ⟨e,.inl rfl⟩)))) (a _ (.inr (.inr (.inl ⟨e,.inr (.inl rfl)⟩)))) (λn _ s r=>a _ (.inr (.inr (.inl ⟨e,.inr (.inr ⟨n,s,r⟩)⟩)))),(d.dQ e).2⟩,
    λl=>(d.dW l).keeps i (a _ (.inr (.inr (.inr (.inl ⟨l,.inl rfl⟩))))) (a _ (.inr (.inr (.inr (.inl ⟨l,.inr (.inl rfl)⟩))))) (λ_ h=>a _ (.inr (.inr (.inr (.inl ⟨l,.inr (.inr h)⟩))))),
    λm=>(d.cX m).keeps i (a _ (.inr (.inr (.inr (.inr ⟨m,.inl rfl⟩))))) (a _ (.inr (.inr (.inr (.inr ⟨m,.inr (.inl rfl)⟩))))) (λ_ h=>a _ (.inr (.inr (.inr (.inr ⟨m,.inr (.inr h)⟩)))))⟩
theorem cB.still{w w':World}{k:Nat}{b:NB}{c:Cfg}{d:aU}(a:cB w k b c d)(e:lO w w'): cB w' k b c d:=a.keeps e (λ_ _ a=>a)
theorem cB.lt{w:World}{k:Nat}{b:NB}{c:Cfg}{o:aU}(a:cB w k b c o)(i:Nat)(hi:BH k b i): i<w.heap.size:=by
 rcases hi with ⟨e,hi | hi | hi⟩ | ⟨n,hi⟩ | ⟨d,hi | hi | ⟨m,l,hi | hi⟩⟩ | ⟨h,hi | hi | hi⟩ | ⟨j,hi | hi | hi⟩
 ·rw[hi];exact(a.bL e).aF.lt
 ·rw[hi];exact(a.bL e).row.lt.1
 ·exact((a.bL e).row.lt.2 i hi).1
 ·rw[hi];exact(a.dec n).lt
 ·rw[hi];exact(a.dQ d).1.aF.lt
 ·rw[hi];exact(a.dQ d).1.fI.lt
 ·rw[hi];exact((a.dQ d).1.row m l).lt.1
 ·exact(((a.dQ d).1.row m l).lt.2 i hi).1
 ·rw[hi];exact(a.dW h).aF.lt
 ·rw[hi];exact(a.dW h).row.lt.1
 ·exact((a.dW h).row.lt.2 i hi).1
 ·rw[hi];exact(a.cX j).aF.lt
 ·rw[hi];exact(a.cX j).dL.lt.1
 exact((a.cX j).dL.lt.2 i hi).1
def J8: Nat->Nat | 1=>134 | 2=>142 | 3=>148 | 4=>153 | _=>159
def Io: Nat->Nat | 1=>135 | 2=>143 | 3=>149 | 4=>154 | _=>160
def Ip: Nat->Nat | 1=>136 | _=>144
def Iq: Nat->Nat | 1=>137 | 2=>145 | 3=>150 | 4=>155 | _=>161
def Ii: Nat->Nat | 1=>138 | 2=>146 | 3=>151 | 4=>156 | _=>162
def En(d:Nat): Array Value:=#[.pointer (some ⟨d,0,none⟩)]
def KL(k d:Nat): Array Value:=if k=1 then #[.pointer (some ⟨d,0,none⟩)] else #[]
def Ha(k d:Nat): Value:=.func (.func (J8 k)) (En d) #[]
def GZ(k d:Nat): Value:=.func (.func (Io k)) (En d) #[]
def Hb(k d:Nat): Value:=.func (.func (Iq k)) (En d) #[]
def G0(k d:Nat): Value:=.func (.func (Ii k)) (En d) #[]
def Hc(k d:Nat): Value:=.func (.func (Ip k)) (KL k d) #[]
theorem I6(args:Array Value)(w:World): (callFunc 134 args).run prog w=.ok (.enter 134 args) w:=C3 func134 (by kernel_rfl) (by kernel_rfl) args w
theorem I5(args:Array Value)(w:World): (callFunc 135 args).run prog w=.ok (.enter 135 args) w:=C3 func135 (by kernel_rfl) (by kernel_rfl) args w
theorem I7(args:Array Value)(w:World): (callFunc 136 args).run prog w=.ok (.enter 136 args) w:=C3 func136 (by kernel_rfl) (by kernel_rfl) args w
theorem I9(args:Array Value)(w:World): (callFunc 153 args).run prog w=.ok (.enter 153 args) w:=C3 func153 (by kernel_rfl) (by kernel_rfl) args w
theorem I8(args:Array Value)(w:World): (callFunc 154 args).run prog w=.ok (.enter 154 args) w:=C3 func154 (by kernel_rfl) (by kernel_rfl) args w
theorem IE(args:Array Value)(w:World): (callFunc 142 args).run prog w=.ok (.enter 142 args) w:=C3 func142 (by kernel_rfl) (by kernel_rfl) args w
theorem ID(args:Array Value)(w:World): (callFunc 143 args).run prog w=.ok (.enter 143 args) w:=C3 func143 (by kernel_rfl) (by kernel_rfl) args w
theorem IB(args:Array Value)(w:World): (callFunc 148 args).run prog w=.ok (.enter 148 args) w:=C3 func148 (by kernel_rfl) (by kernel_rfl) args w
theorem IA(args:Array Value)(w:World): (callFunc 149 args).run prog w=.ok (.enter 149 args) w:=C3 func149 (by kernel_rfl) (by kernel_rfl) args w
theorem IG(args:Array Value)(w:World): (callFunc 159 args).run prog w=.ok (.enter 159 args) w:=C3 func159 (by kernel_rfl) (by kernel_rfl) args w
theorem IF(args:Array Value)(w:World): (callFunc 160 args).run prog w=.ok (.enter 160 args) w:=C3 func160 (by kernel_rfl) (by kernel_rfl) args w
theorem IC(args:Array Value)(w:World): (callFunc 144 args).run prog w=.ok (.enter 144 args) w:=C3 func144 (by kernel_rfl) (by kernel_rfl) args w
theorem zOp(args:Array Value)(w:World): (callFunc 137 args).run prog w=.ok (.enter 137 args) w:=C3 func137 (by kernel_rfl) (by kernel_rfl) args w
theorem zOv(args:Array Value)(w:World): (callFunc 138 args).run prog w=.ok (.enter 138 args) w:=C3 func138 (by kernel_rfl) (by kernel_rfl) args w
theorem zNw(args:Array Value)(w:World): (callFunc 145 args).run prog w=.ok (.enter 145 args) w:=C3 func145 (by kernel_rfl) (by kernel_rfl) args w
theorem zOf(args:Array Value)(w:World): (callFunc 146 args).run prog w=.ok (.enter 146 args) w:=C3 func146 (by kernel_rfl) (by kernel_rfl) args w
theorem zOh(args:Array Value)(w:World): (callFunc 150 args).run prog w=.ok (.enter 150 args) w:=C3 func150 (by kernel_rfl) (by kernel_rfl) args w
theorem zN6(args:Array Value)(w:World): (callFunc 151 args).run prog w=.ok (.enter 151 args) w:=C3 func151 (by kernel_rfl) (by kernel_rfl) args w
theorem zOe(args:Array Value)(w:World): (callFunc 155 args).run prog w=.ok (.enter 155 args) w:=C3 func155 (by kernel_rfl) (by kernel_rfl) args w
theorem zNx(args:Array Value)(w:World): (callFunc 156 args).run prog w=.ok (.enter 156 args) w:=C3 func156 (by kernel_rfl) (by kernel_rfl) args w
theorem zO3(args:Array Value)(w:World): (callFunc 161 args).run prog w=.ok (.enter 161 args) w:=C3 func161 (by kernel_rfl) (by kernel_rfl) args w
theorem zOd(args:Array Value)(w:World): (callFunc 162 args).run prog w=.ok (.enter 162 args) w:=C3 func162 (by kernel_rfl) (by kernel_rfl) args w
theorem As{k:Nat}(a:1<=k)(c:k<=5): k=1\/k=2\/k=3\/k=4\/k=5:=by omega
theorem zLw(k:Nat)(c:1<=k)(d:k<=5)(args:Array Value)(w:World): (callFunc (J8 k) args).run prog w=.ok (.enter (J8 k) args) w:=by
 rcases As c d with a | a | a | a | a <;> subst a
 ·exact I6 args w
 ·exact IE args w
 ·exact IB args w
 ·exact I9 args w
 exact IG args w
theorem zLi(k:Nat)(c:1<=k)(d:k<=5)(args:Array Value)(w:World): (callFunc (Io k) args).run prog w=.ok (.enter (Io k) args) w:=by
 rcases As c d with a | a | a | a | a <;> subst a
 ·exact I5 args w
 ·exact ID args w
 ·exact IA args w
 ·exact I8 args w
 exact IF args w
theorem zMs(k:Nat)(c:1<=k)(d:k<=5)(args:Array Value)(w:World): (callFunc (Ip k) args).run prog w=.ok (.enter (Ip k) args) w:=by
 rcases As c d with a | a | a | a | a <;> subst a
 ·exact I7 args w
 all_goals exact IC args w
theorem zMz(k:Nat)(c:1<=k)(d:k<=5)(args:Array Value)(w:World): (callFunc (Iq k) args).run prog w=.ok (.enter (Iq k) args) w:=by
 rcases As c d with a | a | a | a | a <;> subst a
 ·exact zOp args w
 ·exact zNw args w
 ·exact zOh args w
 ·exact zOe args w
 exact zO3 args w
theorem zNc(k:Nat)(c:1<=k)(d:k<=5)(args:Array Value)(w:World): (callFunc (Ii k) args).run prog w=.ok (.enter (Ii k) args) w:=by
 rcases As c d with a | a | a | a | a <;> subst a
 ·exact zOv args w
 ·exact zOf args w
 ·exact zN6 args w
 ·exact zNx args w
 exact zOd args w
theorem zLg{rel last:Int}(k:Nat)(b:NB)(c:Cfg)(j:aU)(y:It)(m:Int)(args:Array Value)(w:World)(W:args=En b.d++#[y.val,.int .i64 m])(a:cB w k b c j)(hi:bT k c rel last j)(ak:rel+1<=4611686018427387904)(t:Ak c=true)(l:c.kind=k)(af:1<=k)(ag:k<=5)(S:-100<=m)(H:m<=4611686018427387904)(I:0<=y.t)(J:y.t<=4611686018427387904)(P:k=2\/k=3->0<=y.k/\y.k<=2147483648)(U:eE w)(V:¬BH k b 2)(Q:last<=4611686018427387904):
  Calls prog (J8 k) args w λe r=>e=.returned (.tuple #[])/\∃F:NB,cB r k F c (B9 k c j y m)/\F.d=b.d/\(∀d,BH k F d->BH k b d\/w.heap.size<=d)/\aA (BH k b) w r:=by
 subst W;rcases As af ag with e | e | e | e | e
 ·subst e;obtain⟨o,s,u,v⟩:=Ef t l rfl;refine(RD b.d b.r b.g c j.bs y m w (a.bL rfl) (hi.fX (by omega)) (by have:=hi.sum;omega) (by have:=(hi.fP (by omega)).1;omega) S H (by omega) v o s).mono ?_;rintro e r ⟨rfl,q,x,l,A⟩;refine⟨rfl,⟨b.d,b.r,q,[]⟩,⟨(λa=>by omega),(λ_=>x),(λa=>by omega),(λa=>by omega),(λa=>by omega)⟩,rfl,?_,l.mono (λd _ hi=>.inl ⟨rfl,.inr hi⟩)⟩;rintro d (⟨_,hi | hi | hi⟩ | ⟨h,_⟩ | ⟨h,_⟩ | ⟨h,_⟩ | ⟨h,_⟩)
  ·exact .inl (.inl ⟨rfl,.inl hi⟩)
  ·exact .inl (.inl ⟨rfl,.inr (.inl hi)⟩)
  ·rcases A with a | ⟨E,a,B⟩
   ·exact .inl (.inl ⟨rfl,.inr (.inr (by rw[<-a];exact hi))⟩)
   have i:q=some d:=hi;rw[a]at i;injection i with i;exact .inr (by omega)
  all_goals omega
 ·subst e;obtain⟨o,s,u,v,N⟩:=FD t l rfl;obtain⟨Y,D⟩:=a.dQ rfl;obtain⟨L,M⟩:=P (.inl rfl);have ab:1<=b.qs.length:=by rw[D];exact Nat.pow_pos (by omega)
  have ad:b.qs.length<=16:=by rw[D];exact jk (n:=2) (by omega) (show c.bits.toNat<=4 by omega)
  refine(Se b.d b.r b.qs c j.rg y m w Y U (λd hi T=>V (.inr (.inr (.inl ⟨rfl,.inr (.inr ⟨d,hi,T⟩)⟩)))) ab ad o (by omega) N S H L M (λd=>by have:=hi.fZ d;omega)).mono ?_;rintro e r ⟨rfl,ah,O,aa,Z,z⟩;refine⟨rfl,⟨b.d,b.r,b.g,ah⟩,⟨(λa=>by omega),(λa=>by omega),(λ_=>⟨by rw[D]at O;exact O,aa.trans D⟩),(λa=>by omega),(λa=>by omega)⟩,rfl,?_,z.mono (λd _ hi=>.inr (.inr (.inl ⟨rfl,.inr (.inr hi)⟩)))⟩;rintro d (⟨h,_⟩ | ⟨h,_⟩ | ⟨_,hi | hi | ⟨E,B,hi⟩⟩ | ⟨h,_⟩ | ⟨h,_⟩)
  ·omega
  ·omega
  ·exact .inl (.inr (.inr (.inl ⟨rfl,.inl hi⟩)))
  ·exact .inl (.inr (.inr (.inl ⟨rfl,.inr (.inl hi)⟩)))
  ·rcases Z E d B hi with G | G
   ·exact .inl (.inr (.inr (.inl ⟨rfl,.inr (.inr G)⟩)))
   exact .inr G
  ·omega
  omega
 ·subst e;obtain⟨o,s,u,v,N⟩:=Dw t l rfl;obtain⟨L,M⟩:=P (.inr rfl);have C:=hi.oi rfl;have aj:j.cl.length<=8:=by have:=C.len;have:=o.p1;omega
  refine(RJ b.d b.r b.g c j.op j.cl y m w (a.dW rfl) o s u I J L M (by omega) H (by omega) (C.hB Q u v) (C.hC Q u v) (λai ae=>by have:=C.gY.1 ai ae;omega)).mono ?_;rintro e r ⟨rfl,q,x,z,A⟩;refine⟨rfl,⟨b.d,b.r,q,[]⟩,⟨(λa=>by omega),(λa=>by omega),(λa=>by omega),(λ_=>x),(λa=>by omega)⟩,rfl,?_,z.mono (λd _ hi=>.inr (.inr (.inr (.inl ⟨rfl,hi⟩))))⟩;rintro d (⟨h,_⟩ | ⟨h,_⟩ | ⟨h,_⟩ | ⟨_,hi | hi | hi⟩ | ⟨h,_⟩)
  ·omega
  ·omega
  ·omega
  ·exact .inl (.inr (.inr (.inr (.inl ⟨rfl,.inl hi⟩))))
  ·exact .inl (.inr (.inr (.inr (.inl ⟨rfl,.inr (.inl hi)⟩))))
  ·have i:q=some d:=hi;rcases A with a | ⟨E,a,B⟩
   ·exact .inl (.inr (.inr (.inr (.inl ⟨rfl,.inr (.inr (by rw[<-a];exact i))⟩))))
   rw[a]at i;injection i with i;exact .inr (by omega)
  omega
 ·subst e;have R:=Gf c y.t;refine(Sb b.d c j.q j.r y m w (a.dec rfl) (FZ t l (by omega) (by omega)) I J hi.r0 hi.r1 hi.q0 (by have:=hi.qn;omega) R.1 R.2).mono ?_;rintro e r ⟨rfl,X,l⟩;exact⟨rfl,b,⟨(λ_=>X),(λa=>by omega),(λa=>by omega),(λa=>by omega),(λa=>by omega)⟩,rfl,(λ_ a=>.inl a),l.mono (λd _ hi=>.inr (.inl ⟨rfl,hi⟩))⟩
 subst e;obtain⟨o,s⟩:=E4 t l rfl;refine(Nj b.d b.r b.g c j.tk y m w (a.cX rfl) (FZ t l (by omega) (by omega)) I J o s (by have:=hi.tl rfl;omega)).mono ?_;rintro e r ⟨rfl,q,x,z,A⟩;refine⟨rfl,⟨b.d,b.r,q,[]⟩,⟨(λa=>by omega),(λa=>by omega),(λa=>by omega),(λa=>by omega),(λ_=>x)⟩,rfl,?_,z.mono (λd _ hi=>.inr (.inr (.inr (.inr ⟨rfl,.inr hi⟩))))⟩;rintro d (⟨h,_⟩ | ⟨h,_⟩ | ⟨h,_⟩ | ⟨h,_⟩ | ⟨_,hi | hi | hi⟩)
 ·omega
 ·omega
 ·omega
 ·omega
 ·exact .inl (.inr (.inr (.inr (.inr ⟨rfl,.inl hi⟩))))
 ·exact .inl (.inr (.inr (.inr (.inr ⟨rfl,.inr (.inl hi)⟩))))
 have i:q=some d:=hi;rcases A with a | ⟨E,a,B⟩
 ·exact .inl (.inr (.inr (.inr (.inr ⟨rfl,.inr (.inr (by rw[<-a];exact i))⟩))))
 rw[a]at i;injection i with i;exact .inr (by omega)
def KJ(w:World)(base:Nat)(v:Value)(l:List Int): Prop:=w.ownsRow base 3 1 v l.length (l.map (.int .i64 ·))
theorem zM9{rel last:Int}(k:Nat)(b:NB)(c:Cfg)(d:aU)(a m:Int)(args:Array Value)(w:World)(J:args=En b.d++#[.int .i64 a,.int .i64 m])(s:cB w k b c d)(hi:bT k c rel last d)(N:rel<=4611686018427387904)(H:last<=4611686018427387904)(z:Ak c=true)(e:c.kind=k)(P:1<=k)(Q:k<=5)(D:-100<=m)(B:m<=4611686018427387904):
  Calls prog (Io k) args w λh i=>∃I E r,h=.returned (.tuple #[.slice I E r,.int .i64 (AY k c d a m).1])/\KJ i w.heap.size (.slice I E r) (AY k c d a m).2/\lO w i:=by
 subst J;have C:∀i:World,KJ i w.heap.size (.slice none 0 0) []:=λi=>ir _ _ _ _;rcases As P Q with h | h | h | h | h
 ·subst h;obtain⟨q,t,A,u⟩:=Ef z e rfl;cases hin:Ab a 1 c.aB
  ·refine(U2 b.d b.r b.g c d.bs a m w (s.bL rfl) hin).mono ?_;rintro h i ⟨rfl,e⟩;have l:AY 1 c d a m=(13,[]):=by unfold AY;rw[hZ (by omega),h9 rfl,hZ (by rw[hin];simp)]
   rw[l];exact⟨none,0,0,rfl,C _,e⟩
  refine(Tm b.d b.r b.g c d.bs a m w (s.bL rfl) (hi.fX N) hin D B u).mono ?_;rintro h i ⟨g,rfl,x,v,e⟩;have l:AY 1 c d a m=(0,[Fb d.bs (m-a)]):=by unfold AY;rw[hZ (by omega),h9 rfl,h9 hin]
  rw[l];exact⟨some ⟨g,0,none⟩,1,1,rfl,⟨rfl,.inr ⟨g,1,_,rfl,x,v,by simp,by unfold maxLen;omega,rfl,rfl⟩⟩,e⟩
 ·subst h;obtain⟨q,t,A,u,F⟩:=FD z e rfl;obtain⟨G,l⟩:=s.dQ rfl;have L:1<=b.qs.length:=by rw[l];exact Nat.pow_pos (by omega)
  have M:b.qs.length<=16:=by rw[l];exact jk (n:=2) (by omega) (show c.bits.toNat<=4 by omega)
  cases hin:Ab a 1 c.aB
  ·refine(Ub b.d b.r b.qs c d.rg a m w G hin).mono ?_;rintro h i ⟨rfl,e⟩;have o:AY 2 c d a m=(13,[]):=by unfold AY;rw[hZ (by omega),hZ (by omega),h9 rfl];unfold FT;rw[hZ (by rw[hin];simp)]
   rw[o];exact⟨none,0,0,rfl,C _,e⟩
  refine(Tq b.d b.r b.qs c d.rg a m w G hin L M F D B (λO=>by have:=hi.fZ O;omega) hi.rk).mono ?_;rintro h i ⟨g,r,rfl,j,e⟩;have o:AY 2 c d a m=(0,Cr d.rg b.qs.length (m-a)++[7*b.qs.length*b.qs.length*1099511627776/(10*CG (Cr d.rg b.qs.length (m-a)))]):=by unfold AY;rw[hZ (by omega),hZ (by omega),h9 rfl];unfold FT;rw[h9 hin,l]
  rw[o];refine⟨some ⟨g,0,none⟩,b.qs.length+1,r,rfl,?_,e⟩;unfold KJ;rw[hY,IP,iZ];exact j
 ·subst h;obtain⟨q,t,A,u,F⟩:=Dw z e rfl;have j:=hi.oi rfl;have R:d.cl.length<=8:=by have:=j.len;have:=q.p1;omega
  cases hin:Ab a 0 2147483648
  ·refine(TU b.d a m w hin).mono ?_;rintro h i ⟨rfl,e⟩;have o:AY 3 c d a m=(10,[]):=by unfold AY;rw[hZ (by omega),hZ (by omega),hZ (by omega),h9 rfl,hZ (by rw[hin];simp)]
   rw[o];exact⟨none,0,0,rfl,C _,e⟩
  refine(Te b.d b.r b.g c d.op d.cl a m w (s.dW rfl) hin q t (by omega) B (by omega) (j.hB H A u) (j.hC H A u) j.gF j.gD (by have:=j.eZ;omega)).mono ?_;rintro h i ⟨g,rfl,x,v,e⟩;have o:AY 3 c d a m=(0,[FX c d.op d.cl a m]):=by unfold AY;rw[hZ (by omega),hZ (by omega),hZ (by omega),h9 rfl,h9 hin]
  rw[o];exact⟨some ⟨g,0,none⟩,1,1,rfl,⟨rfl,.inr ⟨g,1,_,rfl,x,v,by simp,by unfold maxLen;omega,rfl,rfl⟩⟩,e⟩
 ·subst h;refine(Ti b.d c d.q d.r a m w (s.dec rfl) (FZ z e (by omega) (by omega)) D B).mono ?_;rintro h i ⟨g,rfl,x,v,e⟩;exact⟨some ⟨g,0,none⟩,3,3,rfl,⟨rfl,.inr ⟨g,3,_,rfl,x,v,by simp[AY],by unfold maxLen;omega,rfl,rfl⟩⟩,e⟩
 subst h;obtain⟨q,t⟩:=E4 z e rfl;refine(SQ b.d b.r b.g c d.tk a m w (s.cX rfl) q t (by have:=hi.tl rfl;omega)).mono ?_;rintro h i ⟨g,r,rfl,j,e⟩;exact⟨some ⟨g,0,none⟩,_,r,rfl,j,e⟩
theorem zMe{rel last:Int}(k:Nat)(b:NB)(c:Cfg)(h:aU)(m d:Int)(args:Array Value)(w:World)(q:args=KL k b.d++#[.int .i64 m,.int .i64 d])(e:cB w k b c h)(hi:bT k c rel last h)(s:rel<=4611686018427387904)(t:Ak c=true)(j:c.kind=k)(u:1<=k)(v:k<=5)(x:-100<=m)(z:m<=4611686018427387904)(n:0<=d)(o:d<=100):
  Calls prog (Ip k) args w λa i=>a=.returned (.tuple #[.int .i64 (Bc k c h m d).2.1,.int .i64 (Bc k c h m d).2.2])/\cB i k b c (Bc k c h m d).1/\aA (BH k b) w i:=by
 subst q;rcases As u v with a | a | a | a | a
 ·subst a;obtain⟨A,B,C,l⟩:=Ef t j rfl;refine(SL b.d b.r b.g c h.bs m d w (e.bL rfl) (hi.fX s) x z (by omega) l n o).mono ?_;rintro a i ⟨rfl,r,j⟩;exact⟨rfl,⟨(λe=>by omega),(λ_=>r),(λe=>by omega),(λe=>by omega),(λe=>by omega)⟩,j.mono (λD _ hi=>.inl ⟨rfl,.inr hi⟩)⟩
 all_goals
  subst a;refine(Ry m d w).mono ?_;rintro a i ⟨rfl,rfl⟩;exact⟨rfl,e,aA.refl _ _⟩
end
section
attribute [local go_sem ↓] AN B2
attribute [local go_sem] AO B4 A5 A6 AI AJ Bf B3
def Gr(c:Cfg): List Value:=c.cells++(Pa.pn0.cells++[.pointer none])
theorem Sj(ρ:Operand->Value)(dst:Option Tmp)(x:Array (Nat×Operand))(c:TypeId)(pos:String)(after:Array Edge)(guard:Option (Nat×Bool)):
  execOp ρ { dst,op:=.build 233 x,type:=c,pos,after,guard }=GQ 233 (x.map λ(a,y)=>(a,ρ y)):=rfl
theorem O3(c:Cfg)(w:World):
  (GQ 233 #[(0,.agg c.cells.toArray)]).run prog w=.ok (.value (.agg (Gr c).toArray)) w:=by kernel_rfl
theorem Tw(c:Cfg)(w:World):
  (GQ 233 #[(0,.agg #[.int .i64 c.kind,.int .i64 c.aK,.int .i64 c.bF,.int .i64 c.cap,.int .i64 c.k,.int .i64 c.aB,.int .i64 c.bits,.int .i64 c.rows,.int .i64 c.width,.int .i64 c.aM,.int .i64 c.size,.int .i64 c.degree,.int .i64 c.half,.int .i64 c.mark,.int .i64 c.bV,.int .i64 c.bW,.int .i64 c.cG,.int .i64 c.cH,.int .i64 c.cQ,.int .i64 c.cR])]).run prog w=.ok (.value (.agg (Gr c).toArray)) w:=O3 c w
attribute [local go_sem ↓] Sj
attribute [local go_sem] O3 Tw
theorem VY(c:Cfg)(a:Nat): (Gr c).set 69 (.pointer (some ⟨a,0,none⟩))=Be c Pa.pn0 a:=by
 unfold Gr Be;have d:c.cells.length=20:=by simp[Cfg.cells]
 rw[kK _ _ (by omega),d,kK _ _ (by rw[Pa.Pn.aE];omega),Pa.Pn.aE];rfl
theorem Vi(c:Cfg): (Gr c)[69]?=some (.pointer none):=by
 unfold Gr;rw[iS (by simp[Cfg.cells]),iS (by rw[Pa.Pn.aE];simp[Cfg.cells])];simp[Cfg.cells,Pa.Pn.aE]
theorem T1(c:Cfg)(w:World):
  Calls prog 147 #[c.val] w λu A=>∃l z,u=.returned (.pointer (some ⟨l,0,none⟩))/\w.heap.size<=l/\w.heap.size<=z/\cP A l z none c Pa.pn0 []/\lO w A:=by
 obtain⟨d,j⟩:∃d,d=w.alloc (.cells c.cells.toArray 46):=⟨_,rfl⟩;have B:=Aa (show aD d w.heap.size c.cells 46 by rw[j];exact aD.new w _ _);have D:=Aa (show lO w d by rw[j];exact(aA.refl (λ_=>False) w).alloc _);have t:=Aa j;clear j;unfold Cfg.val;go_enter func147,ntmps147;go_wp2_with fail
 rw[show w.alloc (.cells #[.int .i64 c.kind,.int .i64 c.aK,.int .i64 c.bF,.int .i64 c.cap,.int .i64 c.k,.int .i64 c.aB,.int .i64 c.bits,.int .i64 c.rows,.int .i64 c.width,.int .i64 c.aM,.int .i64 c.size,.int .i64 c.degree,.int .i64 c.half,.int .i64 c.mark,.int .i64 c.bV,.int .i64 c.bW,.int .i64 c.cG,.int .i64 c.cH,.int .i64 c.cQ,.int .i64 c.cR] 46)=d from t.o.symm];generalize n:w.heap.size=a at *
 have s:=Aa n;clear n;obtain⟨L,I⟩:=CE B.o 20 rfl;go_wp2_with fail
 have v:d.heap.size=a+1:=by rw[t.o];simp[s.o]
 obtain⟨e,i⟩:∃e,e=d.alloc (.cells (Gr c).toArray 233):=⟨_,rfl⟩;rw[<-i];have C:=Aa (show aD e (a+1) (Gr c) 233 by rw[i];exact aD.newAt v _ _);have E:=Aa (show lO d e by rw[i];exact(aA.refl _ _).alloc _);have J:e.heap.size=a+1+1:=by rw[i];simp[v]
 clear i L I;refine(Pa.rowNew_any (a+1) e).mono ?_;rintro u H ⟨rfl,r,q,S⟩;rw[J]at r ⊢;have k:=Aa (C.o.keeps q id);have N:H.cell? ⟨a+1,69,none⟩=some (.pointer none):=k.o.cell (Vi c);have O:=k.o.frozen;have F:=Aa ((D.o.then E.o).then q);have G:=Aa r;clear q r;go_wp2;go_ret;have x:=k.o.setCell 69 (.pointer (some ⟨a+1+1,0,none⟩));rw[VY]at x;have n:=s.o;refine⟨a+1,a+1+1,rfl,by omega,by omega,⟨x,?_,by omega,λg o=>by cases o⟩,?_⟩
 ·exact G.o.keeps (M:=λh=>h=a+1) ((aA.refl (λh=>h=a+1) _).setCell (p:=⟨a+1,69,none⟩) (Or.inl rfl) _) (λm=>by have P:a+1+1=a+1:=m;omega) (λg o=>by cases o)
 exact F.o.trans ((aA.refl (λh=>h=a+1) _).setCell (p:=⟨a+1,69,none⟩) (Or.inl rfl) _) (λh Q R=>by omega)
def KD(d:Nat): Value:=.func (.func 148) #[.pointer (some ⟨d,0,none⟩)] #[]
def KA(d:Nat): Value:=.func (.func 151) #[.pointer (some ⟨d,0,none⟩)] #[]
def K3(d:Nat): Value:=.func (.func 150) #[.pointer (some ⟨d,0,none⟩)] #[]
def Ku(d:Nat): Value:=.func (.func 149) #[.pointer (some ⟨d,0,none⟩)] #[]
theorem RX(c:Cfg)(w:World):
  Calls prog 106 #[c.val] w λu A=>∃a k,u=.returned (.agg #[KD a,Ku a,ES,K3 a,KA a])/\w.heap.size<=a/\w.heap.size<=k/\cP A a k none c Pa.pn0 []/\lO w A:=by
 obtain⟨h,i⟩:∃h,h=(w.alloc (.cells c.cells.toArray 46)).alloc (.cells #[.nilFunc,.nilFunc,.nilFunc,.nilFunc,.nilFunc] 94):=⟨_,rfl⟩;have m:=Aa (show aD h (w.heap.size+1) [.nilFunc,.nilFunc,.nilFunc,.nilFunc,.nilFunc] 94 by rw[i];exact aD.newAt (by simp) _ _);have l:=Aa (show lO w h by rw[i];exact((aA.refl (λ_=>False) w).alloc _).alloc _);have F:=Aa i;have t:=Aa (T1 c h);clear i;unfold Cfg.val at *
 go_enter func106,ntmps106;go_wp2_with fail
 rw[show(w.alloc (.cells #[.int .i64 c.kind,.int .i64 c.aK,.int .i64 c.bF,.int .i64 c.cap,.int .i64 c.k,.int .i64 c.aB,.int .i64 c.bits,.int .i64 c.rows,.int .i64 c.width,.int .i64 c.aM,.int .i64 c.size,.int .i64 c.degree,.int .i64 c.half,.int .i64 c.mark,.int .i64 c.bV,.int .i64 c.bW,.int .i64 c.cG,.int .i64 c.cH,.int .i64 c.cQ,.int .i64 c.cR] 46)).alloc (.cells #[.nilFunc,.nilFunc,.nilFunc,.nilFunc,.nilFunc] 94)=h from F.o.symm];generalize o:w.heap.size=d at *
 have C:=Aa o;clear o;refine t.o.mono ?_;rintro u r ⟨a,k,rfl,O,R,x,q⟩;have B:=Aa x;have e:=Aa (m.o.keeps q id);have D:=Aa (l.o.then q);have E:=Aa l.o.size;have s:=Aa m.o.lt;clear x q m l t;have N:=e.o.frozen;have H:=e.o.c0;have I:=e.o.c1;have J:=e.o.c2;have L:=e.o.c3;have M:=e.o.c4;go_wp2;have o:=C.o;have S:=E.o;have z:aA (λj=>j=d+1) r (((((r.setCell ⟨d+1,0,none⟩ (KD a)).setCell ⟨d+1,1,none⟩ (Ku a)).setCell ⟨d+1,2,none⟩ ES).setCell ⟨d+1,3,none⟩ (K3 a)).setCell ⟨d+1,4,none⟩ (KA a)):=(((((aA.refl (λj=>j=d+1) r).setCell (p:=⟨d+1,0,none⟩) (Or.inl rfl) _).setCell (p:=⟨d+1,1,none⟩) (Or.inl rfl) _).setCell (p:=⟨d+1,2,none⟩) (Or.inl rfl) _).setCell (p:=⟨d+1,3,none⟩) (Or.inl rfl) _).setCell (p:=⟨d+1,4,none⟩) (Or.inl rfl) _;refine iN (v:=.agg #[KD a,Ku a,ES,K3 a,KA a]) (by simp[results,results106,go_sem,H,I,J,L,M,KD,Ku,ES,K3,KA]) rfl ⟨a,k,rfl,by omega,by omega,?_,?_⟩
 ·exact B.o.keeps z (λn=>by have:=s.o;omega) (λn=>by have:=s.o;omega) (λg G=>by cases G)
 exact D.o.trans z (λj P Q=>by omega)
end
section
theorem X0(c:Cfg)(k:Nat)(w:World)(u:1<=k)(v:k<=5)(D:Ak c=true)(A:c.kind=k):
  Calls prog (Bo k) #[c.val] w λo n=>∃b:NB,o=.returned (.agg #[Ha k b.d,GZ k b.d,Hc k b.d,Hb k b.d,G0 k b.d])/\(∀i,BH k b i->w.heap.size<=i)/\cB n k b c C8/\lO w n:=by
 rcases As u v with h | h | h | h | h
 ·subst h;refine(RP c w).mono ?_;rintro o n ⟨j,l,rfl,q,r,m,h⟩;refine⟨⟨j,l,none,[]⟩,rfl,?_,⟨(λd=>by omega),(λ_=>m),(λd=>by omega),(λd=>by omega),(λd=>by omega)⟩,h⟩;rintro i (⟨_,a | a | a⟩ | ⟨e,_⟩ | ⟨e,_⟩ | ⟨e,_⟩ | ⟨e,_⟩)
  ·have:i=j:=a;omega
  ·have:i=l:=a;omega
  ·cases a
  all_goals omega
 ·subst h;obtain⟨G,H,t,I,J⟩:=FD D A rfl;refine(Rw c (Bw c) w (by omega) t rfl).mono ?_;rintro o n ⟨j,s,F,rfl,q,r,C,B,m,h⟩;refine⟨⟨j,s,none,F⟩,rfl,?_,⟨(λd=>by omega),(λd=>by omega),(λ_=>⟨m,B⟩),(λd=>by omega),(λd=>by omega)⟩,h⟩;rintro i (⟨e,_⟩ | ⟨e,_⟩ | ⟨_,a | a | ⟨E,z,a⟩⟩ | ⟨e,_⟩ | ⟨e,_⟩)
  ·omega
  ·omega
  ·have:i=j:=a;omega
  ·have:i=s:=a;omega
  ·exact C E i z a
  all_goals omega
 ·subst h;refine(RX c w).mono ?_;rintro o n ⟨j,l,rfl,q,r,m,h⟩;refine⟨⟨j,l,none,[]⟩,rfl,?_,⟨(λd=>by omega),(λd=>by omega),(λd=>by omega),(λ_=>m),(λd=>by omega)⟩,h⟩;rintro i (⟨e,_⟩ | ⟨e,_⟩ | ⟨e,_⟩ | ⟨_,a | a | a⟩ | ⟨e,_⟩)
  ·omega
  ·omega
  ·omega
  ·have:i=j:=a;omega
  ·have:i=l:=a;omega
  ·cases a
  omega
 ·subst h;refine(Sa c w).mono ?_;rintro o n ⟨j,rfl,q,x,h⟩;refine⟨⟨j,0,none,[]⟩,rfl,?_,⟨(λ_=>x),(λd=>by omega),(λd=>by omega),(λd=>by omega),(λd=>by omega)⟩,h⟩;rintro i (⟨e,_⟩ | ⟨_,a⟩ | ⟨e,_⟩ | ⟨e,_⟩ | ⟨e,_⟩)
  ·omega
  ·have:i=j:=a;omega
  all_goals omega
 subst h;refine(RI c w).mono ?_;rintro o n ⟨j,l,rfl,q,r,m,h⟩;refine⟨⟨j,l,none,[]⟩,rfl,?_,⟨(λd=>by omega),(λd=>by omega),(λd=>by omega),(λd=>by omega),(λ_=>m)⟩,h⟩;rintro i (⟨e,_⟩ | ⟨e,_⟩ | ⟨e,_⟩ | ⟨e,_⟩ | ⟨_,a | a | a⟩)
 ·omega
 ·omega
 ·omega
 ·omega
 ·have:i=j:=a;omega
 ·have:i=l:=a;omega
 cases a
def dH(a b:It): Prop:=a.t<b.t\/(a.t=b.t/\a.n<=b.n)
theorem dH.refl(a:It): dH a a:=.inr ⟨rfl,iG _⟩
theorem dH.trans{a b c:It}(d:dH a b)(k:dH b c): dH a c:=by
 unfold dH at *;omega
theorem LY{a b:It}(c:BU a b=true): dH a b:=by
 unfold BU at c;unfold dH;split at c
 ·rename_i d;simp at c;omega
 simp at c;omega
theorem Lm{a b:It}(c:BU a b=false): dH b a:=by
 unfold BU at c;unfold dH;split at c
 ·rename_i d;simp at c;omega
 simp at c;omega
def bE(l:List It): Prop:=∀i,0<i->i<l.length->dH (itAt l ((i-1)/2)) (itAt l i)
theorem Dl(l:List It)(i j k:Nat)(hi:i<l.length)(d:j<l.length)(e:k<l.length):
  itAt (swapL l i j) k=if k=j then itAt l i else if k=i then itAt l j else itAt l k:=by
 unfold swapL itAt;rw[List.getD_eq_getElem?_getD,jE];by_cases a:j=k
 ·subst a;simp[d]
 rw[hZ a,hZ (lx a),jE];by_cases c:i=k
 ·subst c;simp[hi]
 rw[hZ c,hZ (lx c),List.getD_eq_getElem?_getD]
structure eS (l:List It) (i:Nat):Prop where
 up:∀j,0<j->j<l.length->j≠i->dH (itAt l ((j-1)/2)) (itAt l j)
 over:∀c,0<i->c<l.length->0<c->(c-1)/2=i->dH (itAt l ((i-1)/2)) (itAt l c)
theorem LR(f:Nat): ∀(l:List It) (i:Nat),i<l.length->i<f->eS l i->bE (riseL f l i):=by
 induction f with
 | zero=>intro l i _ d;omega
 | succ f B =>
  intro l i k C d;unfold riseL;split
  ·rename_i v;intro a e c;exact d.up a e c (by omega)
  rename_i v;split
  ·rename_i q;have m:=LY q;have D:(i-1)/2<i:=by omega
   generalize t:(i-1)/2=p at *
   refine B _ p (by rw[Ca];omega) (by omega) ⟨?_,?_⟩
   ·intro a e c z;rw[Ca]at c;rw[Dl l i p _ k (by omega) (by omega),Dl l i p a k (by omega) c];rw[hZ z];by_cases h:a=i
    ·subst h;rw[h9 t,h9 rfl];exact m
    rw[hZ h];by_cases n:(a-1)/2=p
    ·rw[h9 n];have:=d.up a e c h;rw[n]at this;exact m.trans this
    rw[hZ n];by_cases o:(a-1)/2=i
    ·rw[h9 o];have:=d.over a (by omega) c e o;rw[t]at this;exact this
    rw[hZ o];exact d.up a e c h
   intro j A s w x;rw[Ca]at s;rw[Dl l i p _ k (by omega) (by omega),Dl l i p j k (by omega) s];rw[hZ (show(p-1)/2≠p by omega),hZ (show(p-1)/2≠i by omega),hZ (show j≠p by omega)];have u:=d.up p A (by omega) (by omega);by_cases r:j=i
   ·rw[h9 r];exact u
   rw[hZ r];have:=d.up j w s r;rw[x]at this;exact u.trans this
  rename_i q;have m:=Lm (by simpa using q);intro a e c;by_cases h:a=i
  ·subst h;exact m
  exact d.up a e c h
structure eT (l:List It) (i:Nat):Prop where
 up:∀j,0<j->j<l.length->(j-1)/2≠i->dH (itAt l ((j-1)/2)) (itAt l j)
 over:∀c,0<i->c<l.length->0<c->(c-1)/2=i->dH (itAt l ((i-1)/2)) (itAt l c)
theorem Lp(l:List It)(i c:Nat)(e:Bi l i=c): 0<c/\(c-1)/2=i/\∀a,a<l.length->0<a->(a-1)/2=i->dH (itAt l c) (itAt l a):=by
 unfold Bi at e;split at e
 ·split at e
  ·split at e
   ·rename_i k m h;have d:c=2*i+2:=by omega
    subst d;refine⟨by omega,by omega,λa n j o=>?_⟩;have:a=2*i+1\/a=2*i+2:=by omega
    rcases this with rfl | rfl
    ·exact LY h
    exact dH.refl _
   rename_i k m h;have d:c=2*i+1:=by omega
   subst d;refine⟨by omega,by omega,λa n j o=>?_⟩;have:a=2*i+1\/a=2*i+2:=by omega
   rcases this with rfl | rfl
   ·exact dH.refl _
   exact Lm (by simpa using h)
  rename_i k m;have d:c=2*i+1:=by omega
  subst d;refine⟨by omega,by omega,λa n j o=>?_⟩;have:a=2*i+1:=by omega
  subst this;exact dH.refl _
 omega
theorem L0(l:List It)(i:Nat)(c:Bi l i<0): ∀a,a<l.length->0<a->(a-1)/2≠i:=by
 intro a e d h;unfold Bi at c;split at c
 ·split at c
  ·split at c <;> omega
  omega
 omega
theorem L6(f:Nat): ∀(l:List It) (i:Nat),i<l.length->l.length<=f+i->eT l i->bE (sinkL f l i):=by
 induction f with
 | zero=>intro l i _ j;omega
 | succ f D =>
  intro l i n F j;unfold sinkL;split
  ·rename_i u;intro a e d;exact j.up a e d (L0 l i u a d e)
  rename_i u;rcases G8 l i with q | ⟨c,q,G,k⟩
  ·omega
  rw[q,iH];obtain⟨z,r,v⟩:=Lp l i c q;split
  ·rename_i o;have t:=LY o;refine D _ c (by rw[Ca];omega) (by rw[Ca];omega) ⟨?_,?_⟩
   ·intro a e d C;rw[Ca]at d;rw[Dl l i c _ n k (by omega),Dl l i c a n k d,hZ C];by_cases w:a=c
    ·subst w;rw[h9 r,h9 rfl];exact t
    rw[hZ w];by_cases x:a=i
    ·subst x;rw[hZ (show(a-1)/2≠a by omega),h9 rfl];exact j.over c e k z r
    rw[hZ x];by_cases h:(a-1)/2=i
    ·rw[h9 h];exact v a d e h
    rw[hZ h];exact j.up a e d h
   intro m E s A B;rw[Ca]at s;rw[Dl l i c _ n k (by omega),Dl l i c m n k s];rw[hZ (show(c-1)/2≠c by omega),h9 r,hZ (show m≠c by omega),hZ (show m≠i by omega)];have:=j.up m A s (by omega);rw[B]at this;exact this
  rename_i o;have t:=Lm (by simpa using o);intro a e d;by_cases h:(a-1)/2=i
  ·rw[h];exact t.trans (v a d e h)
  exact j.up a e d h
theorem bE.first{l:List It}(a:bE l)(j:Nat)(d:j<l.length): dH (itAt l 0) (itAt l j):=by
 induction j using Nat.strongRecOn with
 | _ j ih =>
  by_cases c:j=0
  ·subst c;exact dH.refl _
  exact(ih ((j-1)/2) (by omega) (by omega)).trans (a j (by omega) d)
theorem bE.cD{l:List It}(e:bE l){y:It}(i:y∈l): (itAt l 0).t<=y.t:=by
 obtain⟨a,d,rfl⟩:=jR.1 i;have c:=e.first a d
 have h:itAt l a=l[a]:=by unfold itAt;rw[List.getD_eq_getElem?_getD,hX d];rfl
 rw[h]at c;unfold dH at c;omega
theorem itAt_get(l:List It)(j:Nat)(a:j<l.length): itAt l j=l[j]:=by
 unfold itAt;rw[List.getD_eq_getElem?_getD,hX a];rfl
theorem IV(l:List It)(i j:Nat)(hi:i<l.length)(a:j<l.length): (swapL l i j).Perm l:=by
 unfold swapL;rw[itAt_get l i hi,itAt_get l j a];exact List.set_set_perm hi a
theorem LM(f:Nat): ∀(l:List It) (i:Nat),i<l.length->(riseL f l i).Perm l:=by
 induction f with
 | zero=>intro l i _;exact jb _
 | succ f c =>
  intro l i a;unfold riseL;split
  ·exact jb _
  split
  ·exact(c _ _ (by rw[Ca];omega)).trans (IV l _ _ a (by omega))
  exact jb _
theorem LE(f:Nat): ∀(l:List It) (i:Nat),i<l.length->(sinkL f l i).Perm l:=by
 induction f with
 | zero=>intro l i _;exact jb _
 | succ f e =>
  intro l i d;unfold sinkL;split
  ·exact jb _
  rename_i j;rcases G8 l i with a | ⟨h,a,k,c⟩
  ·omega
  rw[a,iH];split
  ·exact(e _ _ (by rw[Ca];omega)).trans (IV l _ _ d c)
  exact jb _
theorem put_heap(l:List It)(x:It)(e:bE l): bE (riseL (l.length+1) (l++[x]) l.length)/\(riseL (l.length+1) (l++[x]) l.length).Perm (x::l):=by
 have d:∀a,a<l.length->itAt (l++[x]) a=itAt l a:=by
  intro a c;unfold itAt;rw[List.getD_eq_getElem?_getD,List.getD_eq_getElem?_getD,iO c]
 refine⟨LR _ _ _ (by simp) (by omega) ⟨?_,?_⟩,(LM _ _ _ (by simp)).trans (j3 x l)⟩
 ·intro a c i o;rw[hY,iZ]at i;rw[d _ (by omega),d a (by omega)];exact e a c (by omega)
 intro j k h m n;rw[hY,iZ]at h;omega
theorem take_heap(l:List It)(q:bE l)(n:l≠[]): bE (takeL l)/\(itAt l 0::takeL l).Perm l:=by
 have z:0<l.length:=jG.2 n;unfold takeL;by_cases j:l.length=1
 ·obtain⟨a,rfl⟩:=List.length_eq_one_iff.1 j;refine⟨?_,?_⟩
  ·intro A _ t;rw[show(([a].set 0 (itAt [a] ([a].length-1))).take ([a].length-1))=[] from rfl]at t;have:(sinkL [a].length [] 0).length=0:=rfl;omega
  exact jb _
 obtain⟨a,h,rfl⟩:∃a h,l=a::h:=by cases l with | nil=>exact absurd rfl n | cons a h=>exact⟨a,h,rfl⟩
 obtain⟨d,c,rfl⟩:∃d c,h=d++[c]:=by
  refine⟨h.dropLast,h.getLast (by intro o;subst o;simp at j),?_⟩;rw[List.dropLast_concat_getLast]
 have u:itAt (a::(d++[c])) ((a::(d++[c])).length-1)=c:=by
  rw[itAt_get _ _ (by simp)];simp
 have s:((a::(d++[c])).set 0 (itAt (a::(d++[c])) ((a::(d++[c])).length-1))).take ((a::(d++[c])).length-1)=c::d:=by
  rw[u];simp
 rw[s];have k:∀e,0<e->e<(c::d).length->itAt (c::d) e=itAt (a::(d++[c])) e:=by
  intro e r i;simp only[iA]at i;rw[itAt_get _ _ (by simpa using i),itAt_get _ _ (by simp;omega)];obtain⟨e,rfl⟩:∃v,e=v+1:=⟨e-1,by omega⟩;simp only[List.getElem_cons_succ];rw[List.getElem_append_left (by omega)]
 refine⟨L6 _ _ 0 (by simp) (by simp) ⟨?_,?_⟩,?_⟩
 ·intro e i m x;rw[k _ (by omega) (by omega),k e i m];exact q e i (by simp at m ⊢;omega)
 ·intro w r;omega
 refine(List.Perm.cons _ (LE _ _ 0 (by simp))).trans ?_;show(a::c::d).Perm (a::(d++[c]));exact List.Perm.cons a (j3 c d).symm
end
section
attribute [local go_sem ↓] AN B2
attribute [local go_sem] AO B4 A5 A6 AI AJ BC BD Bf B3
structure aI where
 id:Int
 c:Cfg
 k:Nat
 acc:Int
 rel:Int
 ref:List Int
 l:List It
 nt:aU
 last:Int
structure SB where
 s:Nat
 q:Nat
 g:Option Nat
 n:NB
def Cfg.eD(c:Cfg)(rest:List Value): List Value:=.int .i64 c.kind::.int .i64 c.aK::.int .i64 c.bF::.int .i64 c.cap::.int .i64 c.k::.int .i64 c.aB::.int .i64 c.bits::.int .i64 c.rows::.int .i64 c.width::.int .i64 c.aM::.int .i64 c.size::.int .i64 c.degree::.int .i64 c.half::.int .i64 c.mark::.int .i64 c.bV::.int .i64 c.bW::.int .i64 c.cG::.int .i64 c.cH::.int .i64 c.cQ::.int .i64 c.cR::rest
def D1(b:SB)(x:aI): List Value :=
 .int .i64 x.id::x.c.eD (fn (Bu x.k)::fn (Bg x.k)::fn (Bh x.k)::fn (AR x.k)::fn (AW x.k)::fn (Bo x.k)::Ha x.k b.n.d::GZ x.k b.n.d::Hc x.k b.n.d::Hb x.k b.n.d::G0 x.k b.n.d::.pointer (some ⟨b.q,0,none⟩)::.int .i64 x.acc::.int .i64 x.rel::x.ref.map (.int .i64 ·))
structure bJ (w:World) (b:SB) (x:aI):Prop where
 aF:aD w b.s (D1 b x) 98
 dL:bB w b.q b.g x.l
 note:cB w x.k b.n x.c x.nt
 sq:b.s≠b.q
 sg:∀g,b.g=some g->b.s≠g
 sn:∀i,BH x.k b.n i->i≠b.s/\i≠b.q/\b.g≠some i
def SB.aQ(b:SB)(k:Nat)(i:Nat): Prop:=i=b.s\/i=b.q\/b.g=some i\/BH k b.n i
theorem bJ.keeps{M:Nat->Prop}{w w':World}{b:SB}{x:aI}(a:bJ w b x)(e:aA M w w')(c:∀d,b.aQ x.k d->¬M d): bJ w' b x :=
 ⟨a.aF.keeps e (c _ (.inl rfl)),a.dL.keeps e (c _ (.inr (.inl rfl))) (λ_ h=>c _ (.inr (.inr (.inl h)))),
    a.note.keeps e (λd i=>c d (.inr (.inr (.inr i)))),a.sq,a.sg,a.sn⟩
theorem bJ.still{w w':World}{b:SB}{x:aI}(a:bJ w b x)(c:lO w w'): bJ w' b x:=a.keeps c (λ_ _ a=>a)
theorem bJ.lt{w:World}{b:SB}{x:aI}(a:bJ w b x)(i:Nat)(hi:b.aQ x.k i): i<w.heap.size:=by
 rcases hi with hi | hi | hi | hi
 ·subst hi;exact a.aF.lt
 ·subst hi;exact a.dL.lt.1
 ·exact(a.dL.lt.2 i hi).1
 exact a.note.lt i hi
structure aT (n:Int) (x:aI):Prop where
 valid:Ak x.c=true
 kind:x.c.kind=x.k
 k1:1<=x.k
 k5:x.k<=5
 eJ:0<=x.acc
 dG:x.acc<=n
 dI:0<=x.rel
 dD:x.rel+x.l.length=x.acc
 bS:x.ref.length=12
 cL:∀v,v∈x.ref->0<=v/\v<=n
 cap:(x.l.length:Int)<=x.c.cap
 times:∀y,y∈x.l->0<=y.t/\y.t<=4611686018427387904
 note:bT x.k x.c x.rel x.last x.nt
 heap:bE x.l
 dZ:0<=x.last
 dP:x.last<=4611686018427387904
 dV:∀y,y∈x.l->x.last<=y.t
 fits:∀y,y∈x.l->AL x.c x.k y=0
theorem aT.common{n:Int}{x:aI}(a:aT n x): 0<=x.c.aK/\x.c.aK<=100/\0<=x.c.bF/\x.c.bF<=100/\1<=x.c.cap/\x.c.cap<=8:=by
 have:=a.valid;simp only[Ak,B0,Ab,iK,iI]at this;omega
theorem aT.bH{n:Int}{x:aI}(a:aT n x)(c:4<=x.k): x.c.bH:=FZ a.valid a.kind c a.k5
theorem Gt(s:Nat)(a clock:Int)(w:World)(e:w.cell? ⟨s,2,none⟩=some (.int .i64 a))(h:0<=a)(i:a<=100)(c0:0<=clock)(c1:clock<=4611686018427387904):
  Calls prog 43 #[.pointer (some ⟨s,0,none⟩),.int .i64 clock] w λc d=>c=.returned (.int .i64 (clock-a))/\d=w:=by
 go_enter func43,ntmps43;go_wp2;go_ret;exact⟨rfl,rfl⟩
def bO(x:aI)(clock:Int)(y:It): Int :=
 if Ab y.t 0 4611686018427387904 then
  if y.t<=clock-x.c.aK then 6
  else if clock+x.c.bF<y.t then 7
  else if AL x.c x.k y≠0 then AL x.c x.k y
  else if x.c.cap<=x.l.length then 11 else if 4611686018427387904<=x.acc then 11 else 0
 else 5
theorem Cb{M:Nat->Prop}{w w':World}{b o n:Nat}(e:aA M w w')(i:¬M b)(h:b<w.heap.size): Ao w' b o n=Ao w b o n/\Ay w' b o n=Ay w b o n:=by
 have d:∀c,w'.cell? ⟨b,o+c,none⟩=w.cell? ⟨b,o+c,none⟩:=λc=>jw (a:=⟨b,o+c,none⟩) (e.block b h i);constructor
 ·unfold Ao Cv;simp only[d]
 unfold Ay;simp only[d]
theorem NK(n:Int)(b:SB)(x:aI)(y:It)(clock:Int)(w:World)(M:bJ w b x)(hi:aT n x)(c0:0<=clock)(c1:clock<=4611686018427387904):
  Calls prog 38 #[.pointer (some ⟨b.s,0,none⟩),y.val,.int .i64 clock] w λe c=>e=.returned (.int .i64 (bO x clock y))/\lO w c:=by
 obtain⟨ag,ah,aq,ar,ao,ap⟩:=hi.common;have j:=M.aF.lt;have Q:=Aa M;have o:=Aa hi;have O:=Aa (show aD (w.alloc (.cells y.cells 80)) w.heap.size [.int .i64 y.t,.int .i64 y.k,.int .i64 y.d,.int .i64 y.n] 80 from aD.new w [_,_,_,_] 80);have E:=Aa ((aA.refl (λ_=>False) w).alloc (.cells y.cells 80));have d:=Aa (show bO x clock y=if Ab y.t 0 4611686018427387904 then(if y.t<=clock-x.c.aK then 6 else if clock+x.c.bF<y.t then 7 else if AL x.c x.k y≠0 then AL x.c x.k y else if x.c.cap<=x.l.length then 11 else if 4611686018427387904<=x.acc then 11 else 0) else 5 from rfl);clear M hi;unfold It.val;cases h1:Ab y.t 0 4611686018427387904
 ·go_enter func38,ntmps38;go_wp2_with (go_at_call 41;refine(Gm _ _).mono ?_;rintro e c ⟨rfl,rfl⟩)
  go_ret;exact⟨A9 (by rw[d.o,h1];rfl),E.o⟩
 obtain⟨ai,aj⟩:=Bp h1;rw[h1,h9 rfl]at d;have Z:=Q.o.aF.c2;go_enter func38,ntmps38;go_wp2_with fail
 refine(Gm _ _).mono ?_;rintro e c ⟨rfl,rfl⟩;rw[h1];go_wp2_with fail
 go_region_held3 (λc=>c.cell? ⟨w.heap.size,0,none⟩=some (.int .i64 y.t)/\c.cell? ⟨b.s,2,none⟩=some (.int .i64 x.c.aK)) (go_keep)
  (first | (go_at_call 43;refine(Gt b.s x.c.aK clock _ (by go_keep) ag ah c0 c1).mono ?_;rintro e c ⟨rfl,rfl⟩))
 have k:=Aa (O.o.drew);have q:=Aa (E.o.drew);clear O E;have R:(w.alloc (.cells #[.int .i64 y.t,.int .i64 y.k,.int .i64 y.d,.int .i64 y.n] 80)).drew=(w.alloc (.cells y.cells 80)).drew:=rfl;rw[R];clear R;generalize(w.alloc (.cells y.cells 80)).drew=D at *
 generalize Y:w.heap.size=u at *
 have t:=Aa (Q.o.still q.o);clear Z j Y;have j:=t.o.aF.lt;have L:=k.o.lt;have F:=k.o.c0;have G:=k.o.c1;have H:=k.o.c2;have I:=k.o.c3;have ab:=t.o.aF.c3;by_cases z:y.t<=clock-x.c.aK
 ·rw[h9 z]at d;go_wp2;go_ret;exact⟨A9 d.o.symm,q.o⟩
 rw[hZ z]at d;have U:decide (y.t<=clock-x.c.aK)=false:=by simpa using z
 go_wp2_with fail
 go_quiet (fail)
 by_cases A:clock+x.c.bF<y.t
 ·rw[h9 A]at d;go_wp2;go_ret;exact⟨A9 d.o.symm,q.o.then (aA.drewN _ _ _)⟩
 rw[hZ A]at d;have V:decide (clock+x.c.bF<y.t)=false:=by simpa using A
 go_wp2_with fail
 have C:lO D (D.drewN nq):=aA.drewN (λ_=>False) D nq;have r:=Aa (t.o.still C);have m:=Aa (k.o.keeps C id);have P:=Aa (q.o.then C);clear C;generalize D.drewN nq=N at *
 clear t k q F G H I ab j L z U A V;have j:=r.o.aF.lt;have L:=m.o.lt;have F:=m.o.c0;have G:=m.o.c1;have H:=m.o.c2;have I:=m.o.c3;have aa:N.cell? ⟨b.s,24,none⟩=some (.func (.func (AR x.k)) #[] #[]):=r.o.aF.cell rfl;obtain⟨af,ad⟩:=Eg r.o.aF 1 20 x.c.cells rfl rfl;have ae:=On x.k o.o.k1 o.o.k5
 go_region_held3 (λc=>c.cell? ⟨b.s,24,none⟩=some (.func (.func (AR x.k)) #[] #[])/\Ao c b.s 1 20=.agg x.c.cells.toArray/\Ay c b.s 1 20=true /\
     c.cell? ⟨u,0,none⟩=some (.int .i64 y.t)/\c.cell? ⟨u,1,none⟩=some (.int .i64 y.k)/\c.cell? ⟨u,2,none⟩=some (.int .i64 y.d)/\c.cell? ⟨u,3,none⟩=some (.int .i64 y.n))
  (first | (simp[*,A5,A6];done) | (go_split_ands;refine⟨h.cell (by assumption) id,(Cb h id (by simpa using j)).1.trans (by assumption),(Cb h id (by simpa using j)).2.trans (by assumption),h.cell (by assumption) id,h.cell (by assumption) id,h.cell (by assumption) id,h.cell (by assumption) id⟩))
  (first | (refine(LU x.c x.k y _ o.o.k1 o.o.k5 o.o.bH ai aj).mono ?_;rintro e c ⟨rfl,h⟩))
 have J:lO N c:=((aA.refl (λ_=>False) N).drew).then h;have l:=Aa (r.o.still J);have s:=Aa (P.o.then J);clear h J r m P F G H I aa af ad ae j L;have j:=l.o.aF.lt;generalize an:AL x.c x.k y=e at *
 by_cases i:e=0
 ·have W:(e !=0)=false:=by simp[i]
  rw[hZ (by simpa using i)]at d;have S:=Aa i;clear i;have ak:c.cell? ⟨b.s,32,none⟩=some (.pointer (some ⟨b.q,0,none⟩)):=l.o.aF.cell rfl;have am:=l.o.aF.c4;have al:c.cell? ⟨b.s,33,none⟩=some (.int .i64 x.acc):=l.o.aF.cell rfl;by_cases B:x.c.cap<=(x.l.length:Int)
  ·rw[h9 B]at d;have X:decide (x.c.cap<=(x.l.length:Int))=true:=by simpa using B
   go_wp2_with fail
   go_quiet (first | (go_at_call 67;refine jv (len_any b.q b.g x.l _ (by exact l.o.dL.keeps (aA.drewN (λ_=>False) _ _) id (λ_ _ a=>a)))))
   go_wp2;go_ret;exact⟨A9 d.o.symm,s.o.then (aA.drewN _ _ _)⟩
  rw[hZ B]at d;have X:decide (x.c.cap<=(x.l.length:Int))=false:=by simpa using B
  by_cases v:4611686018427387904<=x.acc
  ·rw[h9 v]at d;have T:decide (4611686018427387904<=x.acc)=true:=by simpa using v
   go_wp2_with fail
   go_quiet (first | (go_at_call 67;refine jv (len_any b.q b.g x.l _ (by exact l.o.dL.keeps (aA.drewN (λ_=>False) _ _) id (λ_ _ a=>a)))))
   go_wp2;go_ret;exact⟨A9 d.o.symm,s.o.then (aA.drewN _ _ _)⟩
  rw[hZ v]at d;have T:decide (4611686018427387904<=x.acc)=false:=by simpa using v
  go_wp2_with fail
  go_quiet (first | (go_at_call 67;refine jv (len_any b.q b.g x.l _ (by exact l.o.dL.keeps (aA.drewN (λ_=>False) _ _) id (λ_ _ a=>a)))))
  go_wp2;go_ret;exact⟨A9 d.o.symm,s.o.then (aA.drewN _ _ _)⟩
 have W:(e !=0)=true:=by simp[i]
 rw[h9 (by simpa using i)]at d;have S:=Aa i;clear i;go_wp2;go_ret;exact⟨A9 d.o.symm,s.o⟩
def Ah(y:It)(n:Int): It:=⟨y.t,y.k,y.d,n⟩
def cC(x:aI)(y:It): aI:={ x with acc:=x.acc+1,l:=riseL (x.l.length+1) (x.l++[Ah y (x.acc+1)]) x.l.length }
def SB.next(b b':SB)(k size:Nat): Prop:=b'.s=b.s/\∀i,b'.aQ k i->b.aQ k i\/size<=i
theorem Ve(n:Int)(b:SB)(x:aI)(y:It)(w:World)(l:bJ w b x)(hi:aT n x)(ae:n<=4611686018427387904):
  Calls prog 40 #[.pointer (some ⟨b.s,0,none⟩),y.val] w λC h=>C=.returned (.int .i64 (x.acc+1))/\∃B,bJ h B (cC x y)/\b.next B x.k w.heap.size/\aA (b.aQ x.k) w h:=by
 obtain⟨ag,ah,ak,al,ai,aj⟩:=hi.common;have aa:=l.aF.lt;have Z:=hi.cap;have X:=hi.eJ;have Y:=hi.dG;have R:=l.dL.lt;have O:w.cell? ⟨b.s,33,none⟩=some (.int .i64 x.acc):=l.aF.cell rfl;have P:=l.aF.frozen;have d:=Aa l;clear l hi;have af:IntKind.i64.wrap (x.acc+1)=x.acc+1:=GJ (by omega) (by omega);unfold It.val;go_enter func40,ntmps40;go_wp2_with fail
 have r:aA (λc=>c=b.s) w ((w.setCell ⟨b.s,33,none⟩ (.int .i64 (x.acc+1))).alloc (.cells #[.int .i64 y.t,.int .i64 y.k,.int .i64 y.d,.int .i64 (x.acc+1)] 80)) :=
  ((aA.refl (λc=>c=b.s) w).setCell (p:=⟨b.s,33,none⟩) (Or.inl rfl) _).alloc _
 have t:=Aa (show aD ((w.setCell ⟨b.s,33,none⟩ (.int .i64 (x.acc+1))).alloc (.cells #[.int .i64 y.t,.int .i64 y.k,.int .i64 y.d,.int .i64 (x.acc+1)] 80)) b.s (D1 b { x with acc:=x.acc+1 }) 98 from(d.o.aF.setCell 33 (.int .i64 (x.acc+1))).alloc _);have m:=Aa (show aD ((w.setCell ⟨b.s,33,none⟩ (.int .i64 (x.acc+1))).alloc (.cells #[.int .i64 y.t,.int .i64 y.k,.int .i64 y.d,.int .i64 (x.acc+1)] 80)) w.heap.size [.int .i64 y.t,.int .i64 y.k,.int .i64 y.d,.int .i64 (x.acc+1)] 80 from aD.newAt (by simp) [_,_,_,_] 80);have M:=Aa (d.o.dL.keeps r (λa=>d.o.sq a.symm) (λg j a=>d.o.sg g j a.symm));have z:=Aa (show cB _ x.k b.n x.c x.nt from d.o.note.keeps r (λc hi a=>(d.o.sn c hi).1 a));have J:=Aa r;clear r O P;generalize((w.setCell ⟨b.s,33,none⟩ (.int .i64 (x.acc+1))).alloc (.cells #[.int .i64 y.t,.int .i64 y.k,.int .i64 y.d,.int .i64 (x.acc+1)] 80))=s at *
 generalize D:w.heap.size=i at *
 have H:=Aa D;clear D;have ab:=t.o.lt;have ad:=m.o.lt;have N:s.cell? ⟨b.s,32,none⟩=some (.pointer (some ⟨b.q,0,none⟩)):=t.o.cell rfl;have S:=m.o.c0;have T:=m.o.c1;have U:=m.o.c2;have V:=m.o.c3;have A:=Aa (show ¬(b.s=b.q\/b.g=some b.s) from λa=>a.elim d.o.sq (λa=>d.o.sg b.s a rfl));have q:=Aa (show ¬(i=b.q\/b.g=some i) from λa=>a.elim (λa=>by omega) (λa=>by have:=(R.2 i a).1;omega));have Q:x.l.length<=900:=by omega
 go_region_held3 (λh=>h.cell? ⟨b.s,32,none⟩=some (.pointer (some ⟨b.q,0,none⟩))/\h.cell? ⟨i,0,none⟩=some (.int .i64 y.t)/\h.cell? ⟨i,1,none⟩=some (.int .i64 y.k)/\h.cell? ⟨i,2,none⟩=some (.int .i64 y.d)/\h.cell? ⟨i,3,none⟩=some (.int .i64 (x.acc+1)))
  (first | (simp[*];done) | (go_split_ands;exact⟨k.cell (by assumption) A.o,k.cell (by assumption) q.o,k.cell (by assumption) q.o,k.cell (by assumption) q.o,k.cell (by assumption) q.o⟩))
  (first | (go_at_call 68;refine(put_any b.q b.g x.l (Ah y (x.acc+1)) _ (by exact M.o.keeps ((aA.refl (λ_=>False) s).drew) id (λ_ _ a=>a)) Q).mono ?_;rintro C h ⟨rfl,W,G,k,F⟩))
 have I:=Aa k;have L:=Aa G;have u:=Aa F;clear k G F S T U V N;go_wp2;go_ret;have v:aA (λe=>e=b.q\/b.g=some e) s h:=((aA.refl (λe=>e=b.q\/b.g=some e) s).drew).then I.o;refine⟨rfl,⟨b.s,b.q,W,b.n⟩,⟨t.o.keeps v A.o,L.o,z.o.keeps v (λc hi a=>?_),d.o.sq,?_,λc hi=>⟨(d.o.sn c hi).1,(d.o.sn c hi).2.1,?_⟩⟩,⟨rfl,?_⟩,?_⟩
 ·rcases a with a | a
  ·exact(d.o.sn c hi).2.1 a
  exact(d.o.sn c hi).2.2 a
 ·intro g j;rcases u.o with a | ⟨e,a,o⟩
  ·exact d.o.sg g (a.symm.trans j)
  have E:g=e:=by have:=a.symm.trans j;simpa using this.symm
  show b.s≠g;rw[kP]at o;omega
 ·intro j;rcases u.o with a | ⟨e,a,o⟩
  ·exact(d.o.sn c hi).2.2 (a.symm.trans j)
  have E:c=e:=by have:=a.symm.trans j;simpa using this.symm
  have:=z.o.lt c hi;rw[kP]at o;omega
 ·intro c hi;rcases hi with hi | hi | hi | hi
  ·exact .inl (.inl hi)
  ·exact .inl (.inr (.inl hi))
  ·rcases u.o with a | ⟨e,a,o⟩
   ·exact .inl (.inr (.inr (.inl (a.symm.trans hi))))
   have E:c=e:=by have:=a.symm.trans hi;simpa using this.symm
   rw[kP]at o;exact .inr (by have:=H.o;omega)
  exact .inl (.inr (.inr (.inr hi)))
 refine(J.o.mono (M':=b.aQ x.k) (λc _ a=>.inl a)).trans v (λc hi _=>?_);rcases hi with hi | hi
 ·exact .inr (.inl hi)
 exact .inr (.inr (.inl hi))
end
section
theorem cM{P:It->Prop}(e:P ⟨0,0,0,0⟩){l:List It}(c:∀y,y∈l->P y)(i j:Nat): ∀y,y∈swapL l i j->P y:=by
 have d:∀i,P (itAt l i):=by
  intro i;unfold itAt;rw[List.getD_eq_getElem?_getD];cases hi:l[i]? with
  | none=>exact e
  | some h=>exact c h (iu hi)
 intro y a;unfold swapL at a;rcases js a with a | a
 ·rcases js a with a | a
  ·exact c y a
  subst a;exact d j
 subst a;exact d i
theorem eG{P:It->Prop}(c:P ⟨0,0,0,0⟩)(f:Nat)(l:List It)(i:Nat)(a:∀y,y∈l->P y): ∀y,y∈riseL f l i->P y:=by
 induction f generalizing l i with
 | zero=>exact a
 | succ f d =>
  unfold riseL;split
  ·exact a
  split
  ·exact d _ _ (cM c a _ _)
  exact a
theorem dT{P:It->Prop}(c:P ⟨0,0,0,0⟩)(f:Nat)(l:List It)(i:Nat)(a:∀y,y∈l->P y): ∀y,y∈sinkL f l i->P y:=by
 induction f generalizing l i with
 | zero=>exact a
 | succ f d =>
  unfold sinkL;split
  ·exact a
  split
  ·exact d _ _ (cM c a _ _)
  exact a
theorem cK{P:It->Prop}(c:P ⟨0,0,0,0⟩){l:List It}(a:∀y,y∈l->P y)(i:Nat): P (itAt l i):=by
 unfold itAt;rw[List.getD_eq_getElem?_getD];cases hi:l[i]? with
 | none=>exact c
 | some d=>exact a d (iu hi)
theorem dE{P:It->Prop}(d:P ⟨0,0,0,0⟩)(l:List It)(c:∀y,y∈l->P y): ∀y,y∈takeL l->P y:=by
 unfold takeL;refine dT d _ _ _ (λy a=>?_);have a:=jn a;rcases js a with a | a
 ·exact c y a
 subst a;exact cK d c _
theorem takeL_length(l:List It): (takeL l).length=l.length-1:=by
 unfold takeL;rw[G5];simp
def BP(x:aI)(m:Int): aI:={ x with l:=takeL x.l,rel:=x.rel+1,nt:=B9 x.k x.c x.nt (itAt x.l 0) m,last:=(itAt x.l 0).t }
def relS: Nat->aI->Int->aI
 | 0,x,_=>x
 | f+1,x,m=>if x.l.isEmpty then x else if m<(itAt x.l 0).t then x else relS f (BP x m) m
theorem Gi{l:List It}(a:l≠[]): itAt l 0∈l:=by
 cases l with
 | nil=>exact absurd rfl a
 | cons c l=>exact List.mem_cons_self ..
theorem Kg{l:List It}(a:bE l)(c:l≠[]){y:It}(d:y∈takeL l): y∈l:=(take_heap l a c).2.subset (j2 _ d)
theorem Hz{n:Int}{x:aI}(a:aT n x)(c:x.l≠[])(m:Int)(j:¬m<(itAt x.l 0).t): aT n (BP x m):=by
 have hlen:0<x.l.length:=jG.2 c;have k:=a.dD;have i:=a.cap;have hrel:=a.dI;have l:(takeL x.l).length=x.l.length-1:=takeL_length _;have e:=Gi c;have h:=a.times _ e;refine⟨a.valid,a.kind,a.k1,a.k5,a.eJ,a.dG,?_,?_,a.bS,a.cL,?_,λy d=>a.times y (Kg a.heap c d),?_,(take_heap _ a.heap c).1,h.1,h.2,λy d=>a.heap.cD (Kg a.heap c d),λy d=>a.fits y (Kg a.heap c d)⟩
 ·show 0<=x.rel+1;omega
 ·show x.rel+1+((takeL x.l).length:Int)=x.acc;omega
 ·show((takeL x.l).length:Int)<=x.c.cap;omega
 exact ZR a.note a.valid a.kind _ _ (a.dV _ e) (by omega)
theorem Ml{c:Cfg}{k:Nat}{y:It}(e:AL c k y=0)(a:k=2\/k=3): 0<=y.k/\y.k<=2147483648:=by
 have d:Dp y=0:=by
  rcases a with a | a <;> subst a <;> exact e
 unfold Dp at d;split at d
 ·rename_i h;exact Bp h
 omega
theorem RA(c:Cfg)(k:Nat)(y:It)(n:Int): AL c k (Ah y n)=AL c k y:=by
 unfold AL Ah;split <;> rfl
theorem ZF{n:Int}{x:aI}(a:aT n x)(y:It)(q:0<=y.t)(r:y.t<=4611686018427387904)(u:(x.l.length:Int)<x.c.cap)(t:x.acc<n)(m:x.last<=y.t)(l:AL x.c x.k y=0): aT n (cC x y):=by
 have s:=a.eJ;have v:=a.dD
 have hlen:(riseL (x.l.length+1) (x.l++[Ah y (x.acc+1)]) x.l.length).length=x.l.length+1:=by rw[riseL_length];simp
 have i:=put_heap x.l (Ah y (x.acc+1)) a.heap;have h:∀ {d:It->Prop},(∀c,c∈x.l->d c)->d (Ah y (x.acc+1))->∀c,c∈(cC x y).l->d c:=λj k c o=>by
  rcases iw.1 (i.2.subset o) with e | e
  ·rw[e];exact k
  exact j c e
 refine⟨a.valid,a.kind,a.k1,a.k5,?_,?_,a.dI,?_,a.bS,a.cL,?_,h a.times ⟨q,r⟩,a.note,i.1,a.dZ,a.dP,h a.dV m,h a.fits ((RA _ _ _ _).trans l)⟩
 ·show 0<=x.acc+1;omega
 ·show x.acc+1<=n;omega
 ·show x.rel+((riseL (x.l.length+1) (x.l++[Ah y (x.acc+1)]) x.l.length).length:Int)=x.acc+1;omega
 show((riseL (x.l.length+1) (x.l++[Ah y (x.acc+1)]) x.l.length).length:Int)<=x.c.cap;omega
