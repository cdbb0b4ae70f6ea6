import Derived.Test.YtnokbhcennjanaaGreatDoorXBD
open Go.RowKit Go.Proofs.Tryz
set_option maxRecDepth 100000
set_option maxHeartbeats 16000000
namespace Go.Proofs.YtnokbhcennjanaaGreatDoor
section
attribute [local go_sem ↓] AN B2
attribute [local go_sem] AO B4 A5 A6 AI AJ BC BD Bf B3
theorem UT(c:Cfg)(l:List bA)(k:Nat)(hi lo:Int)(a:k<l.length): CU c (l.drop k) hi lo=(if 0<(Aj l k).tick then CU c (l.drop (k+1)) (hi+Ar (Am c (Aj l k).t)/2305843009213693952+(lo+Ar (Am c (Aj l k).t)%2305843009213693952)/2305843009213693952) ((lo+Ar (Am c (Aj l k).t)%2305843009213693952)%2305843009213693952) else CU c (l.drop (k+1)) hi lo):=by
 rw[List.drop_eq_getElem_cons a,CU,Cq _ _ a]
theorem SH(b:RB)(y:aG)(mark:Int)(w:World)(c:bN w b y)(L:y.c.bH)(an:y.items.length<=1099511627776)(P:∀j,j∈y.items->0<=j.t/\j.t<=4611686018427387904)(af:-100<=mark)(ag:mark<=4611686018427387904):
  Calls prog 57 #[.pointer (some ⟨b.s,0,none⟩),.int .i64 mark] w λD l=>∃g,D=.returned (.slice (some ⟨g,0,none⟩) 3 3)/\w.heap.size<=g/\aD l g [.int .i64 (CU y.c y.items 0 0).1,.int .i64 (CU y.c y.items 0 0).2,.int .i64 (Ar (Am y.c mark))] 3/\lO w l:=by
 obtain⟨aa,I,R,-,J,M⟩:=DU c.bC;have X:=Aa c;have F:=Aa M;have V:=Aa J;have Y:=Aa P;have G:=Aa L;have Z:=Aa R;clear c M J P L R;generalize O:y.items.length=k at *
 have H:=Aa O;clear O;go_enter func57,ntmps57;go_wp2_with fail
 go_loopw [5,6,7] (λc ae t wr=>∃(a:Nat) (e d:Int),a<=k/\c=.int .i64 e/\ae=.int .i64 d/\t=.int .i64 a/\0<=e/\e<=2*a/\0<=d/\d<2305843009213693952/\Hid (lO w wr)/\Hid (CU y.c y.items 0 0=CU y.c (y.items.drop a) e d)) (λ_ _ t _=>k-(intOf t).toNat)
 case atStart=>exact⟨0,0,0,by omega,rfl,rfl,rfl,by omega,by omega,by omega,by omega,aA.refl _ _,rfl⟩
 case round =>
  obtain⟨a,e,d,al,rfl,rfl,rfl,aj,ak,au,av,m,n⟩:=hrel;have s:=Aa (X.o.still m.o);have T:wr.cell? ⟨b.s,21,none⟩=some (.slice aa k I):=by
   have:=s.o.aF.cell (i:=21) (v:=b.iv) rfl;rw[Z.o]at this;exact this
  by_cases ab:a<k
  ·have o:a<y.items.length:=by rw[H.o];exact ab
   obtain⟨g,C⟩:=V.o (by omega);have U:=m.o.cell ((F.o g C).1 (a*5+0) _ (by rw[C2 _ _ _ o (by omega)];rfl)) id;have ai:=m.o.cell ((F.o g C).1 (a*5+4) _ (by rw[C2 _ _ _ o (by omega)];rfl)) id;rw[kg]at U;subst C;have ad:=Y.o (Aj y.items a) (by rw[Cq _ _ o];exact jc _);obtain⟨aw,ah⟩:=ad;have q:=Aa (UT y.c y.items a e d o);have S:=Gf y.c (Aj y.items a).t;generalize Aj y.items a=j at *
   have am:(0:Int)<=(a:Int):=by omega
   have N:(a:Int)<(k:Int):=by omega
   clear o;by_cases Q:0<j.tick
   ·have x:=Aa (by have:=q.o;rw[h9 Q]at this;exact n.o.trans this);obtain⟨z,A⟩:=Hw s.o.aF;have B:b.s<wr.heap.size:=s.o.aF.lt;clear q n;go_wp2_with fail
    go_region_held3 (λl=>Ao l b.s 1 20=.agg y.c.cells.toArray/\Ay l b.s 1 20=true/\l.cell? ⟨b.s,21,none⟩=some (.slice (some ⟨g,0,none⟩) k I)/\l.cell? ⟨g,a*5,none⟩=some (.int .i64 j.t))
     (first | (simp[*,A5,A6];done) | (go_split_ands;exact⟨(Cb h id (by exact B)).1.trans (by assumption),(Cb h id (by exact B)).2.trans (by assumption),h.cell (by assumption) id,h.cell (by assumption) id⟩))
     (first | (go_at_call 85;refine(Ht y.c j.t _ G.o (by omega) ah).mono ?_;rintro D E ⟨rfl,h⟩))
    have r:=Aa (m.o.then (((aA.refl (λ_=>False) wr).drew).then h));clear h z A T U ai B;obtain⟨ax,ay⟩:=S;generalize Ar (Am y.c j.t)=u at *
    have ao:0<=u/2305843009213693952:=by omega
    have ap:u/2305843009213693952<=1:=by omega
    have aq:0<=(d+u%2305843009213693952)/2305843009213693952:=by omega
    have ar:(d+u%2305843009213693952)/2305843009213693952<=1:=by omega
    go_wp2;go_roundw;case rel=>exact⟨a+1,_,_,by omega,rfl,rfl,by go_num,by omega,by omega,by omega,by omega,r,x.o⟩
    case measure=>simp[intOf];omega
   have x:=Aa (by have:=q.o;rw[hZ Q]at this;exact n.o.trans this);clear q n S;go_wp2;go_roundw;case rel=>exact⟨a+1,e,d,by omega,rfl,rfl,by go_num,by omega,by omega,by omega,by omega,m,x.o⟩
   case measure=>simp[intOf];omega
  have N:a=k:=by omega
  subst N;have W:=Aa (show CU y.c y.items 0 0=(e,d) by rw[n.o,iU (by rw[H.o];exact il _)];rfl);obtain⟨z,A⟩:=Hw s.o.aF;go_wp2_with fail
  refine(Ht y.c mark wr G.o af ag).mono ?_;rintro D E ⟨rfl,h⟩;have r:=Aa (m.o.then h);clear h z A T;go_wp2;go_ret;rw[W.o];exact⟨E.heap.size,rfl,r.o.size,aD.new E [.int .i64 e,.int .i64 d,.int .i64 (Ar (Am y.c mark))] 3,r.o.alloc _⟩
end
section
structure PB (q:List Bk):Prop where
 sorted:∀i j,i<=j->j<q.length->(Ad q j).sz<=(Ad q i).sz
 pow:∀i,i<q.length->∃k:Nat,(Ad q i).sz=(2:Int) ^ k
structure PI (q:List Bk) (sz:Int) (e:Nat):Prop where
 pb:PB q
 he:e<=q.length
 hi:∀i,i<e->sz<=(Ad q i).sz
 lo:∀i,e<=i->i<q.length->(Ad q i).sz<sz
 hW:∃k:Nat,sz=(2:Int) ^ k
theorem Gk(k:Nat): (1:Int)<=2 ^ k:=by
 induction k with
 | zero=>decide
 | succ k a=>rw[Int.pow_succ];omega
theorem zMj{a b:Nat}(l:(2:Int) ^ a<2 ^ b): 2*(2:Int) ^ a<=2 ^ b:=by
 have k:a<b:=by
  rcases ku a b with d | d
  ·exact d
  exfalso;obtain⟨c,rfl⟩:=Nat.exists_eq_add_of_le d;have h:(2:Int) ^ (b+c)=2 ^ b*2 ^ c:=Int.pow_add 2 b c;have e:=Gk c;have i:=Gk b;have j:(2:Int) ^ b*1<=2 ^ b*2 ^ c:=jo e (by omega);omega
 obtain⟨c,rfl⟩:=Nat.exists_eq_add_of_le k;have h:(2:Int) ^ (a+1+c)=2 ^ a*2*2 ^ c:=by rw[Int.pow_add,Int.pow_succ]
 have e:=Gk c;have i:=Gk a;have j:(2:Int) ^ a*2*1<=2 ^ a*2*2 ^ c:=jo e (by omega);rw[h];omega
theorem G3(a b:List Bk)(i:Nat)(c:i<a.length): Ad (a++b) i=Ad a i:=by
 unfold Ad;rw[List.getD_eq_getElem?_getD,List.getD_eq_getElem?_getD,iO c]
theorem Hl(a b:List Bk)(i:Nat)(c:a.length<=i): Ad (a++b) i=Ad b (i-a.length):=by
 unfold Ad;rw[List.getD_eq_getElem?_getD,List.getD_eq_getElem?_getD,iS c]
theorem WO(l:List Bk)(n i:Nat)(a:i<n): Ad (l.take n) i=Ad l i:=by
 unfold Ad;rw[List.getD_eq_getElem?_getD,List.getD_eq_getElem?_getD,iV,h9 a]
theorem Hy(l:List Bk)(n i:Nat): Ad (l.drop n) i=Ad l (n+i):=by
 unfold Ad;rw[List.getD_eq_getElem?_getD,List.getD_eq_getElem?_getD,j0]
theorem OE(l:List Bk)(s:Nat)(x:Bk)(e:s+2<=l.length)(i:Nat): Ad (BG l s x) i=if i<s then Ad l i else if i=s then x else Ad l (i+1):=by
 have d:(l.take s).length=s:=by simp;omega
 unfold BG;by_cases a:i<s
 ·rw[h9 a,List.append_assoc,G3 _ _ _ (by omega),WO _ _ _ a]
 rw[hZ a];by_cases c:i=s
 ·rw[h9 c,List.append_assoc,Hl _ _ _ (by omega),d,c,kf];rfl
 rw[hZ c,Hl _ _ _ (by simp;omega),Hy];congr 1;simp;omega
theorem PB.drop{c:List Bk}(a:PB c)(n:Nat): PB (c.drop n):=by
 refine⟨λh j i e=>?_,λh d=>?_⟩
 ·rw[Hy,Hy];exact a.sorted _ _ (by omega) (by rw[iQ]at e;omega)
 rw[Hy];exact a.pow _ (by rw[iQ]at d;omega)
theorem PI.start{c:List Bk}(l:PB c)(t:Int): PI (c++[⟨1,t⟩]) 1 (c++[(⟨1,t⟩:Bk)]).length:=by
 have k:∀a,a<(c++[(⟨1,t⟩:Bk)]).length->∃e:Nat,(Ad (c++[⟨1,t⟩]) a).sz=(2:Int) ^ e:=by
  intro a i;by_cases d:a<c.length
  ·rw[G3 _ _ _ d];exact l.pow a d
  rw[Hl _ _ _ (by omega)];have:a-c.length=0:=by simp at i;omega
  rw[this];exact⟨0,rfl⟩
 refine⟨⟨λa h m n=>?_,k⟩,il _,λa i=>?_,λa d o=>by omega,0,rfl⟩
 ·by_cases d:h<c.length
  ·rw[G3 _ _ _ d,G3 _ _ _ (by omega)];exact l.sorted a h m d
  have:h-c.length=0:=by simp at n;omega
  rw[Hl _ _ h (by omega),this];show(1:Int)<=_;obtain⟨e,j⟩:=k a (by omega);rw[j];exact Gk e
 obtain⟨e,j⟩:=k a i;rw[j];exact Gk e
theorem N4{a:List Bk}{c:Int}{e:Nat}(d:PI a c e)(i:Nat)(hi:i<AC a c e): c<(Ad a i).sz:=by
 have o:=Jm a c e;have j:=d.hi i (by omega);have q:(Ad a (AC a c e-1)).sz≠c:=by
  generalize h:AC a c e=r at *
  clear j d;induction e with
  | zero=>simp[AC]at h;omega
  | succ e l =>
   unfold AC at h;split at h
   ·exact l h (by have:=Jm a c e;omega)
   rename_i k;rw[<-h];exact k
 have m:=d.hi (AC a c e-1) (by omega);have n:=d.pb.sorted i (AC a c e-1) (by omega) (by have:=d.he;omega);omega
theorem PI.step{j:List Bk}{h:Int}{e:Nat}(k:PI j h e)(F:AC j h e+2<=e)(t:Int): PI (BG j (AC j h e) ⟨2*h,t⟩) (2*h) (AC j h e+1):=by
 have B:=N4 k;have D:=H6 j h e;obtain⟨u,s⟩:=k.hW;have J:=Gk u;generalize AC j h e=d at *
 have hlen:=Ff (⟨2*h,t⟩:Bk) (l:=j) (i:=d) (by have:=k.he;omega);have G:=k.he;have m:=OE j d ⟨2*h,t⟩ (by omega);have q:∀a,a<d->2*h<=(Ad j a).sz:=by
  intro a r;obtain⟨L,E⟩:=k.pb.pow a (by omega);have:=B a r;rw[E,s]at this ⊢;exact zMj this
 have x:∀a,d<=a->a<j.length->(Ad j a).sz<=h:=by
  intro a v w;have:=k.pb.sorted d a v w;rw[D d (il _) (by omega)]at this;exact this
 refine⟨⟨λa o C H=>?_,λa r=>?_⟩,by omega,λa r=>?_,λa v w=>?_,u+1,by rw[Int.pow_succ,<-s];omega⟩
 ·rw[m,m];by_cases z:o<d
  ·rw[h9 z,h9 (by omega)];exact k.pb.sorted a o C (by omega)
  rw[hZ z];by_cases A:o=d
  ·rw[h9 A];by_cases c:a<d
   ·rw[h9 c];exact q a c
   rw[hZ c,h9 (by omega)];exact iG _
  rw[hZ A];have I:=x (o+1) (by omega) (by omega);by_cases c:a<d
  ·rw[h9 c];have:=q a c;omega
  rw[hZ c];by_cases n:a=d
  ·rw[h9 n];show _<=2*h;omega
  rw[hZ n];exact k.pb.sorted (a+1) (o+1) (by omega) (by omega)
 ·rw[m];by_cases c:a<d
  ·rw[h9 c];exact k.pb.pow a (by omega)
  rw[hZ c];by_cases n:a=d
  ·rw[h9 n];exact⟨u+1,by show 2*h=_;rw[Int.pow_succ,<-s];omega⟩
  rw[hZ n];exact k.pb.pow (a+1) (by omega)
 ·rw[m];by_cases c:a<d
  ·rw[h9 c];exact q a c
  rw[hZ c,h9 (by omega)];exact iG _
 rw[m,hZ (by omega),hZ (by omega)];have:=x (a+1) (by omega) (by omega);omega
theorem Yo{K:Int}(i:0<=K)(f:Nat)(c:List Bk)(d:Int)(e:Nat)(a:PI c d e): PB (joinL K f c d e):=by
 induction f generalizing c d e with
 | zero=>exact a.pb
 | succ f h =>
  unfold joinL;split
  ·exact a.pb
  exact h _ _ _ (a.step (by omega) _)
theorem zLz{c:Cfg}(e:0<=c.k){a:List Bk}(d:PB a)(t m:Int): PB (C1 c a t m):=by
 unfold C1 Cz EE;exact Yo e _ _ _ _ (PI.start (d.drop _) t)
def F9(l:List Bk)(sz:Int): Nat->Nat
 | 0=>0
 | i+1=>F9 l sz i+(if (Ad l i).sz=sz then 1 else 0)
def FA(l:List Bk)(sz:Int): Nat->Nat
 | 0=>0
 | i+1=>if (Ad l i).sz=sz then i+1 else FA l sz i
theorem G7(a:List Bk)(i:Nat)(c:i<a.length): Ad a.reverse i=Ad a (a.length-1-i):=by
 unfold Ad;rw[List.getD_eq_getElem?_getD,List.getD_eq_getElem?_getD,List.getElem?_reverse c]
theorem zNl{a:List Bk}{d:Int}{e:Nat}(j:PI a d e): ∀c,c<=a.length ->
  F9 a.reverse d c=min c (a.length-AC a d e)-min c (a.length-e)/\FA a.reverse d c=(if a.length-e<c/\AC a d e<e then min c (a.length-AC a d e) else 0):=by
 have n:=N4 j;have q:=H6 a d e;have z:=Jm a d e;have w:=j.he;have r:=j.lo;generalize AC a d e=k at *
 intro c;induction c with
 | zero=>intro _;simp[F9,FA]
 | succ c u =>
  intro x;obtain⟨s,t⟩:=u (by omega);have m:=G7 a c (by omega);have l:((Ad a.reverse c).sz=d)↔(a.length-e<=c/\c<a.length-k):=by
   rw[m];constructor
   ·intro A;constructor
    ·rcases ku c (a.length-e) with h | h
     ·have:=r (a.length-1-c) (by omega) (by omega);omega
     exact h
    rcases ku c (a.length-k) with h | h
    ·exact h
    have:=n (a.length-1-c) (by omega);omega
   rintro ⟨h,v⟩;exact q _ (by omega) (by omega)
  unfold F9 FA;rw[s,t];by_cases i:(Ad a.reverse c).sz=d
  ·have o:=l.1 i;rw[h9 i,h9 i,h9 (by omega)];omega
  have o:¬(a.length-e<=c/\c<a.length-k):=λj=>i (l.2 j);rw[hZ i,hZ i];refine⟨by omega,?_⟩;by_cases h:a.length-e<c/\k<e
  ·rw[h9 h,h9 (by omega)];omega
  rw[hZ h,hZ (by omega)]
theorem SI(a:List Bk)(s:Nat)(x:Bk)(c:s+2<=a.length): a.reverse.take (a.length-s-2)++[x]++a.reverse.drop (a.length-s)=(BG a s x).reverse:=by
 unfold BG;rw[List.reverse_append,List.reverse_append,List.take_reverse,List.drop_reverse];rw[show a.length-(a.length-s-2)=s+2 by omega,show a.length-(a.length-s)=s by omega];simp
theorem SR(a:List Bk)(n:Nat)(c:n<a.length): Ad a.reverse (a.length-1-n)=Ad a n:=by
 rw[G7 _ _ (by omega)];congr 1;omega
theorem UL(a:List Bk)(t:Int)(n:Nat)(c:pastN a t=n+pastN (a.drop n) t)(e:n<a.length): (if (Ad a n).t<=t then pastN a t=(n+1)+pastN (a.drop (n+1)) t else pastN a t=n):=by
 rw[Gb a n e]at c;unfold pastN at c ⊢;rw[jB]at c;split
 ·rename_i d;rw[h9 (by simpa using d)]at c;simp only[iA]at c;omega
 rename_i d;rw[hZ (by simpa using d)]at c;simpa using c
abbrev OB(w:World)(base:Nat)(v:Value)(l:List Bk): Prop:=w.ownsRow base 146 2 v l.length (Az l)
def BW(w:World)(v:Value)(l:List Bk): Prop:=((∃a c,v=.slice a 0 c)/\l=[])\/∃g off cap,v=.slice (some ⟨g,off,none⟩) l.length cap/\l.length<=cap/\cap<=maxLen/\(∀j u,(Az l)[j]?=some u->w.cell? ⟨g,off+j,none⟩=some u)/\g<w.heap.size
theorem BW.keeps{w w':World}{v:Value}{l:List Bk}(a:BW w v l)(c:lO w w'): BW w' v l:=by
 rcases a with a | ⟨g,n,d,e,h,j,i,q⟩
 ·exact .inl a
 exact .inr ⟨g,n,d,e,h,j,λm o k=>c.cell (i m o k) id,by have:=c.size;omega⟩
theorem OB.bw{w:World}{base:Nat}{v:Value}{l:List Bk}(k:OB w base v l): BW w v l:=by
 rcases k.2 with ⟨a,d⟩ | ⟨g,i,j,a,d,e,m,n,s,o⟩
 ·exact .inl ⟨⟨_,_,a⟩,iL.1 d⟩
 refine .inr ⟨g,0,i,a,m,n,λh r c=>?_,(jr.1 e).1⟩;have q:h<l.length*2:=by have:=(ik.1 c).1;rwa [Fv]at this
 have:j[h]?=some r:=by
  rw[<-o,iV,h9 q]at c;simpa using c
 rw[ja];simp[World.cell?,e,this]
theorem Km{w:World}{g off n j:Nat}{l:List Bk}(h:l.length=n)(k:BW w (.slice (some ⟨g,off,none⟩) n j) l)(i:Nat)(hi:i<n):
  w.cell? ⟨g,off+i*2,none⟩=some (.int .i64 (Ad l i).sz)/\w.cell? ⟨g,off+i*2+1,none⟩=some (.int .i64 (Ad l i).t):=by
 rcases k with ⟨⟨c,o,a⟩,d⟩ | ⟨r,t,q,a,d,_,e,s⟩
 ·rw[d]at h;simp at h;omega
 injection a with a _ _;injection a with a;injection a with a m;subst a m;obtain⟨c,b⟩:=Mi l i (by omega);exact⟨e _ _ c,by have:=e _ _ b;rwa [<-Nat.add_assoc]at this⟩
theorem QD{w:World}{v:Value}{l:List Bk}(e:BW w v l): ∃a c,v=.slice a l.length c:=by
 rcases e with ⟨⟨a,d,rfl⟩,rfl⟩ | ⟨g,h,c,rfl,_⟩
 ·exact⟨a,d,rfl⟩
 exact⟨_,_,rfl⟩
theorem Jz{w:World}{a:Option Addr}{n c:Nat}{l:List Bk}(h:BW w (.slice a n c) l)(v:0<n): ∃g e,a=some ⟨g,e,none⟩/\l.length=n/\n<=c/\c<=maxLen/\g<w.heap.size:=by
 rcases h with ⟨⟨o,q,d⟩,i⟩ | ⟨g,e,r,d,i,u,_,j⟩
 ·injection d with _ s _;omega
 injection d with k m t;exact⟨g,e,k,m.symm,by omega,by omega,j⟩
theorem zOb: (prog.info? 146).map (λa=>(a.zero,a.size,a.bytes))=some (some (.agg #[.int .i64 0,.int .i64 0]),2,16):=by kernel_rfl
theorem Ru{w:World}{I:Array Oper}{rest:List Oper}{o:Oper}{a:Act}{v:Exit->Act->World->Prop}(C:o.guard=none)(s x:Operand)(E:o.op=.call { callee:=.builtin .append,args:=#[s,x],argTypes:=#[143,143] })(base:Nat)(k:Value)(d:List Bk)(F:a.eval s=k)(n:OB w base k d)(u:Value)(c:List Bk)(G:a.eval x=u)(B:BW w u c)(hlen:d.length+c.length<=8796093022208)(Q:base<=w.heap.size)(h:∀j e l,OB l base (.slice j (d.length+c.length) e) (d++c)->aA (λi=>k.ownBlock=some i) w l->(∀i,(Value.slice j (d.length+c.length) e).ownBlock=some i->k.ownBlock=some i\/w.heap.size<=i)->wpList prog I v rest (a.put o.dst (.slice j (d.length+c.length) e)) l): wpList prog I v (o::rest) a w:=by
 obtain⟨H,D,Y,Z,aa⟩:=jh zOb;by_cases q:c=[]
 ·subst q;have W:∃j e,u=.slice j 0 e:=by
   rcases B with ⟨h,_⟩ | ⟨J,L,z,h,_⟩
   ·exact h
   exact⟨_,_,h⟩
  obtain⟨j,e,rfl⟩:=W;obtain⟨N,M,t⟩:=DC n;refine JB C s x 143 E base 146 H 2 underlying143 D k d.length (Az d) F n j e G ?_;have:=h N M w (by rw[iz];rw[t]at n;exact n) (aA.refl _ _) (by rw[t];exact λi r=>.inl r);rw[t];exact this
 rcases B with ⟨_,O⟩ | ⟨J,L,z,rfl,af,ai,V,ag⟩
 ·exact absurd O q
 have U:0<c.length:=jG.2 q;refine jf w C s x 143 E base 146 H (.agg #[.int .i64 0,.int .i64 0]) 2 16 underlying143 D Y Z aa (by rfl) (by omega) k d.length (Az d) F n ⟨J,L,none⟩ c.length z (Az c) G (Fv c) ?_ (Kk c) U (by unfold maxLen;omega) (by omega) Q w.heap.size rfl ?_
 ·intro ab ae X;rw[kv];exact V ab ae X
 intro g e l T m P ah;refine h (some ⟨g,0,none⟩) e l ?_ ?_ ?_
 ·show l.ownsRow base 146 2 _ (d++c).length (Az (d++c));rw[Ho,hY];exact T
 ·exact⟨m.os,m.tape,m.output,m.size,λad R S=>m.block ad R (λh=>S h.symm)⟩
 intro i r;have:g=i:=by simpa[Value.ownBlock] using r
 subst this;rcases P with A | A
 ·exact .inl A
 exact .inr (by omega)
theorem PF(v:Value)(d:List Bk)(t:Int)(w:World)(l:BW w v d.reverse)(O:d.length<=4398046511104):
  Calls prog 90 #[v,.int .i64 t] w λB F=>B=.returned (.int .i64 (pastN d t))/\F=w:=by
 obtain⟨G,H,z⟩:=QD l;rw[jF]at z;subst z;have o:=Aa l;clear l;generalize u:d.length=c at *
 have e:=Aa u;clear u;go_enter func90,ntmps90;go_wp2;go_loop [5] (λn=>∃a:Nat,n=.int .i64 a/\a<=c/\Hid (pastN d t=a+pastN (d.drop a) t)) (λn=>c-(intOf n).toNat)
 case atStart=>exact⟨0,rfl,iM _,by show _=_;simp⟩
 case round =>
  obtain⟨a,rfl,M,q⟩:=hrel;by_cases s:a<c
  ·obtain⟨g,P,rfl,_,C,E,_⟩:=Jz o.o (by omega);have i:=Km (by rw[jF];exact e.o) o.o (c-1-a) (by omega);have m:=SR d a (by rw[e.o];exact s);rw[e.o]at m;rw[m]at i;have x:=Aa (UL d t a q.o (by rw[e.o];exact s));obtain⟨h,r⟩:∃h,h=c-1-a:=⟨_,rfl⟩;rw[<-r]at i;have Q:=i.2;have I:(c:Int)-1-(a:Int)=(h:Int):=by omega
   have J:(0:Int)<=(h:Int):=by omega
   have L:(h:Int)<(c:Int):=by omega
   have N:(a:Int)<(c:Int):=by omega
   clear i m r C E;generalize Ad d a=A at *
   by_cases j:A.t<=t
   ·have k:=Aa j;go_wp2;go_round;case rel=>exact⟨a+1,by go_num,by omega,by have:=x.o;rw[h9 k.o]at this;exact this⟩
    case measure=>simp[intOf];omega
   have k:=Aa j;have D:decide (A.t<=t)=false:=by simpa using j
   clear j;go_wp2;go_ret;have:=x.o;rw[hZ (by have:=k.o;omega)]at this;exact⟨by rw[this];rfl,rfl⟩
  have D:decide ((a:Int)<(c:Int))=false:=by simp;omega
  go_wp2;go_ret;refine⟨?_,rfl⟩;rw[q.o,iU (by rw[e.o];omega)];simp[pastN]
theorem Qw{w:World}{g off n d k:Nat}{l:List Bk}(h:l.length=n)(i:BW w (.slice (some ⟨g,off,none⟩) n d) l)(A:k<=n): BW w (.slice (some ⟨g,off,none⟩) k d) (l.take k):=by
 rcases i with ⟨⟨u,v,a⟩,e⟩ | ⟨z,B,x,a,e,r,j,m⟩
 ·subst e;have:k=0:=by simp at h;omega
  subst this;exact .inl ⟨⟨_,_,rfl⟩,by simp⟩
 injection a with a _ q;injection a with a;injection a with a o;subst a o q;refine .inr ⟨g,off,d,by simp[h];omega,by simp;omega,r,λs t c=>?_,m⟩;rw[JQ,iV]at c;split at c
 ·exact j s t c
 cases c
theorem zL6{w:World}{g n c k:Nat}{l:List Bk}(h:l.length=n)(j:BW w (.slice (some ⟨g,0,none⟩) n c) l)(x:k<=n)(A:0<n): BW w (.slice (if c=k then some ⟨g,0,none⟩ else some ⟨g,k*2,none⟩) (n-k) (c-k)) (l.drop k):=by
 rcases j with ⟨⟨s,t,a⟩,d⟩ | ⟨v,C,u,a,d,z,m,o⟩
 ·subst d;simp at h;omega
 injection a with a _ r;injection a with a;injection a with a q;subst a q r;by_cases e:c=k
 ·rw[h9 e];have:n-k=0:=by omega
  rw[this];exact .inl ⟨⟨_,_,rfl⟩,iU (by omega)⟩
 rw[hZ e];refine .inr ⟨g,k*2,c-k,by simp[h],by simp;omega,by omega,λB D i=>?_,o⟩;rw[Kd,j0]at i;have:=m _ _ i;rwa [ja]at this
theorem Px{w w':World}{g off n c:Nat}{l:List Bk}{M:Nat->Prop}(d:BW w (.slice (some ⟨g,off,none⟩) n c) l)(e:aA M w w')(o:¬M g): BW w' (.slice (some ⟨g,off,none⟩) n c) l:=by
 rcases d with d | ⟨v,z,u,a,h,q,i,x⟩
 ·exact .inl d
 injection a with a k m;injection a with a;injection a with a j;subst a j m;exact .inr ⟨g,off,c,by rw[k],h,q,λs t r=>e.cell (i s t r) o,by have:=e.size;omega⟩
theorem QT(w:World)(x:Bk): BW (w.alloc (.cells #[.int .i64 x.sz,.int .i64 x.t] 146)) (.slice (some ⟨w.heap.size,0,none⟩) 1 1) [x] :=
 .inr ⟨w.heap.size,0,1,rfl,by simp,by unfold maxLen;omega,λc d a=>by rw[ja];exact(aD.new w [.int .i64 x.sz,.int .i64 x.t] 146).cell a,by simp⟩
theorem G2{w:World}{q:Array Oper}{rest:List Oper}{o:Oper}{a:Act}{n:Exit->Act->World->Prop}(v:o.guard=none)(s x:Operand)(A:o.op=.call { callee:=.builtin .append,args:=#[s,x],argTypes:=#[143,143] })(base:Nat)(e:Value)(h:List Bk)(C:a.eval s=e)(B:OB w base e h)(l:Value)(i:List Bk)(D:a.eval x=l)(t:BW w l i)(d:Nat)(z:h.length+i.length=d)(hlen:d<=8796093022208)(u:base<=w.heap.size)(r:∀j k m,OB m base (.slice j d k) (h++i)->aA (λc=>e.ownBlock=some c) w m->(∀c,(Value.slice j d k).ownBlock=some c->e.ownBlock=some c\/w.heap.size<=c)->wpList prog q n rest (a.put o.dst (.slice j d k)) m): wpList prog q n (o::rest) a w:=by
 subst z;exact Ru v s x A base e h C B l i D t hlen u r
theorem Kh{w w':World}{base:Nat}{v:Value}{l:List Bk}(d:OB w base v l){M:Nat->Prop}(h:aA (λa=>v.ownBlock=some a) w w'){c:World}(i:aA M c w)(j:c.heap.size<=base): aA M c w' :=
 i.trans h (λa e k=>by
    have:=(d.lt a e).1
    omega)
theorem Zp(v:Value)(s:List Bk)(t K:Int)(w:World)(n:BW w v s.reverse)(bx:PB s)(hi:cN s)(ao:An s+1<=4398046511104)(dw:1<=K)(dx:K<=10):
  Calls prog 129 #[v,.int .i64 t,.int .i64 (K+1)] w λq b2=>∃b1,q=.returned b1/\OB b2 w.heap.size b1 (joinL K ((s++[(⟨1,t⟩:Bk)]).length+1) (s++[(⟨1,t⟩:Bk)]) 1 (s++[(⟨1,t⟩:Bk)]).length).reverse/\lO w b2:=by
 have b5:=Aa n;have dn:=hi.len;have cc:=Aa (PI.start bx t)
 have b6:=Aa (show cN (s++[⟨1,t⟩]) from by
    refine⟨λb G=>?_,by rw[Fx];show An s+(1+0)<=_;omega,by have:=IK hi.one;rw[hY,iZ];omega⟩;rcases ig.1 G with G | G
    ·exact hi.one b G
    rw[ij]at G;rw[G];exact iG _)
 have cd:=Aa (show(s++[(⟨1,t⟩:Bk)]).reverse=[⟨1,t⟩]++s.reverse by simp);have ah:(s++[(⟨1,t⟩:Bk)]).length=s.length+1:=by simp
 have cf:=Aa ah;generalize s++[(⟨1,t⟩:Bk)]=V at *
 clear n bx hi ao ah;generalize ah:s.length=ap at *
 have ce:=Aa ah;clear ah;go_enter func129,ntmps129;go_wp2_with (at_builtin;refine G2 rfl _ _ rfl w.heap.size (.slice (some ⟨w.heap.size,0,none⟩) 1 1) [⟨1,t⟩] rfl ⟨rfl,.inr ⟨w.heap.size,1,_,rfl,il _,aD.new w [.int .i64 1,.int .i64 t] 146,by simp,by unfold maxLen;omega,rfl,rfl⟩⟩ v s.reverse rfl (b5.o.keeps ((aA.refl (λ_=>False) w).alloc _)) (ap+1) (by rw[jF,ce.o];simp;omega) (by omega) (by simp) ?_;intro bl bm b3 bv bs cq)
 have cb:=Aa (show OB b3 w.heap.size (.slice bl (ap+1) bm) V.reverse by rw[cd.o];exact bv);have b9:=Aa (show lO w b3 from((aA.refl (λ_=>False) w).alloc (.cells #[.int .i64 1,.int .i64 t] 146)).trans bs (λr hi dq=>by simp[Value.ownBlock]at hi;omega));clear bv bs cq;go_loopg [7,8,9,10,11,12] (ap+1) (λg ch ci _ _ _ _ wr=>∃(a:List Bk) (d:Int) (q x:Nat) (a9:Option Addr) (o:Nat),ch=.slice a9 x o/\ci=.int .i64 d/\x=g/\1<=d/\d<=4611686018427387904/\x<=4398046511105/\Hid (a.length=x)/\Hid (PI a d q)/\Hid (cN a)/\Hid (OB wr w.heap.size (.slice a9 x o) a.reverse)/\Hid (lO w wr)/\Hid (joinL K (V.length+1) V 1 V.length=joinL K (q+1) a d q))
 case atStart=>exact⟨V,1,V.length,ap+1,bl,bm,rfl,rfl,rfl,by omega,by omega,by omega,cf,cc,b6,cb,b9,rfl⟩
 case round =>
  obtain⟨a,d,q,x,a9,o,rfl,rfl,bu,da,d0,ds,k,ay,b7,B,L,au⟩:=hrel;have bg:=Aa bu;clear bu;have b8:=Aa (zNl ay.o);go_wp2_with fail
  go_loop [9,10,11] (λcg b r=>∃c:Nat,r=.int .i64 c/\c<=x/\cg=.int .i64 (F9 a.reverse d c)/\b=.int .i64 (FA a.reverse d c)/\F9 a.reverse d c<=c) (λ_ _ r=>x-(intOf r).toNat)
  case atStart=>exact⟨0,rfl,iM _,rfl,rfl,iM _⟩
  case round =>
   obtain⟨c,rfl,dj,rfl,rfl,cr⟩:=hrel;by_cases br:c<x
   ·obtain⟨g,ba,rfl,_,a2,an,_⟩:=Jz B.o.bw (by omega);have a6:ba=0:=by
     rcases B.o.2 with ⟨j,_⟩ | ⟨co,cj,ck,j,_⟩
     ·cases j
     injection j with j _ _;injection j with j;injection j
    subst a6;have H:=Km (by rw[jF];exact k.o) B.o.bw c br;rw[ja]at H;have dz:=H.1;have dk:(0:Int)<=(c:Int):=by omega
    have dl:(c:Int)<(x:Int):=by omega
    have aj:=Aa (show F9 a.reverse d (c+1)=F9 a.reverse d c+(if (Ad a.reverse c).sz=d then 1 else 0) from rfl);have F:=Aa (show FA a.reverse d (c+1)=if (Ad a.reverse c).sz=d then c+1 else FA a.reverse d c from rfl);clear H a2 an;generalize Ad a.reverse c=u at *
    generalize cs:F9 a.reverse d c=db at *
    generalize aa:FA a.reverse d c=m at *
    clear cs aa;by_cases U:u.sz=d
    ·have M:=Aa U;have G:(u.sz==d)=true:=by simpa using U
     clear U;go_wp2;go_round;case rel=>exact⟨c+1,by go_num,by omega,by rw[aj.o,h9 M.o];go_num,by rw[F.o,h9 M.o];go_num,by rw[aj.o,h9 M.o];omega⟩
     case measure=>simp[intOf];omega
    have M:=Aa U;have G:(u.sz==d)=false:=by simpa using U
    clear U;go_wp2;go_round;case rel=>exact⟨c+1,by go_num,by omega,by rw[aj.o,hZ M.o];rfl,by rw[F.o,hZ M.o],by rw[aj.o,hZ M.o];omega⟩
    case measure=>simp[intOf];omega
   have cu:c=x:=by omega
   subst cu;clear br;have am:=b8.o c (by rw[k.o];exact il _);rw[k.o]at am;have cw:=Jm a d q;have ct:q<=c:=by have:=ay.o.he;rw[k.o]at this;exact this
   have bi:=Aa ay.o.step;generalize ao:AC a d q=h at *
   have bo:F9 a.reverse d c=q-h:=by rw[am.1];omega
   have a3:h<q->FA a.reverse d c=c-h:=λn=>by rw[am.2,h9 (by omega)];omega
   rw[bo]at cr ⊢;have al:=Aa ao;clear am bo ao;by_cases a4:(q:Int)-(h:Int)<=K+1
   ·have cv:((q-h:Nat):Int)<=K+1:=by omega
    generalize q-h=cl at *
    generalize FA a.reverse d c=m at *
    clear a3;go_wp2;go_ret;refine⟨_,rfl,?_,L.o⟩;rw[au.o];unfold joinL;rw[al.o,h9 a4];exact B.o
   have bz:h+3<=q:=by omega
   rw[a3 (by omega)];obtain⟨m,aa⟩:∃m,m=c-h:=⟨_,rfl⟩;obtain⟨e,bp⟩:∃e,e=c-h-2:=⟨_,rfl⟩;rw[<-aa];have cv:¬((q-h:Nat):Int)<=K+1:=by omega
   have dp:K+1<((q-h:Nat):Int):=by omega
   have bf:=Aa a4;have S:=Aa bz;have ak:=Aa bp;have F:=Aa aa;have dy:(m:Int)-2=(e:Int):=by omega
   obtain⟨g,ba,rfl,_,a2,an,di⟩:=Jz B.o.bw (by omega);have a6:ba=0:=by
    rcases B.o.2 with ⟨j,_⟩ | ⟨co,cj,ck,j,_⟩
    ·cases j
    injection j with j _ _;injection j with j;injection j
   subst a6;have H:=Km (by rw[jF];exact k.o) B.o.bw e (by omega);rw[ja]at H;have bn:Ad a.reverse e=Ad a (h+1):=by
    rw[G7 _ _ (by rw[k.o];omega),k.o];congr 1;omega
   rw[bn]at H;have b4:=H.2;have av:=Aa (OC (t:=(Ad a (h+1)).t) b7.o al.o.symm (by rw[k.o];exact ct) (by omega) da);have bh:=Aa (bi.o (by omega) (Ad a (h+1)).t);have be:=Aa (SI a h ⟨2*d,(Ad a (h+1)).t⟩ (by rw[k.o];omega));generalize b0:Ad a (h+1)=u at *
   have bk:=Aa b0;have dt:=av.o.2.1;have dr:o<=9223372036854775807:=by unfold maxLen at an;omega
   have cm:m<=c:=by omega
   have cn:e<=c:=by omega
   have dc:(0:Int)<=(e:Int):=by omega
   have de:(e:Int)<(c:Int):=by omega
   have df:e<=o:=by omega
   have dg:m<=o:=by omega
   have dm:h<=c:=by omega
   clear H bn a4 bz aa bp b0 bi a3 a2 an cw;generalize q-h=cl at *
   obtain⟨P,bq⟩:∃P,P=e+1:=⟨_,rfl⟩;have bd:=Aa bq;have dh:P<=c:=by omega
   clear bq;have bj:=Aa (show BW wr (.slice (some ⟨g,0,none⟩) e o) (a.reverse.take e) from Qw (by rw[jF];exact k.o) B.o.bw cn);have bc:=Aa (show ∀N,BW N (.slice (some ⟨g,0,none⟩) c o) a.reverse->BW N (.slice (if o=m then some ⟨g,0,none⟩ else some ⟨g,m*2,none⟩) (c-m) (o-m)) (a.reverse.drop m) from λN Z=>zL6 (by rw[jF];exact k.o) Z cm (by omega));have T:=Aa (show(a.reverse.take e).length=e by rw[iD,jF,k.o];omega);have bb:=Aa (show(a.reverse.drop m).length=h by rw[iQ,jF,k.o,F.o];omega);have du:IntKind.i64.wrap (2*d)=2*d:=by rw[ic];omega
   obtain⟨J,bt⟩:∃J,J=c-1:=⟨_,rfl⟩;have A:=Aa bt;clear bt;by_cases a5:o=m
   ·have I:=λN Z=>bc.o N Z;rw[h9 a5]at I;subst a5;rw[kf]at I;have aq:=Aa I;clear I
    go_wp2_with (at_builtin;first
       | (refine G2 rfl _ _ rfl w.heap.size (.slice none 0 0) [] rfl (ir _ _ _ _) (.slice (some ⟨g,0,none⟩) e o) (a.reverse.take e) rfl bj.o e (by rw[T.o];simp) (by omega) L.o.size ?_;intro O c1 z ae ab ai;have X:=Aa (show OB z w.heap.size (.slice O e c1) (a.reverse.take e) from ae);have C:=Aa (show lO wr z from ab.mono (λr _ n=>by simp[Value.ownBlock]at n));have az:=Aa (show ∀r,(Value.slice O e c1).ownBlock=some r->wr.heap.size<=r from λr hi=>(ai r hi).resolve_left (λn=>by simp[Value.ownBlock]at n));clear ae ab ai;have cy:=C.o.cell b4 id)
       | (refine G2 rfl _ _ rfl w.heap.size (.slice O e c1) (a.reverse.take e) rfl (X.o.alloc _) (.slice (some ⟨z.heap.size,0,none⟩) 1 1) [⟨2*d,u.t⟩] rfl (QT z ⟨2*d,u.t⟩) P (by rw[T.o,bd.o];simp) (by omega) (by have j:=L.o.size;have D:=C.o.size;simp;omega) ?_;intro a0 c2 R af E a7;have Y:=Aa af;have ca:=Aa E;have aw:=Aa (show BW R (.slice (some ⟨g,0,none⟩) c o) a.reverse from Px ((B.o.bw.keeps C.o).keeps ((aA.refl (λ_=>False) z).alloc _)) E (λn=>by have:=az.o g n;omega));have W:=Aa (show lO w R from Kh (X.o.alloc _) E ((L.o.then C.o).alloc _) (il _));clear af E a7)
       | (refine G2 rfl _ _ rfl w.heap.size (.slice a0 P c2) (a.reverse.take e++[⟨2*d,u.t⟩]) rfl Y.o (.slice (some ⟨g,0,none⟩) (c-o) 0) (a.reverse.drop o) rfl (aq.o R aw.o) J (by rw[hY,T.o,bb.o];have j:=ak.o;have D:=A.o;have cp:=S.o;simp;omega) (by have:=A.o;omega) W.o.size ?_;intro a1 c3 cx ag ad a8;have ax:=Aa ag;have ar:=Aa (Kh Y.o ad W.o (il _));clear ag ad a8))
    go_roundg (J)
    case measure=>have j:=bg.o;have D:=A.o;omega
    case rel =>
     refine⟨BG a h ⟨2*d,u.t⟩,2*d,h+1,J,a1,c3,rfl,rfl,rfl,by omega,by omega,by have:=A.o;omega,?_,bh.o,av.o.1,?_,ar,?_⟩
     ·show _=_;have:=Ff (⟨2*d,u.t⟩:Bk) (l:=a) (i:=h) (by rw[k.o];have:=S.o;omega);rw[k.o]at this;have D:=A.o;omega
     ·have:=ax.o;have Q:=be.o;rw[k.o,<-F.o]at Q;rw[show o-2=e by have j:=ak.o;have D:=F.o;omega]at Q;rw[Q]at this;exact this
     show _=_;rw[au.o]
     conv=>lhs;unfold joinL
     rw[al.o,hZ (by have:=bf.o;omega),bk.o];exact L5 (by omega) _ _ _ _ _ (by have:=S.o;omega) (by omega)
   have I:=λN Z=>bc.o N Z;rw[hZ a5]at I;have aq:=Aa I;clear I
   go_wp2_with (at_builtin;first
      | (refine G2 rfl _ _ rfl w.heap.size (.slice none 0 0) [] rfl (ir _ _ _ _) (.slice (some ⟨g,0,none⟩) e o) (a.reverse.take e) rfl bj.o e (by rw[T.o];simp) (by omega) L.o.size ?_;intro O c1 z ae ab ai;have X:=Aa (show OB z w.heap.size (.slice O e c1) (a.reverse.take e) from ae);have C:=Aa (show lO wr z from ab.mono (λr _ n=>by simp[Value.ownBlock]at n));have az:=Aa (show ∀r,(Value.slice O e c1).ownBlock=some r->wr.heap.size<=r from λr hi=>(ai r hi).resolve_left (λn=>by simp[Value.ownBlock]at n));clear ae ab ai;have cy:=C.o.cell b4 id)
      | (refine G2 rfl _ _ rfl w.heap.size (.slice O e c1) (a.reverse.take e) rfl (X.o.alloc _) (.slice (some ⟨z.heap.size,0,none⟩) 1 1) [⟨2*d,u.t⟩] rfl (QT z ⟨2*d,u.t⟩) P (by rw[T.o,bd.o];simp) (by omega) (by have j:=L.o.size;have D:=C.o.size;simp;omega) ?_;intro a0 c2 R af E a7;have Y:=Aa af;have ca:=Aa E;have aw:=Aa (show BW R (.slice (some ⟨g,0,none⟩) c o) a.reverse from Px ((B.o.bw.keeps C.o).keeps ((aA.refl (λ_=>False) z).alloc _)) E (λn=>by have:=az.o g n;omega));have W:=Aa (show lO w R from Kh (X.o.alloc _) E ((L.o.then C.o).alloc _) (il _));clear af E a7)
      | (refine G2 rfl _ _ rfl w.heap.size (.slice a0 P c2) (a.reverse.take e++[⟨2*d,u.t⟩]) rfl Y.o (.slice (some ⟨g,m*2,none⟩) (c-m) (o-m)) (a.reverse.drop m) rfl (aq.o R aw.o) J (by rw[hY,T.o,bb.o];have j:=ak.o;have D:=A.o;have cp:=S.o;simp;omega) (by have:=A.o;omega) W.o.size ?_;intro a1 c3 cx ag ad a8;have ax:=Aa ag;have ar:=Aa (Kh Y.o ad W.o (il _));clear ag ad a8))
   go_roundg (J)
   case measure=>have j:=bg.o;have D:=A.o;omega
   case rel =>
    refine⟨BG a h ⟨2*d,u.t⟩,2*d,h+1,J,a1,c3,rfl,rfl,rfl,by omega,by omega,by have:=A.o;omega,?_,bh.o,av.o.1,?_,ar,?_⟩
    ·show _=_;have:=Ff (⟨2*d,u.t⟩:Bk) (l:=a) (i:=h) (by rw[k.o];have:=S.o;omega);rw[k.o]at this;have D:=A.o;omega
    ·have:=ax.o;have Q:=be.o;rw[k.o,<-F.o]at Q;rw[show m-2=e by have j:=ak.o;have D:=F.o;omega]at Q;rw[Q]at this;exact this
    show _=_;rw[au.o]
    conv=>lhs;unfold joinL
    rw[al.o,hZ (by have:=bf.o;omega),bk.o];exact L5 (by omega) _ _ _ _ _ (by have:=S.o;omega) (by omega)
