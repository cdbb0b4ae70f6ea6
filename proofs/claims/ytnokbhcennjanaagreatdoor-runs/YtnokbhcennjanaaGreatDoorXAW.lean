import Derived.Test.YtnokbhcennjanaaGreatDoorXAV
import Derived.Laws.MathBits
import Derived.Lib.Tables
open Go.RowKit Go.Proofs.Tryz
set_option maxRecDepth 100000
set_option maxHeartbeats 16000000
namespace Go.Proofs.YtnokbhcennjanaaGreatDoor
section
attribute [local go_sem ↓] AN B2
attribute [local go_sem] AO B4 A5 A6 AI AJ Bf B3
theorem Pp(k b:Nat)(w:World)(c:1<=k)(d:k<=5): Calls prog (Bg k) #[.pointer (some ⟨b,0,none⟩)] w (EK w b (Ch k)):=by
 have a:k=1\/k=2\/k=3\/k=4\/k=5:=by omega
 rcases a with a | a | a | a | a <;> subst a
 ·exact Uc b w
 ·exact RU b w
 ·exact Us b w
 ·exact NV b w
 exact Ux b w
def CM: Nat->List Nat | 1=>[0] | 2=>[0,1] | 3=>[0,1] | 4=>[0] | _=>[0,1,2]
theorem P7(k b:Nat)(w:World)(c:1<=k)(d:k<=5): Calls prog (AW k) #[.pointer (some ⟨b,0,none⟩)] w (EK w b (CM k)):=by
 have a:k=1\/k=2\/k=3\/k=4\/k=5:=by omega
 rcases a with a | a | a | a | a <;> subst a
 ·exact PK b w
 ·exact QJ b w
 ·exact QJ b w
 ·exact PK b w
 exact M9 b w
def Bb(k:Nat)(c:Cfg): Int:=match k with | 2=>1 | 3=>c.rows | _=>0
theorem L2(c:Cfg)(w:World): Calls prog 93 #[c.val] w λa d=>a=.returned (.int .i64 0)/\lO w d:=by
 unfold Cfg.val;go_enter func93,ntmps93;go_wp2;go_ret;exact⟨rfl,by first | exact aA.refl _ _ | exact(aA.refl _ _).alloc _⟩
theorem Uf(c:Cfg)(w:World): Calls prog 99 #[c.val] w λa d=>a=.returned (.int .i64 1)/\lO w d:=by
 unfold Cfg.val;go_enter func99,ntmps99;go_wp2;go_ret;exact⟨rfl,by first | exact aA.refl _ _ | exact(aA.refl _ _).alloc _⟩
theorem T3(c:Cfg)(w:World): Calls prog 105 #[c.val] w λa d=>a=.returned (.int .i64 c.rows)/\lO w d:=by
 unfold Cfg.val;go_enter func105,ntmps105;go_wp2;go_ret;exact⟨rfl,(aA.refl _ _).alloc _⟩
theorem Ph(k:Nat)(c:Cfg)(w:World)(h:1<=k)(i:k<=5): Calls prog (Bh k) #[c.val] w λd e=>d=.returned (.int .i64 (Bb k c))/\lO w e:=by
 have a:k=1\/k=2\/k=3\/k=4\/k=5:=by omega
 rcases a with a | a | a | a | a <;> subst a
 ·exact L2 c w
 ·exact Uf c w
 ·exact T3 c w
 ·exact L2 c w
 exact L2 c w
def Ba(n:Nat): List Nat:=(List.range (2*n)).map (14+·)
theorem Ug(n:Nat): Ba (n+1)=Ba n++[14+2*n,15+2*n]:=by
 unfold Ba;rw[show 2*(n+1)=2*n+1+1 by omega,j6,j6];simp;omega
theorem Sr(a b:List (Nat×Nat)): C7 (a++b)=C7 a++C7 b:=by simp[C7]
attribute [local go_sem ↓ 2000] NS
attribute [local go_sem ↓] Go.wp_at_zero Go.wp_at_succ
theorem OR(b n:Nat)(w:World)(I:n<=3):
  Calls prog 119 #[.pointer (some ⟨b,0,none⟩),.int .i64 n] w (EK w b (Ba n)):=by
 go_enter func119,ntmps119;go_wp2;go_loopw [5,8] (λh e wr=>∃a:Nat,e=.int .i64 a/\a<=n/\Hid (wr.ownsRow w.heap.size 163 1 h (2*a) (C7 (at' b (Ba a))))/\Hid (lO w wr)) (λ_ e _=>n-(intOf e).toNat)
 case atStart=>exact⟨0,rfl,iM _,ir _ _ _ _,aA.refl _ _⟩
 case round =>
  obtain⟨a,rfl,E,c,d⟩:=hrel;generalize u5=h at *
  by_cases H:a<n
  ·obtain⟨q,r,A,_⟩:=Dy c.o;subst A;have L:w.heap.size<=wr.heap.size:=d.o.size;have i:=Aa (show(wr.alloc (.cells #[.pointer (some ⟨b,14+a*2,none⟩),.pointer (some ⟨b,14+a*2+1,none⟩)] 163)).drew.ownsRow w.heap.size 163 1 (.slice q (2*a) r) (2*a) (C7 (at' b (Ba a))) from c.o.alloc _);obtain⟨x,u,D,o,m,k⟩:=Mw (wr.alloc (.cells #[.pointer (some ⟨b,14+a*2,none⟩),.pointer (some ⟨b,14+a*2+1,none⟩)] 163)).drew w.heap.size _ (2*a) wr.heap.size _ [.pointer (some ⟨b,14+a*2,none⟩),.pointer (some ⟨b,14+a*2+1,none⟩)] i.o (iJ wr _) (by simp[Value.oneCell']) (by simp) (by simp;omega) (by show w.heap.size<=(wr.alloc _).heap.size;simp;omega);have J:∀C,(Hh C (.slice q (2*a) r) (.slice (some ⟨wr.heap.size,0,none⟩) 2 2)).run prog (wr.alloc (.cells #[.pointer (some ⟨b,14+a*2,none⟩),.pointer (some ⟨b,14+a*2+1,none⟩)] 163)).drew=.ok (.value (.slice (some ⟨x,0,none⟩) (2*a+2) u)) D:=o;clear o;have t:=Aa m;have s:=Aa k;clear m k i;have F:(0:Int)<=(a:Int):=by omega
   have l:(a:Int)<(n:Int):=by omega
   have G:(a:Int)<3:=by omega
   go_wp2_with fail
   go_region
   go_wp2;go_roundw;case rel =>
    refine⟨a+1,by go_num,by omega,?_,?_⟩
    ·show World.ownsRow _ _ _ _ _ _ _;rw[Ug];have v:at' b (Ba a++[14+2*a,15+2*a])=at' b (Ba a)++[(b,14+2*a),(b,15+2*a)]:=by simp[at']
     rw[v,Sr,show 2*(a+1)=2*a+2 by omega];have j:=t.o;rw[show 14+a*2=14+2*a by omega,show 14+2*a+1=15+2*a by omega]at j;exact j
    exact((d.o.alloc _).drew).grown s.o (λB z=>Or.inr (c.o.lt B z).1)
   case measure=>simp[intOf];omega
  have l:a=n:=by omega
  subst l;go_wp2;go_ret;refine⟨h,rfl,?_,d.o⟩;have:(at' b (Ba a)).length=2*a:=by simp[at',Ba]
  rw[this];exact c.o
end
section
attribute [local go_sem ↓] AN B2
attribute [local go_sem] AO B4 A5 A6 AI AJ Bf B3
def BR(k:Nat)(c:Cfg): List Int:=c.kind::([1,2,3].map c.num++((Ch k).map c.num++(Ba (Bb k c).toNat).map c.num))
theorem Me{w:World}{h:Nat}{c:Cfg}{l:List Nat}(i:aD w h c.cells 46)(k:∀e,e∈l->e<20): PartsAt w (at' h l) (l.map c.num):=by
 refine⟨by simp[at'],λm p n a d=>?_⟩;unfold at' at a;rw[iP]at a d;cases ho:l[m]? with
 | none=>rw[ho]at a;cases a
 | some e =>
  rw[ho]at a d;simp only[ke,lM]at a d;subst a d;have j:=k e (iu ho);refine i.cell ?_;rw[Cfg.eV,iP];unfold Cfg.num;rw[List.getD_eq_getElem?_getD,hX (by simpa[Cfg.aL] using j)];rfl
theorem Pi(k:Nat): ∀a,a∈Ch k->a<20:=by
 unfold Ch;split <;> simp
theorem OK(n:Nat)(e:n<=3): ∀a,a∈Ba n->a<20:=by
 unfold Ba;intro a c;simp at c;obtain⟨h,d,rfl⟩:=c;omega
theorem IQ(b:Nat)(v:Value)(bs:List Nat)(i:Value)(base a:Nat)(l:List Nat)(ns:List Int)(w:World)(e:bR w b v bs)(c:w.ownsRow base 163 1 i (at' a l).length (C7 (at' a l)))(k:PartsAt w (at' a l) ns)(n:¬AF b v a)(m:∀d,base<=d->¬AF b v d)(s:∀h,h∈ns->0<=h/\h<=9223372036854775807)(q:bs.length+10*ns.length<=140737488355300)(r:ns.length<=1000):
  Calls prog 74 #[.pointer (some ⟨b,0,none⟩),i] w λj t=>j=.returned (.tuple #[])/\aJ w b v (bs++Ae ns) t :=
 Ww b v bs i base (at' a l) ns w e c k (λp c e=>n (by
      unfold at' at c;obtain⟨u,_,rfl⟩:=iE.1 c
      exact e)) (λd o=>m d (c.lt d o).1) s q r
structure SC (w:World) (cb kb b:Nat) (v:Value) (c:Cfg) (k:Nat) (w':World) (v':Value) (bs:List Nat):Prop where
 aF:aD w' cb c.cells 46
 gO:aD w' kb [.func (.func (Bu k)) #[] #[],.func (.func (Bg k)) #[] #[],.func (.func (Bh k)) #[] #[],.func (.func (AR k)) #[] #[],.func (.func (AW k)) #[] #[],.func (.func (Bo k)) #[] #[]] 75
 wr:bR w' b v' bs
 ft:∀i,AF b v' i->i<cb\/kb<i
 vv:∀i,v'.ownBlock=some i->v.ownBlock=some i\/w.heap.size<=i
 kp:aA (AF b v) w w'
 le:cb<=kb
theorem SC.still{w:World}{e h b:Nat}{v:Value}{c:Cfg}{k:Nat}{w' j:World}{i:Value}{bs:List Nat}(a:SC w e h b v c k w' i bs)(d:lO w' j): SC w e h b v c k j i bs :=
 ⟨a.aF.keeps d id,a.gO.keeps d id,a.wr.still d,a.ft,a.vv,a.kp.trans d (λ_ a=>a.elim),a.le⟩
theorem SC.not{w:World}{d e b:Nat}{v:Value}{c:Cfg}{k:Nat}{w':World}{h:Value}{bs:List Nat}(a:SC w d e b v c k w' h bs)(i:Nat)(l:d<=i)(m:i<=e): ¬AF b h i:=λj=>by
 rcases a.ft i j with a | a <;> omega
theorem SC.wrote{w:World}{i l b:Nat}{v:Value}{c:Cfg}{k:Nat}{w' q:World}{o:Value}{bs m:List Nat}(a:SC w i l b v c k w' o bs)(r:aJ w' b o m q): ∃t,SC w i l b v c k q t m:=by
 obtain⟨u,s,n,j⟩:=r;have x:=a.gO.lt;have A:=a.kp.size;refine⟨u,a.aF.keeps j (a.not i (il _) a.le),a.gO.keeps j (a.not l a.le (il _)),s,λh d=>?_,λh d=>?_,a.kp.trans j (λh d z=>?_),a.le⟩
 ·rcases d with d | d
  ·exact a.ft h (.inl d)
  rcases n h d with e | e
  ·exact a.ft h (.inr e)
  exact .inr (by omega)
 ·rcases n h d with e | e
  ·exact a.vv h e
  exact .inr (by omega)
 rcases d with d | d
 ·exact .inl d
 rcases a.vv h d with e | e
 ·exact .inr e
 omega
theorem M7(bs:List Nat)(a b:List Int): bs++Ae a++Ae b=bs++Ae (a++b):=by rw[List.append_assoc,By]
theorem RS(b:Nat)(v:Value)(bs:List Nat)(c:Cfg)(k:Nat)(w:World)(a:bR w b v bs)(Q:c.kind=k)(t:1<=k)(x:k<=5)(bl:0<=Bb k c)(bm:Bb k c<=3)(j:∀d,d∈BR k c->0<=d/\d<=9223372036854775807)(bz:bs.length<=140737488354000):
  Calls prog 72 #[.pointer (some ⟨b,0,none⟩),c.val] w λi br=>i=.returned (.tuple #[])/\aJ w b v (bs++Ae (BR k c)) br:=by
 obtain⟨o,F⟩:∃o,o=w.alloc (.cells c.cells.toArray 46):=⟨_,rfl⟩;have A:=Aa (show aD o w.heap.size c.cells 46 by rw[F];exact aD.new w _ _);have J:=Aa (show lO w o by rw[F];exact(aA.refl _ _).alloc _);have ao:=Aa (show w.alloc (.cells #[.int .i64 c.kind,.int .i64 c.aK,.int .i64 c.bF,.int .i64 c.cap,.int .i64 c.k,.int .i64 c.aB,.int .i64 c.bits,.int .i64 c.rows,.int .i64 c.width,.int .i64 c.aM,.int .i64 c.size,.int .i64 c.degree,.int .i64 c.half,.int .i64 c.mark,.int .i64 c.bV,.int .i64 c.bW,.int .i64 c.cG,.int .i64 c.cH,.int .i64 c.cQ,.int .i64 c.cR] 46)=o from F.symm);have an:=Aa (a.still J.o);have a8:=Aa (show ∀e,AF b v e->e<w.heap.size from a.lt);have C:=Aa j;have bx:=Aa Q;have a9:=Aa (show ∃d:Nat,Bb k c=d/\d<=3 from⟨(Bb k c).toNat,by omega,by omega⟩);have ad:=Aa (PE c.kind k o Q t x);have I:=Aa (show BR k c=c.kind::([1,2,3].map c.num++((Ch k).map c.num++(Ba (Bb k c).toNat).map c.num)) from rfl);clear F a j Q bl bm;unfold Cfg.val;go_enter func72,ntmps72;go_wp2_with fail
 rw[ao.o];refine ad.o.mono ?_;rintro i s ⟨rfl,G⟩;unfold B1 fn;have am:=Aa (aD.new s [.func (.func (Bu k)) #[] #[],.func (.func (Bg k)) #[] #[],.func (.func (Bh k)) #[] #[],.func (.func (AR k)) #[] #[],.func (.func (AW k)) #[] #[],.func (.func (Bo k)) #[] #[]] 75);have H:=G.alloc (.cells #[.func (.func (Bu k)) #[] #[],.func (.func (Bg k)) #[] #[],.func (.func (Bh k)) #[] #[],.func (.func (AR k)) #[] #[],.func (.func (AW k)) #[] #[],.func (.func (Bo k)) #[] #[]] 75);have ab:=Aa (A.o.keeps H id);have ap:=Aa (an.o.still H);have ae:=Aa (J.o.then H);have bc:s.cell? ⟨w.heap.size,0,none⟩=some (.int .i64 c.kind):=(A.o.keeps G id).cell rfl;have b0:w.heap.size<s.heap.size:=(A.o.keeps G id).lt;clear G H ao ad A an J;go_wp2_with fail
 clear bc;generalize bf:s.heap.size=Z at *
 generalize s.alloc (.cells #[.func (.func (Bu k)) #[] #[],.func (.func (Bg k)) #[] #[],.func (.func (Bh k)) #[] #[],.func (.func (AR k)) #[] #[],.func (.func (AW k)) #[] #[],.func (.func (Bo k)) #[] #[]] 75)=a4 at *
 clear bf s;generalize bd:w.heap.size=h at *
 clear bd;have ar:=C.o c.kind (by rw[I.o];simp);have M:=Aa (show SC w h Z b v c k a4 v bs from⟨ab.o,am.o,ap.o,λe q=>.inl (a8.o e q),λe q=>.inl q,ae.o.mono (λ_ _ a=>a.elim),by omega⟩);clear ab am ap ae;have L:=Aa (show(Ch k).length<=4 by unfold Ch;split <;> simp);obtain⟨r,U,ay⟩:=a9.o;have ba:=Aa U;have ai:=Aa (show(Ba r).length<=6 by simp[Ba];omega);have B:=Aa (show BR k c=[c.kind]++[1,2,3].map c.num++(Ch k).map c.num++(Ba r).map c.num by rw[I.o,U,iH];simp);clear U I;refine(FE b v bs c.kind a4 M.o.wr ar.1 ar.2 (by omega)).mono ?_;rintro i a5 ⟨rfl,az⟩;obtain⟨bn,V⟩:=M.o.wrote az;rw[<-Ei]at V;have N:=Aa V;clear az V M;go_wp2_with fail
 refine(Nz h a5).mono ?_;rintro i bt ⟨a3,rfl,R,au⟩;obtain⟨b1,b4,z,_⟩:=Dy R;subst z;have af:=Aa N.o.wr.lt;have l:=Aa (N.o.still au);have aj:=Aa R;clear R au N;go_wp2_with fail
 refine(IQ b bn _ _ a5.heap.size h [1,2,3] ([1,2,3].map c.num) bt l.o.wr aj.o (Me l.o.aF (by simp)) (l.o.not h (il _) l.o.le) (λe q a=>by have:=af.o e a;omega) (λd j=>C.o d (by rw[B.o];simp only[ig];exact .inl (.inl (.inr j)))) (by have:=Cp [c.kind];simp[Ei]at this ⊢;have u:=Cp [c.kind];simp at u;omega) (by simp)).mono ?_;rintro i aa ⟨rfl,a0⟩;obtain⟨bo,W⟩:=l.o.wrote a0;rw[M7]at W;have D:=Aa W;clear a0 W l aj af;have bj:aa.cell? ⟨Z,1,none⟩=some (.func (.func (Bg k)) #[] #[]):=D.o.gO.cell rfl;have bg:=OM k t x;go_wp2_with fail
 refine(Pp k h aa t x).mono ?_;rintro i bu ⟨a3,rfl,S,av⟩;obtain⟨b2,b5,z,_⟩:=Dy S;subst z;have ag:=Aa D.o.wr.lt;have m:=Aa (D.o.still av);have ak:=Aa S;clear S av D bj bg;go_wp2_with fail
 refine(IQ b bo _ _ aa.heap.size h (Ch k) ((Ch k).map c.num) bu m.o.wr (by have:=ak.o;exact this) (Me m.o.aF (Pi k)) (m.o.not h (il _) m.o.le) (λe q a=>by have:=ag.o e a;omega) (λd j=>C.o d (by rw[B.o];simp only[ig];exact .inl (.inr j))) (by have u:=Cp ([c.kind]++[1,2,3].map c.num);have aq:=L.o;simp at u ⊢;omega) (by have aq:=L.o;simp;omega)).mono ?_;rintro i a6 ⟨rfl,a1⟩;obtain⟨bp,X⟩:=m.o.wrote a1;rw[M7]at X;have E:=Aa X;clear a1 X m ak ag;have bk:a6.cell? ⟨Z,2,none⟩=some (.func (.func (Bh k)) #[] #[]):=E.o.gO.cell rfl;obtain⟨bi,be⟩:=CE E.o.aF 20 rfl;have bh:=OX k t x;go_wp2_with fail
 refine(Ph k c a6 t x).mono ?_;rintro i a7 ⟨rfl,aw⟩;rw[ba.o];have O:=Aa (E.o.still aw);clear aw E bk bh bi be;go_wp2_with fail
 refine(OR h r a7 ay).mono ?_;rintro i bv ⟨a3,rfl,T,ax⟩;obtain⟨b3,b6,z,_⟩:=Dy T;subst z;have ah:=Aa O.o.wr.lt;have n:=Aa (O.o.still ax);have al:=Aa T;clear T ax O;go_wp2_with fail
 refine(IQ b bp _ _ a7.heap.size h (Ba r) ((Ba r).map c.num) bv n.o.wr (by have:=al.o;exact this) (Me n.o.aF (OK r ay)) (n.o.not h (il _) n.o.le) (λe q a=>by have:=ah.o e a;omega) (λd j=>C.o d (by rw[B.o];simp only[ig];exact .inr j)) (by have u:=Cp ([c.kind]++[1,2,3].map c.num++(Ch k).map c.num);have aq:=L.o;have bb:=ai.o;simp at u ⊢;omega) (by have bb:=ai.o;simp;omega)).mono ?_;rintro i b7 ⟨rfl,a2⟩;obtain⟨bq,Y⟩:=n.o.wrote a2;rw[M7,<-B.o]at Y;have P:=Aa Y;clear a2 Y n al ah;go_wp2;go_end0;exact⟨rfl,bq,P.o.wr,P.o.vv,P.o.kp⟩
end
section
theorem GB{b:Nat}{v h:Value}{s c:Nat}(e:¬AF b v c)(i:∀d,h.ownBlock=some d->v.ownBlock=some d\/s<=d)(j:c<s): ¬AF b h c:=by
 rintro (a | a)
 ·exact e (.inl a)
 rcases i c a with a | a
 ·exact e (.inr a)
 omega
theorem aJ.pre{w c d:World}{b:Nat}{v:Value}{bs:List Nat}(h:lO w c)(a:aJ c b v bs d): aJ w b v bs d :=
 aJ.then (λ_ e=>.inl e) (h.mono (λ_ _ a=>a.elim)) a
def Cu(l:List Dr.It): List Int:=l.flatMap λx=>[x.n,x.t,x.k,x.d]
theorem NY(a b:List Dr.It): Cu (a++b)=Cu a++Cu b:=by simp[Cu]
theorem NR(l:List Dr.It): (Cu l).length=4*l.length:=by
 induction l with
 | nil=>rfl
 | cons c l a=>simp[Cu]at a ⊢;omega
theorem P8(a:List Dr.It)(k:Nat)(c:k<a.length): Cu (a.take (k+1))=Cu (a.take k)++[(Dr.itAt a k).n,(Dr.itAt a k).t,(Dr.itAt a k).k,(Dr.itAt a k).d]:=by
 rw[jg,NY,hX c];simp[Cu,Dr.itAt,List.getD_eq_getElem?_getD,hX c]
theorem Wh{w:World}{e:Nat}{t k h:Int}{l:List Value}{T:Nat}(d:aD w e (.int .i64 t::.int .i64 k::.int .i64 h::l) T): PartsAt w (at' e [0,1,2]) [t,k,h]:=by
 refine⟨by simp[at'],λi p j a c=>?_⟩
 match i with
 | 0=>simp[at']at a c;subst a c;exact d.cell rfl
 | 1=>simp[at']at a c;subst a c;exact d.cell rfl
 | 2=>simp[at']at a c;subst a c;exact d.cell rfl
 | i+3=>simp[at']at a
theorem U1(x I:Nat)(W:Option Nat)(c:Cfg)(l:List Dr.It)(b:Nat)(v:Value)(bs:List Nat)(m:Int)(w:World)(i:dM w x I W c l)(U:bR w b v bs)(bg:l.length<=6)(k:∀e,e∈Cu (Dr.allL (l.length+1) l)->0<=e/\e<=9223372036854775807)(bc:bs.length<=140737488354000):
  Calls prog 161 #[.pointer (some ⟨x,0,none⟩),.pointer (some ⟨b,0,none⟩),.int .i64 m] w λj a8=>j=.returned (.tuple #[])/\aJ w b v (bs++Ae (Cu (Dr.allL (l.length+1) l))) a8:=by
 have az:w.cell? ⟨x,20,none⟩=some (.pointer (some ⟨I,0,none⟩)):=i.aF.cell rfl;have o:=QE I W l w i.dL (by omega);clear i;generalize Dr.allL (l.length+1) l=h at *
 generalize l.length=e at *
 have J:=Aa o;have P:=Aa U;have am:=Aa k;clear U k o;go_enter func161,ntmps161;go_wp2_with fail
 refine J.o.mono ?_;rintro j Q ⟨g,bb,rfl,a1,S,hlen,A⟩;have ao:=Aa S;have M:=Aa hlen;have af:=Aa A;have ae:=Aa (show ¬AF b v g from λz=>by have:=P.o.lt g z;omega);have au:=Aa (P.o.still A);have bi:e<=6:=by omega
 clear S hlen A a1 az J;go_wp2_with fail
 go_loopw [14] (λq wr=>∃(d:Nat),q=.int .i64 d/\d<=e/\Hid (aJ Q b v (bs++Ae (Cu (h.take d))) wr)) (λq _=>e-(intOf q).toNat)
 case atStart=>exact⟨0,rfl,iM _,by show aJ _ _ _ _ _;simp only[jM,Cu,kC,Dm,iz];exact aJ.refl au.o⟩
 case round =>
  obtain⟨d,rfl,be,u⟩:=hrel;by_cases a2:d<e
  ·obtain⟨X,H,T,D⟩:=u.o;have C:d<h.length:=by rw[M.o];exact a2
   obtain⟨bm,bn,bo,bp,bq⟩:=(ao.o.keeps D ae.o).cells d C;have ap:=Aa (P8 h d C)
   have O:=Aa (show ∀e,e∈[(Dr.itAt h d).n,(Dr.itAt h d).t,(Dr.itAt h d).k,(Dr.itAt h d).d]->0<=e/\e<=9223372036854775807 from λe k=>am.o e (by
        have j:Cu (h.take (d+1)++h.drop (d+1))=Cu h:=by rw[List.take_append_drop]
        rw[<-j,NY,P8 h d C];simp only[ig]
        exact .inl (.inr k)))
   have ak:=Aa H.lt;have ay:=Aa H;have ar:=Aa T;have ai:=Aa D;have bf:(0:Int)<=(d:Int):=by omega
   have R:(d:Int)<(e:Int):=by omega
   generalize Dr.itAt h d=a at *
   have bh:(bs++Ae (Cu (h.take d))).length<=140737488354240:=by
    have a0:=Cp (Cu (h.take d));rw[NR,iD]at a0;rw[hY];omega
   clear H T D u;obtain⟨n,s⟩:∃n,n=wr.alloc (.cells #[.int .i64 a.t,.int .i64 a.k,.int .i64 a.d,.int .i64 a.n,.int .i64 a.v] 247):=⟨_,rfl⟩;have t:=Aa (show aD n wr.heap.size [.int .i64 a.t,.int .i64 a.k,.int .i64 a.d,.int .i64 a.n,.int .i64 a.v] 247 by rw[s];exact aD.new wr _ _);have L:=Aa (show lO wr n by rw[s];exact(aA.refl _ _).alloc _);have ax:=Aa (ay.o.still L.o);have N:=Aa (show ¬AF b X wr.heap.size from λz=>by have:=ak.o _ z;omega);obtain⟨a5,a6⟩:=O.o a.n (by simp);have ab:=Aa s.symm;clear s;go_wp2_with fail
   rw[ab.o];refine(FE b X _ a.n n ax.o a5 a6 (by omega)).mono ?_;rintro j Y ⟨rfl,a7,G,F,B⟩;have a3:wr.heap.size<n.heap.size:=t.o.lt;have Z:=Aa (t.o.keeps B N.o);have al:=Aa (GB N.o F a3);have av:=Aa G;have aq:=Aa F;have ag:=Aa B;have aj:=Aa G.lt;clear G F B t;go_wp2_with fail
   refine(M9 wr.heap.size Y).mono ?_;rintro j a9 ⟨bl,rfl,E,r⟩;obtain⟨bj,bk,a4,_⟩:=Dy E;subst a4;have aw:=Aa (av.o.still r);have aa:=Aa (Z.o.keeps r id);have an:=Aa E;have ah:=Aa r;clear E r;go_wp2_with fail
   refine(IQ b a7 _ _ Y.heap.size wr.heap.size [0,1,2] [a.t,a.k,a.d] a9 aw.o an.o (Wh aa.o) al.o (λq bd i=>by have:=aj.o q i;omega) (λe k=>O.o e (by simp at k ⊢;exact .inr k)) (by have:=Dk a.n;rw[hY];show _+10*3<=_;omega) (by simp)).mono ?_;rintro j ba ⟨rfl,V⟩
   have ad:=Aa (show aJ Q b v (bs++Ae (Cu (h.take (d+1)))) ba by
      have o:=aJ.then ar.o ai.o (aJ.pre L.o (aJ.then aq.o ag.o (aJ.pre ah.o V)));rw[ap.o,By];have j:Ae [a.n,a.t,a.k,a.d]=enc a.n++Ae [a.t,a.k,a.d]:=BN _ _;rw[j];simp only[List.append_assoc]at o ⊢
      exact o)
   clear V;go_wp2;go_roundw;case rel=>exact⟨d+1,by go_num,by omega,ad⟩
   case measure=>simp[intOf];omega
  have R:d=e:=by omega
  subst R;go_wp2;go_end0;refine⟨rfl,?_⟩;have i:=u.o;rw[<-M.o,kZ]at i;exact aJ.pre af.o i
end
section
attribute [local go_sem ↓] Mk.execOp_fieldMk
attribute [local go_sem] Mk.run_fieldMk0 Mk.run_fieldMk1
theorem aJ.kp{w a:World}{b:Nat}{v:Value}{bs:List Nat}(c:aJ w b v bs a): aA (AF b v) w a:=by obtain⟨_,_,_,d⟩:=c;exact d
theorem aJ.still{w d e:World}{b:Nat}{v:Value}{bs:List Nat}(a:aJ w b v bs d)(c:lO d e): aJ w b v bs e:=by
 obtain⟨k,h,i,j⟩:=a;exact⟨k,h.still c,i,j.trans c (λ_ a=>a.elim)⟩
theorem CJ(b:Nat)(v:Value)(bs:List Nat)(n:Int)(w a:World)(j:aJ w b v bs a)(m:0<=n)(n1:n<=9223372036854775807)(l:bs.length<=140737488355300):
  Calls prog 47 #[.pointer (some ⟨b,0,none⟩),.int .i64 n] a λc d=>c=.returned (.tuple #[])/\aJ w b v (bs++enc n) d:=by
 obtain⟨o,e,h,i⟩:=j;exact(FE b o bs n a e m n1 l).mono λc d ⟨k,hw⟩=>⟨k,aJ.then h i hw⟩
def C6(l:List Bk): List Int:=l.flatMap λb=>[b.sz,b.t]
theorem Sk(a b:List Bk): C6 (a++b)=C6 a++C6 b:=by simp[C6]
theorem Nc(l:List Bk): (C6 l).length=2*l.length:=by
 induction l with
 | nil=>rfl
 | cons c l a=>simp[C6]at a ⊢;omega
def EG(l:List Bk)(t:Int): List Int:=((l.length-Mk.pastN l t:Nat):Int)::C6 (l.drop (Mk.pastN l t))
theorem TM(l:List Bk)(t:Int): (EG l t).length<=1+2*l.length:=by
 unfold EG;rw[iA,Nc,iQ];omega
def D7(ls:Nat->List Bk)(n:Nat)(t:Int): List Int:=(List.range n).flatMap λi=>EG (ls i) t
theorem Pb(a:Nat->List Bk)(n:Nat)(t:Int): D7 a (n+1) t=D7 a n t++EG (a n) t:=by
 simp[D7,j6]
theorem NQ(a:Nat->List Bk)(n:Nat)(t:Int)(c:∀d,(a d).length<=40): (D7 a n t).length<=81*n:=by
 induction n with
 | zero=>simp[D7]
 | succ n i=>have e:=TM (a n) t;have h:=c n;rw[Pb,hY];omega
theorem UQ(l:List Bk)(p j:Nat)(x:Bk)(a:p+j<l.length)(d:Ad l (p+j)=x): C6 ((l.drop p).take (j+1))=C6 ((l.drop p).take j)++[x.sz,x.t]:=by
 have c:j<(l.drop p).length:=by rw[iQ];omega
 rw[jg,Sk,hX c];subst d;simp[C6,Ad,List.getD_eq_getElem?_getD,hX a]
theorem Z8{l:List Bk}{i:Nat}(a:i<l.length): Ad l i∈l:=by
 have:Ad l i=l[i]:=by simp[Ad,List.getD_eq_getElem?_getD,hX a]
 rw[this];exact jc a
theorem T7(A B:Nat)(s:List (Nat×Option Nat))(c:Cfg)(k:Nat->List Bk)(b:Nat)(v:Value)(bs:List Nat)(m:Int)(w:World)(S:cZ w A B s c k)(ao:bR w b v bs)(E:∀h,AF b v h->h≠A/\h≠B/\∀i,i<s.length->¬qf (Aq s i) h)(bb:s.length<=16)(bx:0<=c.aB)(bz:c.aB<=1000)(bu:-100<=m)(bv:m<=4611686018427387904)(G:∀h,(k h).length<=40)(M:∀h,∀b∈k h,0<=b.sz/\b.sz<=4611686018427387904/\1<=b.t/\b.t<=40)(bg:bs.length<=140737488300000):
  Calls prog 145 #[.pointer (some ⟨A,0,none⟩),.pointer (some ⟨b,0,none⟩),.int .i64 m] w λq j=>q=.returned (.tuple #[])/\aJ w b v (bs++Ae (D7 k s.length (m-c.aB))) j:=by
 obtain⟨r,I⟩:∃r,r=s.length:=⟨_,rfl⟩;have a5:w.cell? ⟨A,20,none⟩=some (.slice (some ⟨B,0,none⟩) r r):=by rw[I];exact S.aF.cell rfl
 have X:=Aa (show ∀j,aA (AF b v) w j->cZ j A B s c k from λj ai=>S.keeps ai (λF=>(E A F).1 rfl) (λF=>(E B F).2.1 rfl) (λi a4 ah ba F=>(E a4 F).2.2 i ah ba));have a0:=Aa ao;have P:=Aa G;have az:=Aa M;have av:=Aa I;rw[<-I]at bb ⊢;obtain⟨l,bc⟩:∃l,m-c.aB=l:=⟨_,rfl⟩;rw[bc];have br:IntKind.i64.wrap (m-c.aB)=l:=by rw[ic];omega
 clear S ao E G M I;have bo:(0:Int)<=(r:Int):=by omega
 go_enter func145,ntmps145;go_wp2_with fail
 clear a5;go_loopw [15] (λh wr=>∃(a:Nat),h=.int .i64 a/\a<=r/\Hid (aJ w b v (bs++Ae (D7 k a l)) wr)) (λh _=>r-(intOf h).toNat)
 case atStart=>exact⟨0,rfl,iM _,by show aJ _ _ _ _ _;simp only[D7,List.range_zero,kC,Dm,iz];exact aJ.refl a0.o⟩
 case round =>
  obtain⟨a,rfl,ai,C⟩:=hrel;have bj:(0:Int)<=(a:Int):=by omega
  by_cases bn:a<r
  ·have bk:(a:Int)<(r:Int):=by omega
   have T:a<s.length:=by have:=av.o;omega
   have O:=Aa (X.o wr C.o.kp);obtain⟨e,W⟩:∃e,Aq s a=e:=⟨_,rfl⟩;have a6:wr.cell? ⟨B,a,none⟩=some (.pointer (some ⟨e.1,0,none⟩)):=by rw[<-W];exact O.o.fI.cell (H9 T)
   have c5:=O.o.aF.c5;have x:=Aa (show ∀j,aA (AF b v) w j->Mk.aH j e.1 e.2 (k a) from λj a8=>by rw[<-W];exact(X.o j a8).row a T);have H:=Aa (Mk.past_any e.1 e.2 (k a) l wr (x.o wr C.o.kp) (by have:=P.o a;omega));have Y:=Aa (Pb k a l);have au:=Aa (NQ k a l P.o);obtain⟨d,G⟩:∃d,k a=d:=⟨_,rfl⟩;have ad:=Aa (az.o a);have am:=P.o a;rw[G]at ad H x Y am;have an:=Mk.pastN_le d l;obtain⟨len,hlen⟩:∃len,d.length=len:=⟨_,rfl⟩;obtain⟨p,U⟩:∃p,Mk.pastN d l=p:=⟨_,rfl⟩;have ae:=Aa (show EG d l=((len-p:Nat):Int)::C6 (d.drop p) by unfold EG;rw[U,hlen]);rw[U]at H an;rw[hlen]at an am;have z:=Aa hlen;obtain⟨o,M⟩:∃o:Nat,len-p=o:=⟨_,rfl⟩;have bq:(len:Int)-(p:Int)=(o:Int):=by omega
   have bt:IntKind.i64.wrap ((len:Int)-(p:Int))=(o:Int):=by rw[ic];omega
   rw[M]at ae;clear G hlen U W T O;go_wp2_with fail
   refine H.o.mono ?_;rintro q a1 ⟨rfl,aj⟩;have Q:=Aa (C.o.still aj);clear aj a6 c5 H;go_wp2_with (go_at_call 187;refine(Mk.rowLen_int e.1 e.2 d len _ (x.o _ Q.o.kp) (by rw[z.o])).mono ?_;rintro q j ⟨rfl,u⟩;rw[u];clear u j)
   have bl:(bs++Ae (D7 k a l)).length<=140737488320000:=by
    have ag:=Cp (D7 k a l);have a7:=au.o;rw[hY];omega
   refine(CJ b v _ o w a1 Q.o (by omega) (by omega) (by omega)).mono ?_;rintro q bd ⟨rfl,ap⟩;have ax:=Aa ap;clear ap Q C;go_wp2_with fail
   go_loopw [9] (λh wr=>∃(i:Nat),h=.int .i64 ((p+i:Nat):Int)/\i<=o/\Hid (aJ w b v (bs++Ae (D7 k a l)++enc o++Ae (C6 ((d.drop p).take i))) wr)) (λh _=>len-(intOf h).toNat)
   case atStart=>exact⟨0,rfl,iM _,by show aJ _ _ _ _ _;simp only[jM,C6,kC,Dm,iz];exact ax.o⟩
   case round =>
    obtain⟨i,rfl,ah,D⟩:=hrel;obtain⟨n,J⟩:∃n,p+i=n:=⟨_,rfl⟩;rw[J];by_cases bi:i<o
    ·have V:n<len:=by omega
     have bp:(n:Int)<(len:Int):=by omega
     have L:n<d.length:=by rw[z.o];exact V
     obtain⟨t,N⟩:∃t,Ad d n=t:=⟨_,rfl⟩;have af:=Aa N;have aw:=Aa (UQ d p i t (by rw[J];exact L) (by rw[J];exact N));obtain⟨b0,b1,b2,b3⟩:=ad.o t (by rw[<-N];exact Z8 L);have ab:=Aa L;have bm:(bs++Ae (D7 k a l)++enc o++Ae (C6 ((d.drop p).take i))).length<=140737488330000:=by
      have ag:=Cp (C6 ((d.drop p).take i));have a7:=Dk o;rw[Nc,iD,iQ,z.o]at ag;rw[hY,hY];omega
     clear N L
     go_wp2_with (first
        | (go_at_call 187;refine(Mk.rowLen_int e.1 e.2 d len _ (x.o _ D.o.kp) (by rw[z.o])).mono ?_;rintro q j ⟨rfl,u⟩;rw[u];clear u j)
        | (go_at_call 188;fail))
     refine(Mk.rowAt_is e.1 e.2 d n t _ (x.o _ D.o.kp) ab.o af.o).mono ?_;rintro q a2 ⟨rfl,ak⟩;have Z:=Aa (D.o.still ak);clear ak;go_wp2_with fail
     refine(CJ b v _ t.sz w a2 Z.o (by omega) (by omega) (by omega)).mono ?_;rintro q be ⟨rfl,aq⟩;have R:=Aa aq;clear aq Z;go_wp2_with fail
     refine(Mk.rowAt_is e.1 e.2 d n t _ (x.o _ R.o.kp) ab.o af.o).mono ?_;rintro q a3 ⟨rfl,al⟩;have aa:=Aa (R.o.still al);clear al R;go_wp2_with fail
     refine(CJ b v _ t.t w a3 aa.o (by omega) (by omega) (by have:=Dk t.sz;rw[hY];omega)).mono ?_;rintro q bf ⟨rfl,ar⟩;have ay:=Aa ar;clear ar aa;go_wp2;go_roundw;case rel =>
      refine⟨i+1,by go_num,by omega,?_⟩;show aJ _ _ _ _ _;have:=ay.o;rw[aw.o,By,BN,Ei];simp only[List.append_assoc]at this ⊢;exact this
     case measure=>simp[intOf];omega
    have bh:i=o:=by omega
    have V:n=len:=by omega
    clear J;subst V;have E:decide ((n:Int)<(n:Int))=false:=by simp
    go_wp2_with (go_at_call 187;refine(Mk.rowLen_int e.1 e.2 d n _ (x.o _ D.o.kp) (by rw[z.o])).mono ?_;rintro q j ⟨rfl,u⟩;rw[u];clear u j)
    go_roundw;case rel =>
     refine⟨a+1,by go_num,by omega,?_⟩;show aJ _ _ _ _ _;have:=D.o;rw[Y.o,ae.o,By,BN];rw[iq (by rw[iQ,z.o];omega)]at this;simp only[List.append_assoc]at this ⊢;exact this
    case measure=>simp[intOf];omega
  have a9:a=r:=by omega
  subst a9;go_wp2;go_end0;exact⟨rfl,C.o⟩
end
section
attribute [local go_sem ↓] Pa.execOp_loadP Pa.execOp_storeP Hp Hn Hm JE
attribute [local go_sem] Pa.run_loadP H8 H5 Hu Eh A5 A6 JV IW
def CI(wd:Nat)(cs:List Int)(r:Nat): List Int:=(List.range wd).map λj=>cs.getD (r*16+j) 0
def Ek(rs wd:Nat)(cs:List Int): List Int:=(List.range rs).flatMap (CI wd cs)
def FS(c:Cfg)(p:Pa.Pn): List Int:=p.no::Ek c.rows.toNat c.width.toNat p.cs
def Cj(c:Cfg)(l:List Pa.Pn): List Int:=l.flatMap (FS c)
def Hi(c:Cfg)(o:Pa.Pn)(cl:List Pa.Pn)(t:Int): List Int:=((A4 c o cl t).length:Int)::Cj c (A4 c o cl t)
theorem Kj(c:Nat)(cs:List Int)(a:Nat): CI (c+1) cs a=CI c cs a++[cs.getD (a*16+c) 0]:=by simp[CI,j6]
theorem Oh(a c:Nat)(cs:List Int): Ek (a+1) c cs=Ek a c cs++CI c cs a:=by simp[Ek,j6]
theorem NL(a:Nat)(cs:List Int)(c:Nat): (CI a cs c).length=a:=by simp[CI]
theorem Nt(a c:Nat)(cs:List Int): (Ek a c cs).length=a*c:=by
 induction a with
 | zero=>simp[Ek]
 | succ e d=>rw[Oh,hY,NL,d,Nat.succ_mul]
theorem Sw(c:Cfg)(a b:List Pa.Pn): Cj c (a++b)=Cj c a++Cj c b:=by simp[Cj]
theorem Tb(c:Cfg)(p:Pa.Pn)(d:c.rows.toNat<=3)(a:c.width.toNat<=16): (FS c p).length<=49:=by
 unfold FS;rw[iA,Nt];have:=Nat.mul_le_mul d a;omega
theorem Np(c:Cfg)(l:List Pa.Pn)(e:c.rows.toNat<=3)(d:c.width.toNat<=16): (Cj c l).length<=49*l.length:=by
 induction l with
 | nil=>simp[Cj]
 | cons p l i =>
  have h:=Tb c p e d;have a:Cj c (p::l)=FS c p++Cj c l:=by simp[Cj]
  rw[a,hY,iA];omega
theorem Um(c:Cfg)(a:List Pa.Pn)(k:Nat)(d:k<a.length): Cj c (a.take (k+1))=Cj c (a.take k)++FS c (Pa.pnAt a k):=by
 rw[je d,Sw];congr 1;simp[Cj,Pa.pnAt,List.getD_eq_getElem?_getD,hX d]
theorem T8(l J:Nat)(bi:Option Nat)(c:Cfg)(o:Pa.Pn)(cl:List Pa.Pn)(b:Nat)(v:Value)(bs:List Nat)(m:Int)(w:World)(i:cP w l J bi c o cl)(bd:bR w b v bs)(a4:¬AF b v l)(O:c.paned)(a6:cl.length<=1000)(ae:∀p∈cl,CC c p)(ab:CC c o)(a2:∀a∈o.cs,0<=a/\a<=4611686018427387904)(a7:∀p∈cl,∀a∈p.cs,0<=a/\a<=4611686018427387904)(cx:0<=c.rows)(cy:c.rows<=3)(db:0<=c.width)(dc:c.width<=16)(d7:-100<=m)(d8:m<=4611686018427387904)(di:bs.length<=140737480000000):
  Calls prog 150 #[.pointer (some ⟨l,0,none⟩),.pointer (some ⟨b,0,none⟩),.int .i64 m] w λG u=>G=.returned (.tuple #[])/\aJ w b v (bs++Ae (Hi c o cl (m-c.aB))) u:=by
 have c5:w.cell? ⟨l,5,none⟩=some (.int .i64 c.aB):=i.aF.cell (by rw[Cd c o J 5 (by omega)];rfl);have c7:w.cell? ⟨l,7,none⟩=some (.int .i64 c.rows):=i.aF.cell (by rw[Cd c o J 7 (by omega)];rfl);have c8:w.cell? ⟨l,8,none⟩=some (.int .i64 c.width):=i.aF.cell (by rw[Cd c o J 8 (by omega)];rfl);have a3:=i.aF.lt;have d4:=O.w0;have d5:=O.w1;obtain⟨t,ba⟩:∃t,m-c.aB=t:=⟨_,rfl⟩;have cs:IntKind.i64.wrap (m-c.aB)=t:=by rw[ic];omega
 rw[ba];have aq:=Aa (Pw l J bi c o cl t w i O a6 ae ab);have b5:=Aa (show Hi c o cl t=((A4 c o cl t).length:Int)::Cj c (A4 c o cl t) from rfl)
 have b4:=Aa (show(A4 c o cl t).length<=1001 by
    unfold A4;rw[hY,iQ]
    split <;> simp <;> omega)
 have bv:=Aa (show ∀p∈A4 c o cl t,CC c p/\∀a∈p.cs,0<=a/\a<=4611686018427387904 from λp a9=>by
    unfold A4 at a9;rcases ig.1 a9 with q | q
    ·exact⟨ae p (iB q),a7 p (iB q)⟩
    split at q
    ·rw[ij]at q;rw[q];exact⟨ab,a2⟩
    cases q)
 generalize A4 c o cl t=k at *
 have av:=Aa bd;have R:=Aa a4;obtain⟨r,af⟩:∃r:Nat,c.rows=r:=⟨c.rows.toNat,by omega⟩;obtain⟨j,ag⟩:∃j:Nat,c.width=j:=⟨c.width.toNat,by omega⟩;have b3:=Aa (show ∀p,FS c p=p.no::Ek r j p.cs from λp=>by unfold FS;rw[af,ag];rfl);have ar:=Aa (show c.rows.toNat<=3/\c.width.toNat<=16 by omega);rw[af]at c7 cy;rw[ag]at c8 dc;clear O ae ab a2 a7 i a6 bd a4 ba af ag cx db;have d3:r<=3:=by omega
 have cu:j<=16:=by omega
 go_enter func150,ntmps150;go_wp2_with fail
 refine aq.o.mono ?_;rintro G A ⟨d9,rfl,ad,C⟩;obtain⟨ea,da,ct,bb⟩:=Dy ad;subst ct;have bx:=Aa av.o.lt;have aw:=Aa (aJ.refl (av.o.still C));have bu:=Aa C;have b2:=Aa ad;have b7:=Aa bb;have az:A.cell? ⟨l,7,none⟩=some (.int .i64 r):=C.cell c7 id;have a0:A.cell? ⟨l,8,none⟩=some (.int .i64 j):=C.cell c8 id;have cf:l<A.heap.size:=kG a3 C.size;have br:=Aa az;have bt:=Aa a0;clear C aq ad bb c5 c7 c8 az a0 a3 cs;generalize a8:k.length=s at *
 have T:=Aa a8;clear a8;have dw:s<=1001:=b4.o;go_wp2_with fail
 refine(CJ b v bs s A A aw.o (by omega) (by omega) (by omega)).mono ?_;rintro G x ⟨rfl,be⟩;have ao:=Aa be;clear be aw;have cm:(bs++enc (s:Int)).length<=140737480000010:=by have:=Dk (s:Int);rw[hY];omega
 obtain⟨F,Y⟩:∃F,bs++enc (s:Int)=F:=⟨_,rfl⟩;rw[Y]at cm ao;have bl:=Aa Y;clear Y;go_wp2_with fail
 go_loopw [26] (λn wr=>∃e:Nat,n=.int .i64 e/\e<=s/\Hid (aJ A b v (F++Ae (Cj c (k.take e))) wr)) (λn _=>s-(intOf n).toNat)
 case atStart=>exact⟨0,rfl,iM _,by show aJ _ _ _ _ _;simp only[jM,Cj,kC,Dm,iz];exact ao.o⟩
 case round =>
  obtain⟨e,rfl,du,U⟩:=hrel;have dt:(0:Int)<=(e:Int):=by omega
  by_cases cn:e<s
  ·obtain⟨g,ch,dl⟩:=b7.o (by omega);subst ch;have I:e<k.length:=by rw[T.o];exact cn
   obtain⟨z,Q,bc,aa⟩:=U.o
   have aj:=Aa (show Pa.aY wr g da k from by
      refine Pa.brow_of_owns T.o (Pv (F4 b2.o aa (λn ci i=>?_)));have:g=n:=by simpa[Value.ownBlock] using ci
      have:=bx.o n i
      omega)
   have P:=Dv (aj.o.range e I);rw[Pa.Pn.aE]at P;have cd:Ao wr g (e*49) 49=.agg (Pa.pnAt k e).cells.toArray:=by unfold Ao;rw[P.1]
   have cc:Ay wr g (e*49) 49=true:=P.2;have b6:=Aa (Um c k e I)
   have S:=Aa (bv.o (Pa.pnAt k e) (by
        have:Pa.pnAt k e=k[e]:=by simp[Pa.pnAt,List.getD_eq_getElem?_getD,hX I]
        rw[this];exact jc I))
   have al:=Aa (show(F++Ae (Cj c (k.take e))).length<=140737481000000 by
      have q:=Cp (Cj c (k.take e));have a1:=Np c (k.take e) ar.o.1 ar.o.2;rw[iD]at a1;rw[hY]
      omega)
   obtain⟨D,X⟩:∃D,F++Ae (Cj c (k.take e))=D:=⟨_,rfl⟩;rw[X]at al Q;have bn:=Aa X;have ax:=Aa Q;have au:=Aa bc;have L:=Aa aa;have am:=Aa Q.lt;clear P I X Q bc aa U;generalize Pa.pnAt k e=a at *
   obtain⟨x,cr,W,H⟩:=Mm a wr;have bm:=Aa W;have d6:=a.len;have ak:=Aa H;have b8:=Aa (ax.o.still H);have bz:=Aa (show ¬AF b z wr.heap.size from λcg=>by have:=am.o _ cg;omega);have an:=Aa (GB R.o au.o cf);have dm:(e:Int)<(s:Int):=by omega
   have co:=W.c0;have bp:=Aa (show ∀u,aA (AF b z) x u->u.cell? ⟨l,7,none⟩=some (.int .i64 r) from λu Z=>Z.cell (H.cell (L.o.cell br.o R.o) id) an.o);have bq:=Aa (show ∀u,aA (AF b z) x u->u.cell? ⟨l,8,none⟩=some (.int .i64 j) from λu Z=>Z.cell (H.cell (L.o.cell bt.o R.o) id) an.o);have cp:=S.o.1.1;have dx:=S.o.1.2.1;have b9:=Aa S.o.2;have dh:=al.o;clear W H;go_wp2_with fail
   refine(FE b z D a.no x b8.o cp (by omega) (by omega)).mono ?_;rintro G ay ⟨rfl,bf⟩;have ap:=Aa bf;clear bf co cd cc cr;have ca:ay.cell? ⟨l,7,none⟩=some (.int .i64 r):=bp.o ay ap.o.kp;go_wp2_with fail
   clear ca;generalize cw:wr.heap.size=de at *
   obtain⟨bj,bh⟩:∃bj,bj=wr:=⟨_,rfl⟩;rw[<-bh]at ak L aj;clear bh cw ax am;go_loopw [39] (λn wr=>∃d:Nat,n=.int .i64 d/\d<=r/\Hid (aJ x b z (D++enc a.no++Ae (Ek d j a.cs)) wr)) (λn _=>r-(intOf n).toNat)
   case atStart=>exact⟨0,rfl,iM _,by show aJ _ _ _ _ _;simp only[Ek,List.range_zero,kC,Dm,iz];exact ap.o⟩
   case round =>
    obtain⟨d,rfl,dz,M⟩:=hrel;have dy:(0:Int)<=(d:Int):=by omega
    by_cases d2:d<r
    ·have d1:(d:Int)<(r:Int):=by omega
     have d0:(d:Int)<3:=by omega
     have cb:wr.cell? ⟨l,8,none⟩=some (.int .i64 j):=bq.o wr M.o.kp;obtain⟨E,N⟩:∃E,D++enc a.no++Ae (Ek d j a.cs)=E:=⟨_,rfl⟩;have dj:E.length<=140737481001000:=by
      have q:=Cp (Ek d j a.cs);have a1:=Dk a.no;rw[Nt]at q;have:=Nat.mul_le_mul (show d<=3 by omega) cu;rw[<-N,hY,hY];omega
     rw[N]at M;have bo:=Aa N;clear N;go_wp2_with fail
     clear cb;obtain⟨bk,cv⟩:∃bk,bk=wr:=⟨_,rfl⟩;clear cv;go_loopw [47] (λn wr=>∃h:Nat,n=.int .i64 h/\h<=j/\Hid (aJ x b z (E++Ae (CI h a.cs d)) wr)) (λn _=>j-(intOf n).toNat)
     case atStart=>exact⟨0,rfl,iM _,by show aJ _ _ _ _ _;simp only[CI,List.range_zero,kh,Dm,iz];exact M.o⟩
     case round =>
      obtain⟨h,rfl,dq,V⟩:=hrel;have dn:(0:Int)<=(h:Int):=by omega
      by_cases ds:h<j
      ·have dr:(h:Int)<(j:Int):=by omega
       have dp:(h:Int)<16:=by omega
       have a5:d*16+h<a.cs.length:=by omega
       obtain⟨y,ah⟩:∃y,a.cs.getD (d*16+h) 0=y:=⟨_,rfl⟩;have ai:a.cs[d*16+h]?=some y:=by rw[<-ah,List.getD_eq_getElem?_getD,hX a5];rfl
       obtain⟨df,eb⟩:=b9.o y (iu ai)
       have ce:wr.cell? ⟨de,1+d*16+h,none⟩=some (.int .i64 y):=V.o.kp.cell (bm.o.cell (by
            unfold Pa.Pn.cells;rw[show 1+d*16+h=(d*16+h)+1 by omega,kR,iP,ai]
            rfl)) bz.o
       have b0:=Aa (show CI (h+1) a.cs d=CI h a.cs d++[y] by rw[Kj,ah]);have dk:(E++Ae (CI h a.cs d)).length<=140737481002000:=by
        have q:=Cp (CI h a.cs d);rw[NL]at q;rw[hY];omega
       clear ah ai a5;go_wp2_with fail
       refine(CJ b z _ y x wr V.o df (by omega) (by omega)).mono ?_;rintro G dg ⟨rfl,bg⟩;have b1:=Aa bg;clear bg ce;go_wp2;go_roundw;case rel =>
        refine⟨h+1,by go_num,by omega,?_⟩;show aJ _ _ _ _ _;have:=b1.o;rw[b0.o,By,Ei];simp only[List.append_assoc]at this ⊢;exact this
       case measure=>simp[intOf];omega
      have cj:h=j:=by omega
      subst cj;go_wp2;go_roundw;case rel =>
       refine⟨d+1,by go_num,by omega,?_⟩;show aJ _ _ _ _ _;have:=V.o;rw[<-bo.o]at this;rw[Oh,By];simp only[List.append_assoc]at this ⊢;exact this
      case measure=>simp[intOf];omega
    have cq:d=r:=by omega
    subst cq;go_wp2;go_roundw;case rel =>
     refine⟨e+1,by go_num,by omega,?_⟩;show aJ _ _ _ _ _;have B:=aJ.then au.o L.o (aJ.pre ak.o M.o);rw[b6.o,By,b3.o,BN];rw[<-bn.o]at B;simp only[List.append_assoc]at B ⊢;exact B
    case measure=>simp[intOf];omega
  have ck:e=s:=by omega
  subst ck;go_wp2;go_end0;refine⟨rfl,aJ.pre bu.o ?_⟩;have B:=U.o;rw[iq (by rw[T.o];omega),<-bl.o]at B;rw[b5.o,BN,<-List.append_assoc];exact B
end
section
theorem FK(i:Nat)(a:i<256): Lib.len8 (i:Int)=(bitLen i:Int):=by
 have:∀i:Fin 256,Lib.len8 ((i.val:Nat):Int)=(bitLen i.val:Int):=by decide +kernel
 exact this ⟨i,a⟩
theorem Gq(i:Nat)(a:i<256): 0<=Lib.len8 (i:Int)/\Lib.len8 (i:Int)<=8:=by
 rw[FK i a];have:=bitLen_le8 i a;omega
theorem WY(x:Nat)(w:World)(H:x<9223372036854775808):
  Calls prog 217 #[.int .u64 x] w λz D=>z=.returned (.int .i64 (bitLen x))/\D=w:=by
 by_cases G:4294967296<=x
 ·have v:decide ((4294967296:Int)<=(x:Int))=true:=by simp;omega
  have n:=lh x 32 (by omega);obtain⟨y,C⟩:∃y,x/4294967296=y:=⟨_,rfl⟩;have F:(x:Int)/4294967296=(y:Int):=by omega
  rw[show x/2 ^ 32=y from C]at n;have E:y<2147483648:=by omega
  by_cases B:65536<=y
  ·have q:decide ((65536:Int)<=(y:Int))=true:=by simp;omega
   have l:=lh y 16 (by omega);obtain⟨c,t⟩:∃c,y/65536=c:=⟨_,rfl⟩;have A:(y:Int)/65536=(c:Int):=by omega
   rw[show y/2 ^ 16=c from t]at l;have u:c<32768:=by omega
   by_cases s:256<=c
   ·have h:decide ((256:Int)<=(c:Int))=true:=by simp;omega
    have e:=lh c 8 (by omega);obtain⟨a,i⟩:∃a,c/256=a:=⟨_,rfl⟩;have r:(c:Int)/256=(a:Int):=by omega
    rw[show c/2 ^ 8=a from i]at e;have o:a<128:=by omega
    have u0:(0:Int)<=(a:Int):=by omega
    have u1:(a:Int)<=255:=by omega
    have m:IntKind.u8.wrap (a:Int)=(a:Int):=by rw[kj];omega
    obtain⟨j,k⟩:=Gq a (by omega);have d:=Aa (show(bitLen x:Int)=56+Lib.len8 (a:Int) by rw[n,l,e,FK a (by omega)];omega);go_enter func217,ntmps217;go_wp2;go_ret;exact⟨A9 (by rw[d.o];try omega),rfl⟩
   have h:decide ((256:Int)<=(c:Int))=false:=by simp;omega
   have u0:(0:Int)<=(c:Int):=by omega
   have u1:(c:Int)<=255:=by omega
   have m:IntKind.u8.wrap (c:Int)=(c:Int):=by rw[kj];omega
   obtain⟨j,k⟩:=Gq c (by omega);have d:=Aa (show(bitLen x:Int)=48+Lib.len8 (c:Int) by rw[n,l,FK c (by omega)];omega);go_enter func217,ntmps217;go_wp2;go_ret;exact⟨A9 (by rw[d.o];try omega),rfl⟩
  have q:decide ((65536:Int)<=(y:Int))=false:=by simp;omega
  by_cases s:256<=y
  ·have h:decide ((256:Int)<=(y:Int))=true:=by simp;omega
   have e:=lh y 8 (by omega);obtain⟨a,i⟩:∃a,y/256=a:=⟨_,rfl⟩;have r:(y:Int)/256=(a:Int):=by omega
   rw[show y/2 ^ 8=a from i]at e;have o:a<18446744073709551616:=by omega
   have u0:(0:Int)<=(a:Int):=by omega
   have u1:(a:Int)<=255:=by omega
   have m:IntKind.u8.wrap (a:Int)=(a:Int):=by rw[kj];omega
   obtain⟨j,k⟩:=Gq a (by omega);have d:=Aa (show(bitLen x:Int)=40+Lib.len8 (a:Int) by rw[n,e,FK a (by omega)];omega);go_enter func217,ntmps217;go_wp2;go_ret;exact⟨A9 (by rw[d.o];try omega),rfl⟩
  have h:decide ((256:Int)<=(y:Int))=false:=by simp;omega
  have u0:(0:Int)<=(y:Int):=by omega
  have u1:(y:Int)<=255:=by omega
  have m:IntKind.u8.wrap (y:Int)=(y:Int):=by rw[kj];omega
  obtain⟨j,k⟩:=Gq y (by omega);have d:=Aa (show(bitLen x:Int)=32+Lib.len8 (y:Int) by rw[n,FK y (by omega)];omega);go_enter func217,ntmps217;go_wp2;go_ret;exact⟨A9 (by rw[d.o];try omega),rfl⟩
 have v:decide ((4294967296:Int)<=(x:Int))=false:=by simp;omega
 by_cases B:65536<=x
 ·have q:decide ((65536:Int)<=(x:Int))=true:=by simp;omega
  have l:=lh x 16 (by omega);obtain⟨c,t⟩:∃c,x/65536=c:=⟨_,rfl⟩;have A:(x:Int)/65536=(c:Int):=by omega
  rw[show x/2 ^ 16=c from t]at l;have u:c<18446744073709551616:=by omega
  by_cases s:256<=c
  ·have h:decide ((256:Int)<=(c:Int))=true:=by simp;omega
   have e:=lh c 8 (by omega);obtain⟨a,i⟩:∃a,c/256=a:=⟨_,rfl⟩;have r:(c:Int)/256=(a:Int):=by omega
   rw[show c/2 ^ 8=a from i]at e;have o:a<18446744073709551616:=by omega
   have u0:(0:Int)<=(a:Int):=by omega
   have u1:(a:Int)<=255:=by omega
   have m:IntKind.u8.wrap (a:Int)=(a:Int):=by rw[kj];omega
   obtain⟨j,k⟩:=Gq a (by omega);have d:=Aa (show(bitLen x:Int)=24+Lib.len8 (a:Int) by rw[l,e,FK a (by omega)];omega);go_enter func217,ntmps217;go_wp2;go_ret;exact⟨A9 (by rw[d.o];try omega),rfl⟩
  have h:decide ((256:Int)<=(c:Int))=false:=by simp;omega
  have u0:(0:Int)<=(c:Int):=by omega
  have u1:(c:Int)<=255:=by omega
  have m:IntKind.u8.wrap (c:Int)=(c:Int):=by rw[kj];omega
  obtain⟨j,k⟩:=Gq c (by omega);have d:=Aa (show(bitLen x:Int)=16+Lib.len8 (c:Int) by rw[l,FK c (by omega)];omega);go_enter func217,ntmps217;go_wp2;go_ret;exact⟨A9 (by rw[d.o];try omega),rfl⟩
 have q:decide ((65536:Int)<=(x:Int))=false:=by simp;omega
 by_cases s:256<=x
 ·have h:decide ((256:Int)<=(x:Int))=true:=by simp;omega
  have e:=lh x 8 (by omega);obtain⟨a,i⟩:∃a,x/256=a:=⟨_,rfl⟩;have r:(x:Int)/256=(a:Int):=by omega
  rw[show x/2 ^ 8=a from i]at e;have o:a<18446744073709551616:=by omega
  have u0:(0:Int)<=(a:Int):=by omega
  have u1:(a:Int)<=255:=by omega
  have m:IntKind.u8.wrap (a:Int)=(a:Int):=by rw[kj];omega
  obtain⟨j,k⟩:=Gq a (by omega);have d:=Aa (show(bitLen x:Int)=8+Lib.len8 (a:Int) by rw[e,FK a (by omega)];omega);go_enter func217,ntmps217;go_wp2;go_ret;exact⟨A9 (by rw[d.o];try omega),rfl⟩
 have h:decide ((256:Int)<=(x:Int))=false:=by simp;omega
 have u0:(0:Int)<=(x:Int):=by omega
 have u1:(x:Int)<=255:=by omega
 have m:IntKind.u8.wrap (x:Int)=(x:Int):=by rw[kj];omega
 obtain⟨j,k⟩:=Gq x (by omega);have d:=Aa (show(bitLen x:Int)=0+Lib.len8 (x:Int) by rw[FK x (by omega)];omega);go_enter func217,ntmps217;go_wp2;go_ret;exact⟨A9 (by rw[d.o];try omega),rfl⟩
theorem UF(x:Nat)(w:World)(e:x<9223372036854775808):
  Calls prog 177 #[.int .u64 x] w λa c=>a=.returned (.int .i64 (bitLen x))/\c=w:=by
 have d:=Aa (WY x w e);go_enter func177,ntmps177;go_wp2_with fail
 refine d.o.mono ?_;rintro a c ⟨rfl,rfl⟩;go_wp2;go_ret;exact⟨rfl,rfl⟩
theorem VO(j:Nat): bitLen (2 ^ j)=j+1:=by
 have a:(2:Nat) ^ j≠0:=Nat.ne_of_gt (lz j);unfold bitLen;rw[hZ a,Nat.log2_two_pow]
def QA(v:Value): Sem Next:=do pure (.value (<-Instr.field 207 v 1))
theorem Sc(ρ:Operand->Value)(dst:Option Tmp)(x:Operand)(a:TypeId)(pos:String)(after:Array Edge)(guard:Option (Nat×Bool)):
  execOp ρ { dst,op:=.field 207 x 1,type:=a,pos,after,guard }=QA (ρ x):=rfl
theorem TZ(a b:Value)(w:World): (QA (.agg #[a,b])).run prog w=.ok (.value b) w:=by kernel_rfl
attribute [local go_sem ↓] Lc Sc
attribute [local go_sem] Ln TZ
def C9(l:List Bk)(sz:Int)(s:Nat): Nat:=s+((l.drop s).takeWhile (λb=>decide (b.sz=sz))).length
theorem Q2(l:List Bk)(a:Int)(s:Nat)(c:s<=l.length): s<=C9 l a s/\C9 l a s<=l.length:=by
 unfold C9;have:=(lB (l:=l.drop s) (λb=>decide (b.sz=a))).length_le;rw[iQ]at this;omega
theorem Ow(l:List Bk)(i:Nat)(a:i<l.length): l.drop i=Ad l i::l.drop (i+1):=by
 rw[List.drop_eq_getElem_cons a];simp[Ad,List.getD_eq_getElem?_getD,hX a]
theorem Zl(l:List Bk)(a:Int)(s:Nat)(c:s<l.length)(d:(Ad l s).sz=a): C9 l a s=C9 l a (s+1):=by
 unfold C9;rw[Ow l s c,List.takeWhile_cons_of_pos (by simpa using d),iA];omega
theorem zMh(l:List Bk)(a:Int)(s:Nat)(c:s<l.length)(d:(Ad l s).sz≠a): C9 l a s=s:=by
 unfold C9;rw[Ow l s c,List.takeWhile_cons_of_neg (by simpa using d)];rfl
theorem YR(l:List Bk)(a:Int): C9 l a l.length=l.length:=by
 unfold C9;rw[kE];rfl
theorem Wo(v h:Nat)(z:Option Nat)(c:Cfg)(l:List Bk)(d:Int)(s:Nat)(w:World)(F:bU w v h z c l)(N:l.length<=4398046511104)(H:s<=l.length):
  Calls prog 179 #[.pointer (some ⟨v,0,none⟩),.int .i64 d,.int .i64 s] w λh A=>h=.returned (.int .i64 (C9 l d s))/\lO w A:=by
 have J:=Aa F;clear F;obtain⟨e,x⟩:∃e,l.length=e:=⟨_,rfl⟩;rw[x]at N H;have t:=Aa x;clear x;go_enter func179,ntmps179;go_wp2;go_loopw [7] (λi wr=>∃a:Nat,i=.int .i64 a/\a<=e/\Hid (lO w wr)/\Hid (C9 l d s=C9 l d a)) (λi _=>e-(intOf i).toNat)
 case atStart=>exact⟨s,rfl,H,aA.refl _ _,rfl⟩
 case round =>
  obtain⟨a,rfl,R,r,q⟩:=hrel;have o:=Aa (J.o.still r.o);have Q:wr.cell? ⟨v,20,none⟩=some (.pointer (some ⟨h,0,none⟩)):=o.o.aF.cell rfl
  have E:=Aa (show Calls prog 176 #[.pointer (some ⟨h,0,none⟩)] wr λm A=>m=.returned (.int .i64 e)/\A=wr by
     have:=rowLen_any h z l wr o.o.row;rw[t.o]at this
     exact this)
  by_cases O:a<e
  ·have n:a<l.length:=by rw[t.o];exact O
   have S:(a:Int)<(e:Int):=by omega
   have C:=Aa (FF h z l a wr o.o.row n);have L:=Aa (Zl l d a n);have I:=Aa (zMh l d a n);clear n;generalize Ad l a=i at *
   unfold Bk.val at C;go_wp2_with fail
   refine E.o.mono ?_;rintro m B ⟨rfl,k⟩;rw[k];clear k B;go_wp2_with fail
   refine C.o.mono ?_;rintro m T ⟨rfl,G⟩;have D:=Aa (r.o.then G);clear G;by_cases j:i.sz=d
   ·have P:(i.sz==d)=true:=by simpa using j
    have u:=Aa j;clear j;go_wp2;go_roundw;case rel=>exact⟨a+1,by go_num,by omega,D,by show _=_;rw[q.o,L.o u.o]⟩
    case measure=>simp[intOf];omega
   have P:(i.sz==d)=false:=by simpa using j
   have u:=Aa j;clear j;go_wp2;go_ret;exact⟨by rw[q.o,I.o u.o];rfl,D.o⟩
  have M:a=e:=by omega
  subst M;go_wp2_with fail
  refine E.o.mono ?_;rintro m B ⟨rfl,k⟩;rw[k];clear k B;go_wp2;go_ret;refine⟨?_,r.o⟩;rw[q.o,<-t.o,YR];rfl
def EH(l:List Bk): Nat->Nat->List Int
 | 0,_=>[]
 | f+1,s=>((C9 l (2 ^ f) s-s:Nat):Int)::(((l.drop s).take (C9 l (2 ^ f) s-s)).map (·.t)++EH l f (C9 l (2 ^ f) s))
def DY(l:List Bk): Nat:=if l.length=0 then 0 else bitLen (Ad l 0).sz.toNat
def FU(l:List Bk): List Int:=(DY l:Int)::EH l (DY l) 0
theorem VJ(l:List Bk)(s j:Nat)(x:Bk)(a:s+j<l.length)(d:Ad l (s+j)=x): ((l.drop s).take (j+1)).map (·.t)=((l.drop s).take j).map (·.t)++[x.t]:=by
 have c:j<(l.drop s).length:=by rw[iQ];omega
 rw[jg,iy,hX c];subst d;simp[Ad,List.getD_eq_getElem?_getD,hX a]
theorem Ms(l:List Bk)(f s:Nat): EH l (f+1) s=((C9 l (2 ^ f) s-s:Nat):Int)::(((l.drop s).take (C9 l (2 ^ f) s-s)).map (·.t)++EH l f (C9 l (2 ^ f) s)):=rfl
theorem Tx(s n:Nat)(A:Option Nat)(c:Cfg)(l:List Bk)(b:Nat)(v:Value)(bs:List Nat)(m:Int)(w:World)(V:bU w s n A c l)(au:bR w b v bs)(F:∀Q,AF b v Q->Q≠s/\Q≠n/\A≠some Q)(bo:l.length<=1000000000000)(Z:∀a∈l,1<=a.sz/\a.sz<4611686018427387904)(ar:∀a∈l,0<=a.t/\a.t<=9223372036854775807)(bi:bs.length+10*l.length<=140737488350000):
  Calls prog 137 #[.pointer (some ⟨s,0,none⟩),.pointer (some ⟨b,0,none⟩),.int .i64 m] w λe h=>e=.returned (.tuple #[])/\aJ w b v (bs++Ae (FU l)) h:=by
 have D:=Aa (show ∀h,aA (AF b v) w h->bU h s n A c l from λh r=>V.keeps r (λG=>(F s G).1 rfl) (λG=>(F n G).2.1 rfl) (λg bl G=>(F g G).2.2 bl));have bk:w.cell? ⟨s,20,none⟩=some (.pointer (some ⟨n,0,none⟩)):=V.aF.cell rfl;obtain⟨k,N⟩:∃k,l.length=k:=⟨_,rfl⟩
 have ab:=Aa (show ∀h,aA (AF b v) w h->Calls prog 176 #[.pointer (some ⟨n,0,none⟩)] h λe t=>e=.returned (.int .i64 k)/\t=h from λh r=>by
    have:=rowLen_any n A l h (D.o h r).row;rw[N]at this
    exact this)
 have ag:=Aa (aJ.refl au);have bb:=Aa ar
 have ba:=Aa (show DY l<=62 by
    unfold DY;split
    ·omega
    rename_i ai;have bh:=Z (Ad l 0) (EN (by omega));have P:=bitLen_spec (Ad l 0).sz.toNat;have bd:=P.2 (by omega);rcases ku (bitLen (Ad l 0).sz.toNat-1) 62 with ak | ak
    ·omega
    have:=jk (show 1<=2 by omega) ak;have e:(2:Nat) ^ 62=4611686018427387904:=by decide
    omega)
 have af:=Aa (show FU l=(DY l:Int)::EH l (DY l) 0 from rfl)
 have a2:=Aa (show k≠0->∃a:Bk,Ad l 0=a/\0<=a.sz/\a.sz<4611686018427387904/\(DY l:Int)=(bitLen a.sz.toNat:Int)/\0<l.length from λai=>by
    have bh:=Z (Ad l 0) (EN (by omega))
    exact⟨_,rfl,by omega,by omega,by unfold DY;rw[hZ (by omega)],by omega⟩)
 have a3:=Aa (show k=0->DY l=0 from λai=>by unfold DY;rw[h9 (by omega)]);have B:=Aa N;rw[N]at bo bi;clear V au F Z ar N;generalize bf:DY l=j at *
 clear bf;have b3:j<=62:=ba.o;have a5:=Aa (show ∀h,aA (AF b v) w h->h.cell? ⟨s,20,none⟩=some (.pointer (some ⟨n,0,none⟩)) from λh r=>(D.o h r).aF.cell rfl);by_cases O:k=0
 ·have bg:=a3.o O;subst bg;subst O;go_enter func137,ntmps137;go_wp2_with fail
  refine(ab.o w (aA.refl _ _)).mono ?_;rintro e t ⟨rfl,u⟩;rw[u];clear u t;go_wp2_with fail
  refine(CJ b v bs 0 w w ag.o (by omega) (by omega) (by omega)).mono ?_;rintro e t ⟨rfl,u⟩;have I:=Aa u;clear u;go_wp2_with fail
  go_loopw [7,8] (λa y wr=>a=.int .i64 0/\y=.int .i64 (-1)/\Hid (aJ w b v (bs++enc 0) wr)) (λ_ _ _=>0)
  case atStart=>exact⟨rfl,rfl,I⟩
  case round =>
   obtain⟨rfl,rfl,a7⟩:=hrel;go_wp2;go_end0;refine⟨rfl,?_⟩;have:=a7.o;rw[af.o,BN];simpa[EH,Dm] using this
 obtain⟨a,z,a0,a1,W,aq⟩:=a2.o O;have q:=Aa (FF n A l 0 w (D.o w (aA.refl _ _)).row aq);rw[z]at q;unfold Bk.val at q;obtain⟨y,ax⟩:=jd a0;rw[ax]at a1 W q;have b2:IntKind.u64.wrap (y:Int)=(y:Int):=by rw[jC];omega
 have S:=Aa (UF y);rw[iH]at W;have al:bitLen y=j:=by omega
 rw[al]at S;have br:(0:Int)<(k:Int):=by omega
 have bt:0<k:=by omega
 clear z W al ax a0 O aq br;go_enter func137,ntmps137;go_wp2_with fail
 refine(ab.o w (aA.refl _ _)).mono ?_;rintro e t ⟨rfl,u⟩;rw[u];clear u t;go_wp2_with fail
 refine q.o.mono ?_;rintro e t ⟨rfl,an⟩;have ah:=Aa (ag.o.still an);clear an bk;go_wp2_with fail
 refine(S.o t (by omega)).mono ?_;rintro e az ⟨rfl,H⟩;rw[H];clear H az;go_wp2_with fail
 refine(CJ b v bs j w t ah.o (by omega) (by omega) (by omega)).mono ?_;rintro e az ⟨rfl,H⟩;have I:=Aa H;clear H ah;have cf:IntKind.i64.wrap ((j:Int)-1)=(j:Int)-1:=by rw[ic];omega
 have bp:(bs++enc (j:Int)).length+10*k<=140737488350010:=by have:=Dk (j:Int);rw[hY];omega
 obtain⟨C,X⟩:∃C,bs++enc (j:Int)=C:=⟨_,rfl⟩;rw[X]at bp I;have a4:=Aa X;clear X bt q S b2 a1;go_wp2_with fail
 go_loopw [7,8] (λa y wr=>∃(f d:Nat) (pre:List Int),a=.int .i64 d/\y=.int .i64 ((f:Int)-1)/\f<=j/\d<=k/\pre.length+f<=j+d/\Hid (EH l j 0=pre++EH l f d)/\Hid (aJ w b v (C++Ae pre) wr)) (λ_ y _=>(intOf y+1).toNat)
 case atStart=>exact⟨j,0,[],rfl,rfl,by omega,by omega,by simp,by show _=_;rfl,by show aJ _ _ _ _ _;rw[Dm,iz];exact I.o⟩
 case round =>
  obtain⟨f,d,pre,rfl,rfl,F,P,ce,aa,T⟩:=hrel;cases f with
  | zero =>
   go_wp2;go_end0;refine⟨rfl,?_⟩;have:=T.o;rw[af.o,BN,aa.o];simp only[EH,iz];rw[<-List.append_assoc,a4.o];exact this
  | succ f =>
   have bc:((f+1:Nat):Int)-1=(f:Int):=by omega
   rw[bc];have ay:=Gp f (by omega);obtain⟨E,be⟩:∃E,(2:Int) ^ f=E:=⟨_,rfl⟩;have R:=Aa (Wo s n A c l E d wr (D.o wr T.o.kp) (by rw[B.o];omega) (by rw[B.o];exact P));have L:=Aa (Ms l f d);rw[be]at ay L;have Y:=Q2 l E d (by rw[B.o];exact P);obtain⟨e,am⟩:∃e,C9 l E d=e:=⟨_,rfl⟩;rw[am]at R L Y;rw[B.o]at Y;obtain⟨ca,cb⟩:=Y;obtain⟨cg,ch⟩:=ay;clear am;have b7:(0:Int)<=(f:Int):=by omega
   have b4:(f:Int)<=61:=by omega
   obtain⟨i,bu⟩:∃i:Nat,e-d=i:=⟨_,rfl⟩;rw[bu]at L;have bv:IntKind.i64.wrap ((e:Int)-(d:Int))=(i:Int):=by rw[ic];omega
   have bq:(C++Ae pre).length<=140737488350010+10*62-10*k+10*d/\10*k<=140737488350010:=by
    have:=Cp pre;rw[hY];omega
   obtain⟨cc,cd⟩:=bq;go_wp2_with fail
   refine R.o.mono ?_;rintro U b0 ⟨rfl,ao⟩;have ad:=Aa (T.o.still ao);clear ao R;go_wp2_with fail
   refine(CJ b v _ i w b0 ad.o (by omega) (by omega) (by omega)).mono ?_;rintro U ci ⟨rfl,av⟩;have a8:=Aa av;clear av ad bv;go_wp2_with fail
   go_loopw [7] (λa wr=>∃o:Nat,a=.int .i64 ((d+o:Nat):Int)/\o<=i/\Hid (aJ w b v (C++Ae pre++enc i++Ae (((l.drop d).take o).map (·.t))) wr)) (λa _=>e-(intOf a).toNat)
   case atStart=>exact⟨0,rfl,iM _,by show aJ _ _ _ _ _;simp only[jM,kh,Dm,iz];exact a8.o⟩
   case round =>
    obtain⟨o,rfl,b5,J⟩:=hrel;obtain⟨x,r⟩:∃x,d+o=x:=⟨_,rfl⟩;rw[r];by_cases b6:o<i
    ·have M:x<l.length:=by rw[B.o];omega
     have b8:(x:Int)<(e:Int):=by omega
     obtain⟨a,z⟩:∃a,Ad l x=a:=⟨_,rfl⟩;have q:=Aa (FF n A l x wr (D.o wr J.o.kp).row M);have a6:=Aa (VJ l d o a (by rw[r];exact M) (by rw[r];exact z));obtain⟨bx,bz⟩:=bb.o a (by rw[<-z];exact EN M);have bj:wr.cell? ⟨s,20,none⟩=some (.pointer (some ⟨n,0,none⟩)):=a5.o wr J.o.kp;rw[z]at q;unfold Bk.val at q;have b9:(C++Ae pre++enc i++Ae (((l.drop d).take o).map (·.t))).length<=140737488351000:=by
      have aj:=Cp (((l.drop d).take o).map (·.t));have bd:=Dk i;rw[im,iD,iQ,B.o]at aj;rw[hY,hY];omega
     clear z M;go_wp2_with fail
     refine q.o.mono ?_;rintro U b1 ⟨rfl,ap⟩;have ae:=Aa (J.o.still ap);clear ap q bj;go_wp2_with fail
     refine(CJ b v _ a.t w b1 ae.o bx bz (by omega)).mono ?_;rintro U cj ⟨rfl,aw⟩;have a9:=Aa aw;clear aw ae;go_wp2;go_roundw;case rel =>
      refine⟨o+1,by go_num,by omega,?_⟩;show aJ _ _ _ _ _;have:=a9.o;rw[a6.o,By,Ei,<-List.append_assoc];exact this
     case measure=>simp[intOf];omega
    have bm:o=i:=by omega
    have bn:x=e:=by omega
    clear r;subst bn;go_wp2;go_roundw;case rel =>
     refine⟨f,x,pre++((i:Int)::((l.drop d).take i).map (·.t)),rfl,by go_num,by omega,by omega,?_,?_,?_⟩
     ·have aj:(((l.drop d).take i).map (·.t)).length<=i:=by rw[im,iD];omega
      rw[hY,iA];omega
     ·show _=_;rw[aa.o,L.o];simp
     show aJ _ _ _ _ _;have:=J.o;rw[bm]at this;rw[By,BN];simp only[List.append_assoc]at this ⊢;exact this
    case measure=>simp[intOf]
end
section
def DO(k:Nat)(c:Cfg)(nt:aU)(m:Int): List Int :=
 if k=4 then[nt.q,nt.r] else if k=1 then FU nt.bs else if k=2 then D7 nt.rg (Bw c) (m-c.aB)
 else if k=3 then Hi c nt.op nt.cl (m-c.aB) else if k=5 then Cu (Dr.allL (nt.tk.length+1) nt.tk) else[]
structure fN (k:Nat) (c:Cfg) (nt:aU):Prop where
 q0:0<=nt.q/\nt.q<=9223372036854775807
 r0:0<=nt.r/\nt.r<=9223372036854775807
 bn:nt.bs.length<=1000000000000
 bz:∀x∈nt.bs,1<=x.sz/\x.sz<4611686018427387904
 bt:∀x∈nt.bs,0<=x.t/\x.t<=9223372036854775807
 rl:∀i,(nt.rg i).length<=40
 rb:∀i,∀b∈nt.rg i,0<=b.sz/\b.sz<=4611686018427387904/\1<=b.t/\b.t<=40
 oc:k=3->nt.cl.length<=1000/\(∀p∈nt.cl,CC c p)/\CC c nt.op/\(∀x∈nt.op.cs,0<=x/\x<=4611686018427387904)/\(∀p∈nt.cl,∀x∈p.cs,0<=x/\x<=4611686018427387904)
 tl:k=5->nt.tk.length<=6
 tb:k=5->∀n∈Cu (Dr.allL (nt.tk.length+1) nt.tk),0<=n/\n<=9223372036854775807
theorem ZL(k:Nat)(d:NB)(c:Cfg)(e:aU)(b:Nat)(v:Value)(bs:List Nat)(m:Int)(args:Array Value)(w:World)(A:args=En d.d++#[.pointer (some ⟨b,0,none⟩),.int .i64 m])(l:cB w k d c e)(o:bR w b v bs)(i:∀h,AF b v h->¬BH k d h)(hi:fN k c e)(t:Ak c=true)(s:c.kind=k)(G:1<=k)(H:k<=5)(u:-100<=m)(x:m<=4611686018427387904)(S:bs.length+10*e.bs.length<=140737480000000):
  Calls prog (Iq k) args w λa N=>a=.returned (.tuple #[])/\aJ w b v (bs++Ae (DO k c e m)) N:=by
 subst A;rcases As G H with a | a | a | a | a
 ·subst a;exact Tx d.d d.r d.g c e.bs b v bs m w (l.bL rfl) o (λh j=>⟨λa=>i h j (.inl ⟨rfl,.inl a⟩),λa=>i h j (.inl ⟨rfl,.inr (.inl a)⟩),λa=>i h j (.inl ⟨rfl,.inr (.inr a)⟩)⟩) hi.bn hi.bz hi.bt (by omega)
 ·subst a;obtain⟨O,P,Q,R,z⟩:=FD t s rfl;obtain⟨C,q⟩:=l.dQ rfl;have E:d.qs.length<=16:=by rw[q];exact jk (n:=2) (by omega) (show c.bits.toNat<=4 by omega)
  have:=T7 d.d d.r d.qs c e.rg b v bs m w C o (λh j=>⟨λa=>i h j (.inr (.inr (.inl ⟨rfl,.inl a⟩))),λa=>i h j (.inr (.inr (.inl ⟨rfl,.inr (.inl a)⟩))),λF D q=>i h j (.inr (.inr (.inl ⟨rfl,.inr (.inr ⟨F,D,q⟩)⟩)))⟩) E (by omega) z u x hi.rl hi.rb (by omega);rw[q]at this;exact this
 ·subst a;obtain⟨o1,I,J,L,M⟩:=hi.oc rfl;obtain⟨B,r,_⟩:=Dw t s rfl;exact T8 d.d d.r d.g c e.op e.cl b v bs m w (l.dW rfl) o (λa=>i _ a (.inr (.inr (.inr (.inl ⟨rfl,.inl rfl⟩))))) B o1 I J L M (by have:=r.r0;omega) r.r1 (by have:=r.w0;omega) r.w1 u x (by omega)
 ·subst a;exact Ui d.d b c e.q e.r m v bs w (l.dec rfl) o (λa=>i _ a (.inr (.inl ⟨rfl,rfl⟩))) hi.q0.1 hi.q0.2 hi.r0.1 hi.r0.2 (by omega)
 subst a;exact U1 d.d d.r d.g c e.tk b v bs m w (l.cX rfl) o (hi.tl rfl) (hi.tb rfl) (by omega)
