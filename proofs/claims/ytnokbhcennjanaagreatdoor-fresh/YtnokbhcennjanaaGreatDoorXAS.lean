import Derived.Test.YtnokbhcennjanaaGreatDoorXAR
open Go.RowKit Go.Proofs.Tryz
set_option maxRecDepth 100000
set_option maxHeartbeats 16000000
namespace Go.Proofs.YtnokbhcennjanaaGreatDoor
section
attribute [local go_sem ↓] AH
attribute [local go_sem] AI A3 A4 AJ AL B8 B9
def FC(c:Cfg)(x:bA): Int:=As (Am c x.t)
def FV(c:Cfg)(x z:bA): Bool:=decide (FC c z*x.d<FC c x*z.d)||(decide (FC c x*z.d=FC c z*x.d)&&decide (x.n<z.n))
theorem UG(b:RB)(y:aG)(x d:bA)(w:World)(a:bN w b y)(a1:y.c.bI)(b7:0<=x.t)(bs:x.t<=4611686018427387904)(b8:0<=d.t)(bv:d.t<=4611686018427387904)(bt:0<=x.d)(bu:x.d<=2147483648)(bx:0<=d.d)(bz:d.d<=2147483648):
  Calls prog 86 #[π b.s,.agg x.cells.toArray,.agg d.cells.toArray] w λz c=>z=.returned (.bool (FV y.c x d))/\lX w c:=by
 have bq:=Gn y.c x.t;have br:=Gn y.c d.t;obtain⟨bm,bn⟩:=bq;obtain⟨bo,bp⟩:=br;have a8:=Aa (show ∀j,Calls prog 85 #[.agg y.c.cells.toArray,ι x.t] j λz c=>z=.returned (ι (As (Am y.c x.t)))/\lX j c from λj=>Ia y.c x.t j a1 (by omega) bs);have a9:=Aa (show ∀j,Calls prog 85 #[.agg y.c.cells.toArray,ι d.t] j λz c=>z=.returned (ι (As (Am y.c d.t)))/\lX j c from λj=>Ia y.c d.t j a1 (by omega) bv);have a7:=Aa (show FV y.c x d=(decide (As (Am y.c d.t)*x.d<As (Am y.c x.t)*d.d)||(decide (As (Am y.c x.t)*d.d=As (Am y.c d.t)*x.d)&&decide (x.n<d.n))) from rfl);have al:=Aa (show lX w ((w.alloc (.cells x.cells.toArray 150)).alloc (.cells d.cells.toArray 150)) from((aA.refl _ _).alloc _).alloc _);have aq:=Aa (show aD ((w.alloc (.cells x.cells.toArray 150)).alloc (.cells d.cells.toArray 150)) w.heap.size x.cells 150 from(aD.new w _ _).alloc _);have au:=Aa (show aD ((w.alloc (.cells x.cells.toArray 150)).alloc (.cells d.cells.toArray 150)) (w.heap.size+1) d.cells 150 from aD.newAt (by simp) _ _);have ab:=Aa (a.still al.o);generalize As (Am y.c x.t)=L at *
 generalize As (Am y.c d.t)=M at *
 clear a a1;obtain⟨O,ag,v,N,af⟩:=x;obtain⟨Q,ai,r,P,ah⟩:=d;go_enter func86,ntmps86;go_wp2_with fail
 have W:κ ((w.alloc (.cells (bA.cells ⟨O,ag,v,N,af⟩).toArray 150)).alloc (.cells (bA.cells ⟨Q,ai,r,P,ah⟩).toArray 150)) w.heap.size 0 (ι O):=aq.o.cell rfl;have X:κ ((w.alloc (.cells (bA.cells ⟨O,ag,v,N,af⟩).toArray 150)).alloc (.cells (bA.cells ⟨Q,ai,r,P,ah⟩).toArray 150)) (w.heap.size+1) 2 (ι r):=au.o.cell rfl;obtain⟨U,V⟩:=Ie ab.o.aF;have F:=ab.o.aF.lt;generalize(w.alloc (.cells (bA.cells ⟨O,ag,v,N,af⟩).toArray 150)).alloc (.cells (bA.cells ⟨Q,ai,r,P,ah⟩).toArray 150)=m at *
 go_cut [7] (λa4 Z=>∃p:Nat,a4=π p/\Hid (aD Z p (EB (L*r)) 181)/\Hid (lX m Z))
 case first =>
  have e:=Aa (show ∀c,lX m c->Ap c b.s 1 20=.agg y.c.cells.toArray/\Az c b.s 1 20=true/\κ c w.heap.size 0 (ι O)/\κ c (w.heap.size+1) 2 (ι r) from λc A=>⟨(Cf A id F).1.trans U,(Cf A id F).2.trans V,A.cell W id,A.cell X id⟩);obtain⟨s,H⟩:∃s,L*r/2147483648=s:=⟨_,rfl⟩;obtain⟨t,I⟩:∃t,L*r%2147483648=t:=⟨_,rfl⟩
  have ap:=Aa (show ∀j,Calls prog 130 #[ι L,ι r] j λz c=>z=.returned (.agg #[ι s,ι t])/\lX j c from λj=>by
     have:=Ph L r j bm bn bx bz;unfold EB at this;rw[H,I]at this
     exact this)
  have E:=Aa (show EB (L*r)=[ι s,ι t] by unfold EB;rw[H,I]);clear H I;go_region_held3 (λc=>Ap c b.s 1 20=.agg y.c.cells.toArray/\Az c b.s 1 20=true/\c.cell? ⟨w.heap.size,0,none⟩=some (ι O)/\c.cell? ⟨w.heap.size+1,2,none⟩=some (ι r))
   (first
      | exact e.o _ l.o
      | exact e.o _ (l.o.alloc _)
      | exact e.o _ k.o
      | exact e.o _ (k.o.alloc _)
      | exact e.o _ ((aA.refl (λ_=>False) m).drew)
      | exact e.o _ (((aA.refl (λ_=>False) m).drew).alloc _)
      | exact e.o _ (aA.refl (λ_=>False) m)
      | exact e.o _ ((l.o.setCell (p:=⟨u.heap.size,0,none⟩) (Or.inr k.o.size) _).setCell (p:=⟨u.heap.size,1,none⟩) (Or.inr k.o.size) _)
      | exact e.o _ ((l.o.setCell (p:=⟨m.heap.size,0,none⟩) (Or.inr (ir _)) _).setCell (p:=⟨m.heap.size,1,none⟩) (Or.inr (ir _)) _)
      | (simp[*,A3,A4];done))
   (first
      | (go_at_call 85
         refine(a8.o _).mono ?_;rintro ae u ⟨rfl,G⟩;have k:=Aa (show lX m u by first | exact((aA.refl (λ_=>False) m).drew).then G | exact(((aA.refl (λ_=>False) m).drew).alloc _).then G);first
          | (have ay:=(aD.new m.drew [ι 0,ι 0] 181).keeps G id
             have aj:=Aa ay)
          | skip)
      | (go_at_call 130
         refine(ap.o _).mono ?_;rintro ae J ⟨rfl,B⟩;have l:=Aa (show lX m J by first | exact k.o.then B | exact(k.o.alloc _).then B);first
          | (have h:aD J m.heap.size [ι 0,ι 0] 181:=aj.o.keeps B id
             have D:=Aa h;have aw:=h.cell (i:=0) rfl;have T:=h.cell (i:=1) rfl
             have ax:=h.frozen)
          | (have h:=(aD.new u [ι 0,ι 0] 181).keeps B id
             have D:=Aa h;have aw:=h.cell (i:=0) rfl;have T:=h.cell (i:=1) rfl
             have ax:=h.frozen)
          | skip))
  all_goals
   go_wp2_with fail
   go_meet
   first
    | exact⟨_,rfl,Aa (by rw[E.o];exact aD.new J _ _),Aa (l.o.alloc _)⟩
    | exact⟨_,rfl,Aa (by rw[E.o];exact(D.o.setCell 0 (ι s)).setCell 1 (ι t)),Aa ((l.o.setCell (p:=⟨u.heap.size,0,none⟩) (Or.inr k.o.size) _).setCell (p:=⟨u.heap.size,1,none⟩) (Or.inr k.o.size) _)⟩
    | exact⟨_,rfl,Aa (by rw[E.o];exact(D.o.setCell 0 (ι s)).setCell 1 (ι t)),Aa ((l.o.setCell (p:=⟨m.heap.size,0,none⟩) (Or.inr (ir _)) _).setCell (p:=⟨m.heap.size,1,none⟩) (Or.inr (ir _)) _)⟩
 case rest =>
  obtain⟨p,rfl,a6,R⟩:=hcut;have ar:=Aa (aq.o.keeps R.o id);have av:=Aa (au.o.keeps R.o id);have ao:=Aa (ab.o.still R.o);have a5:=Aa (al.o.then R.o);clear W X U V F aq au ab R al a8;obtain⟨U,V⟩:=Ie ao.o.aF;have F:=ao.o.aF.lt;have W:=av.o.c0;have X:=ar.o.c2;generalize wc=n at *
  go_wp2_with fail
  go_cut [8] (λa4 Z=>∃p:Nat,a4=π p/\Hid (aD Z p (EB (M*v)) 181)/\Hid (lX n Z))
  case first =>
   have e:=Aa (show ∀c,lX n c->Ap c b.s 1 20=.agg y.c.cells.toArray/\Az c b.s 1 20=true/\κ c (w.heap.size+1) 0 (ι Q)/\κ c w.heap.size 2 (ι v) from λc A=>⟨(Cf A id F).1.trans U,(Cf A id F).2.trans V,A.cell W id,A.cell X id⟩);obtain⟨s,H⟩:∃s,M*v/2147483648=s:=⟨_,rfl⟩;obtain⟨t,I⟩:∃t,M*v%2147483648=t:=⟨_,rfl⟩
   have ap:=Aa (show ∀j,Calls prog 130 #[ι M,ι v] j λz c=>z=.returned (.agg #[ι s,ι t])/\lX j c from λj=>by
      have:=Ph M v j bo bp bt bu;unfold EB at this;rw[H,I]at this
      exact this)
   have E:=Aa (show EB (M*v)=[ι s,ι t] by unfold EB;rw[H,I]);clear H I;go_region_held3 (λc=>Ap c b.s 1 20=.agg y.c.cells.toArray/\Az c b.s 1 20=true/\c.cell? ⟨w.heap.size+1,0,none⟩=some (ι Q)/\c.cell? ⟨w.heap.size,2,none⟩=some (ι v))
    (first
       | exact e.o _ l.o
       | exact e.o _ (l.o.alloc _)
       | exact e.o _ k.o
       | exact e.o _ (k.o.alloc _)
       | exact e.o _ ((aA.refl (λ_=>False) n).drew)
       | exact e.o _ (((aA.refl (λ_=>False) n).drew).alloc _)
       | exact e.o _ (aA.refl (λ_=>False) n)
       | exact e.o _ ((l.o.setCell (p:=⟨u.heap.size,0,none⟩) (Or.inr k.o.size) _).setCell (p:=⟨u.heap.size,1,none⟩) (Or.inr k.o.size) _)
       | exact e.o _ ((l.o.setCell (p:=⟨n.heap.size,0,none⟩) (Or.inr (ir _)) _).setCell (p:=⟨n.heap.size,1,none⟩) (Or.inr (ir _)) _)
       | (simp[*,A3,A4];done))
    (first
       | (go_at_call 85
          refine(a9.o _).mono ?_;rintro ae u ⟨rfl,G⟩;have k:=Aa (show lX n u by first | exact((aA.refl (λ_=>False) n).drew).then G | exact(((aA.refl (λ_=>False) n).drew).alloc _).then G);first
           | (have ay:=(aD.new n.drew [ι 0,ι 0] 181).keeps G id
              have aj:=Aa ay)
           | skip)
       | (go_at_call 130
          refine(ap.o _).mono ?_;rintro ae J ⟨rfl,B⟩;have l:=Aa (show lX n J by first | exact k.o.then B | exact(k.o.alloc _).then B);first
           | (have h:aD J n.heap.size [ι 0,ι 0] 181:=aj.o.keeps B id
              have D:=Aa h;have aw:=h.cell (i:=0) rfl;have T:=h.cell (i:=1) rfl
              have ax:=h.frozen)
           | (have h:=(aD.new u [ι 0,ι 0] 181).keeps B id
              have D:=Aa h;have aw:=h.cell (i:=0) rfl;have T:=h.cell (i:=1) rfl
              have ax:=h.frozen)
           | skip))
   all_goals
    go_wp2_with fail
    go_meet
    first
     | exact⟨_,rfl,Aa (by rw[E.o];exact aD.new J _ _),Aa (l.o.alloc _)⟩
     | exact⟨_,rfl,Aa (by rw[E.o];exact(D.o.setCell 0 (ι s)).setCell 1 (ι t)),Aa ((l.o.setCell (p:=⟨u.heap.size,0,none⟩) (Or.inr k.o.size) _).setCell (p:=⟨u.heap.size,1,none⟩) (Or.inr k.o.size) _)⟩
     | exact⟨_,rfl,Aa (by rw[E.o];exact(D.o.setCell 0 (ι s)).setCell 1 (ι t)),Aa ((l.o.setCell (p:=⟨n.heap.size,0,none⟩) (Or.inr (ir _)) _).setCell (p:=⟨n.heap.size,1,none⟩) (Or.inr (ir _)) _)⟩
  case rest =>
   obtain⟨b2,rfl,an,S⟩:=hcut;have am:=Aa (a6.o.keeps S.o id);have bg:=Aa (ar.o.keeps S.o id);have bh:=Aa (av.o.keeps S.o id);have bf:=Aa (a5.o.then S.o);clear W X U V F ar av ao S a5 a9 a6;generalize wc=bi at *
   obtain⟨o,az⟩:∃o,L*r=o:=⟨_,rfl⟩;obtain⟨q,a0⟩:∃q,M*v=q:=⟨_,rfl⟩
   have ad:=Aa (show FV y.c ⟨O,ag,v,N,af⟩ ⟨Q,ai,r,P,ah⟩=(decide (q<o)||(decide (o=q)&&decide (N<P))) by
      rw[<-az,<-a0];exact a7.o)
   rw[az]at am;rw[a0]at an;clear az a0 a7;have ba:=am.o.c0;have bb:=am.o.c1;have bc:=an.o.c0;have bd:=an.o.c1;go_wp2_with fail
   refine(VK o q bi).mono ?_;rintro ae be ⟨rfl,C⟩;have aa:=Aa (bf.o.then C);have b3:=C.cell ba id;have b4:=C.cell bb id;have b5:=C.cell bc id;have b6:=C.cell bd id;have b0:κ be w.heap.size 3 (ι N):=C.cell (bg.o.cell rfl) id;have b1:κ be (w.heap.size+1) 3 (ι P):=C.cell (bh.o.cell rfl) id;clear C ba bb bc bd;have ak:=Aa (show o=q↔(o/2147483648=q/2147483648/\o%2147483648=q%2147483648) by omega);generalize o/2147483648=T at *
   generalize o%2147483648=bj at *
   generalize q/2147483648=bk at *
   generalize q%2147483648=bl at *
   cases hd:decide (q<o)
   ·cases hn:decide (N<P);all_goals
     by_cases a2:T=bk
     ·by_cases a3:bj=bl
      ·have Y:decide (o=q)=true:=decide_eq_true (ak.o.2 ⟨a2,a3⟩);subst a2 a3;go_wp2;go_ret;exact⟨by rw[ad.o,hd,Y,hn];rfl,aa.o⟩
      have Y:decide (o=q)=false:=lx (λa=>a3 (ak.o.1 a).2);go_wp2;go_ret;exact⟨by rw[ad.o,hd,Y];rfl,aa.o⟩
     have Y:decide (o=q)=false:=lx (λa=>a2 (ak.o.1 a).1);go_wp2;go_ret;exact⟨by rw[ad.o,hd,Y];rfl,aa.o⟩
   go_wp2;go_ret;exact⟨by rw[ad.o,hd];rfl,aa.o⟩
end
section
def BR(c:Cfg)(l:List bA)(z:bA): Nat:=(l.filter (λx=>FV c x z)).length
theorem Uj(c:Cfg)(l:List bA)(a:bA)(k:Nat)(d:k<l.length): BR c (l.take (k+1)) a=BR c (l.take k) a+if FV c (Aj l k) a=true then 1 else 0:=by
 rw[jm d,Cv _ _ d];unfold BR;rw[jo,ic,iY];congr 1;split <;> rfl
theorem Xl(c:Cfg)(l:List bA)(a:bA): BR c l a<=l.length:=k9 _ _
def Db(c:Cfg)(l:List bA)(p:Nat)(st:List Int×Int×Int)(z:bA): List Int×Int×Int :=
 if BR c l z=p then(if (p:Int)<c.size then(st.1++[z.t,z.k,z.d],st.2) else if (p:Int)=c.size then(st.1,FC c z,z.d) else st) else st
def C2(c:Cfg)(l:List bA): Nat->List Int×Int×Int
 | 0=>([],0,0)
 | p+1=>l.foldl (Db c l p) (C2 c l p)
def B0(c:Cfg)(l:List bA)(p i:Nat): List Int×Int×Int:=(l.take i).foldl (Db c l p) (C2 c l p)
theorem Ym(c:Cfg)(l:List bA)(p i:Nat)(hi:i<l.length): B0 c l p (i+1)=Db c l p (B0 c l p i) (Aj l i):=by
 unfold B0;rw[jm hi,Cv _ _ hi,jV];rfl
theorem QJ(c:Cfg)(l:List bA)(p i:Nat)(hi:l.length<=i): B0 c l p i=C2 c l (p+1):=by
 unfold B0;rw[iw hi];rfl
def Hh(c:Cfg)(l:List bA): List Int:=(C2 c l (c.size.toNat+1)).1++[(C2 c l (c.size.toNat+1)).2.1,(C2 c l (c.size.toNat+1)).2.2]
def JP(t:TypeId)(x y:Value): Sem Next:=do pure (.value (<-Builtin.append_ #[37,37] t #[x,y]))
theorem US(ρ:Operand->Value)(dst:Option Tmp)(x y:Operand)(a:TypeId)(pos:String)(after:Array Edge)(guard:Option (Nat×Bool)):
  execOp ρ { dst,op:=.call { callee:=.builtin .append,args:=#[x,y],argTypes:=#[37,37] },type:=a,pos,after,guard }=JP a (ρ x) (ρ y):=by
 rw[BigFrame.execOp_builtin,BigFrame.builtin_append];simp[JP]
theorem ZI(w:World)(base:Nat)(v:Value)(n:Nat)(c:List Int)(d:Nat)(x y j:Int)(u:c.length=n)(z:w.ownsRow base 3 1 v n (Af c))(B:w.heap[d]?=some (.cells #[ι x,ι y,ι j] 3))(G:n+3<=1099511627776)(s:base<=w.heap.size):
  ∃a h e,(∀i,(JP i v (σ d 3 3)).run prog w=.ok (.value (σ a (n+3) h)) e) /\
   e.ownsRow base 3 1 (σ a (n+3) h) (n+3) (Af (c++[x,y,j]))/\w.grownBy e v.ownBlock/\(v.ownBlock=some a\/w.heap.size<=a):=by
 obtain⟨F,t,C,D,E⟩:=jg Lf;subst u
 obtain⟨a,h,e,m,o,q,r,_⟩:=run_append_lies (P:=prog) w 37 37 base 3 F _ 1 8 underlying37 t C D E rfl (by omega) v c.length (Af c) z ⟨d,0,none⟩ 3 3 (Af [x,y,j]) rfl (iJ (by exact B)) (λI l=>by
    simp only[Af,iI]at l;obtain⟨H,_,rfl⟩:=l
    rfl) (by omega) (by unfold maxLen;omega) (by omega) s w.heap.size rfl
 refine⟨a,h,e,λi=>?_,?_,q,?_⟩
 ·unfold JP;rw[jq];have A:Builtin.append_ #[37,37] i #[v,σ d 3 3]=Builtin.append_ #[37,37] 37 #[v,σ d 3 3]:=rfl;rw[A,m];rfl
 ·rw[Oa];exact o
 rcases r with k | k
 ·exact .inl k
 exact .inr (by omega)
end
section
attribute [local go_sem ↓] AH
attribute [local go_sem] AI A3 A4 AJ AL B8 B9
attribute [local go_sem ↓ 2000] US
theorem Xd{w:World}{base a:Nat}{v:Value}{n:Nat}{d:List Value}(c:w.ownsRow base 3 1 v n d)(e:a<=base): w.ownsRow a 3 1 v n d :=
 ⟨c.1,c.2.imp id λ⟨g,cap,cur,h1,h2,h3⟩=>⟨g,cap,cur,h1,jN e h2,h3⟩⟩
def gK(w:World)(g i:Nat)(z:bA): Prop:=w.cell? ⟨g,i*5,none⟩=some (ι z.t)/\w.cell? ⟨g,i*5+1,none⟩=some (ι z.k)/\w.cell? ⟨g,i*5+2,none⟩=some (ι z.d)/\w.cell? ⟨g,i*5+3,none⟩=some (ι z.n)/\w.cell? ⟨g,i*5+4,none⟩=some (ι z.tick)
theorem gK.keeps{w w':World}{g i:Nat}{d:bA}(a:gK w g i d)(c:lX w w'): gK w' g i d :=
 ⟨c.cell a.1 id,c.cell a.2.1 id,c.cell a.2.2.1 id,c.cell a.2.2.2.1 id,c.cell a.2.2.2.2 id⟩
theorem zPv{w:World}{base g n cap:Nat}{l:List bA}(e:FZ w base (σ g n cap) l)(i:Nat)(hi:i<l.length): gK w g i (Aj l i):=by
 obtain⟨j,k,c,_,_,h⟩:=DZ e;injection c with d _ _;subst d;have a:=(h g rfl).1;refine⟨?_,?_,?_,?_,?_⟩
 ·have:=a (i*5+0) _ (by rw[C8 _ _ _ hi (by omega)];rfl);simpa using this
 ·exact a (i*5+1) _ (by rw[C8 _ _ _ hi (by omega)];rfl)
 ·exact a (i*5+2) _ (by rw[C8 _ _ _ hi (by omega)];rfl)
 ·exact a (i*5+3) _ (by rw[C8 _ _ _ hi (by omega)];rfl)
 exact a (i*5+4) _ (by rw[C8 _ _ _ hi (by omega)];rfl)
theorem VG(b:RB)(y:aG)(m:Int)(w:World)(i:bN w b y)(b1:y.c.bI)(e6:1<=y.c.size)(e7:y.c.size<=5)(d3:y.items.length<=651562446090)(ce:∀af,af∈Bv y.items (-1) m->(0<=af.t/\af.t<=4611686018427387904)/\0<=af.d/\af.d<=2147483648)(bx:∀p c,(B0 y.c (Bv y.items (-1) m) p c).1.length<=100):
  Calls prog 58 #[π b.s,ι m] w λal e=>∃ch,al=.returned ch/\e.ownsRow w.heap.size 3 1 ch (Hh y.c (Bv y.items (-1) m)).length (Af (Hh y.c (Bv y.items (-1) m)))/\lX w e:=by
 obtain⟨h,ak⟩:∃h:Nat,y.c.size=(h:Int):=⟨y.c.size.toNat,by omega⟩;have es:h<=5:=by omega
 have ap:=Aa i;have bi:=Aa b1;have bp:=Aa ce;have bh:=Aa bx;clear i b1 ce bx;go_enter func58,ntmps58;go_wp2_with fail
 refine(LE b y (-1) m w ap.o d3).mono ?_;rintro al s ⟨e5,rfl,aw,a0⟩;have cw:=Aa aw;have ey:(Bv y.items (-1) m).length<=651562446090:=by have:=Kf y.items (-1) m;omega
 have bk:=Aa a0;have aq:=Aa (ap.o.still a0);generalize bz:Bv y.items (-1) m=a at *
 have cx:=Aa bz;obtain⟨cg,d9,dg⟩:=BI aw;generalize b7:a.length=A at *
 have M:=Aa b7;subst dg;have d8:=bk.o.size;clear aw a0 ap b7 bz;have cq:=Aa (aD.new s [ι 0,ι 0] 3);go_wp2_with fail
 go_loopw [6,7,8] (λP a7 a8 wr=>∃(p v u:Nat) (t:Option Addr) (r:Nat),p<=h+1/\a8=ι p/\P=.slice t v u/\a7=σ r 2 2/\Hid (wr.ownsRow s.heap.size 3 1 P (C2 y.c a p).1.length (Af (C2 y.c a p).1))/\Hid (aD wr r [ι (C2 y.c a p).2.1,ι (C2 y.c a p).2.2] 3)/\Hid (s.heap.size<=r/\P.ownBlock≠some r)/\Hid (lX s wr)) (λ_ _ a8 _=>h+1-(intOf a8).toNat)
 case atStart=>exact⟨0,0,0,none,s.heap.size,by omega,rfl,rfl,rfl,iy _ _ _ _,cq,⟨ir _,λi=>by cases i⟩,(aA.refl _ _).alloc _⟩
 case round=>as_aux_lemma =>
  obtain⟨p,v,u,t,r,ez,rfl,rfl,rfl,E,L,I,B⟩:=hrel;generalize wr=bb at *
  have bn:=Aa (aq.o.still B.o);have bs:κ bb b.s 11 (ι h):=by rw[<-ak];exact bn.o.aF.cell rfl
  by_cases e0:p<h+1
  ·have dr:decide ((p:Int)<=(h:Int))=true:=by simp;omega
   have dw:decide (p<=h)=true:=by simp;omega
   have bm:=Aa (show bb.ownsRow s.heap.size 3 1 (.slice t v u) (B0 y.c a p 0).1.length (Af (B0 y.c a p 0).1) from E.o);have bl:=Aa (show aD bb r [ι (B0 y.c a p 0).2.1,ι (B0 y.c a p 0).2.2] 3 from L.o);clear E L bn;go_wp2_with fail
   go_loopw [6,7,9] (λP a7 a5 wr=>∃(c v u:Nat) (t:Option Addr) (r:Nat),c<=A/\a5=ι c/\P=.slice t v u/\a7=σ r 2 2/\Hid (wr.ownsRow s.heap.size 3 1 P (B0 y.c a p c).1.length (Af (B0 y.c a p c).1))/\Hid (aD wr r [ι (B0 y.c a p c).2.1,ι (B0 y.c a p c).2.2] 3)/\Hid (s.heap.size<=r/\P.ownBlock≠some r)/\Hid (lX s wr)) (λ_ _ a5 _=>A-(intOf a5).toNat)
   case atStart=>exact⟨0,v,u,t,r,by omega,rfl,rfl,rfl,bm,bl,I,B⟩
   case round=>as_aux_lemma =>
    clear bm bl I B bs;obtain⟨c,v,u,t,r,eu,rfl,rfl,rfl,E,L,I,B⟩:=hrel;generalize wr=ba at *
    by_cases az:c<A
    ·have d0:c<a.length:=by rw[M.o];exact az
     have ev:(0:Int)<=(c:Int):=by omega
     have ew:(c:Int)<(A:Int):=by omega
     have av:=Aa (Ym y.c a p c d0);have ax:FZ ba w.heap.size (.slice cg A d9) a:=An cw.o B.o (λ_ _ i=>i);obtain⟨n,dy⟩:∃n,cg=some ⟨n,0,none⟩:=by
      obtain⟨ed,ee,O,_,d6,_⟩:=DZ ax;injection O with df _ _;subst df;exact d6 (by rw[M.o];omega)
     subst dy;have am:=Aa (show ∀d,d<A->gK ba n d (Aj a d) from λd R=>zPv ax d (by rw[M.o];exact R))
     have an:=Aa (show ∀d,d<A->Aj a d∈a from λd R=>by
        have ad:d<a.length:=by rw[M.o];exact R
        rw[Cv _ _ ad];exact jk ad)
     have ar:=Aa (aq.o.still B.o);have aj:=Aa (am.o c az);obtain⟨⟨co,be⟩,cm,cn⟩:=bp.o _ (an.o c az);obtain⟨bf,cf⟩:∃bf,Aj a c=bf:=⟨_,rfl⟩;rw[cf]at av aj co be cm cn;obtain⟨k,l,j,z,x⟩:=bf;clear ax cf;go_wp2_with fail
     go_loopw [10,11] (λea a6 wr=>∃d:Nat,d<=A/\a6=ι d/\ea=ι (BR y.c (a.take d) ⟨k,l,j,z,x⟩)/\Hid (lX ba wr)) (λ_ a6 _=>A-(intOf a6).toNat)
     case atStart=>exact⟨0,by omega,rfl,rfl,aA.refl _ _⟩
     case round=>as_aux_lemma =>
      obtain⟨d,R,rfl,rfl,C⟩:=hrel;generalize wr=q at *
      have ca:=Xl y.c (a.take d) ⟨k,l,j,z,x⟩;rw[iG]at ca;by_cases a3:d<A
      ·have ad:d<a.length:=by rw[M.o];exact a3
       obtain⟨⟨ck,cl⟩,ci,cj⟩:=bp.o _ (an.o d a3);have bj:=Aa (am.o d a3);have ai:=Aa (Uj y.c a ⟨k,l,j,z,x⟩ d ad);obtain⟨bd,cd⟩:∃bd,Aj a d=bd:=⟨_,rfl⟩;rw[cd]at bj ai ck cl ci cj;obtain⟨X,V,T,W,U⟩:=bd;have J:=Aa (show ∀e,lX q e->(κ e n (d*5) (ι X)/\κ e n (d*5+1) (ι V)/\κ e n (d*5+2) (ι T)/\κ e n (d*5+3) (ι W)/\κ e n (d*5+4) (ι U))/\κ e n (c*5) (ι k)/\κ e n (c*5+1) (ι l)/\κ e n (c*5+2) (ι j)/\κ e n (c*5+3) (ι z)/\κ e n (c*5+4) (ι x) from λe S=>⟨bj.o.keeps (C.o.then S),aj.o.keeps (C.o.then S)⟩);have bo:=Aa (show ∀G,lX q G->Calls prog 86 #[π b.s,.agg #[ι X,ι V,ι T,ι W,ι U],.agg #[ι k,ι l,ι j,ι z,ι x]] G λO e=>O=.returned (.bool (FV y.c ⟨X,V,T,W,U⟩ ⟨k,l,j,z,x⟩))/\lX G e from λG b4=>UG b y ⟨X,V,T,W,U⟩ ⟨k,l,j,z,x⟩ G (ar.o.still (C.o.then b4)) bi.o ck cl co be ci cj cm cn);obtain⟨a9,cc⟩:∃a9,FV y.c ⟨X,V,T,W,U⟩ ⟨k,l,j,z,x⟩=a9:=⟨_,rfl⟩;rw[cc]at bo ai;obtain⟨⟨eh,dl,ej,ek,el⟩,em,en,eo,ep,ei⟩:=J.o q (aA.refl _ _);have b4:(0:Int)<=(d:Int):=by omega
       have ex:(d:Int)<(A:Int):=by omega
       generalize BR y.c (a.take d) ⟨k,l,j,z,x⟩=o at *
       clear ad cd cc;go_wp2_with fail
       go_region_held3 (λe=>(e.cell? ⟨n,d*5,none⟩=some (ι X)/\e.cell? ⟨n,d*5+1,none⟩=some (ι V)/\e.cell? ⟨n,d*5+2,none⟩=some (ι T)/\e.cell? ⟨n,d*5+3,none⟩=some (ι W)/\e.cell? ⟨n,d*5+4,none⟩=some (ι U))/\e.cell? ⟨n,c*5,none⟩=some (ι k)/\e.cell? ⟨n,c*5+1,none⟩=some (ι l)/\e.cell? ⟨n,c*5+2,none⟩=some (ι j)/\e.cell? ⟨n,c*5+3,none⟩=some (ι z)/\e.cell? ⟨n,c*5+4,none⟩=some (ι x))
        (first | exact J.o _ D.o | exact J.o _ ((aA.refl (λ_=>False) q).drew) | exact J.o _ (aA.refl (λ_=>False) q) | (simp[*];done))
        (first | (go_at_call 86;refine(bo.o _ ((aA.refl (λ_=>False) q).drew)).mono ?_;rintro al ae ⟨rfl,a4⟩;have D:=Aa (((aA.refl (λ_=>False) q).drew).then a4)))
       cases a9
       ·go_wp2;go_roundw;case rel=>exact⟨d+1,by omega,by go_num,by rw[ai.o];simp,Aa (C.o.then D.o)⟩
        case measure=>simp[intOf];omega
       go_wp2;go_roundw;case rel=>exact⟨d+1,by omega,by go_num,by rw[ai.o];go_num,Aa (C.o.then D.o)⟩
       case measure=>simp[intOf];omega
      have d2:d=A:=by omega
      subst d2;have dx:decide ((d:Int)<(d:Int))=false:=by simp
      have b2:a.take d=a:=iw (by rw[M.o];exact ir _);rw[b2]at ca ⊢;have ah:=Aa (show B0 y.c a p (c+1)=if BR y.c a ⟨k,l,j,z,x⟩=p then(if (p:Int)<y.c.size then((B0 y.c a p c).1++[k,l,j],(B0 y.c a p c).2) else if (p:Int)=y.c.size then((B0 y.c a p c).1,FC y.c ⟨k,l,j,z,x⟩,j) else B0 y.c a p c) else B0 y.c a p c from av.o);have er:=bh.o p c;have Y:=Aa (B.o.then C.o);have b8:∀F,(Value.slice t v u).ownBlock=some F->s.heap.size<=F:=λF ab=>(E.o.lt F ab).1;have ag:=Aa (DY E.o C.o (λ_ _ i=>i));have ao:=Aa (L.o.keeps C.o id);have da:=Aa b8;have au:=Aa (ar.o.still C.o);have bs:κ q b.s 11 (ι h):=by rw[<-ak];exact au.o.aF.cell rfl
      obtain⟨bt,dh,di,dj,dk⟩:=aj.o.keeps C.o;rw[ak]at ah;generalize BR y.c a ⟨k,l,j,z,x⟩=o at *
      clear b8 b2 av E L ar an am aj;by_cases cb:o=p
      ·subst cb;have dq:((o:Int)==(o:Int))=true:=by simp
       by_cases b5:o<h
       ·have ds:decide ((o:Int)<(h:Int))=true:=by simp;omega
        have dt:decide (o<h)=true:=by simp;omega
        have du:((o:Int)==(h:Int))=false:=by simp;omega
        have N:=Aa (show B0 y.c a o (c+1)=((B0 y.c a o c).1++[k,l,j],(B0 y.c a o c).2) by rw[ah.o,ij rfl,ij (by omega)]);have e3:=Y.o.size
        have bg:=Aa (show ∃Q Z H,(∀eb,(JP eb (.slice t v u) (σ q.heap.size 3 3)).run prog (q.alloc (.cells #[ι k,ι l,ι j] 3)).drew=.ok (.value (σ Q ((B0 y.c a o c).1.length+3) Z)) H)/\H.ownsRow s.heap.size 3 1 (σ Q ((B0 y.c a o c).1.length+3) Z) ((B0 y.c a o c).1.length+3) (Af ((B0 y.c a o c).1++[k,l,j]))/\lX s H/\aD H r [ι (B0 y.c a o c).2.1,ι (B0 y.c a o c).2.2] 3/\Q≠r by
           have a2:lX q (q.alloc (.cells #[ι k,ι l,ι j] 3)).drew:=((aA.refl _ _).alloc _).drew;obtain⟨Q,Z,H,bu,bv,aa,dm⟩:=ZI (q.alloc (.cells #[ι k,ι l,ι j] 3)).drew s.heap.size (.slice t v u) _ (B0 y.c a o c).1 q.heap.size k l j rfl (DY ag.o a2 (λ_ _ i=>i)) (iH q _) (by omega) (by show s.heap.size<=(q.alloc _).heap.size;simp;omega);have b3:aA (λF=>(Value.slice t v u).ownBlock=some F) (q.alloc (.cells #[ι k,ι l,ι j] 3)).drew H:=⟨aa.os,aa.tape,aa.output,aa.size,λd R d4=>aa.block d R (λi=>d4 i.symm)⟩;refine⟨Q,Z,H,bu,bv,(Y.o.then a2).trans b3 (λF ab b5=>by have:=da.o F ab;omega),(ao.o.keeps a2 id).keeps b3 I.o.2,λO=>?_⟩;rcases dm with i | i
           ·exact I.o.2 (by rw[i,O])
           have:=ao.o.lt;have e2:(q.alloc (.cells #[ι k,ι l,ι j] 3)).drew.heap.size=q.heap.size+1:=by show(q.alloc _).heap.size=_;simp
           omega)
        obtain⟨Q,Z,H,e1,b9,a1,b0,b6⟩:=bg.o;have db:=Aa b9;have cu:=Aa a1;have cp:=Aa b0;have cy:=Aa b6;have ef:κ H b.s 11 (ι h):=by rw[<-ak];exact(aq.o.still a1).aF.cell rfl
        clear bg b9 a1 b0 b6;go_wp2_with fail
        go_region
        go_wp2;go_roundw;case rel=>exact⟨c+1,_,_,_,r,by omega,by go_num,rfl,rfl,Aa (by rw[N.o];show World.ownsRow _ _ _ _ _ ((B0 y.c a o c).1++[k,l,j]).length _;rw[ic];exact db.o),Aa (by rw[N.o];exact cp.o),Aa ⟨I.o.1,λi=>cy.o (by injection i)⟩,cu⟩
        case measure=>simp[intOf];omega
       have ds:decide ((o:Int)<(h:Int))=false:=by simp;omega
       have dt:decide (o<h)=false:=by simp;omega
       have dp:o=h:=by omega
       subst dp;have N:=Aa (show B0 y.c a o (c+1)=((B0 y.c a o c).1,FC y.c ⟨k,l,j,z,x⟩,j) by rw[ah.o,ij rfl,ig (by omega),ij rfl]);obtain⟨bq,br⟩:=Ie au.o.aF;have ay:=au.o.aF.lt;have de:=Aa (show ∀G,Calls prog 85 #[.agg y.c.cells.toArray,ι k] G λO e=>O=.returned (ι (FC y.c ⟨k,l,j,z,x⟩))/\lX G e from λG=>Ia y.c k G bi.o (by omega) be);have J:=Aa (show ∀e,lX q e->Ap e b.s 1 20=.agg y.c.cells.toArray/\Az e b.s 1 20=true/\κ e n (c*5) (ι k) from λe S=>⟨(Cf S id ay).1.trans bq,(Cf S id ay).2.trans br,S.cell bt id⟩);generalize FC y.c ⟨k,l,j,z,x⟩=bc at *
       go_wp2_with fail
       go_region_held3 (λe=>Ap e b.s 1 20=.agg y.c.cells.toArray/\Az e b.s 1 20=true/\e.cell? ⟨n,c*5,none⟩=some (ι k))
        (first | exact J.o _ D.o | exact J.o _ ((aA.refl (λ_=>False) q).drew) | exact J.o _ (aA.refl (λ_=>False) q) | (simp[*,A3,A4];done))
        (first | (go_at_call 85;refine(de.o _).mono ?_;rintro al ae ⟨rfl,a4⟩;have D:=Aa (((aA.refl (λ_=>False) q).drew).then a4)))
       have eg:=D.o.cell di id;have dc:=Aa (DY ag.o (D.o.alloc (.cells #[ι bc,ι j] 3)) (λ_ _ i=>i));have cr:=Aa (aD.new ae [ι bc,ι j] 3);have cv:=Aa ((Y.o.then D.o).alloc (.cells #[ι bc,ι j] 3));have ct:=Aa (show s.heap.size<=ae.heap.size/\(Value.slice t v u).ownBlock≠some ae.heap.size from⟨(Y.o.then D.o).size,λi=>by have bu:=(ag.o.lt _ i).2;have bv:=D.o.size;omega⟩);clear bq br ay bt dh dj dk;go_wp2;go_roundw;case rel=>exact⟨c+1,v,u,t,ae.heap.size,by omega,by go_num,rfl,rfl,Aa (by rw[N.o];exact dc.o),Aa (by rw[N.o];exact cr.o),ct,cv⟩
       case measure=>simp[intOf];omega
      have dq:((o:Int)==(p:Int))=false:=by simp;omega
      have N:=Aa (show B0 y.c a p (c+1)=B0 y.c a p c by rw[ah.o,ig cb]);go_wp2_with fail
      go_roundw;case rel=>exact⟨c+1,v,u,t,r,by omega,by go_num,rfl,rfl,by rw[N.o];exact ag,by rw[N.o];exact ao,I,Y⟩
      case measure=>simp[intOf];omega
    have dz:c=A:=by omega
    subst dz;have dx:decide ((c:Int)<(c:Int))=false:=by simp
    rw[QJ y.c a p c (by rw[M.o];exact ir _)]at E L;go_wp2_with fail
    go_roundw;case rel=>exact⟨p+1,v,u,t,r,by omega,by go_num,rfl,rfl,E,L,I,B⟩
    case measure=>simp[intOf];omega
  have d7:p=h+1:=by omega
  subst d7;have dr:decide (((h+1:Nat):Int)<=(h:Int))=false:=lx (by omega);have dw:decide (h+1<=h)=false:=by simp
  have du:decide ((h:Int)+1<=(h:Int))=false:=lx (by omega);have dn:=bh.o h A;rw[QJ y.c a h A (by rw[M.o];exact ir _)]at dn;have cs:=Aa (show Hh y.c a=(C2 y.c a (h+1)).1++[(C2 y.c a (h+1)).2.1,(C2 y.c a (h+1)).2.2] by unfold Hh;rw[show y.c.size.toNat=h by omega]);have e4:=B.o.size;go_wp2_with (at_builtin;refine Fl rfl _ _ rfl s.heap.size (.slice t v u) (C2 y.c a (h+1)).1.length (C2 y.c a (h+1)).1 rfl E.o r 2 [(C2 y.c a (h+1)).2.1,(C2 y.c a (h+1)).2.2] rfl rfl L.o (by omega) (by omega) (by omega) ?_;intro dl c2 ec d5 d1 et)
  go_ret;refine⟨_,rfl,?_,?_⟩
  ·rw[cx.o,cs.o,ic];exact Xd d5 d8
  exact bk.o.then (B.o.trans d1 (λF ab b5=>by have:=(E.o.lt F ab).1;omega))
