import Derived.Deep.DeepCutAuto
import Derived.Test.YtnokbhcennjanaaGreatDoorXAN
open Go.RowKit Go.Proofs.Tryz
set_option maxRecDepth 100000
set_option maxHeartbeats 16000000
namespace Go.Proofs.YtnokbhcennjanaaGreatDoor
section
attribute [local go_sem ↓] AH Bs
attribute [local go_sem] AI Bt A3 A4 AJ AL B8 B9 Bd B2
theorem Wn(c:Cfg)(a:List Value): c.eC a=c.cells++a:=rfl
theorem Ie{w:World}{b:RB}{y:aG}(i:aD w b.s (CB b y) 113): Ap w b.s 1 20=.agg y.c.cells.toArray/\Az w b.s 1 20=true:=by
 have e:∀a,a<20->w.cell? ⟨b.s,1+a,none⟩=y.c.cells[a]?:=by
  intro a c;have d:a<y.c.cells.length:=c;rw[h9 d];refine i.cell ?_;rw[k6];show(y.c.eC (b.iv::b.ev::y.ref.map (ι ·)))[a]?=_;rw[Wn,iN d,h9 d]
 refine⟨?_,?_⟩
 ·unfold Ap C1;congr 2;apply ke;intro a;by_cases c:a<20
  ·rw[iS,List.getElem?_range c];simp only[ko,e a c];rw[h9 (show a<y.c.cells.length from c)];rfl
  rw[jC (by simp;omega),jC (by show y.c.cells.length<=a;show 20<=a;omega)]
 unfold Az;rw[kt];intro a c;have h:a<20:=by simpa using c
 rw[e a h,h9 (show a<y.c.cells.length from h)];rfl
theorem PZ(n:Int)(e:Nat)(clock:Int)(b:RB)(y:aG)(o:aO)(w:World)(c:bN w b y)(hi:dZ n y)(bc:n<=1152921504606846976)(ab:w.cell? ⟨e,0,none⟩=some (ι clock))(c0:0<=clock)(c1:clock<=4611686018427387904):
  Calls prog 88 #[π e,π b.s,o.val] w λh z=>h=.returned (ι (Cp y clock o))/\lX w z:=by
 obtain⟨m,E⟩:∃m,m=w.alloc (.cells o.cells.toArray 48):=⟨_,rfl⟩;have D:lX w m:=by rw[E];exact(aA.refl (λ_=>False) w).alloc _
 have C:=Aa (show aD m w.heap.size o.cells 48 by rw[E];exact aD.new w o.cells 48);have i:=Aa (c.still D);have H:=Aa (D.cell ab id);have U:=Aa D;have hlen:y.items.length<=1152921504606846976:=by have:=hi.items;omega
 obtain⟨ak,al,bi,bj,a9,ba⟩:=hi.common
 have an:=Aa (show y.c.kind=4\/y.c.kind=5->y.c.bI from λu=>by
    obtain⟨P,aw,_,_,_,M⟩:=F2 hi.valid;have au:P=4\/P=5:=by omega
    rcases au with rfl | rfl;all_goals
     simp only[Gs,Fz,CV,iQ]at M;first | obtain⟨_,X,Y,Z⟩:=M | obtain⟨X,Y,Z⟩:=M
     obtain⟨a1,a2⟩:=Bu X;obtain⟨a3,a4⟩:=Bu Y;obtain⟨a5,a6⟩:=Bu Z
     exact⟨a1,a2,a3,a4,a5,a6⟩)
 have af:y.c.kind=1\/y.c.kind=2\/y.c.kind=3\/y.c.kind=4\/y.c.kind=5:=by
  obtain⟨P,aw,_,_,_,_⟩:=F2 hi.valid;omega
 obtain⟨aq,ar⟩:=Ie i.o.aF;have L:b.s<m.heap.size:=i.o.aF.lt;have F:=C.o.c2;have Q:=i.o.aF.c1;have W:=Aa E;clear c hi D ab E;unfold aO.val;have N:(o.a<0\/(0<=o.a/\4611686018427387904<o.a))\/(0<=o.a/\o.a<=4611686018427387904):=by omega
 rcases N with N | ⟨a8,ap⟩
 ·have v:Ab o.a 0 4611686018427387904=false:=by simp[Ab];omega
  have a:=Aa (show Cp y clock o=5 by unfold Cp;rw[v];rfl);rcases N with ay | ⟨ay,bd⟩ <;> rcases af with d | d | d | d | d
  all_goals
   rw[d]at Q;go_enter func88,ntmps88;go_upto_region 1 with fail
   rw[<-W.o];go_wp2_with fail
   refine(L3 b y m i.o hlen).mono ?_;rintro h R ⟨rfl,ai⟩;rw[ai];clear ai R;go_wp2_with fail
   refine(J0 e b.s y.c.aL clock m H.o (i.o.aF.cell rfl) ak al c0 c1).mono ?_;rintro h R ⟨rfl,l⟩;have F:=l.cell F id;have am:=Aa (U.o.then l);clear l;go_wp2;go_ret;exact⟨by rw[a.o];rfl,am.o⟩
 have v:Ab o.a 0 4611686018427387904=true:=by simp[Ab];omega
 have a:=Aa (show Cp y clock o=if o.a<=clock-y.c.aL then 6 else if clock<o.a-y.c.bF then 7 else if FT y.c o.a=0 then 8 else if (He y.c&&!Ab o.b 0 2147483648)=true then 10 else if (y.c.kind==5&&!Ab o.c 1 2147483648)=true then 9 else if y.c.cap<=(Aq y.items).length then 11 else 0 by unfold Cp;rw[ij v]);have O:FT y.c o.a=if y.c.kind=4\/y.c.kind=5 then As (Am y.c o.a) else 1:=by
  unfold FT;rw[v,Bool.and_true];by_cases u:y.c.kind=4\/y.c.kind=5
  ·rw[ij u,ij (by simpa using u)]
  rw[ig u,ig (by simpa using u)]
 rcases af with d | d | d | d | d;all_goals
  have V:=Aa (show He y.c=decide (y.c.kind=2\/y.c.kind=3\/y.c.kind=5) by unfold He;rw[d];rfl);rw[d]at Q;rw[d]at O;have I:=Aa O;have ao:=Aa (show y.c.kind=4\/y.c.kind=5->y.c.bI from an.o);go_enter func88,ntmps88;go_upto_region 1 with fail
  rw[<-W.o];clear O v;generalize w.heap.size=G at *
  go_wp2_with fail
  first
   | (have az:=ao.o (by omega)
      go_region_held3 (λz=>Ap z b.s 1 20=.agg y.c.cells.toArray/\Az z b.s 1 20=true/\z.cell? ⟨G,2,none⟩=some (ι o.a))
       (first | (simp[*,A3,A4];done) | (go_split_ands;exact⟨(Cf l id (by exact L)).1.trans (by assumption),(Cf l id (by exact L)).2.trans (by assumption),l.cell (by assumption) id⟩))
       (first | (go_at_call 85;refine(Ia y.c o.a _ az (by omega) ap).mono ?_;rintro h R ⟨rfl,l⟩))
      have t:=Aa (((aA.refl (λ_=>False) m).drew).then l);have J:=I.o;rw[ij (by decide)]at J;rw[<-J];have T:=Aa (show True\/FT y.c o.a=1 from .inl trivial);clear l J
      go_wp2_with fail)
   | (have t:=Aa (aA.refl (λ_=>False) m)
      have T:=Aa (show False\/FT y.c o.a=1 from .inr (by rw[I.o,ig (by decide)])))
  clear Q F aq ar I L;refine(L3 b y _ (i.o.still t.o) hlen).mono ?_;rintro h A ⟨rfl,aj⟩;rw[aj];clear aj A;go_wp2_with fail
  refine(J0 e b.s y.c.aL clock _ (t.o.cell H.o id) ((i.o.still t.o).aF.cell rfl) ak al c0 c1).mono ?_;rintro h s ⟨rfl,ae⟩;have q:=t.o.then ae;have F:κ s G 2 (ι o.a):=q.cell (C.o.cell rfl) id;have be:κ s G 3 (ι o.b):=q.cell (C.o.cell rfl) id;have bf:κ s G 4 (ι o.c):=q.cell (C.o.cell rfl) id;have bg:κ s b.s 3 (ι y.c.bF):=q.cell (i.o.aF.cell rfl) id;have bh:κ s b.s 4 (ι y.c.cap):=q.cell (i.o.aF.cell rfl) id;have bb:κ s e 0 (ι clock):=q.cell H.o id;have r:=Aa (U.o.then q);clear ae q;generalize(Aq y.items).length=a7 at *
  generalize ax:clock-y.c.aL=mark at *
  clear ax;generalize FT y.c o.a=S at *
  have B:=Aa d;clear d;by_cases ag:o.a<=mark
  ·have a:=Aa (a.o.trans (ij ag));go_wp2;go_ret;exact⟨by rw[a.o];rfl,r.o⟩
  have a:=Aa (a.o.trans (ig ag));by_cases ah:clock<o.a-y.c.bF
  ·have a:=Aa (a.o.trans (ij ah));go_wp2_with fail
   go_region
   go_wp2;go_ret;exact⟨by rw[a.o];rfl,r.o.drew⟩
  have a:=Aa (a.o.trans (ig ah));by_cases x:S=0
  ·have a:=Aa (a.o.trans (ij x));first
    | (exact T.o.elim (λc=>c.elim) (λc=>by omega))
    | (have a0:(S==0)=true:=by simpa using x
       go_wp2_with fail
       go_region
       go_wp2;go_ret
       exact⟨by rw[a.o];rfl,r.o.drew⟩)
  have a:=Aa (a.o.trans (ig x));have a0:(S==0)=false:=by simpa using x
  clear x;by_cases j:(He y.c&&!Ab o.b 0 2147483648)=true
  ·have a:=Aa (a.o.trans (ij j));rw[V.o,B.o]at j;first
    | (simp at j;done)
    | (have aa:Ab o.b 0 2147483648=false:=by simpa using j
       clear j;go_wp2_with fail
       go_region
       go_wp2_with (go_at_call 53;refine(EV _ _ _ _).mono ?_;rintro h A ⟨rfl,rfl⟩)
       go_ret
       exact⟨by rw[a.o];rfl,r.o.drew⟩)
  have a:=Aa (a.o.trans (ig j));rw[V.o,B.o]at j;have aa:Ab o.b 0 2147483648=true\/True:=.inr trivial;first | (have aa:Ab o.b 0 2147483648=true:=by simpa using j) | skip
  clear j;by_cases k:(y.c.kind==5&&!Ab o.c 1 2147483648)=true
  ·have a:=Aa (a.o.trans (ij k));rw[B.o]at k;first
    | (simp at k;done)
    | (have av:Ab o.c 1 2147483648=false:=by simpa using k
       clear k;go_wp2_with fail
       go_region
       go_wp2_with (go_at_call 53;refine(EV _ _ _ _).mono ?_;rintro h A ⟨rfl,rfl⟩)
       go_ret
       exact⟨by rw[a.o];rfl,r.o.drew⟩)
  have a:=Aa (a.o.trans (ig k));rw[B.o]at k;first | (have av:Ab o.c 1 2147483648=true:=by simpa using k) | skip
  clear k;by_cases ad:y.c.cap<=(a7:Int)
  ·have a:=Aa (a.o.trans (ij ad));go_wp2_with fail
   go_region
   go_wp2_with (go_at_call 53;refine(EV _ _ _ _).mono ?_;rintro h A ⟨rfl,rfl⟩)
   go_ret;exact⟨by rw[a.o];rfl,r.o.drew⟩
  have a:=Aa (a.o.trans (ig ad));go_wp2_with fail
  go_region
  go_wp2_with (go_at_call 53;refine(EV _ _ _ _).mono ?_;rintro h A ⟨rfl,rfl⟩)
  go_ret;exact⟨by rw[a.o];rfl,r.o.drew⟩
