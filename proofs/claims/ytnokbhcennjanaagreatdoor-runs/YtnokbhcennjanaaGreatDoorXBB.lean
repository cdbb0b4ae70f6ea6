import Derived.Deep.DeepCutAuto
import Derived.Test.YtnokbhcennjanaaGreatDoorXBA
open Go.RowKit Go.Proofs.Tryz
set_option maxRecDepth 100000
set_option maxHeartbeats 16000000
namespace Go.Proofs.YtnokbhcennjanaaGreatDoor
section
attribute [local go_sem ↓] AN B2
attribute [local go_sem] AO B4 A5 A6 AI AJ BC BD Bf B3
theorem UY(c:Cfg)(a:List Value): c.eD a=c.cells++a:=rfl
theorem Hw{w:World}{b:RB}{y:aG}(i:aD w b.s (C4 b y) 113): Ao w b.s 1 20=.agg y.c.cells.toArray/\Ay w b.s 1 20=true:=by
 have e:∀a,a<20->w.cell? ⟨b.s,1+a,none⟩=y.c.cells[a]?:=by
  intro a c;have d:a<y.c.cells.length:=c;rw[hX d];refine i.cell ?_;rw[kT];show(y.c.eD (b.iv::b.ev::y.ref.map (.int .i64 ·)))[a]?=_;rw[UY,iO d,hX d]
 refine⟨?_,?_⟩
 ·unfold Ao Cv;congr 2;apply j4;intro a;by_cases c:a<20
  ·rw[iP,List.getElem?_range c];simp only[ke,e a c];rw[hX (show a<y.c.cells.length from c)];rfl
  rw[jz (by simp;omega),jz (by show y.c.cells.length<=a;show 20<=a;omega)]
 unfold Ay;rw[ki];intro a c;have h:a<20:=by simpa using c
 rw[e a h,hX (show a<y.c.cells.length from h)];rfl
theorem Py(n:Int)(e:Nat)(clock:Int)(b:RB)(y:aG)(o:aO)(w:World)(c:bN w b y)(hi:dX n y)(bc:n<=1152921504606846976)(ab:w.cell? ⟨e,0,none⟩=some (.int .i64 clock))(c0:0<=clock)(c1:clock<=4611686018427387904):
  Calls prog 88 #[.pointer (some ⟨e,0,none⟩),.pointer (some ⟨b.s,0,none⟩),o.val] w λh z=>h=.returned (.int .i64 (Ck y clock o))/\lO w z:=by
 obtain⟨m,E⟩:∃m,m=w.alloc (.cells o.cells.toArray 48):=⟨_,rfl⟩;have D:lO w m:=by rw[E];exact(aA.refl (λ_=>False) w).alloc _
 have C:=Aa (show aD m w.heap.size o.cells 48 by rw[E];exact aD.new w o.cells 48);have i:=Aa (c.still D);have H:=Aa (D.cell ab id);have U:=Aa D;have hlen:y.items.length<=1152921504606846976:=by have:=hi.items;omega
 obtain⟨ak,al,bi,bj,a9,ba⟩:=hi.common
 have an:=Aa (show y.c.kind=4\/y.c.kind=5->y.c.bH from λu=>by
    obtain⟨P,aw,_,_,_,M⟩:=Fw hi.valid;have au:P=4\/P=5:=by omega
    rcases au with rfl | rfl;all_goals
     simp only[Gj,Fs,CN,iK]at M;first | obtain⟨_,X,Y,Z⟩:=M | obtain⟨X,Y,Z⟩:=M
     obtain⟨a1,a2⟩:=Bp X;obtain⟨a3,a4⟩:=Bp Y;obtain⟨a5,a6⟩:=Bp Z
     exact⟨a1,a2,a3,a4,a5,a6⟩)
 have af:y.c.kind=1\/y.c.kind=2\/y.c.kind=3\/y.c.kind=4\/y.c.kind=5:=by
  obtain⟨P,aw,_,_,_,_⟩:=Fw hi.valid;omega
 obtain⟨aq,ar⟩:=Hw i.o.aF;have L:b.s<m.heap.size:=i.o.aF.lt;have F:=C.o.c2;have Q:=i.o.aF.c1;have W:=Aa E;clear c hi D ab E;unfold aO.val;have N:(o.a<0\/(0<=o.a/\4611686018427387904<o.a))\/(0<=o.a/\o.a<=4611686018427387904):=by omega
 rcases N with N | ⟨a8,ap⟩
 ·have v:Ab o.a 0 4611686018427387904=false:=by simp[Ab];omega
  have a:=Aa (show Ck y clock o=5 by unfold Ck;rw[v];rfl);rcases N with ay | ⟨ay,bd⟩ <;> rcases af with d | d | d | d | d
  all_goals
   rw[d]at Q;go_enter func88,ntmps88;go_upto_region 1 with fail
   rw[<-W.o];go_wp2_with fail
   refine(Ls b y m i.o hlen).mono ?_;rintro h R ⟨rfl,ai⟩;rw[ai];clear ai R;go_wp2_with fail
   refine(Jj e b.s y.c.aK clock m H.o (i.o.aF.cell rfl) ak al c0 c1).mono ?_;rintro h R ⟨rfl,l⟩;have F:=l.cell F id;have am:=Aa (U.o.then l);clear l;go_wp2;go_ret;exact⟨by rw[a.o];rfl,am.o⟩
 have v:Ab o.a 0 4611686018427387904=true:=by simp[Ab];omega
 have a:=Aa (show Ck y clock o=if o.a<=clock-y.c.aK then 6 else if clock<o.a-y.c.bF then 7 else if FL y.c o.a=0 then 8 else if (GO y.c&&!Ab o.b 0 2147483648)=true then 10 else if (y.c.kind==5&&!Ab o.c 1 2147483648)=true then 9 else if y.c.cap<=(Ap y.items).length then 11 else 0 by unfold Ck;rw[h9 v]);have O:FL y.c o.a=if y.c.kind=4\/y.c.kind=5 then Ar (Am y.c o.a) else 1:=by
  unfold FL;rw[v,Bool.and_true];by_cases u:y.c.kind=4\/y.c.kind=5
  ·rw[h9 u,h9 (by simpa using u)]
  rw[hZ u,hZ (by simpa using u)]
 rcases af with d | d | d | d | d;all_goals
  have V:=Aa (show GO y.c=decide (y.c.kind=2\/y.c.kind=3\/y.c.kind=5) by unfold GO;rw[d];rfl);rw[d]at Q;rw[d]at O;have I:=Aa O;have ao:=Aa (show y.c.kind=4\/y.c.kind=5->y.c.bH from an.o);go_enter func88,ntmps88;go_upto_region 1 with fail
  rw[<-W.o];clear O v;generalize w.heap.size=G at *
  go_wp2_with fail
  first
   | (have az:=ao.o (by omega)
      go_region_held3 (λz=>Ao z b.s 1 20=.agg y.c.cells.toArray/\Ay z b.s 1 20=true/\z.cell? ⟨G,2,none⟩=some (.int .i64 o.a))
       (first | (simp[*,A5,A6];done) | (go_split_ands;exact⟨(Cb l id (by exact L)).1.trans (by assumption),(Cb l id (by exact L)).2.trans (by assumption),l.cell (by assumption) id⟩))
       (first | (go_at_call 85;refine(Ht y.c o.a _ az (by omega) ap).mono ?_;rintro h R ⟨rfl,l⟩))
      have t:=Aa (((aA.refl (λ_=>False) m).drew).then l);have J:=I.o;rw[h9 (by decide)]at J;rw[<-J];have T:=Aa (show True\/FL y.c o.a=1 from .inl trivial);clear l J
      go_wp2_with fail)
   | (have t:=Aa (aA.refl (λ_=>False) m)
      have T:=Aa (show False\/FL y.c o.a=1 from .inr (by rw[I.o,hZ (by decide)])))
  clear Q F aq ar I L;refine(Ls b y _ (i.o.still t.o) hlen).mono ?_;rintro h A ⟨rfl,aj⟩;rw[aj];clear aj A;go_wp2_with fail
  refine(Jj e b.s y.c.aK clock _ (t.o.cell H.o id) ((i.o.still t.o).aF.cell rfl) ak al c0 c1).mono ?_;rintro h s ⟨rfl,ae⟩;have q:=t.o.then ae;have F:s.cell? ⟨G,2,none⟩=some (.int .i64 o.a):=q.cell (C.o.cell rfl) id;have be:s.cell? ⟨G,3,none⟩=some (.int .i64 o.b):=q.cell (C.o.cell rfl) id;have bf:s.cell? ⟨G,4,none⟩=some (.int .i64 o.c):=q.cell (C.o.cell rfl) id;have bg:s.cell? ⟨b.s,3,none⟩=some (.int .i64 y.c.bF):=q.cell (i.o.aF.cell rfl) id;have bh:s.cell? ⟨b.s,4,none⟩=some (.int .i64 y.c.cap):=q.cell (i.o.aF.cell rfl) id;have bb:s.cell? ⟨e,0,none⟩=some (.int .i64 clock):=q.cell H.o id;have r:=Aa (U.o.then q);clear ae q;generalize(Ap y.items).length=a7 at *
  generalize ax:clock-y.c.aK=mark at *
  clear ax;generalize FL y.c o.a=S at *
  have B:=Aa d;clear d;by_cases ag:o.a<=mark
  ·have a:=Aa (a.o.trans (h9 ag));go_wp2;go_ret;exact⟨by rw[a.o];rfl,r.o⟩
  have a:=Aa (a.o.trans (hZ ag));by_cases ah:clock<o.a-y.c.bF
  ·have a:=Aa (a.o.trans (h9 ah));go_wp2_with fail
   go_region
   go_wp2;go_ret;exact⟨by rw[a.o];rfl,r.o.drew⟩
  have a:=Aa (a.o.trans (hZ ah));by_cases x:S=0
  ·have a:=Aa (a.o.trans (h9 x));first
    | (exact T.o.elim (λc=>c.elim) (λc=>by omega))
    | (have a0:(S==0)=true:=by simpa using x
       go_wp2_with fail
       go_region
       go_wp2;go_ret
       exact⟨by rw[a.o];rfl,r.o.drew⟩)
  have a:=Aa (a.o.trans (hZ x));have a0:(S==0)=false:=by simpa using x
  clear x;by_cases j:(GO y.c&&!Ab o.b 0 2147483648)=true
  ·have a:=Aa (a.o.trans (h9 j));rw[V.o,B.o]at j;first
    | (simp at j;done)
    | (have aa:Ab o.b 0 2147483648=false:=by simpa using j
       clear j;go_wp2_with fail
       go_region
       go_wp2_with (go_at_call 53;refine(EO _ _ _ _).mono ?_;rintro h A ⟨rfl,rfl⟩)
       go_ret
       exact⟨by rw[a.o];rfl,r.o.drew⟩)
  have a:=Aa (a.o.trans (hZ j));rw[V.o,B.o]at j;have aa:Ab o.b 0 2147483648=true\/True:=.inr trivial;first | (have aa:Ab o.b 0 2147483648=true:=by simpa using j) | skip
  clear j;by_cases k:(y.c.kind==5&&!Ab o.c 1 2147483648)=true
  ·have a:=Aa (a.o.trans (h9 k));rw[B.o]at k;first
    | (simp at k;done)
    | (have av:Ab o.c 1 2147483648=false:=by simpa using k
       clear k;go_wp2_with fail
       go_region
       go_wp2_with (go_at_call 53;refine(EO _ _ _ _).mono ?_;rintro h A ⟨rfl,rfl⟩)
       go_ret
       exact⟨by rw[a.o];rfl,r.o.drew⟩)
  have a:=Aa (a.o.trans (hZ k));rw[B.o]at k;first | (have av:Ab o.c 1 2147483648=true:=by simpa using k) | skip
  clear k;by_cases ad:y.c.cap<=(a7:Int)
  ·have a:=Aa (a.o.trans (h9 ad));go_wp2_with fail
   go_region
   go_wp2_with (go_at_call 53;refine(EO _ _ _ _).mono ?_;rintro h A ⟨rfl,rfl⟩)
   go_ret;exact⟨by rw[a.o];rfl,r.o.drew⟩
  have a:=Aa (a.o.trans (hZ ad));go_wp2_with fail
  go_region
  go_wp2_with (go_at_call 53;refine(EO _ _ _ _).mono ?_;rintro h A ⟨rfl,rfl⟩)
  go_ret;exact⟨by rw[a.o];rfl,r.o.drew⟩
