import Derived.Test.YtnokbhcennjanaaGreatDoorXAQ
open Go.RowKit Go.Proofs.Tryz
set_option maxRecDepth 100000
set_option maxHeartbeats 16000000
namespace Go.Proofs.YtnokbhcennjanaaGreatDoor
section
attribute [local go_sem ↓] AH Bs
attribute [local go_sem] AI Bt A3 A4 AJ AL B8 B9 Bd B2
theorem YW(n:Int)(e:Nat)(v:Value)(clock aC:Int)(ps:List (RB×aG))(o:aO)(w:World)(d:aZ w e v clock aC ps)(hi:bZ n clock aC (ps.map (·.2)))(bh:n<1099511627776)(p:RB×aG)(E:BL ps o.id=some p)(az:Cp p.2 clock o=0):
  Calls prog 61 #[π e,o.val] w λM ba=>M=.returned (.tuple #[ι ((p.2.items.length:Int)+1),ι 0])/\Dm w e v ps ⟨clock,aC,Do (ps.map (·.2)) o.id (Fh p.2 o)⟩ ba:=by
 have H:p∈ps:=jc E;have Q:=Aa H;have F:=hi.bD p.2 (iK H);have af:=Aa F;have bf:=F.items;have au:ps.length<=1000:=by have:=hi.bX;rw[iu]at this;omega
 have s:o.cells[1]?=some (ι o.id):=rfl;have bb:=Aa d;have G:lX w (w.alloc (.cells o.cells.toArray 48)):=(aA.refl (λ_=>False) w).alloc _;have R:=Aa (show aD (w.alloc (.cells o.cells.toArray 48)) w.heap.size o.cells 48 from aD.new w o.cells 48);have r:=Aa (d.still G);have ag:=Aa G;have am:=hi.c0;have an:=hi.c1;have O:=Aa E;clear d G F H hi E;unfold aO.val;go_enter func61,ntmps61;go_wp2_with fail
 generalize w.alloc (.cells o.cells.toArray 48)=ab at *
 generalize ax:w.heap.size=bm at *
 clear ax;refine(Gm e v clock aC o.id ps ab r.o au).mono ?_;rintro M c ⟨rfl,X⟩;rw[X,O.o];clear X c;unfold Fy;obtain⟨a3,aq⟩:=CM R.o 26 rfl;go_wp2_with fail
 refine(PZ n e clock p.1 p.2 o ab (r.o.bM p Q.o) af.o (by omega) (r.o.aF.cell rfl) am an).mono ?_;rintro M c ⟨rfl,x⟩;rw[az];have N:=Aa (r.o.still x);have B:=Aa (R.o.keeps x id);have P:=Aa (ag.o.then x);clear x a3 aq;have l:=Aa (N.o.bM p Q.o);have W:κ c p.1.s 21 p.1.iv:=l.o.aF.cell rfl;have ao:=l.o.aF.frozen;have I:=l.o.bC;have a1:=l.o.aF.lt;have bj:=B.o.c2;have bk:=B.o.c3;have bl:=B.o.c4;have ah:=Aa l.o.si;obtain⟨a7,ar,a4,a5,a6⟩:=jg zNe;have av:∃C D,p.1.iv=.slice C p.2.items.length D:=by
  rcases I.2 with ⟨s,aj⟩ | ⟨g,D,bc,s,_⟩
  ·exact⟨none,0,by rw[s,aj]⟩
  exact⟨some ⟨g,0,none⟩,D,s⟩
 obtain⟨a8,a9,L⟩:=av;generalize U:p.2.items.length=h at *
 have A:=Aa U;clear U;have z:Hid (∀i j,(c.alloc i).drew.grownBy j p.1.iv.ownBlock->κ j p.1.s 21 p.1.iv/\j.frozen? ⟨p.1.s,21,none⟩=false):=λi j ap=>by
  have S:j.heap[p.1.s]?=c.heap[p.1.s]?:=by
   rw[ap.block p.1.s (by simp;omega) (λd=>ah.o d.symm)];show(c.alloc i).heap[p.1.s]?=_;rw[ju _ _ _ a1]
  exact⟨(jB (a:=⟨p.1.s,21,none⟩) S).trans W,(jM (a:=⟨p.1.s,21,none⟩) S).trans (ao 21)⟩
 have aw:Hid (∀i,(c.alloc i).drew.heap[c.heap.size]?=some i):=λi=>iH c i
 have ae:=Aa (λ(j:World) (k q:Nat) (i:Obj) (J:j.ownsRow 0 150 5 (σ k (h+1) q) (h+1) (C4 p.2.items++(⟨o.a,o.b,o.c,(h:Int)+1,0⟩:bA).cells)) (m:(c.alloc i).drew.grownBy j p.1.iv.ownBlock) (u:p.1.iv.ownBlock=some k\/k=c.heap.size+1) =>
    zNx l.o A.o rfl J m u)
 rw[L]at W I z;have ai:=Aa L;have bi:IntKind.i64.wrap ((h:Int)+1)=(h:Int)+1:=GY (by omega) (by omega);clear L;go_wp2_with fail
 go_region_law
  ((refine kF _ (by rfl) _ _ _ (by rfl) 0 150 a7 _ 5 40 underlying109 ar a4 a5 a6 rfl (by omega) (.slice a8 h a9) h (C4 p.2.items) (by rfl) ((I.alloc _).drew)
        ⟨c.heap.size,0,none⟩ 1 1 [ι o.a,ι o.b,ι o.c,ι ((h:Int)+1),ι 0] (by rfl) (by rfl) (iJ (cs:=#[ι o.a,ι o.b,ι o.c,ι ((h:Int)+1),ι 0]) (t:=150) (fr:=(0,0)) (aw.out _)) (by simp[Value.oneCell'])
        (by omega) (by unfold maxLen;omega) (by omega) (by omega) (c.heap.size+1) (by simp) ?_;intro k q j J m u bg;have bd:=(z.out _ _ m).1;have be:=(z.out _ _ m).2))
 all_goals
  rw[<-ai.o]at m u;have ad:=ae.o _ _ _ _ J m u;obtain⟨ak,T,V⟩:=ad;go_wp2;go_ret2;refine⟨by rw[A.o];rfl,?_⟩;obtain⟨Z,aa,ay,a2⟩:=Oe O.o;subst ay;have a0:bN (j.setCell ⟨p.1.s,21,none⟩ (σ k (h+1) q)) ⟨p.1.s,σ k (h+1) q,p.1.ev⟩ (Fh p.2 o):=by
   unfold Fh;rw[A.o];exact ak
  have al:=N.o.one T a0 V;refine⟨v,Z++(⟨p.1.s,σ k (h+1) q,p.1.ev⟩,Fh p.2 o)::aa,al,?_,?_,?_⟩
  ·simp only[a2];simp
  ·refine(P.o.mono (M':=bH e v (Z++p::aa)) (λ_ _ d=>d.elim)).trans T (λY hi _=>.inr (.inr ⟨p,by simp,hi⟩))
  intro Y hi;rcases bH.one (w:=c) V Y hi with d | d
  ·exact .inl d
  exact .inr (by have:=P.o.size;omega)
