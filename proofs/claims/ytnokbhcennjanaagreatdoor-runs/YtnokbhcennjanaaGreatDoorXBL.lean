import Derived.Test.YtnokbhcennjanaaGreatDoorXBK
open Go.RowKit Go.Proofs.Tryz
set_option maxRecDepth 100000
set_option maxHeartbeats 16000000
namespace Go.Proofs.YtnokbhcennjanaaGreatDoor
section
attribute [local go_sem ↓] AN B2
attribute [local go_sem] AO B4 A5 A6 AI AJ BC BD Bf B3
attribute [local go_sem ↓] Nf
attribute [local go_sem] Oe
theorem T9(e:Nat)(v:Value)(clock aC:Int)(ps:List (RB×aG))(o:aO)(w:World)(d:aZ w e v clock aC ps)(a4:ps.length<6)(N:Ab o.id 0 99=true)(ab:BI ps o.id=none)(an:Ak o.cfg=true):
  Calls prog 60 #[.pointer (some ⟨e,0,none⟩),o.val] w λF ay=>F=.returned (.int .i64 0)/\Dc w e v ps ⟨clock,aC,ps.map (·.2)++[CH o.id o.cfg]⟩ ay:=by
 have q:o.cells[1]?=some (.int .i64 o.id):=rfl;have C:lO w (w.alloc (.cells o.cells.toArray 48)):=(aA.refl (λ_=>False) w).alloc _;have I:=Aa (show aD (w.alloc (.cells o.cells.toArray 48)) w.heap.size o.cells 48 from aD.new w o.cells 48);have G:=Aa (d.still C);have V:=Aa C;obtain⟨a7,a8⟩:=Bp N;clear d C N;unfold aO.val;go_enter func60,ntmps60;go_wp2_with fail
 generalize w.alloc (.cells o.cells.toArray 48)=R at *
 generalize am:w.heap.size=a9 at *
 clear am;refine(Ge e v clock aC o.id ps R G.o (by omega)).mono ?_;rintro F c ⟨rfl,Q⟩;rw[Q,ab];clear Q c;unfold Fq;obtain⟨ao,af⟩:=Eg I.o 5 20 o.cfg.cells rfl rfl;go_wp2_with fail
 refine(O0 o.cfg R).mono ?_;rintro F c ⟨rfl,s⟩;rw[an];have J:=Aa (I.o.keeps s id);have k:=Aa (G.o.still s);have H:=Aa (V.o.then s);clear s ao af q;have o1:=J.o.c1;have L:=k.o.aF.c2;have ad:=k.o.aF.frozen;have aa:=k.o.aF.lt;obtain⟨a6,a3⟩:=Eg J.o 5 20 o.cfg.cells rfl rfl;have P:=k.o.row;have U:=Aa k.o.ev;have aj:∃z A,v=.slice z ps.length A:=by
  rcases k.o.row.2 with ⟨q,Y⟩ | ⟨g,A,az,q,_⟩
  ·exact⟨none,0,by rw[q,Y]⟩
  exact⟨some ⟨g,0,none⟩,A,q⟩
 obtain⟨aw,ax,E⟩:=aj;obtain⟨av,ah,ap,aq,ar⟩:=jh zN2;generalize O:ps.length=m at *
 have W:=Aa O;clear O;have u:Hid (∀j h i,((c.alloc j).alloc h).drew.grownBy i v.ownBlock->i.cell? ⟨e,2,none⟩=some v/\i.frozen? ⟨e,2,none⟩=false):=λj h i ae=>by
  have M:i.heap[e]?=c.heap[e]?:=by
   rw[ae.block e (by simp;omega) (λd=>U.o d.symm)];show((c.alloc j).alloc h).heap[e]?=_;rw[jq _ _ _ (by simp;omega),jq _ _ _ aa]
  exact⟨(jw (a:=⟨e,2,none⟩) M).trans L,(jH (a:=⟨e,2,none⟩) M).trans (ad 2)⟩
 have ak:Hid (∀j h,((c.alloc j).alloc h).drew.heap[c.heap.size+1]?=some h):=λj h=>by
  have:=iJ (c.alloc j) h;rwa [jU]at this
 have T:=Aa (λ(i:World) (n B:Nat) (h:Obj) (D:i.ownsRow 0 106 1 (.slice (some ⟨n,0,none⟩) (m+1) B) (m+1) (E0 ps++[.pointer (some ⟨c.heap.size,0,none⟩)])) (l:((c.alloc (.cells (C4 ⟨0,.slice none 0 0,.slice none 0 0⟩ (CH o.id o.cfg)).toArray 113)).alloc h).drew.grownBy i v.ownBlock) (r:v.ownBlock=some n\/n=c.heap.size+2) =>
    TA (b2:=⟨c.heap.size,.slice none 0 0,.slice none 0 0⟩) (x:=CH o.id o.cfg) k.o W.o rfl rfl rfl rfl D l r)
 rw[E]at L P u;have X:=Aa E;have a0:((m:Int)==6)=false:=by simp;omega
 clear E;go_wp2_with fail
 go_region_law
  ((refine kz _ (by rfl) _ _ _ (by rfl) 0 106 av _ 1 8 underlying103 ah ap aq ar rfl (by omega) (.slice aw m ax) m (E0 ps) (by rfl) (((P.alloc _).alloc _).drew)
        ⟨c.heap.size+1,0,none⟩ 1 1 [.pointer (some ⟨c.heap.size,0,none⟩)] (by rfl) (by rfl) (iT (cs:=#[.pointer (some ⟨c.heap.size,0,none⟩)]) (t:=106) (fr:=(0,0)) (ak.out _ _)) (by simp[Value.oneCell'])
        (by omega) (by unfold maxLen;omega) (by omega) (by omega) (c.heap.size+2) (by simp) ?_;intro n B i D l r a5;have a1:=(u.out _ _ _ l).1;have a2:=(u.out _ _ _ l).2))
 all_goals
  rw[<-X.o]at l r;have S:=T.o _ _ _ _ D l r;obtain⟨Z,ai,al⟩:=S;go_wp2;go_ret;refine⟨rfl,.slice (some ⟨n,0,none⟩) (m+1) B,_,Z,by simp,?_,?_⟩
  ·exact(H.o.mono (M':=bG e v ps) (λ_ _ d=>d.elim)).then ai
  intro au ag;rcases al au ag with d | d
  ·exact .inl d
  exact .inr (by have:=H.o.size;omega)
