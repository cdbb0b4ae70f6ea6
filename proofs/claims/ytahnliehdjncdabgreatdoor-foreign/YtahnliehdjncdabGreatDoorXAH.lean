import Derived.Test.YtahnliehdjncdabGreatDoorXAG
import Derived.Test.YtahnliehdjncdabGreatDoorXAA
set_option maxRecDepth 100000
set_option maxHeartbeats 16000000
namespace Go.Proofs.YtahnliehdjncdabGreatDoor
section
open Go.RowKit
theorem lose_any(q:Nat)(og:Option Nat)(l:List Bk)(k:Nat)(w:World)(h:RowRep w q og l)(hk:k<=l.length):
  Calls Tryz.prog 182 #[.pointer (some ⟨q,0,none⟩),.int .i64 k] w λe w'=>e=.returned (.tuple #[])/\RowRep w' q og (l.drop k)/\Keeps (λi=>i=q\/og=some i) w w':=by
 cases og with
 | none =>
  obtain⟨hl,hb⟩:=h;subst hl;have hk0:k=0:=by simpa using hk
  subst hk0;have hq1:w.cell? ⟨q,1,none⟩=some (.slice none 0 0):=hb.cell rfl;have hf:=hb.frozen;have HB:=hide hb;clear hb hk;go_enter Tryz.func182,Tryz.ntmps182
  go_wp2_with fail
  refine(qEk _).mono ?_;rintro e w' ⟨rfl,rfl⟩;go_wp2
  go_end0
  refine⟨rfl,⟨rfl,?_⟩,(Keeps.refl (λi=>i=q\/none=some i) _).setCell (p:=⟨q,1,none⟩) (Or.inl (Or.inl rfl)) _⟩;exact(uh HB).setCell 1 _
 | some g =>
  obtain⟨hne,cap,hb,hr⟩:=h;have hq1:w.cell? ⟨q,1,none⟩=some (.slice (some ⟨g,0,none⟩) l.length cap):=hb.cell rfl;have hlq:=hb.lt;have HB:=hide hb;have HR:=hide hr;clear hb hr;have HC:Hid (Calls Tryz.prog 223 #[.slice (some ⟨g,0,none⟩) l.length cap,.int .i64 0,.int .i64 k] w λe w'=>e=.returned (.slice (some ⟨g,0,none⟩) (l.length-k) cap)/\BRow w' g cap (l.drop k)/\Keeps (λi=>i=g) w w'):=by
   rcases Nat.eq_zero_or_pos k with h0 | h0
   ·subst h0
    refine(qDx g cap l.length w (uh HR).le).mono ?_;rintro e w' ⟨rfl,rfl⟩;exact⟨rfl,uh HR,Keeps.refl _ _⟩
   ·exact qGc g cap l.length k l w rfl (uh HR) h0 hk
  generalize hn:l.length=n at *;have HN:=hide hn;clear hn;go_enter Tryz.func182,Tryz.ntmps182
  go_wp2_with fail
  refine(uh HC).mono ?_;rintro e w1 ⟨rfl,hr1,hk1⟩;have HB1:=hide ((uh HB).keeps hk1 hne);have HR1:=hide hr1;have HK1:=hide hk1;clear hr1 hk1 HC HB HR hq1;have hq1:w1.cell? ⟨q,1,none⟩=some (.slice (some ⟨g,0,none⟩) n cap):=(uh HB1).cell rfl;have hf:=(uh HB1).frozen;go_wp2
  go_end0
  refine⟨rfl,⟨hne,cap,?_,?_⟩,?_⟩
  ·rw[List.length_drop,uh HN];exact(uh HB1).setCell 1 _
  ·exact(uh HR1).keeps (M:=λi=>i=q) ((Keeps.refl (λi=>i=q) _).setCell (p:=⟨q,1,none⟩) (Or.inl rfl) _) (λh=>hne h.symm)
  ·exact((uh HK1).mono (M':=λi=>i=q\/some g=some i) (λi _ h=>.inr (by rw[h]))).setCell (p:=⟨q,1,none⟩) (Or.inl (Or.inl rfl)) _
theorem RowRep.owns{w:World}{q:Nat}{og:Option Nat}{l:List Bk}(h:RowRep w q og l):
  ∃cap,Blk w q [qEc,slV og l.length cap] 267/\w.ownsRow 0 214 2 (slV og l.length cap) l.length (qBu l):=by
 cases og with
 | none=>obtain⟨rfl,hb⟩:=h;exact⟨0,hb,World.ownsRow_nil _ _ _ _⟩
 | some g =>
  obtain⟨hne,cap,hb,hr⟩:=h;exact⟨cap,hb,hr.owns⟩
theorem qF7{w w1:World}{A B:Obj}{q gg n cap cap':Nat}{og:Option Nat}{l:List Bk}{x:Bk}{v:Value}(hn:l.length=n)(hv:slV og n cap=v)(hlq:q<w.heap.size)(hb:Blk w q [qEc,v] 267)(hqv:some q≠v.ownBlock)(hown1:w1.ownsRow 0 214 2 (.slice (some ⟨gg,0,none⟩) (n+1) cap') (n+1) (qBu l++[.int .i64 x.sz,.int .i64 x.t]))(hgrow:((w.alloc A).alloc B).drew.grownBy w1 v.ownBlock)(hat:v.ownBlock=some gg\/gg=w.heap.size+2):
  RowRep (w1.setCell ⟨q,1,none⟩ (.slice (some ⟨gg,0,none⟩) (n+1) cap')) q (some gg) (l++[x]) /\
  Keeps (λk=>k=q\/og=some k) w (w1.setCell ⟨q,1,none⟩ (.slice (some ⟨gg,0,none⟩) (n+1) cap'))/\(og=some gg\/w.heap.size<=gg):=by
 have hob:∀k,v.ownBlock=some k->og=some k:=by
  intro k hk;rw[<-hv]at hk;cases og with
  | none=>simp[slV,Value.ownBlock]at hk
  | some g=>simpa[slV,Value.ownBlock] using hk
 have hqg:q≠gg:=by
  rcases hat with h | h
  ·intro e;apply hqv;rw[h,e]
  ·omega
 have hk1:Keeps (λk=>k=q\/og=some k) w w1:=(((Keeps.refl _ w).alloc A).alloc B).drew.grown hgrow (λk hk=>Or.inl (Or.inr (hob k hk)));have hb1:Blk w1 q [qEc,v] 267:=by
  unfold Blk;rw[hgrow.block q (by simp;omega) hqv];exact(hb.alloc A).alloc B
 refine⟨⟨hqg,cap',?_,?_⟩,hk1.setCell (Or.inl (Or.inl rfl)) _,?_⟩
 ·have:(l++[x]).length=n+1:=by simp[hn]
  rw[this];exact hb1.setCell 1 _
 ·have hfl:qBu l++[.int .i64 x.sz,.int .i64 x.t]=qBu (l++[x]):=by rw[qEw];rfl
  rw[hfl]at hown1;exact(brow_of_owns (by simp[hn]) hown1).keeps (M:=λk=>k=q) ((Keeps.refl (λk=>k=q) _).setCell (Or.inl rfl) _) (λh=>hqg h.symm)
 ·rcases hat with h | h
  ·exact .inl (hob gg h)
  ·exact .inr (by omega)
theorem rowPut_any(q:Nat)(og:Option Nat)(l:List Bk)(x:Bk)(w:World)(h:RowRep w q og l)(hl:l.length<=4398046511104):
  Calls Tryz.prog 184 #[.pointer (some ⟨q,0,none⟩),x.val] w λe w'=>e=.returned (.tuple #[])/\∃og',RowRep w' q og' (l++[x])/\Keeps (λk=>k=q\/og=some k) w w'/\(og'=og\/∃k,og'=some k/\w.heap.size<=k):=by
 obtain⟨hlq,hlg⟩:=h.lt;obtain⟨cap,hb,hown⟩:=h.owns;have hq1:w.cell? ⟨q,1,none⟩=some (slV og l.length cap):=hb.cell rfl;have hfz:=hb.frozen 1;obtain⟨i0,hi0,hz0,hz1,hz2⟩:=info_parts infoBk;generalize hn:l.length=n at *;generalize hv:slV og n cap=v at *;unfold Bk.val;have HB:Hid (Blk w q [qEc,v] 267):=hb;have HV:Hid (slV og n cap=v):=hv;have HN:Hid (l.length=n):=hn;have hqv:some q≠v.ownBlock:=by
  rw[<-hv];cases og with
  | none=>simp[slV,Value.ownBlock]
  | some g=>simp[slV,Value.ownBlock];exact(hlg g rfl).2
 have HF:Hid (∀A B w1,((w.alloc A).alloc B).drew.grownBy w1 v.ownBlock->w1.cell? ⟨q,1,none⟩=some v/\w1.frozen? ⟨q,1,none⟩=false):=λA B w1 hg=>by
  have hb1:w1.heap[q]?=w.heap[q]?:=by
   rw[hg.block q (by simp;omega) hqv];show((w.alloc A).alloc B).heap[q]?=_;rw[Below.heap_alloc _ _ _ (by simp;omega),Below.heap_alloc _ _ _ hlq]
  exact⟨(World.cell?_of_block (a:=⟨q,1,none⟩) hb1).trans hq1,(World.frozen?_of_block (a:=⟨q,1,none⟩) hb1).trans hfz⟩
 have hnew:Hid (∀A B,((w.alloc A).alloc B).drew.heap[w.heap.size+1]?=some B):=λA B=>by
  have:=heap_alloc_new (w.alloc A) B
  rwa [World.size_alloc]at this
 clear hb h hv hn hlg;go_enter Tryz.func184,Tryz.ntmps184
 go_wp2_with fail
 go_region_law
  ((refine step_append_lies _ (by rfl) _ _ _ (by rfl) 0 214 i0 _ 2 16 Tryz.underlying265 hi0 hz0 hz1 hz2 rfl (by omega) v n (qBu l) (by rfl) (((hown.alloc _).alloc _).drew)
        ⟨w.heap.size+1,0,none⟩ 1 1 [.int .i64 x.sz,.int .i64 x.t] (by rfl) (by rfl) (World.news_of_block (cs:=#[.int .i64 x.sz,.int .i64 x.t]) (t:=214) (fr:=(0,0)) (hnew.out _ _)) (by simp[Value.oneCell'])
        (by omega) (by unfold maxLen;omega) (by omega) (by omega) (w.heap.size+2) (by simp) ?_;intro gg cap' w1 hown1 hgrow hat hlt;have hcq:=(HF.out _ _ _ hgrow).1;have hfq:=(HF.out _ _ _ hgrow).2))
 all_goals
  have HE:=qF7 HN.out HV.out hlq HB.out hqv hown1 hgrow hat;obtain⟨hQ2,hK2,hog⟩:=HE;go_wp2
  go_end0
  refine⟨rfl,some gg,hQ2,hK2,?_⟩;rcases hog with h | h
  ·exact .inl h.symm
  ·exact .inr ⟨gg,rfl,h⟩
theorem qTt(q:Nat)(og:Option Nat)(l:List Bk)(i:Nat)(x:Bk)(w:World)(h:RowRep w q og l)(hi:i+2<=l.length)(hl:l.length<=4398046511104):
  Calls Tryz.prog 226 #[.pointer (some ⟨q,0,none⟩),.int .i64 i,x.val] w λe w'=>e=.returned (.tuple #[])/\RowRep w' q og (qDa l i x)/\Keeps (λk=>k=q\/og=some k) w w':=by
 cases og with
 | none=>obtain⟨hl,hb⟩:=h;subst hl;simp at hi
 | some g =>
  obtain⟨hne,cap,hb,hr⟩:=h;have hq1:w.cell? ⟨q,1,none⟩=some (.slice (some ⟨g,0,none⟩) l.length cap):=hb.cell rfl;have hf:=hb.frozen;have hlq:=hb.lt;have hlg:=hr.lt;have HB:=hide hb;have HR:=hide hr;clear hb hr;have HC:Hid (∀(sb:Nat) (W:World),BRow W g cap l->W.cell? ⟨sb,0,none⟩=some (.int .i64 x.sz)->W.cell? ⟨sb,1,none⟩=some (.int .i64 x.t)->Calls Tryz.prog 245 #[.slice (some ⟨g,0,none⟩) l.length cap,.int .i64 i,.int .i64 ((i:Int)+2),.slice (some ⟨sb,0,none⟩) 1 1] W λe w'=>e=.returned (.slice (some ⟨g,0,none⟩) (l.length-1) cap)/\BRow w' g cap (qDa l i x)/\Keeps (λk=>k=g) W w'):=by
   intro sb W hW h0 h1;rcases Nat.lt_or_ge (i+2) l.length with h2 | h2
   ·exact qNu g cap l.length i sb l x W rfl hW h2 h0 h1
   ·exact qNq g cap l.length i sb l x W rfl hW (by omega) h0 h1
  have HJL:=hide (qDt x (l:=l) (i:=i) hi);generalize hn:l.length=n at *;have HN:=hide hn;clear hn;unfold Bk.val;go_enter Tryz.func226,Tryz.ntmps226
  go_wp2_with fail
  have hw2:IntKind.i64.wrap ((i:Int)+2)=(i:Int)+2:=by rw[IntKind.wrap_i64];omega
  have HS:=hide (show ∀A w1,Keeps (λk=>k=g) ((w.alloc (.cells #[.int .i64 x.sz,.int .i64 x.t] 214)).alloc A).drew w1->Blk w1 q [qEc,.slice (some ⟨g,0,none⟩) n cap] 267 from λA w1 hk=>((((uh HB).alloc _).alloc A).drew).keeps hk hne);go_region_with (go_at_call 245;refine(uh HC (w.heap.size+1) _ ((uh HR).keeps (M:=λ_=>False) (((Keeps.refl _ _).alloc _).alloc _).drew (λh=>h)) (by simp) (by simp)).mono ?_;rintro e w1 ⟨rfl,hr1,hk1⟩;have hq2:=(uh HS _ _ hk1).cell (i:=1) rfl;have hf2:=(uh HS _ _ hk1).frozen)
  all_goals
   have hb2:=uh HS _ _ hk1;go_wp2
   go_end0
   refine⟨rfl,⟨hne,cap,?_,?_⟩,?_⟩
   ·rw[uh HJL];exact hb2.setCell 1 _
   ·exact hr1.keeps (M:=λi=>i=q) ((Keeps.refl (λi=>i=q) _).setCell (p:=⟨q,1,none⟩) (Or.inl rfl) _) (λh=>hne h.symm)
   ·exact(((((Keeps.refl (λk=>k=q\/some g=some k) w).alloc _).alloc _).drew).trans hk1 (λi hi _=>.inr (by rw[hi]))).setCell (p:=⟨q,1,none⟩) (Or.inl (Or.inl rfl)) _
theorem rowNew_any(w:World):
  Calls Tryz.prog 180 #[qEc] w λe w'=>e=.returned (.pointer (some ⟨w.heap.size,0,none⟩))/\RowRep w' w.heap.size none []/\Keeps (λ_=>False) w w'/\w'.heap.size=w.heap.size+1:=by
 unfold qEc;go_enter Tryz.func180,Tryz.ntmps180
 go_wp2
 go_ret
 exact⟨rfl,⟨rfl,Blk.new w [qEc,.slice none 0 0] 267⟩,(Keeps.refl _ _).alloc _,by simp⟩
end
section
open Go.RowKit
def qO6(c:Cfg)(r:Nat): List Value:=c.cells++[.pointer (some ⟨r,0,none⟩)]
structure CRep (w:World) (d r:Nat) (og:Option Nat) (c:Cfg) (l:List Bk):Prop where
 blk:Blk w d (qO6 c r) 217
 row:RowRep w r og l
 dr:d≠r
 dg:∀g,og=some g->d≠g
theorem CRep.keeps{M:Nat->Prop}{w w':World}{d r:Nat}{og:Option Nat}{c:Cfg}{l:List Bk}(h:CRep w d r og c l)(k:Keeps M w w')(hd:¬M d)(hr:¬M r)(hg:∀g,og=some g->¬M g): CRep w' d r og c l :=
 ⟨h.blk.keeps k hd,h.row.keeps k hr hg,h.dr,h.dg⟩
theorem CRep.still{w w':World}{d r:Nat}{og:Option Nat}{c:Cfg}{l:List Bk}(h:CRep w d r og c l)(k:Keeps (λ_=>False) w w'): CRep w' d r og c l:=h.keeps k (λh=>h) (λh=>h) (λ_ _ h=>h)
def qDn: List Bk->Int
 | []=>0
 | b::l=>b.sz+qDn l
theorem qDg(a b:List Bk): qDn (a++b)=qDn a+qDn b:=by
 induction a with
 | nil=>simp[qDn]
 | cons x l ih=>simp[qDn,ih];omega
theorem qCr{l:List Bk}(h:∀b∈l,1<=b.sz): 0<=qDn l:=by
 induction l with
 | nil=>simp[qDn]
 | cons x l ih =>
  have h1:=h x (by simp);have h2:=ih (λb hb=>h b (by simp[hb]));simp only[qDn];omega
theorem qH0(l:List Bk)(k:Nat): qDn (l.take k)+qDn (l.drop k)=qDn l:=by
 rw[<-qDg,List.take_append_drop]
theorem qGk{l:List Bk}{i:Nat}(h:i<l.length): qCf l i∈l:=by
 have:qCf l i=l[i]:=by simp[qCf,List.getD_eq_getElem?_getD,List.getElem?_eq_getElem h]
 rw[this];exact List.getElem_mem h
theorem qO1{l:List Bk}(h:∀b∈l,1<=b.sz){b:Bk}(hb:b∈l): b.sz<=qDn l:=by
 induction l with
 | nil=>simp at hb
 | cons x l ih =>
  have h0:=qCr (l:=l) (λb hb=>h b (by simp[hb]));have h1:=h x (by simp);simp only[qDn];rcases List.mem_cons.1 hb with rfl | hb
  ·omega
  ·have:=ih (λb hb=>h b (by simp[hb])) hb
   omega
def qY9(v:Value): Sem Next:=do pure (.value (<-Instr.field 214 v 0))
theorem qEv(ρ:Operand->Value)(dst:Option Tmp)(x:Operand)(ty:TypeId)(pos:String)(after:Array Edge)(guard:Option (Nat×Bool)):
  execOp ρ { dst,op:=.field 214 x 0,type:=ty,pos,after,guard }=qY9 (ρ x):=rfl
theorem qGv(a b:Value)(w:World): (qY9 (.agg #[a,b])).run Tryz.prog w=.ok (.value a) w:=by kernel_rfl
attribute [local go_sem ↓] qEv
attribute [local go_sem] qGv
def qCg(l:List Bk)(sz:Int): Nat->Nat
 | 0=>0
 | e+1=>if (qCf l e).sz=sz then qCg l sz e else e+1
theorem qZl(l:List Bk)(sz:Int)(e:Nat): qCg l sz e<=e:=by
 induction e with
 | zero=>simp[qCg]
 | succ e ih=>unfold qCg;split <;> omega
theorem qJw(l:List Bk)(sz:Int)(e i:Nat)(h1:qCg l sz e<=i)(h2:i<e): (qCf l i).sz=sz:=by
 induction e with
 | zero=>omega
 | succ e ih =>
  unfold qCg at h1
  split at h1
  ·rename_i h
   by_cases hi:i=e
   ·rw[hi];exact h
   ·exact ih h1 (by omega)
  ·omega
def joinL(K:Int): Nat->List Bk->Int->Nat->List Bk
 | 0,l,_,_=>l
 | f+1,l,sz,e=>if (e:Int)-(qCg l sz e:Int)<=K+1 then l else joinL K f (qDa l (qCg l sz e) ⟨2*sz,(qCf l (qCg l sz e+1)).t⟩) (2*sz) (qCg l sz e+1)
theorem qSz(l:List Bk)(i:Nat)(h:i+2<=l.length): l=l.take i++(qCf l i::qCf l (i+1)::l.drop (i+2)):=by
 conv=>lhs;rw[<-List.take_append_drop i l]
 rw[qHr l i (by omega),qHr l (i+1) (by omega)]
theorem qN9(l:List Bk)(i:Nat)(x:Bk)(h:i+2<=l.length)(hx:x.sz=(qCf l i).sz+(qCf l (i+1)).sz): qDn (qDa l i x)=qDn l:=by
 conv=>rhs;rw[qSz l i h]
 unfold qDa;simp only[qDg,qDn];omega
theorem qKo{P:Bk->Prop}(l:List Bk)(i:Nat)(x:Bk)(h:∀b∈l,P b)(hx:P x): ∀b∈qDa l i x,P b:=by
 intro b hb;unfold qDa at hb;rcases List.mem_append.1 hb with hb | hb
 ·rcases List.mem_append.1 hb with hb | hb
  ·exact h b (List.mem_of_mem_take hb)
  ·rw[List.mem_singleton]at hb;rw[hb];exact hx
 ·exact h b (List.mem_of_mem_drop hb)
theorem qW2(d r:Nat)(og:Option Nat)(c:Cfg)(l:List Bk)(m:Int)(w:World)(h:CRep w d r og c l)(hl:l.length<=4398046511104)(m0:-100<=m)(m1:m<=4611686018427387904)(w0:0<=c.window)(w1:c.window<=1000):
  Calls Tryz.prog 183 #[.pointer (some ⟨d,0,none⟩),.int .i64 m] w λe w'=>e=.returned (.int .i64 (pastN l (m-c.window)))/\Keeps (λ_=>False) w w':=by
 have hc5:w.cell? ⟨d,5,none⟩=some (.int .i64 c.window):=h.blk.cell rfl;have hc20:w.cell? ⟨d,20,none⟩=some (.pointer (some ⟨r,0,none⟩)):=h.blk.cell rfl;have HR:=hide h.row;have hwr:IntKind.i64.wrap (m-c.window)=m-c.window:=by rw[IntKind.wrap_i64];omega
 clear h;go_enter Tryz.func183,Tryz.ntmps183
 go_wp2_with fail
 go_region_with (go_at_call 224;refine(past_any r og l (m-c.window) _ (by exact(uh HR).still (Keeps.refl _ _).drew) hl).mono ?_;rintro e w1 ⟨rfl,hk1⟩)
 all_goals
  go_wp2
  go_ret
  exact⟨rfl,((Keeps.refl _ _).drew).then hk1⟩
theorem qT0(d r:Nat)(og:Option Nat)(c:Cfg)(l:List Bk)(sz:Int)(e:Nat)(w:World)(h:CRep w d r og c l)(hl:l.length<=4398046511104)(he:e<=l.length):
  Calls Tryz.prog 225 #[.pointer (some ⟨d,0,none⟩),.int .i64 sz,.int .i64 e] w λr w'=>r=.returned (.int .i64 (qCg l sz e))/\Keeps (λ_=>False) w w':=by
 have HR:=hide h;clear h;go_enter Tryz.func225,Tryz.ntmps225
 go_wp2
 go_loopw [7] (λs wr=>∃k:Nat,s=.int .i64 k/\k<=e/\Hid (Keeps (λ_=>False) w wr)/\Hid (qCg l sz e=qCg l sz k)) (λs _=>(intOf s).toNat)
 case atStart=>exact⟨e,rfl,Nat.le_refl _,Keeps.refl _ _,rfl⟩
 case round =>
  obtain⟨k,rfl,hk,HK,HE⟩:=hrel;have HC:=hide ((uh HR).still (uh HK));have hc20:wr.cell? ⟨d,20,none⟩=some (.pointer (some ⟨r,0,none⟩)):=(uh HC).blk.cell rfl;cases k with
  | zero =>
   go_wp2
   go_ret
   exact⟨by rw[uh HE];rfl,uh HK⟩
  | succ k =>
   have hkl:k<l.length:=by omega
   have hk1:((k+1:Nat):Int)-1=(k:Int):=by omega
   have hk0:(0:Int)<((k+1:Nat):Int):=by omega
   have hk2:((k+1:Nat):Int)<=4398046511104:=by omega
   have HU:=hide (show qCg l sz (k+1)=if (qCf l k).sz=sz then qCg l sz k else k+1 from rfl);generalize hk3:((k+1:Nat):Int)=kk at *;have HK3:=hide hk3;clear hk3;go_wp2_with fail
   refine(qEe r og l k wr (uh HC).row hkl).mono ?_;rintro x w1 ⟨rfl,hk4⟩;have HK4:=hide ((uh HK).then hk4);clear hk4;generalize qCf l k=x at *;unfold Bk.val
   by_cases hs:x.sz=sz
   ·have HS:=hide hs
    have hs':(x.sz==sz)=true:=by simpa using hs
    clear hs;go_wp2
    go_roundw
    case rel=>exact⟨k,rfl,by omega,HK4,by show _=_;rw[uh HE,uh HU,if_pos (uh HS)]⟩
    case measure=>simp[intOf];have:=uh HK3;omega
   ·have HS:=hide hs
    have hs':(x.sz==sz)=false:=by simpa using hs
    clear hs;go_wp2
    go_ret
    exact⟨by rw[uh HE,uh HU,if_neg (uh HS),uh HK3];rfl,uh HK4⟩
end
end Go.Proofs.YtahnliehdjncdabGreatDoor
