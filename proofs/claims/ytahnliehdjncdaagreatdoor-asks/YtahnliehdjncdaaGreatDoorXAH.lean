import Derived.Test.YtahnliehdjncdaaGreatDoorXAG
set_option maxRecDepth 100000
set_option maxHeartbeats 16000000
namespace Go.Proofs.YtahnliehdjncdaaGreatDoor
section
open Go.RowKit
def qEa: Value:=.func (.func 194) #[] #[]
def RowRep(w:World)(r:Nat)(og:Option Nat)(l:List Bk): Prop :=
 match og with
 | none=>l=[]/\Blk w r [qEa,.slice none 0 0] 264
 | some g=>r≠g/\∃cap,Blk w r [qEa,.slice (some ⟨g,0,none⟩) l.length cap] 264/\BRow w g cap l
theorem RowRep.lt{w:World}{r:Nat}{og:Option Nat}{l:List Bk}(h:RowRep w r og l): r<w.heap.size/\∀g,og=some g->g<w.heap.size/\r≠g:=by
 cases og with
 | none=>exact⟨h.2.lt,λ_ h=>by cases h⟩
 | some g=>obtain⟨hne,cap,hb,hr⟩:=h;exact⟨hb.lt,λg' h=>by cases h;exact⟨hr.lt,hne⟩⟩
theorem RowRep.keeps{M:Nat->Prop}{w w':World}{r:Nat}{og:Option Nat}{l:List Bk}(h:RowRep w r og l)(k:Keeps M w w')(hq:¬M r)(hg:∀g,og=some g->¬M g): RowRep w' r og l:=by
 cases og with
 | none=>exact⟨h.1,h.2.keeps k hq⟩
 | some g=>obtain⟨hne,cap,hb,hr⟩:=h;exact⟨hne,cap,hb.keeps k hq,hr.keeps k (hg g rfl)⟩
theorem RowRep.still{w w':World}{r:Nat}{og:Option Nat}{l:List Bk}(h:RowRep w r og l)(k:Keeps (λ_=>False) w w'): RowRep w' r og l:=h.keeps k (λh=>h) (λ_ _ h=>h)
theorem rowLen_any(q:Nat)(og:Option Nat)(l:List Bk)(w:World)(h:RowRep w q og l):
  Calls Tryz.prog 200 #[.pointer (some ⟨q,0,none⟩)] w λe w'=>e=.returned (.int .i64 l.length)/\w'=w:=by
 cases og with
 | none =>
  obtain⟨hl,hb⟩:=h
  have hq1:w.cell? ⟨q,1,none⟩=some (.slice none 0 0):=hb.cell rfl
  subst hl
  clear hb
  go_enter Tryz.func200,Tryz.ntmps200
  go_wp2
  go_ret
  exact⟨rfl,rfl⟩
 | some g =>
  obtain⟨hne,cap,hb,hr⟩:=h
  have hq1:w.cell? ⟨q,1,none⟩=some (.slice (some ⟨g,0,none⟩) l.length cap):=hb.cell rfl
  clear hb hr
  go_enter Tryz.func200,Tryz.ntmps200
  go_wp2
  go_ret
  exact⟨rfl,rfl⟩
theorem qGk(q:Nat)(og:Option Nat)(l:List Bk)(i:Nat)(w:World)(h:RowRep w q og l)(hi:i<l.length):
  Calls Tryz.prog 202 #[.pointer (some ⟨q,0,none⟩),.int .i64 i] w λe w'=>e=.returned (qBn l i).val/\Keeps (λ_=>False) w w':=by
 cases og with
 | none=>obtain⟨hl,hb⟩:=h;subst hl;simp at hi
 | some g =>
  obtain⟨hne,cap,hb,hr⟩:=h
  have hq1:w.cell? ⟨q,1,none⟩=some (.slice (some ⟨g,0,none⟩) l.length cap):=hb.cell rfl
  have hlq:=hb.lt
  have hlg:=hr.lt
  obtain⟨x0,x1⟩:=hr.cells i hi
  generalize qBn l i=x at *
  generalize l.length=n at *
  have hi0:(0:Int)<=(i:Int):=by omega
  have hin:(i:Int)<(n:Int):=by omega
  clear hb hr
  go_enter Tryz.func202,Tryz.ntmps202
  go_wp2
  refine bodyPost_ret (v:=x.val) (by simp[results,Tryz.results202,go_sem,Bk.val]) rfl ⟨rfl,(Keeps.refl _ _).alloc _⟩
theorem qRg(x:Bk)(w:World):
  Calls Tryz.prog 194 #[x.val] w λe w'=>e=.returned (.int .i64 x.t)/\w'=w.alloc (.cells #[.int .i64 x.sz,.int .i64 x.t] 211):=by
 unfold Bk.val
 go_enter Tryz.func194,Tryz.ntmps194
 go_wp2
 go_ret
 exact⟨rfl,rfl⟩
def pastN(l:List Bk)(t:Int): Nat:=(l.takeWhile (λb=>decide (b.t<=t))).length
theorem pastN_le(l:List Bk)(t:Int): pastN l t<=l.length:=(List.takeWhile_prefix _).length_le
theorem qEw(l:List Bk)(k:Nat)(h:k<l.length): l.drop k=qBn l k::l.drop (k+1):=by
 rw[List.drop_eq_getElem_cons h]
 congr 1
 simp[qBn,List.getD_eq_getElem?_getD,List.getElem?_eq_getElem h]
theorem past_any(q:Nat)(og:Option Nat)(l:List Bk)(t:Int)(w:World)(h:RowRep w q og l)(hl:l.length<=4398046511104):
  Calls Tryz.prog 237 #[.pointer (some ⟨q,0,none⟩),.int .i64 t] w λe w'=>e=.returned (.int .i64 (pastN l t))/\Keeps (λ_=>False) w w':=by
 cases og with
 | none =>
  obtain⟨hl,hb⟩:=h
  have hq1:w.cell? ⟨q,1,none⟩=some (.slice none 0 0):=hb.cell rfl
  subst hl
  clear hb
  go_enter Tryz.func237,Tryz.ntmps237
  go_wp2
  go_loopw [5] (λi wr=>i=.int .i64 0/\wr=w) (λ_ _=>0)
  case atStart=>exact⟨rfl,rfl⟩
  case round =>
   obtain⟨rfl,rfl⟩:=hrel
   go_wp2
   go_quiet (fail)
   go_wp2
   go_ret
   exact⟨rfl,Keeps.drewN _ _ _⟩
 | some g =>
  obtain⟨hne,cap,hb,hr⟩:=h
  have HB:=hide hb
  have HR:=hide hr
  clear hb hr
  generalize hn:l.length=n at *
  have HN:=hide hn
  clear hn
  go_enter Tryz.func237,Tryz.ntmps237
  go_wp2
  go_loopw [5] (λi wr=>∃k:Nat,i=.int .i64 k/\k<=n/\Hid (Keeps (λ_=>False) w wr)/\Hid (pastN l t=k+pastN (l.drop k) t)) (λi _=>n-(intOf i).toNat)
  case atStart=>exact⟨0,rfl,Nat.zero_le _,Keeps.refl _ _,by show _=_;simp⟩
  case round =>
   obtain⟨k,rfl,hk,HK,HE⟩:=hrel
   have hq1:wr.cell? ⟨q,1,none⟩=some (.slice (some ⟨g,0,none⟩) n cap):=(uh HK).cell ((uh HB).cell rfl) (λh=>h)
   have hq0:wr.cell? ⟨q,0,none⟩=some (.func (.func 194) #[] #[]):=(uh HK).cell ((uh HB).cell rfl) (λh=>h)
   by_cases hlt:k<n
   ·have hcs:=(uh HR).cells k (by rw[uh HN];exact hlt)
    have x0:=(uh HK).cell hcs.1 (λh=>h)
    have x1:=(uh HK).cell hcs.2 (λh=>h)
    clear hcs
    have hk0:(0:Int)<=(k:Int):=by omega
    have hkn:(k:Int)<(n:Int):=by omega
    have HD:=hide (qEw l k (by rw[uh HN];exact hlt))
    generalize qBn l k=x at *
    by_cases ht:x.t<=t
    all_goals
     have HT:=hide ht
     go_wp2
     go_region_held3 (λw'=>w'.cell? ⟨q,0,none⟩=some (.func (.func 194) #[] #[])/\w'.cell? ⟨q,1,none⟩=some (.slice (some ⟨g,0,none⟩) n cap) /\
        w'.cell? ⟨g,k*2,none⟩=some (.int .i64 x.sz)/\w'.cell? ⟨g,k*2+1,none⟩=some (.int .i64 x.t)) (go_keep)
      (first | (go_at_call 194;refine(qRg x _).mono ?_;rintro e w' ⟨rfl,rfl⟩))
     have hk1:Keeps (λ_=>False) wr (wr.alloc (.cells #[.int .i64 x.sz,.int .i64 x.t] 211)).drew:=((Keeps.refl _ _).alloc _).drew
     generalize(wr.alloc (.cells #[.int .i64 x.sz,.int .i64 x.t] 211)).drew=W1 at *
     have HK1:=hide hk1
     clear hk1
    ·go_wp2
     go_roundw
     case rel =>
      refine⟨k+1,by go_num,by omega,(uh HK).then (uh HK1),?_⟩
      show _=_
      rw[uh HE,uh HD]
      unfold pastN
      rw[List.takeWhile_cons,if_pos (by simpa using uh HT)]
      simp;omega
     case measure=>simp[intOf];omega
    ·go_wp2
     go_ret
     refine⟨?_,(uh HK).then (uh HK1)⟩
     rw[uh HE,uh HD]
     unfold pastN
     rw[List.takeWhile_cons,if_neg (by simpa using uh HT)]
     simp
   ·have hd:decide ((k:Int)<(n:Int))=false:=by simp;omega
    go_wp2
    go_quiet (fail)
    go_wp2
    go_ret
    refine⟨?_,(uh HK).then (Keeps.drewN _ _ _)⟩
    rw[uh HE,List.drop_eq_nil_of_le (by rw[uh HN];omega)]
    simp[pastN]
theorem lose_any(q:Nat)(og:Option Nat)(l:List Bk)(k:Nat)(w:World)(h:RowRep w q og l)(hk:k<=l.length):
  Calls Tryz.prog 195 #[.pointer (some ⟨q,0,none⟩),.int .i64 k] w λe w'=>e=.returned (.tuple #[])/\RowRep w' q og (l.drop k)/\Keeps (λi=>i=q\/og=some i) w w':=by
 cases og with
 | none =>
  obtain⟨hl,hb⟩:=h
  subst hl
  have hk0:k=0:=by simpa using hk
  subst hk0
  have hq1:w.cell? ⟨q,1,none⟩=some (.slice none 0 0):=hb.cell rfl
  have hf:=hb.frozen
  have HB:=hide hb
  clear hb hk
  go_enter Tryz.func195,Tryz.ntmps195
  go_wp2_with fail
  refine(qEe _).mono ?_
  rintro e w' ⟨rfl,rfl⟩
  go_wp2
  go_end0
  refine⟨rfl,⟨rfl,?_⟩,(Keeps.refl (λi=>i=q\/none=some i) _).setCell (p:=⟨q,1,none⟩) (Or.inl (Or.inl rfl)) _⟩
  exact(uh HB).setCell 1 _
 | some g =>
  obtain⟨hne,cap,hb,hr⟩:=h
  have hq1:w.cell? ⟨q,1,none⟩=some (.slice (some ⟨g,0,none⟩) l.length cap):=hb.cell rfl
  have hlq:=hb.lt
  have HB:=hide hb
  have HR:=hide hr
  clear hb hr
  have HC:Hid (Calls Tryz.prog 236 #[.slice (some ⟨g,0,none⟩) l.length cap,.int .i64 0,.int .i64 k] w λe w'=>e=.returned (.slice (some ⟨g,0,none⟩) (l.length-k) cap)/\BRow w' g cap (l.drop k)/\Keeps (λi=>i=g) w w'):=by
   rcases Nat.eq_zero_or_pos k with h0 | h0
   ·subst h0
    refine(qD1 g cap l.length w (uh HR).le).mono ?_
    rintro e w' ⟨rfl,rfl⟩
    exact⟨rfl,uh HR,Keeps.refl _ _⟩
   ·exact qGl g cap l.length k l w rfl (uh HR) h0 hk
  generalize hn:l.length=n at *
  have HN:=hide hn
  clear hn
  go_enter Tryz.func195,Tryz.ntmps195
  go_wp2_with fail
  refine(uh HC).mono ?_
  rintro e w1 ⟨rfl,hr1,hk1⟩
  have HB1:=hide ((uh HB).keeps hk1 hne)
  have HR1:=hide hr1
  have HK1:=hide hk1
  clear hr1 hk1 HC HB HR hq1
  have hq1:w1.cell? ⟨q,1,none⟩=some (.slice (some ⟨g,0,none⟩) n cap):=(uh HB1).cell rfl
  have hf:=(uh HB1).frozen
  go_wp2
  go_end0
  refine⟨rfl,⟨hne,cap,?_,?_⟩,?_⟩
  ·rw[List.length_drop,uh HN];exact(uh HB1).setCell 1 _
  ·exact(uh HR1).keeps (M:=λi=>i=q) ((Keeps.refl (λi=>i=q) _).setCell (p:=⟨q,1,none⟩) (Or.inl rfl) _) (λh=>hne h.symm)
  ·exact((uh HK1).mono (M':=λi=>i=q\/some g=some i) (λi _ h=>.inr (by rw[h]))).setCell (p:=⟨q,1,none⟩) (Or.inl (Or.inl rfl)) _
theorem RowRep.owns{w:World}{q:Nat}{og:Option Nat}{l:List Bk}(h:RowRep w q og l):
  ∃cap,Blk w q [qEa,slV og l.length cap] 264/\w.ownsRow 0 211 2 (slV og l.length cap) l.length (qBt l):=by
 cases og with
 | none=>obtain⟨rfl,hb⟩:=h;exact⟨0,hb,World.ownsRow_nil _ _ _ _⟩
 | some g =>
  obtain⟨hne,cap,hb,hr⟩:=h
  exact⟨cap,hb,hr.owns⟩
theorem qGc{w w1:World}{A B:Obj}{q gg n cap cap':Nat}{og:Option Nat}{l:List Bk}{x:Bk}{v:Value}(hn:l.length=n)(hv:slV og n cap=v)(hlq:q<w.heap.size)(hb:Blk w q [qEa,v] 264)(hqv:some q≠v.ownBlock)(hown1:w1.ownsRow 0 211 2 (.slice (some ⟨gg,0,none⟩) (n+1) cap') (n+1) (qBt l++[.int .i64 x.sz,.int .i64 x.t]))(hgrow:((w.alloc A).alloc B).drew.grownBy w1 v.ownBlock)(hat:v.ownBlock=some gg\/gg=w.heap.size+2):
  RowRep (w1.setCell ⟨q,1,none⟩ (.slice (some ⟨gg,0,none⟩) (n+1) cap')) q (some gg) (l++[x]) /\
  Keeps (λk=>k=q\/og=some k) w (w1.setCell ⟨q,1,none⟩ (.slice (some ⟨gg,0,none⟩) (n+1) cap'))/\(og=some gg\/w.heap.size<=gg):=by
 have hob:∀k,v.ownBlock=some k->og=some k:=by
  intro k hk
  rw[<-hv]at hk
  cases og with
  | none=>simp[slV,Value.ownBlock]at hk
  | some g=>simpa[slV,Value.ownBlock] using hk
 have hqg:q≠gg:=by
  rcases hat with h | h
  ·intro e;apply hqv;rw[h,e]
  ·omega
 have hk1:Keeps (λk=>k=q\/og=some k) w w1:=(((Keeps.refl _ w).alloc A).alloc B).drew.grown hgrow (λk hk=>Or.inl (Or.inr (hob k hk)))
 have hb1:Blk w1 q [qEa,v] 264:=by
  unfold Blk
  rw[hgrow.block q (by simp;omega) hqv]
  exact(hb.alloc A).alloc B
 refine⟨⟨hqg,cap',?_,?_⟩,hk1.setCell (Or.inl (Or.inl rfl)) _,?_⟩
 ·have:(l++[x]).length=n+1:=by simp[hn]
  rw[this]
  exact hb1.setCell 1 _
 ·have hfl:qBt l++[.int .i64 x.sz,.int .i64 x.t]=qBt (l++[x]):=by rw[qD9];rfl
  rw[hfl]at hown1
  exact(brow_of_owns (by simp[hn]) hown1).keeps (M:=λk=>k=q) ((Keeps.refl (λk=>k=q) _).setCell (Or.inl rfl) _) (λh=>hqg h.symm)
 ·rcases hat with h | h
  ·exact .inl (hob gg h)
  ·exact .inr (by omega)
theorem rowPut_any(q:Nat)(og:Option Nat)(l:List Bk)(x:Bk)(w:World)(h:RowRep w q og l)(hl:l.length<=4398046511104):
  Calls Tryz.prog 197 #[.pointer (some ⟨q,0,none⟩),x.val] w λe w'=>e=.returned (.tuple #[])/\∃og',RowRep w' q og' (l++[x])/\Keeps (λk=>k=q\/og=some k) w w'/\(og'=og\/∃k,og'=some k/\w.heap.size<=k):=by
 obtain⟨hlq,hlg⟩:=h.lt
 obtain⟨cap,hb,hown⟩:=h.owns
 have hq1:w.cell? ⟨q,1,none⟩=some (slV og l.length cap):=hb.cell rfl
 have hfz:=hb.frozen 1
 obtain⟨i0,hi0,hz0,hz1,hz2⟩:=info_parts infoBk
 generalize hn:l.length=n at *
 generalize hv:slV og n cap=v at *
 unfold Bk.val
 have HB:Hid (Blk w q [qEa,v] 264):=hb
 have HV:Hid (slV og n cap=v):=hv
 have HN:Hid (l.length=n):=hn
 have hqv:some q≠v.ownBlock:=by
  rw[<-hv]
  cases og with
  | none=>simp[slV,Value.ownBlock]
  | some g=>simp[slV,Value.ownBlock];exact(hlg g rfl).2
 have HF:Hid (∀A B w1,((w.alloc A).alloc B).drew.grownBy w1 v.ownBlock->w1.cell? ⟨q,1,none⟩=some v/\w1.frozen? ⟨q,1,none⟩=false):=λA B w1 hg=>by
  have hb1:w1.heap[q]?=w.heap[q]?:=by
   rw[hg.block q (by simp;omega) hqv]
   show((w.alloc A).alloc B).heap[q]?=_
   rw[Below.heap_alloc _ _ _ (by simp;omega),Below.heap_alloc _ _ _ hlq]
  exact⟨(World.cell?_of_block (a:=⟨q,1,none⟩) hb1).trans hq1,(World.frozen?_of_block (a:=⟨q,1,none⟩) hb1).trans hfz⟩
 have hnew:Hid (∀A B,((w.alloc A).alloc B).drew.heap[w.heap.size+1]?=some B):=λA B=>by
  have:=heap_alloc_new (w.alloc A) B
  rwa [World.size_alloc]at this
 clear hb h hv hn hlg
 go_enter Tryz.func197,Tryz.ntmps197
 go_wp2_with fail
 go_region_law
  ((refine step_append_lies _ (by rfl) _ _ _ (by rfl) 0 211 i0 _ 2 16 Tryz.underlying262 hi0 hz0 hz1 hz2 rfl (by omega) v n (qBt l) (by rfl) (((hown.alloc _).alloc _).drew)
        ⟨w.heap.size+1,0,none⟩ 1 1 [.int .i64 x.sz,.int .i64 x.t] (by rfl) (by rfl) (World.news_of_block (cs:=#[.int .i64 x.sz,.int .i64 x.t]) (t:=211) (fr:=(0,0)) (hnew.out _ _)) (by simp[Value.oneCell'])
        (by omega) (by unfold maxLen;omega) (by omega) (by omega) (w.heap.size+2) (by simp) ?_;intro gg cap' w1 hown1 hgrow hat hlt;have hcq:=(HF.out _ _ _ hgrow).1;have hfq:=(HF.out _ _ _ hgrow).2))
 all_goals
  have HE:=qGc HN.out HV.out hlq HB.out hqv hown1 hgrow hat
  obtain⟨hQ2,hK2,hog⟩:=HE
  go_wp2
  go_end0
  refine⟨rfl,some gg,hQ2,hK2,?_⟩
  rcases hog with h | h
  ·exact .inl h.symm
  ·exact .inr ⟨gg,rfl,h⟩
theorem qSr(q:Nat)(og:Option Nat)(l:List Bk)(i:Nat)(x:Bk)(w:World)(h:RowRep w q og l)(hi:i+2<=l.length)(hl:l.length<=4398046511104):
  Calls Tryz.prog 239 #[.pointer (some ⟨q,0,none⟩),.int .i64 i,x.val] w λe w'=>e=.returned (.tuple #[])/\RowRep w' q og (qCr l i x)/\Keeps (λk=>k=q\/og=some k) w w':=by
 cases og with
 | none=>obtain⟨hl,hb⟩:=h;subst hl;simp at hi
 | some g =>
  obtain⟨hne,cap,hb,hr⟩:=h
  have hq1:w.cell? ⟨q,1,none⟩=some (.slice (some ⟨g,0,none⟩) l.length cap):=hb.cell rfl
  have hf:=hb.frozen
  have hlq:=hb.lt
  have hlg:=hr.lt
  have HB:=hide hb
  have HR:=hide hr
  clear hb hr
  have HC:Hid (∀(sb:Nat) (W:World),BRow W g cap l->W.cell? ⟨sb,0,none⟩=some (.int .i64 x.sz)->W.cell? ⟨sb,1,none⟩=some (.int .i64 x.t)->Calls Tryz.prog 258 #[.slice (some ⟨g,0,none⟩) l.length cap,.int .i64 i,.int .i64 ((i:Int)+2),.slice (some ⟨sb,0,none⟩) 1 1] W λe w'=>e=.returned (.slice (some ⟨g,0,none⟩) (l.length-1) cap)/\BRow w' g cap (qCr l i x)/\Keeps (λk=>k=g) W w'):=by
   intro sb W hW h0 h1
   rcases Nat.lt_or_ge (i+2) l.length with h2 | h2
   ·exact qL3 g cap l.length i sb l x W rfl hW h2 h0 h1
   ·exact qL5 g cap l.length i sb l x W rfl hW (by omega) h0 h1
  have HJL:=hide (qB8 x (l:=l) (i:=i) hi)
  generalize hn:l.length=n at *
  have HN:=hide hn
  clear hn
  unfold Bk.val
  go_enter Tryz.func239,Tryz.ntmps239
  go_wp2_with fail
  have hw2:IntKind.i64.wrap ((i:Int)+2)=(i:Int)+2:=by rw[IntKind.wrap_i64];omega
  have HS:=hide (show ∀A w1,Keeps (λk=>k=g) ((w.alloc (.cells #[.int .i64 x.sz,.int .i64 x.t] 211)).alloc A).drew w1->Blk w1 q [qEa,.slice (some ⟨g,0,none⟩) n cap] 264 from λA w1 hk=>((((uh HB).alloc _).alloc A).drew).keeps hk hne)
  go_region_with (go_at_call 258;refine(uh HC (w.heap.size+1) _ ((uh HR).keeps (M:=λ_=>False) (((Keeps.refl _ _).alloc _).alloc _).drew (λh=>h)) (by simp) (by simp)).mono ?_;rintro e w1 ⟨rfl,hr1,hk1⟩;have hq2:=(uh HS _ _ hk1).cell (i:=1) rfl;have hf2:=(uh HS _ _ hk1).frozen)
  all_goals
   have hb2:=uh HS _ _ hk1
   go_wp2
   go_end0
   refine⟨rfl,⟨hne,cap,?_,?_⟩,?_⟩
   ·rw[uh HJL];exact hb2.setCell 1 _
   ·exact hr1.keeps (M:=λi=>i=q) ((Keeps.refl (λi=>i=q) _).setCell (p:=⟨q,1,none⟩) (Or.inl rfl) _) (λh=>hne h.symm)
   ·exact(((((Keeps.refl (λk=>k=q\/some g=some k) w).alloc _).alloc _).drew).trans hk1 (λi hi _=>.inr (by rw[hi]))).setCell (p:=⟨q,1,none⟩) (Or.inl (Or.inl rfl)) _
theorem rowNew_any(w:World):
  Calls Tryz.prog 193 #[qEa] w λe w'=>e=.returned (.pointer (some ⟨w.heap.size,0,none⟩))/\RowRep w' w.heap.size none []/\Keeps (λ_=>False) w w'/\w'.heap.size=w.heap.size+1:=by
 unfold qEa
 go_enter Tryz.func193,Tryz.ntmps193
 go_wp2
 go_ret
 exact⟨rfl,⟨rfl,Blk.new w [qEa,.slice none 0 0] 264⟩,(Keeps.refl _ _).alloc _,by simp⟩
end
end Go.Proofs.YtahnliehdjncdaaGreatDoor
