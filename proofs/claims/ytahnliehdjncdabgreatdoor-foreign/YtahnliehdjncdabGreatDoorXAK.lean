import Derived.Test.YtahnliehdjncdabGreatDoorXAJ
import Derived.Deep.LoopGhost
import Derived.Deep.QuietTactic
import Derived.Deep.RegionHeld3
set_option maxRecDepth 100000
set_option maxHeartbeats 16000000
namespace Go.Proofs.YtahnliehdjncdabGreatDoor.Mk
open Go.RowKit
def qEc: Value:=.func (.func 192) #[] #[]
def RowRep(w:World)(r:Nat)(og:Option Nat)(l:List Bk): Prop :=
 match og with
 | none=>l=[]/\Blk w r [qEc,.slice none 0 0] 275
 | some g=>r≠g/\∃cap,Blk w r [qEc,.slice (some ⟨g,0,none⟩) l.length cap] 275/\BRow w g cap l
theorem RowRep.lt{w:World}{r:Nat}{og:Option Nat}{l:List Bk}(h:RowRep w r og l): r<w.heap.size/\∀g,og=some g->g<w.heap.size/\r≠g:=by
 cases og with
 | none=>exact⟨h.2.lt,λ_ h=>by cases h⟩
 | some g=>obtain⟨hne,cap,hb,hr⟩:=h;exact⟨hb.lt,λg' h=>by cases h;exact⟨hr.lt,hne⟩⟩
theorem RowRep.keeps{M:Nat->Prop}{w w':World}{r:Nat}{og:Option Nat}{l:List Bk}(h:RowRep w r og l)(k:Keeps M w w')(hq:¬M r)(hg:∀g,og=some g->¬M g): RowRep w' r og l:=by
 cases og with
 | none=>exact⟨h.1,h.2.keeps k hq⟩
 | some g=>obtain⟨hne,cap,hb,hr⟩:=h;exact⟨hne,cap,hb.keeps k hq,hr.keeps k (hg g rfl)⟩
theorem RowRep.still{w w':World}{r:Nat}{og:Option Nat}{l:List Bk}(h:RowRep w r og l)(k:Keeps (λ_=>False) w w'): RowRep w' r og l:=h.keeps k (λh=>h) (λ_ _ h=>h)
theorem rowLen_any(q:Nat)(og:Option Nat)(l:List Bk)(w:World)(h:RowRep w q og l):
  Calls Tryz.prog 198 #[.pointer (some ⟨q,0,none⟩)] w λe w'=>e=.returned (.int .i64 l.length)/\w'=w:=by
 cases og with
 | none =>
  obtain⟨hl,hb⟩:=h;have hq1:w.cell? ⟨q,1,none⟩=some (.slice none 0 0):=hb.cell rfl;subst hl;clear hb;go_enter Tryz.func198,Tryz.ntmps198
  go_wp2
  go_ret
  exact⟨rfl,rfl⟩
 | some g =>
  obtain⟨hne,cap,hb,hr⟩:=h;have hq1:w.cell? ⟨q,1,none⟩=some (.slice (some ⟨g,0,none⟩) l.length cap):=hb.cell rfl;clear hb hr;go_enter Tryz.func198,Tryz.ntmps198
  go_wp2
  go_ret
  exact⟨rfl,rfl⟩
theorem qEe(q:Nat)(og:Option Nat)(l:List Bk)(i:Nat)(w:World)(h:RowRep w q og l)(hi:i<l.length):
  Calls Tryz.prog 199 #[.pointer (some ⟨q,0,none⟩),.int .i64 i] w λe w'=>e=.returned (qCf l i).val/\Keeps (λ_=>False) w w':=by
 cases og with
 | none=>obtain⟨hl,hb⟩:=h;subst hl;simp at hi
 | some g =>
  obtain⟨hne,cap,hb,hr⟩:=h;have hq1:w.cell? ⟨q,1,none⟩=some (.slice (some ⟨g,0,none⟩) l.length cap):=hb.cell rfl;have hlq:=hb.lt;have hlg:=hr.lt;obtain⟨x0,x1⟩:=hr.cells i hi;generalize qCf l i=x at *;generalize l.length=n at *;have hi0:(0:Int)<=(i:Int):=by omega
  have hin:(i:Int)<(n:Int):=by omega
  clear hb hr;go_enter Tryz.func199,Tryz.ntmps199
  go_wp2
  refine bodyPost_ret (v:=x.val) (by simp[results,Tryz.results199,go_sem,Bk.val]) rfl ⟨rfl,(Keeps.refl _ _).alloc _⟩
theorem qTp(x:Bk)(w:World):
  Calls Tryz.prog 192 #[x.val] w λe w'=>e=.returned (.int .i64 x.sz)/\w'=w.alloc (.cells #[.int .i64 x.sz,.int .i64 x.t] 225):=by
 unfold Bk.val;go_enter Tryz.func192,Tryz.ntmps192
 go_wp2
 go_ret
 exact⟨rfl,rfl⟩
def pastN(l:List Bk)(t:Int): Nat:=(l.takeWhile (λb=>decide (b.sz<=t))).length
theorem pastN_le(l:List Bk)(t:Int): pastN l t<=l.length:=(List.takeWhile_prefix _).length_le
theorem past_any(q:Nat)(og:Option Nat)(l:List Bk)(t:Int)(w:World)(h:RowRep w q og l)(hl:l.length<=4398046511104):
  Calls Tryz.prog 194 #[.pointer (some ⟨q,0,none⟩),.int .i64 t] w λe w'=>e=.returned (.int .i64 (pastN l t))/\Keeps (λ_=>False) w w':=by
 cases og with
 | none =>
  obtain⟨hl,hb⟩:=h;have hq1:w.cell? ⟨q,1,none⟩=some (.slice none 0 0):=hb.cell rfl;subst hl;clear hb;go_enter Tryz.func194,Tryz.ntmps194
  go_wp2
  go_loopw [5] (λi wr=>i=.int .i64 0/\wr=w) (λ_ _=>0)
  case atStart=>exact⟨rfl,rfl⟩
  case round =>
   obtain⟨rfl,rfl⟩:=hrel;go_wp2
   go_quiet (fail)
   go_wp2
   go_ret
   exact⟨rfl,Keeps.drewN _ _ _⟩
 | some g =>
  obtain⟨hne,cap,hb,hr⟩:=h;have HB:=hide hb;have HR:=hide hr;clear hb hr;generalize hn:l.length=n at *;have HN:=hide hn;clear hn;go_enter Tryz.func194,Tryz.ntmps194
  go_wp2
  go_loopw [5] (λi wr=>∃k:Nat,i=.int .i64 k/\k<=n/\Hid (Keeps (λ_=>False) w wr)/\Hid (pastN l t=k+pastN (l.drop k) t)) (λi _=>n-(intOf i).toNat)
  case atStart=>exact⟨0,rfl,Nat.zero_le _,Keeps.refl _ _,by show _=_;simp⟩
  case round =>
   obtain⟨k,rfl,hk,HK,HE⟩:=hrel;have hq1:wr.cell? ⟨q,1,none⟩=some (.slice (some ⟨g,0,none⟩) n cap):=(uh HK).cell ((uh HB).cell rfl) (λh=>h);have hq0:wr.cell? ⟨q,0,none⟩=some (.func (.func 192) #[] #[]):=(uh HK).cell ((uh HB).cell rfl) (λh=>h)
   by_cases hlt:k<n
   ·have hcs:=(uh HR).cells k (by rw[uh HN];exact hlt)
    have x0:=(uh HK).cell hcs.1 (λh=>h);have x1:=(uh HK).cell hcs.2 (λh=>h);clear hcs;have hk0:(0:Int)<=(k:Int):=by omega
    have hkn:(k:Int)<(n:Int):=by omega
    have HD:=hide (qHr l k (by rw[uh HN];exact hlt));generalize qCf l k=x at *
    by_cases ht:x.sz<=t
    all_goals
     have HT:=hide ht;go_wp2
     go_region_held3 (λw'=>w'.cell? ⟨q,0,none⟩=some (.func (.func 192) #[] #[])/\w'.cell? ⟨q,1,none⟩=some (.slice (some ⟨g,0,none⟩) n cap) /\
        w'.cell? ⟨g,k*2,none⟩=some (.int .i64 x.sz)/\w'.cell? ⟨g,k*2+1,none⟩=some (.int .i64 x.t)) (go_keep)
      (first | (go_at_call 192;refine(qTp x _).mono ?_;rintro e w' ⟨rfl,rfl⟩))
     have hk1:Keeps (λ_=>False) wr (wr.alloc (.cells #[.int .i64 x.sz,.int .i64 x.t] 225)).drew:=((Keeps.refl _ _).alloc _).drew;generalize(wr.alloc (.cells #[.int .i64 x.sz,.int .i64 x.t] 225)).drew=W1 at *;have HK1:=hide hk1;clear hk1
    ·go_wp2
     go_roundw
     case rel =>
      refine⟨k+1,by go_num,by omega,(uh HK).then (uh HK1),?_⟩;show _=_;rw[uh HE,uh HD];unfold pastN;rw[List.takeWhile_cons,if_pos (by simpa using uh HT)];simp;omega
     case measure=>simp[intOf];omega
    ·go_wp2
     go_ret
     refine⟨?_,(uh HK).then (uh HK1)⟩;rw[uh HE,uh HD];unfold pastN;rw[List.takeWhile_cons,if_neg (by simpa using uh HT)];simp
   ·have hd:decide ((k:Int)<(n:Int))=false:=by simp;omega
    go_wp2
    go_quiet (fail)
    go_wp2
    go_ret
    refine⟨?_,(uh HK).then (Keeps.drewN _ _ _)⟩;rw[uh HE,List.drop_eq_nil_of_le (by rw[uh HN];omega)];simp[pastN]
end Go.Proofs.YtahnliehdjncdabGreatDoor.Mk
namespace Go.Proofs.YtahnliehdjncdabGreatDoor.Mk
open Go.RowKit
theorem lose_any(q:Nat)(og:Option Nat)(l:List Bk)(k:Nat)(w:World)(h:RowRep w q og l)(hk:k<=l.length):
  Calls Tryz.prog 193 #[.pointer (some ⟨q,0,none⟩),.int .i64 k] w λe w'=>e=.returned (.tuple #[])/\RowRep w' q og (l.drop k)/\Keeps (λi=>i=q\/og=some i) w w':=by
 cases og with
 | none =>
  obtain⟨hl,hb⟩:=h;subst hl;have hk0:k=0:=by simpa using hk
  subst hk0;have hq1:w.cell? ⟨q,1,none⟩=some (.slice none 0 0):=hb.cell rfl;have hf:=hb.frozen;have HB:=hide hb;clear hb hk;go_enter Tryz.func193,Tryz.ntmps193
  go_wp2_with fail
  refine(qEk _).mono ?_;rintro e w' ⟨rfl,rfl⟩;go_wp2
  go_end0
  refine⟨rfl,⟨rfl,?_⟩,(Keeps.refl (λi=>i=q\/none=some i) _).setCell (p:=⟨q,1,none⟩) (Or.inl (Or.inl rfl)) _⟩;exact(uh HB).setCell 1 _
 | some g =>
  obtain⟨hne,cap,hb,hr⟩:=h;have hq1:w.cell? ⟨q,1,none⟩=some (.slice (some ⟨g,0,none⟩) l.length cap):=hb.cell rfl;have hlq:=hb.lt;have HB:=hide hb;have HR:=hide hr;clear hb hr;have HC:Hid (Calls Tryz.prog 229 #[.slice (some ⟨g,0,none⟩) l.length cap,.int .i64 0,.int .i64 k] w λe w'=>e=.returned (.slice (some ⟨g,0,none⟩) (l.length-k) cap)/\BRow w' g cap (l.drop k)/\Keeps (λi=>i=g) w w'):=by
   rcases Nat.eq_zero_or_pos k with h0 | h0
   ·subst h0
    refine(qDx g cap l.length w (uh HR).le).mono ?_;rintro e w' ⟨rfl,rfl⟩;exact⟨rfl,uh HR,Keeps.refl _ _⟩
   ·exact qGc g cap l.length k l w rfl (uh HR) h0 hk
  generalize hn:l.length=n at *;have HN:=hide hn;clear hn;go_enter Tryz.func193,Tryz.ntmps193
  go_wp2_with fail
  refine(uh HC).mono ?_;rintro e w1 ⟨rfl,hr1,hk1⟩;have HB1:=hide ((uh HB).keeps hk1 hne);have HR1:=hide hr1;have HK1:=hide hk1;clear hr1 hk1 HC HB HR hq1;have hq1:w1.cell? ⟨q,1,none⟩=some (.slice (some ⟨g,0,none⟩) n cap):=(uh HB1).cell rfl;have hf:=(uh HB1).frozen;go_wp2
  go_end0
  refine⟨rfl,⟨hne,cap,?_,?_⟩,?_⟩
  ·rw[List.length_drop,uh HN];exact(uh HB1).setCell 1 _
  ·exact(uh HR1).keeps (M:=λi=>i=q) ((Keeps.refl (λi=>i=q) _).setCell (p:=⟨q,1,none⟩) (Or.inl rfl) _) (λh=>hne h.symm)
  ·exact((uh HK1).mono (M':=λi=>i=q\/some g=some i) (λi _ h=>.inr (by rw[h]))).setCell (p:=⟨q,1,none⟩) (Or.inl (Or.inl rfl)) _
theorem RowRep.owns{w:World}{q:Nat}{og:Option Nat}{l:List Bk}(h:RowRep w q og l):
  ∃cap,Blk w q [qEc,slV og l.length cap] 275/\w.ownsRow 0 225 2 (slV og l.length cap) l.length (qBu l):=by
 cases og with
 | none=>obtain⟨rfl,hb⟩:=h;exact⟨0,hb,World.ownsRow_nil _ _ _ _⟩
 | some g =>
  obtain⟨hne,cap,hb,hr⟩:=h;exact⟨cap,hb,hr.owns⟩
theorem qF7{w w1:World}{A B:Obj}{q gg n cap cap':Nat}{og:Option Nat}{l:List Bk}{x:Bk}{v:Value}(hn:l.length=n)(hv:slV og n cap=v)(hlq:q<w.heap.size)(hb:Blk w q [qEc,v] 275)(hqv:some q≠v.ownBlock)(hown1:w1.ownsRow 0 225 2 (.slice (some ⟨gg,0,none⟩) (n+1) cap') (n+1) (qBu l++[.int .i64 x.sz,.int .i64 x.t]))(hgrow:((w.alloc A).alloc B).drew.grownBy w1 v.ownBlock)(hat:v.ownBlock=some gg\/gg=w.heap.size+2):
  RowRep (w1.setCell ⟨q,1,none⟩ (.slice (some ⟨gg,0,none⟩) (n+1) cap')) q (some gg) (l++[x]) /\
  Keeps (λk=>k=q\/og=some k) w (w1.setCell ⟨q,1,none⟩ (.slice (some ⟨gg,0,none⟩) (n+1) cap'))/\(og=some gg\/w.heap.size<=gg):=by
 have hob:∀k,v.ownBlock=some k->og=some k:=by
  intro k hk;rw[<-hv]at hk;cases og with
  | none=>simp[slV,Value.ownBlock]at hk
  | some g=>simpa[slV,Value.ownBlock] using hk
 have hqg:q≠gg:=by
  rcases hat with h | h
  ·intro e;apply hqv;rw[h,e]
  ·omega
 have hk1:Keeps (λk=>k=q\/og=some k) w w1:=(((Keeps.refl _ w).alloc A).alloc B).drew.grown hgrow (λk hk=>Or.inl (Or.inr (hob k hk)));have hb1:Blk w1 q [qEc,v] 275:=by
  unfold Blk;rw[hgrow.block q (by simp;omega) hqv];exact(hb.alloc A).alloc B
 refine⟨⟨hqg,cap',?_,?_⟩,hk1.setCell (Or.inl (Or.inl rfl)) _,?_⟩
 ·have:(l++[x]).length=n+1:=by simp[hn]
  rw[this];exact hb1.setCell 1 _
 ·have hfl:qBu l++[.int .i64 x.sz,.int .i64 x.t]=qBu (l++[x]):=by rw[qEw];rfl
  rw[hfl]at hown1;exact(brow_of_owns (by simp[hn]) hown1).keeps (M:=λk=>k=q) ((Keeps.refl (λk=>k=q) _).setCell (Or.inl rfl) _) (λh=>hqg h.symm)
 ·rcases hat with h | h
  ·exact .inl (hob gg h)
  ·exact .inr (by omega)
theorem rowPut_any(q:Nat)(og:Option Nat)(l:List Bk)(x:Bk)(w:World)(h:RowRep w q og l)(hl:l.length<=4398046511104):
  Calls Tryz.prog 200 #[.pointer (some ⟨q,0,none⟩),x.val] w λe w'=>e=.returned (.tuple #[])/\∃og',RowRep w' q og' (l++[x])/\Keeps (λk=>k=q\/og=some k) w w'/\(og'=og\/∃k,og'=some k/\w.heap.size<=k):=by
 obtain⟨hlq,hlg⟩:=h.lt;obtain⟨cap,hb,hown⟩:=h.owns;have hq1:w.cell? ⟨q,1,none⟩=some (slV og l.length cap):=hb.cell rfl;have hfz:=hb.frozen 1;obtain⟨i0,hi0,hz0,hz1,hz2⟩:=info_parts infoBk;generalize hn:l.length=n at *;generalize hv:slV og n cap=v at *;unfold Bk.val;have HB:Hid (Blk w q [qEc,v] 275):=hb;have HV:Hid (slV og n cap=v):=hv;have HN:Hid (l.length=n):=hn;have hqv:some q≠v.ownBlock:=by
  rw[<-hv];cases og with
  | none=>simp[slV,Value.ownBlock]
  | some g=>simp[slV,Value.ownBlock];exact(hlg g rfl).2
 have HF:Hid (∀A B w1,((w.alloc A).alloc B).drew.grownBy w1 v.ownBlock->w1.cell? ⟨q,1,none⟩=some v/\w1.frozen? ⟨q,1,none⟩=false):=λA B w1 hg=>by
  have hb1:w1.heap[q]?=w.heap[q]?:=by
   rw[hg.block q (by simp;omega) hqv];show((w.alloc A).alloc B).heap[q]?=_;rw[Below.heap_alloc _ _ _ (by simp;omega),Below.heap_alloc _ _ _ hlq]
  exact⟨(World.cell?_of_block (a:=⟨q,1,none⟩) hb1).trans hq1,(World.frozen?_of_block (a:=⟨q,1,none⟩) hb1).trans hfz⟩
 have hnew:Hid (∀A B,((w.alloc A).alloc B).drew.heap[w.heap.size+1]?=some B):=λA B=>by
  have:=heap_alloc_new (w.alloc A) B
  rwa [World.size_alloc]at this
 clear hb h hv hn hlg;go_enter Tryz.func200,Tryz.ntmps200
 go_wp2_with fail
 go_region_law
  ((refine step_append_lies _ (by rfl) _ _ _ (by rfl) 0 225 i0 _ 2 16 Tryz.underlying273 hi0 hz0 hz1 hz2 rfl (by omega) v n (qBu l) (by rfl) (((hown.alloc _).alloc _).drew)
        ⟨w.heap.size+1,0,none⟩ 1 1 [.int .i64 x.sz,.int .i64 x.t] (by rfl) (by rfl) (World.news_of_block (cs:=#[.int .i64 x.sz,.int .i64 x.t]) (t:=225) (fr:=(0,0)) (hnew.out _ _)) (by simp[Value.oneCell'])
        (by omega) (by unfold maxLen;omega) (by omega) (by omega) (w.heap.size+2) (by simp) ?_;intro gg cap' w1 hown1 hgrow hat hlt;have hcq:=(HF.out _ _ _ hgrow).1;have hfq:=(HF.out _ _ _ hgrow).2))
 all_goals
  have HE:=qF7 HN.out HV.out hlq HB.out hqv hown1 hgrow hat;obtain⟨hQ2,hK2,hog⟩:=HE;go_wp2
  go_end0
  refine⟨rfl,some gg,hQ2,hK2,?_⟩;rcases hog with h | h
  ·exact .inl h.symm
  ·exact .inr ⟨gg,rfl,h⟩
theorem rowNew_any(w:World):
  Calls Tryz.prog 191 #[qEc] w λe w'=>e=.returned (.pointer (some ⟨w.heap.size,0,none⟩))/\RowRep w' w.heap.size none []/\Keeps (λ_=>False) w w'/\w'.heap.size=w.heap.size+1:=by
 unfold qEc;go_enter Tryz.func191,Tryz.ntmps191
 go_wp2
 go_ret
 exact⟨rfl,⟨rfl,Blk.new w [qEc,.slice none 0 0] 275⟩,(Keeps.refl _ _).alloc _,by simp⟩
end Go.Proofs.YtahnliehdjncdabGreatDoor.Mk
namespace Go.Proofs.YtahnliehdjncdabGreatDoor.Mk
open Go.RowKit
theorem qPk{w:World}{g cap n:Nat}{l:List Bk}{cur:List Value}(hn:l.length=n+1)(hb:Blk w g cur 225)(hl:cur.length=cap*2)(ht:cur.take (l.length*2)=qBu l)(hle:n+1<=cap)(hmax:cap<=maxLen):
  BRow (w.setCells g (n*2) (qCm 1)) g cap (l.take n):=by
 have hb1:=Blk.setCells (qCm 1) (n*2) w cur hb (by rw[qBo];omega);have hlen:(l.take n).length=n:=by simp[hn]
 refine⟨⟨_,hb1,by rw[qBi (by rw[qBo];omega),hl],?_⟩,by omega,hmax⟩;rw[hlen,qLy (Nat.le_refl _) (by omega),qKg,<-ht,List.take_take,hn,Nat.min_eq_left (by omega)]
theorem qNz(g cap n:Nat)(l:List Bk)(w:World)(hn:l.length=n+1)(hr:BRow w g cap l):
  Calls Tryz.prog 229 #[.slice (some ⟨g,0,none⟩) (n+1) cap,.int .i64 n,.int .i64 ((n:Int)+1)] w λe w'=>e=.returned (.slice (some ⟨g,0,none⟩) n cap)/\BRow w' g cap (l.take n)/\Keeps (·=g) w w':=by
 obtain⟨cur,hb,hl,ht⟩:=hr.ex;have hle:=hr.le;rw[hn]at hle;have hmax:=hr.max;have hcap:cap<=9223372036854775807:=by unfold maxLen at hmax;omega
 have HFIN:=hide (qPk (w:=w.drew) hn (by exact hb.drew) hl ht hle hmax);obtain⟨A,hA⟩:∃A:Addr,(if cap=n+1 then some (⟨g,0,none⟩:Addr) else some ⟨g,(n+1)*2,none⟩)=some A:=by
  by_cases h:cap=n+1
  ·exact⟨⟨g,0,none⟩,by simp[h]⟩
  ·exact⟨⟨g,(n+1)*2,none⟩,by simp[h]⟩
 have hcl:∀ty,(Builtin.clear_ #[273] ty #[.slice (some ⟨g,n*2,none⟩) 1 (cap-n)]).run Tryz.prog (w.drew.setCells g (n*2) [])=.ok (.tuple #[]) (w.drew.setCells g (n*2) (qCm 1)) :=
  λty=>qCo w.drew ty g _ _ _ _ hb.drew (by omega) (by omega)
 obtain⟨i0,hi0,hz0,hz1,hz2⟩:=info_parts infoBk;have hw1:IntKind.i64.wrap ((n:Int)+1)=(n:Int)+1:=by rw[IntKind.wrap_i64];omega
 have hne:((n:Int)==(n:Int)+1)=false:=by simp;omega
 have hn0:(0:Int)<=(n:Int):=by omega
 have hn1:(0:Int)<=(n:Int)+1:=by omega
 have hnc:n<=cap:=by omega
 have hcn:¬cap=n:=by omega
 clear hb ht hl hr hn hmax hz0 hz2;go_enter Tryz.func229,Tryz.ntmps229
 go_wp2_with fail
 go_region_law (refine step_append_room rfl (.tmp 22) (.tmp 25) 273 rfl 225 i0 2 Tryz.underlying273 hi0 hz1 g 0 n cap (by simp[Act.eval,Act.put]) A 0 (cap-(n+1)) [] (by simp[Act.eval,Act.put]) rfl (by intro t u hu;simp at hu) (by simp) (by omega) (by intro t ht;simp at ht) ?_)
 go_wp2
 go_ret
 refine⟨by simp,?_,?_⟩
 ·exact uh HFIN
 ·exact Keeps.setCells (M:=λx=>x=g) (Or.inl rfl) _ _ _ (Keeps.refl _ _).drew
end Go.Proofs.YtahnliehdjncdabGreatDoor.Mk
namespace Go.Proofs.YtahnliehdjncdabGreatDoor
open Go.RowKit
def qCx(r:Int)(l:List Bk): List Bk:=(l.reverse.dropWhile (λb=>decide (b.t<=r))).reverse
theorem qGf(l:List Bk)(h:0<l.length): l=l.take (l.length-1)++[qCf l (l.length-1)]:=by
 have h1:l.length-1<l.length:=by omega
 conv=>lhs;rw[<-List.take_append_drop (l.length-1) l]
 congr 1
 rw[List.drop_eq_getElem_cons h1,List.drop_eq_nil_of_le (by omega)];simp[qCf,List.getD_eq_getElem?_getD,List.getElem?_eq_getElem h1]
theorem qSo(r:Int): qCx r []=[]:=rfl
theorem qOh(r:Int)(l:List Bk)(b:Bk): qCx r (l++[b])=if b.t<=r then qCx r l else l++[b]:=by
 unfold qCx;rw[List.reverse_append,List.reverse_singleton,List.singleton_append,List.dropWhile_cons]
 by_cases h:b.t<=r <;> simp[h]
theorem qKf{r:Int}{l:List Bk}(h:0<l.length)(hb:(qCf l (l.length-1)).t<=r): qCx r l=qCx r (l.take (l.length-1)):=by
 conv=>lhs;rw[qGf l h]
 rw[qOh,if_pos hb]
theorem qKd{r:Int}{l:List Bk}(h:0<l.length)(hb:¬(qCf l (l.length-1)).t<=r): qCx r l=l:=by
 conv=>lhs;rw[qGf l h]
 rw[qOh,if_neg hb,<-qGf l h]
theorem qJ1(r:Int)(l:List Bk): ∃k,qCx r l=l.take k/\k<=l.length:=by
 have h:=List.dropWhile_suffix (l:=l.reverse) (λb:Bk=>decide (b.t<=r));have h2:qCx r l <+: l:=by
  have:=List.reverse_prefix.2 h;rw[List.reverse_reverse]at this;exact this
 exact⟨(qCx r l).length,(List.prefix_iff_eq_take.1 h2),h2.length_le⟩
def qG3(l:List Bk)(x:Bk): List Bk :=
 if 0<(qCx x.t l).length/\(qCf (qCx x.t l) ((qCx x.t l).length-1)).sz=x.sz then qCx x.t l else qCx x.t l++[x]
theorem qMd{l:List Bk}{x b:Bk}(h:b∈qG3 l x): b∈l\/b=x:=by
 obtain⟨k,hk,_⟩:=qJ1 x.t l;unfold qG3 at h;rw[hk]at h
 split at h
 ·exact .inl (List.mem_of_mem_take h)
 ·rcases List.mem_append.1 h with h | h
  ·exact .inl (List.mem_of_mem_take h)
  ·rw[List.mem_singleton]at h;exact .inr h
theorem qRg(l:List Bk)(x:Bk): (qG3 l x).length<=l.length+1:=by
 obtain⟨k,hk,hl⟩:=qJ1 x.t l;unfold qG3;rw[hk]
 split
 ·simp;omega
 ·simp;omega
end Go.Proofs.YtahnliehdjncdabGreatDoor
namespace Go.Proofs.YtahnliehdjncdabGreatDoor.Mk
open Go.RowKit
def qTz(i:Nat)(v:Value): Sem Next:=do pure (.value (<-Instr.field 225 v i))
theorem execOp_fieldMk(ρ:Operand->Value)(dst:Option Tmp)(x:Operand)(i:Nat)(ty:TypeId)(pos:String)(after:Array Edge)(guard:Option (Nat×Bool)):
  execOp ρ { dst,op:=.field 225 x i,type:=ty,pos,after,guard }=qTz i (ρ x):=rfl
theorem run_fieldMk0(a b:Value)(w:World): (qTz 0 (.agg #[a,b])).run Tryz.prog w=.ok (.value a) w:=by kernel_rfl
theorem run_fieldMk1(a b:Value)(w:World): (qTz 1 (.agg #[a,b])).run Tryz.prog w=.ok (.value b) w:=by kernel_rfl
attribute [local go_sem ↓] execOp_fieldMk
attribute [local go_sem] run_fieldMk0 run_fieldMk1
theorem rowLen_int(q:Nat)(og:Option Nat)(l:List Bk)(n:Int)(w:World)(h:RowRep w q og l)(hn:(l.length:Int)=n):
  Calls Tryz.prog 198 #[.pointer (some ⟨q,0,none⟩)] w λe w'=>e=.returned (.int .i64 n)/\w'=w :=
 (rowLen_any q og l w h).mono λ_ _ ⟨he,hw⟩=>⟨by rw[he,hn],hw⟩
theorem rowAt_is(q:Nat)(og:Option Nat)(l:List Bk)(i:Nat)(x:Bk)(w:World)(h:RowRep w q og l)(hi:i<l.length)(hx:qCf l i=x):
  Calls Tryz.prog 199 #[.pointer (some ⟨q,0,none⟩),.int .i64 i] w λe w'=>e=.returned (.agg #[.int .i64 x.sz,.int .i64 x.t])/\Keeps (λ_=>False) w w' :=
 (qEe q og l i w h hi).mono λ_ _ ⟨he,hw⟩=>⟨by rw[he,hx];rfl,hw⟩
theorem qH2(q:Nat)(og:Option Nat)(l:List Bk)(x:Bk)(w:World)(h:RowRep w q og l)(h0:0<l.length)(hl:l.length<=4398046511104)(hx:qCf l (l.length-1)=x):
  Calls Tryz.prog 230 #[.pointer (some ⟨q,0,none⟩)] w λe w'=>e=.returned (.agg #[.int .i64 x.sz,.int .i64 x.t])/\Keeps (λ_=>False) w w':=by
 obtain⟨W,hW⟩:∃W,W=w.alloc (.cells #[.int .i64 0,.int .i64 0] 225):=⟨_,rfl⟩;have HK0:=hide (show Keeps (λ_=>False) w W by rw[hW];exact(Keeps.refl (λ_=>False) w).alloc _);have HB0:=hide (show Blk W w.heap.size [.int .i64 0,.int .i64 0] 225 by rw[hW];exact Blk.new w _ _);have hr:=h.still (uh HK0);have HW:=hide hW;obtain⟨n,hn⟩:∃n,l.length=n+1:=⟨l.length-1,by omega⟩;have hw:IntKind.i64.wrap ((n:Int)+1-1)=(n:Int):=by rw[IntKind.wrap_i64];omega
 have hwn:IntKind.i64.wrap (n:Int)=(n:Int):=by rw[IntKind.wrap_i64];omega
 have hnb:n<=4398046511104:=by omega
 have HL:=hide (rowLen_int q og l ((n:Int)+1) W hr (by omega));have HA:=hide (rowAt_is q og l n x W hr (by omega) (by rw[<-hx,hn];rfl));clear h hr hW hn h0 hl hx;go_enter Tryz.func230,Tryz.ntmps230
 go_wp2_with fail
 rw[show w.alloc (.cells #[.int .i64 0,.int .i64 0] 225)=W from(uh HW).symm];generalize hrb:w.heap.size=rb at *;have HRB:=hide hrb;clear hrb;refine(uh HL).mono ?_;rintro e w' ⟨rfl,hw'⟩;rw[hw'];clear hw' w';go_wp2_with fail
 refine(uh HA).mono ?_;rintro e w1 ⟨rfl,hk⟩;have HB1:=hide ((uh HB0).keeps hk (λh=>h));have HK:=hide ((uh HK0).then hk);clear hk HL HA;have b0:w1.cell? ⟨rb,0,none⟩=some (.int .i64 0):=(uh HB1).cell rfl;have b1:w1.cell? ⟨rb,1,none⟩=some (.int .i64 0):=(uh HB1).cell rfl;have bf:=(uh HB1).frozen;go_wp2
 have HB2:=hide (((uh HB1).setCell 0 (.int .i64 x.sz)).setCell 1 (.int .i64 x.t));have HKF:=hide (show Keeps (λk=>k=rb) w1 ((w1.setCell ⟨rb,0,none⟩ (.int .i64 x.sz)).setCell ⟨rb,1,none⟩ (.int .i64 x.t)) from((Keeps.refl (λk=>k=rb) w1).setCell (p:=⟨rb,0,none⟩) (Or.inl rfl) _).setCell (p:=⟨rb,1,none⟩) (Or.inl rfl) _);generalize((w1.setCell ⟨rb,0,none⟩ (.int .i64 x.sz)).setCell ⟨rb,1,none⟩ (.int .i64 x.t))=w2 at *;have c0:w2.cell? ⟨rb,0,none⟩=some (.int .i64 x.sz):=(uh HB2).cell rfl;have c1:w2.cell? ⟨rb,1,none⟩=some (.int .i64 x.t):=(uh HB2).cell rfl;refine bodyPost_ret (v:=.agg #[.int .i64 x.sz,.int .i64 x.t]) (by simp[results,Tryz.results230,go_sem,c0,c1]) rfl ⟨rfl,?_⟩;exact(uh HK).trans (uh HKF) (λi hi hlt=>by have:=uh HRB;omega)
def DropSays: Prop:=∀(q:Nat) (og:Option Nat) (l:List Bk) (w:World),RowRep w q og l->0<l.length->l.length<=4398046511104 ->
  Calls Tryz.prog 231 #[.pointer (some ⟨q,0,none⟩),.int .i64 1] w λe w'=>e=.returned (.tuple #[])/\RowRep w' q og (l.take (l.length-1))/\Keeps (λi=>i=q\/og=some i) w w'
theorem keep_of(HD:DropSays)(q:Nat)(og:Option Nat)(l:List Bk)(x:Bk)(w:World)(h:RowRep w q og l)(hl:l.length<=4398046511103):
  Calls Tryz.prog 195 #[.pointer (some ⟨q,0,none⟩),x.val] w λe w'=>e=.returned (.tuple #[])/\∃og',RowRep w' q og' (qG3 l x)/\Keeps (λk=>k=q\/og=some k) w w'/\(og'=og\/∃k,og'=some k/\w.heap.size<=k):=by
 obtain⟨hlq,hlg⟩:=h.lt;have HR:=hide h;have HLG:=hide hlg;have HDD:=hide HD;clear HD;unfold Bk.val;have HX0:=hide (Blk.new w [.int .i64 x.sz,.int .i64 x.t] 225);have HK0:=hide ((Keeps.refl (λ_=>False) w).alloc (.cells #[.int .i64 x.sz,.int .i64 x.t] 225));clear h hlg;go_enter Tryz.func195,Tryz.ntmps195
 go_wp2_with fail
 generalize hW0:w.alloc (.cells #[.int .i64 x.sz,.int .i64 x.t] 225)=W0 at *;have HX:Hid (Blk W0 w.heap.size [.int .i64 x.sz,.int .i64 x.t] 225):=HX0;have HK:Hid (Keeps (λ_=>False) w W0):=HK0;have HR0:=hide ((uh HR).still (uh HK));clear hW0 HX0 HK0;generalize hxb:w.heap.size=xb at *;have HXB:=hide hxb;clear hxb
 have HXM:=hide (show ¬(xb=q\/og=some xb) from λh=>by
    rcases h with h | h
    ·omega
    ·have:=(uh HLG xb h).1;omega)
 go_loopg [] (l.length) (λg wr=>∃m:List Bk,m.length=g/\g<=4398046511103/\Hid (RowRep wr q og m)/\Hid (Keeps (λk=>k=q\/og=some k) W0 wr)/\Hid (qCx x.t l=qCx x.t m))
 case atStart=>exact⟨l,rfl,hl,HR0,Keeps.refl _ _,rfl⟩
 case round =>
  obtain⟨m,hm,hg,HRm,HKm,HE⟩:=hrel;have HM:=hide hm;clear hm;have hxr:wr.cell? ⟨xb,1,none⟩=some (.int .i64 x.t):=(uh HKm).cell ((uh HX).cell rfl) (uh HXM);have hxz:wr.cell? ⟨xb,0,none⟩=some (.int .i64 x.sz):=(uh HKm).cell ((uh HX).cell rfl) (uh HXM)
  by_cases h0:gk=0
  ·have HL0:=hide (show(m.length:Int)=0 by have:=uh HM;omega)
   go_wp2_with fail
   go_quiet (first | (go_at_call 198;refine Calls.quiet_of_same (rowLen_int q og m 0 _ (by exact(uh HRm).still (Keeps.drewN _ _ _)) (uh HL0))))
   have HQ1:=hide (show Keeps (λ_=>False) wr (wr.drewN nq) from Keeps.drewN _ _ _);have hx1:(wr.drewN nq).cell? ⟨xb,1,none⟩=some (.int .i64 x.t):=hxr;have hx0:(wr.drewN nq).cell? ⟨xb,0,none⟩=some (.int .i64 x.sz):=hxz;generalize wr.drewN nq=W1 at *;have HR1:=hide ((uh HRm).still (uh HQ1));go_wp2_with fail
   go_quiet (first | (go_at_call 198;refine Calls.quiet_of_same (rowLen_int q og m 0 _ (by exact(uh HR1).still (Keeps.drewN _ _ _)) (uh HL0))))
   have HKK:=hide (show Keeps (λ_=>False) wr (W1.drewN nq) from(uh HQ1).then (Keeps.drewN _ _ _));have HDM:=hide (show qCx x.t m=m by rw[List.length_eq_zero_iff.1 (show m.length=0 by have:=uh HL0;omega)];rfl);have HNO:=hide (show ¬(0<m.length/\(qCf m (m.length-1)).sz=x.sz) from λh=>by have:=uh HL0;omega);go_wp2_with fail
   refine(rowPut_any q og m x _ ((uh HRm).still (uh HKK)) (by have:=uh HM;omega)).mono ?_;rintro e W3 ⟨rfl,og',hr3,hk3,hog⟩;have HF:=hide (((uh HKm).trans (uh HKK) (λ_ h=>h.elim)).then hk3);have HR3:=hide hr3;have HSZ:=hide (Nat.le_trans (uh HK).size (Nat.le_trans (uh HKm).size (uh HKK).size));clear hr3 hk3;go_wp2
   go_end0
   refine⟨rfl,og',?_,?_,?_⟩
   ·have:qG3 l x=m++[x]:=by unfold qG3;rw[uh HE,uh HDM];exact if_neg (uh HNO)
    rw[this];exact uh HR3
   ·exact((uh HK).mono (λ_ _ h=>h.elim)).then (uh HF)
   ·rcases hog with h | ⟨k,h,hk⟩
    ·exact .inl h
    ·exact .inr ⟨k,h,Nat.le_trans (uh HSZ) hk⟩
  ·have h1:0<m.length:=by have:=uh HM;omega
   have HL1:=hide (show(m.length:Int)=(gk:Int) by have:=uh HM;omega);have hgt:(0:Int)<(gk:Int):=by omega
   have hgtN:0<gk:=by omega
   obtain⟨y,hy⟩:∃y,qCf m (m.length-1)=y:=⟨_,rfl⟩;have HY:=hide hy;clear hy;have HLE:=hide (show m.length<=4398046511104 by have:=uh HM;omega);have HP:=hide h1;clear h1
   by_cases hc:y.t<=x.t
   ·go_wp2_with fail
    go_region_held3 (λw'=>w'.cell? ⟨xb,1,none⟩=some (.int .i64 x.t)/\w'.cell? ⟨xb,0,none⟩=some (.int .i64 x.sz)) (first | (go_split_ands;exact⟨by assumption,by assumption⟩) | (go_split_ands;exact⟨hka.cell (by assumption) (λh=>h),hka.cell (by assumption) (λh=>h)⟩))
     (first | (go_at_call 198;refine(rowLen_int q og m gk _ (by exact(uh HRm).still (Keeps.refl _ _).drew) (uh HL1)).mono ?_;rintro e w' ⟨rfl,rfl⟩) | (go_at_call 230;refine(qH2 q og m y _ (by exact(uh HRm).still (Keeps.refl _ _).drew) (uh HP) (uh HLE) (uh HY)).mono ?_;rintro e W1 ⟨rfl,hka⟩))
    have HK1:=hide (((Keeps.refl (λ_=>False) wr).drew).then hka);clear hka;go_wp2_with fail
    refine(uh HDD q og m W1 ((uh HRm).still (uh HK1)) (uh HP) (uh HLE)).mono ?_;rintro e W2 ⟨rfl,hr2,hk2⟩;have HR2:=hide hr2;have HK2:=hide ((((uh HKm).trans (uh HK1) (λ_ h=>h.elim))).then hk2);clear hr2 hk2;go_wp2
    go_roundg (gk-1)
    case measure=>omega
    case rel =>
     have hm:=uh HM;refine⟨m.take (m.length-1),by simp;omega,by omega,HR2,HK2,?_⟩;show _=_;rw[uh HE,qKf (uh HP) (by rw[uh HY];exact hc)]
   ·go_wp2_with fail
    go_region_held3 (λw'=>w'.cell? ⟨xb,1,none⟩=some (.int .i64 x.t)/\w'.cell? ⟨xb,0,none⟩=some (.int .i64 x.sz)) (first | (go_split_ands;exact⟨by assumption,by assumption⟩) | (go_split_ands;exact⟨hka.cell (by assumption) (λh=>h),hka.cell (by assumption) (λh=>h)⟩))
     (first | (go_at_call 198;refine(rowLen_int q og m gk _ (by exact(uh HRm).still (Keeps.refl _ _).drew) (uh HL1)).mono ?_;rintro e w' ⟨rfl,rfl⟩) | (go_at_call 230;refine(qH2 q og m y _ (by exact(uh HRm).still (Keeps.refl _ _).drew) (uh HP) (uh HLE) (uh HY)).mono ?_;rintro e W1 ⟨rfl,hka⟩))
    have HK1:=hide (((Keeps.refl (λ_=>False) wr).drew).then hka);have hx1:=hka.cell (p:=⟨xb,1,none⟩) (v:=.int .i64 x.t) (by exact hxr) (λh=>h);have hx0:=hka.cell (p:=⟨xb,0,none⟩) (v:=.int .i64 x.sz) (by exact hxz) (λh=>h);clear hka;have HDM:=hide (show qCx x.t m=m from qKd (uh HP) (by rw[uh HY];omega));go_wp2_with fail
    by_cases ht:y.sz=x.sz
    ·have htb:(y.sz==x.sz)=true:=by simp[ht]
     have HT:=hide ht;clear ht;go_region_held3 (λw'=>w'.cell? ⟨xb,1,none⟩=some (.int .i64 x.t)/\w'.cell? ⟨xb,0,none⟩=some (.int .i64 x.sz)) (first | (go_split_ands;exact⟨by assumption,by assumption⟩) | (go_split_ands;exact⟨hkb.cell (by assumption) (λh=>h),hkb.cell (by assumption) (λh=>h)⟩))
      (first | (go_at_call 198;refine(rowLen_int q og m gk _ (by exact((uh HRm).still (uh HK1)).still (Keeps.refl _ _).drew) (uh HL1)).mono ?_;rintro e w' ⟨rfl,rfl⟩) | (go_at_call 230;refine(qH2 q og m y _ (by exact((uh HRm).still (uh HK1)).still (Keeps.refl _ _).drew) (uh HP) (uh HLE) (uh HY)).mono ?_;rintro e W2 ⟨rfl,hkb⟩))
     have HK2:=hide (((uh HK1).drew).then hkb);clear hkb;go_wp2
     refine bodyPost_ret (results_none rfl _ _ _) rfl ?_;refine⟨rfl,og,?_,?_,.inl rfl⟩
     ·have:qG3 l x=m:=by unfold qG3;rw[uh HE,uh HDM];exact if_pos ⟨uh HP,by rw[uh HY];exact uh HT⟩
      rw[this];exact(uh HRm).still (uh HK2)
     ·exact(((uh HK).mono (λ_ _ h=>h.elim)).then (uh HKm)).trans (uh HK2) (λ_ h=>h.elim)
    ·have htb:(y.sz==x.sz)=false:=by simp[ht]
     have HT:=hide ht;clear ht;go_region_held3 (λw'=>w'.cell? ⟨xb,1,none⟩=some (.int .i64 x.t)/\w'.cell? ⟨xb,0,none⟩=some (.int .i64 x.sz)) (first | (go_split_ands;exact⟨by assumption,by assumption⟩) | (go_split_ands;exact⟨hkb.cell (by assumption) (λh=>h),hkb.cell (by assumption) (λh=>h)⟩))
      (first | (go_at_call 198;refine(rowLen_int q og m gk _ (by exact((uh HRm).still (uh HK1)).still (Keeps.refl _ _).drew) (uh HL1)).mono ?_;rintro e w' ⟨rfl,rfl⟩) | (go_at_call 230;refine(qH2 q og m y _ (by exact((uh HRm).still (uh HK1)).still (Keeps.refl _ _).drew) (uh HP) (uh HLE) (uh HY)).mono ?_;rintro e W2 ⟨rfl,hkb⟩))
     have HKK:=hide (((uh HK1).drew).then hkb);have hx3:=hkb.cell (p:=⟨xb,1,none⟩) (v:=.int .i64 x.t) (by exact hx1) (λh=>h);have hx4:=hkb.cell (p:=⟨xb,0,none⟩) (v:=.int .i64 x.sz) (by exact hx0) (λh=>h);have HNO:=hide (show ¬(0<m.length/\(qCf m (m.length-1)).sz=x.sz) from λh=>uh HT (by rw[<-uh HY];exact h.2));clear hkb;go_wp2_with fail
     refine(rowPut_any q og m x W2 ((uh HRm).still (uh HKK)) (by have:=uh HM;omega)).mono ?_;rintro e W3 ⟨rfl,og',hr3,hk3,hog⟩;have HF:=hide (((uh HKm).trans (uh HKK) (λ_ h=>h.elim)).then hk3);have HR3:=hide hr3;have HSZ:=hide (Nat.le_trans (uh HK).size (Nat.le_trans (uh HKm).size (uh HKK).size));clear hr3 hk3;go_wp2
     go_end0
     refine⟨rfl,og',?_,?_,?_⟩
     ·have:qG3 l x=m++[x]:=by unfold qG3;rw[uh HE,uh HDM];exact if_neg (uh HNO)
      rw[this];exact uh HR3
     ·exact((uh HK).mono (λ_ _ h=>h.elim)).then (uh HF)
     ·rcases hog with h | ⟨k,h,hk⟩
      ·exact .inl h
      ·exact .inr ⟨k,h,Nat.le_trans (uh HSZ) hk⟩
end Go.Proofs.YtahnliehdjncdabGreatDoor.Mk
