import Derived.Test.YtahnliehdjncdabGreatDoorXAD
import Derived.Deep.AppendLies
import Derived.Deep.RegionLaw
import Derived.Laws.EntriesVeiled
import Derived.Test.YtahnliehdjncdabGreatDoorXAA
set_option maxRecDepth 100000
set_option maxHeartbeats 16000000
namespace Go.Proofs.YtahnliehdjncdabGreatDoor
section
open Go.RowKit
def sinkL: Nat->List It->Nat->List It
 | 0,l,_=>l
 | f+1,l,i=>if qB1 l i<0 then l else if qCj (itAt l (qB1 l i).toNat) (itAt l i) then sinkL f (swapL l i (qB1 l i).toNat) (qB1 l i).toNat else l
theorem qDf(l:List It)(i:Nat): qB1 l i=-1\/∃c:Nat,qB1 l i=c/\i<c/\c<l.length:=by
 unfold qB1
 split
 ·split
  ·split
   ·exact .inr ⟨_,rfl,by omega,by omega⟩
   ·exact .inr ⟨_,rfl,by omega,by omega⟩
  ·exact .inr ⟨_,rfl,by omega,by omega⟩
 ·exact .inl rfl
theorem qLn(q g i cap n:Nat)(w:World)(l:List It)(hn:l.length=n)(hn8:n<=1000)(hi8:i<=1000)(hq:QB w q (.slice (some ⟨g,0,none⟩) n cap))(hr:IRow w g cap l)(hi:i<n\/n=0)(hqg:q≠g):
  Calls Tryz.prog 128 #[.pointer (some ⟨q,0,none⟩),.int .i64 i] w λe w'=>e=.returned (.tuple #[])/\Keeps (·=g) w w'/\IRow w' g cap (sinkL (n+1) l i):=by
 have HQ:Hid (QB w q (.slice (some ⟨g,0,none⟩) n cap)):=hq;have HR:Hid (IRow w g cap l):=hr;have HN:Hid (l.length=n):=hn;have HI0:Hid (i<n\/n=0):=hi;clear hq hr hn hi;go_enter Tryz.func128,Tryz.ntmps128
 go_wp2
 go_loopw [1] (λs wr=>∃(k f:Nat) (m:List It),s=.int .i64 k/\Hid (k<n\/n=0)/\k<=1000/\n<=k+f/\Hid (m.length=n)/\Hid (Keeps (·=g) w wr)/\Hid (IRow wr g cap m)/\Hid (sinkL (n+1) l i=sinkL (f+1) m k)) (λs _=>2000-(intOf s).toNat)
 case atStart=>exact⟨i,n,l,rfl,HI0,hi8,by omega,HN,Keeps.refl _ _,HR,rfl⟩
 case round =>
  obtain⟨k,f,m,rfl,HKN,hk8,hf,HL,HK,HI,HE⟩:=hrel;go_wp2_with fail
  refine(qNa q g k cap n wr m HL.out hn8 hk8 ⟨HQ.out.b.keeps HK.out hqg⟩ HI.out).mono ?_;rintro e W1 ⟨rfl,hk1⟩;have HK1:Hid (Keeps (λ_=>False) wr W1):=hk1;have HI1:Hid (IRow W1 g cap m):=HI.out.keeps hk1 (λh=>h);have HQ1:Hid (QB W1 q (.slice (some ⟨g,0,none⟩) n cap)):=⟨(HQ.out.b.keeps HK.out hqg).keeps hk1 (λh=>h)⟩;clear hk1;have hq1:W1.cell? ⟨q,1,none⟩=some (.slice (some ⟨g,0,none⟩) n cap):=HQ1.out.b.cell rfl;have hq0:W1.cell? ⟨q,0,none⟩=some (.func (.func 77) #[] #[]):=HQ1.out.b.cell rfl;rcases qDf m k with hc | ⟨c,hc,hkc,hcn⟩
  ·have HC:Hid (qB1 m k=-1):=hc
   rw[hc];clear hc;go_wp2
   go_quiet (fail)
   go_wp2
   refine bodyPost_ret (results_none rfl _ _ _) rfl ?_;refine⟨rfl,(HK.out.trans HK1.out (λ_ h=>h.elim)).trans (Keeps.drewN (λ_=>False) W1 _) (λ_ h=>h.elim),?_⟩;rw[HE.out];simp only[sinkL,HC.out];exact HI1.out.keeps (Keeps.drewN (λ_=>False) W1 _) (λh=>h)
  ·have HC:Hid (qB1 m k=(c:Int)):=hc
   rw[hc];clear hc;have hcn':c<n:=by rw[HL.out]at hcn;exact hcn
   clear hcn;have hkn:k<n:=by omega
   obtain⟨x0,x1,x2,x3⟩:=HI1.out.cells c (by rw[HL.out];exact hcn');obtain⟨y0,y1,y2,y3⟩:=HI1.out.cells k (by rw[HL.out];exact hkn);have hk0:(0:Int)<=(k:Int):=by omega
   have hkn':(k:Int)<(n:Int):=by omega
   have hc0:(0:Int)<=(c:Int):=by omega
   have hcn2:(c:Int)<(n:Int):=by omega
   have hcneg:decide ((c:Int)<0)=false:=by simp
   generalize hx:itAt m c=x at *;generalize hy:itAt m k=y at *;have HX:Hid (itAt m c=x):=hx;have HY:Hid (itAt m k=y):=hy;clear hx hy;cases hab:qCj x y
   all_goals
    go_wp2
    go_region_held3 (λw'=>w'.cell? ⟨q,0,none⟩=some (.func (.func 77) #[] #[])/\w'.cell? ⟨q,1,none⟩=some (.slice (some ⟨g,0,none⟩) n cap) /\
       w'.cell? ⟨g,c*4,none⟩=some (.int .i64 x.t)/\w'.cell? ⟨g,c*4+1,none⟩=some (.int .i64 x.k)/\w'.cell? ⟨g,c*4+2,none⟩=some (.int .i64 x.d)/\w'.cell? ⟨g,c*4+3,none⟩=some (.int .i64 x.n) /\
       w'.cell? ⟨g,k*4,none⟩=some (.int .i64 y.t)/\w'.cell? ⟨g,k*4+1,none⟩=some (.int .i64 y.k)/\w'.cell? ⟨g,k*4+2,none⟩=some (.int .i64 y.d)/\w'.cell? ⟨g,k*4+3,none⟩=some (.int .i64 y.n)) (go_keep)
     (first | (go_at_call 77;refine(qGa x y _).mono ?_;rintro e w' ⟨rfl,rfl⟩))
    have hk2:Keeps (λ_=>False) W1 ((W1.alloc (.cells x.cells 88)).alloc (.cells y.cells 88)).drew:=(((Keeps.refl _ _).alloc _).alloc _).drew;generalize((W1.alloc (.cells x.cells 88)).alloc (.cells y.cells 88)).drew=W2 at *;have HK2:Hid (Keeps (λ_=>False) W1 W2):=hk2;clear hk2
   ·go_wp2
    refine bodyPost_ret (results_none rfl _ _ _) rfl ?_;refine⟨rfl,(HK.out.trans HK1.out (λ_ h=>h.elim)).trans HK2.out (λ_ h=>h.elim),?_⟩;rw[HE.out];simp only[sinkL,HC.out,Int.toNat_natCast,HX.out,HY.out,hab,if_neg (show ¬((c:Int)<0) by omega)];exact HI1.out.keeps HK2.out (λh=>h)
   ·go_wp2_with fail
    refine(qJj q g k c cap n W2 m HL.out ⟨HQ1.out.b.keeps HK2.out (λh=>h)⟩ (HI1.out.keeps HK2.out (λh=>h)) hkn (by omega) (by omega) hqg).mono ?_;rintro e w3 ⟨rfl,hk3,hr3⟩;have HK3:Hid (Keeps (·=g) W2 w3):=hk3;have HR3:Hid (IRow w3 g cap (swapL m k c)):=hr3;clear hk3 hr3;go_wp2
    go_roundw
    case rel =>
     obtain⟨f',rfl⟩:∃f',f=f'+1:=⟨f-1,by omega⟩;refine⟨c,f',swapL m k c,rfl,.inl hcn',by omega,by omega,(qAp _ _ _).trans HL.out,((HK.out.trans HK1.out (λ_ h=>h.elim)).trans HK2.out (λ_ h=>h.elim)).then HK3.out,HR3,?_⟩;show _=_;rw[HE.out]
     conv=>lhs;unfold sinkL
     simp only[HC.out,Int.toNat_natCast,HX.out,HY.out,hab,if_neg (show ¬((c:Int)<0) by omega),if_true]
    case measure=>simp[intOf];omega
def QRep(w:World)(q:Nat)(og:Option Nat)(l:List It): Prop :=
 match og with
 | none=>l=[]/\Blk w q [qCw,.slice none 0 0] 166
 | some g=>q≠g/\∃cap,Blk w q [qCw,.slice (some ⟨g,0,none⟩) l.length cap] 166/\IRow w g cap l
theorem QRep.lt{w:World}{q:Nat}{og:Option Nat}{l:List It}(h:QRep w q og l): q<w.heap.size/\∀g,og=some g->g<w.heap.size/\q≠g:=by
 cases og with
 | none=>exact⟨h.2.lt,λ_ h=>by cases h⟩
 | some g=>obtain⟨hne,cap,hb,hr⟩:=h;exact⟨hb.lt,λg' h=>by cases h;exact⟨hr.lt,hne⟩⟩
theorem QRep.keeps{M:Nat->Prop}{w w':World}{q:Nat}{og:Option Nat}{l:List It}(h:QRep w q og l)(k:Keeps M w w')(hq:¬M q)(hg:∀g,og=some g->¬M g): QRep w' q og l:=by
 cases og with
 | none=>exact⟨h.1,h.2.keeps k hq⟩
 | some g=>obtain⟨hne,cap,hb,hr⟩:=h;exact⟨hne,cap,hb.keeps k hq,hr.keeps k (hg g rfl)⟩
theorem len_any(q:Nat)(og:Option Nat)(l:List It)(w:World)(h:QRep w q og l):
  Calls Tryz.prog 78 #[.pointer (some ⟨q,0,none⟩)] w λe w'=>e=.returned (.int .i64 l.length)/\w'=w:=by
 cases og with
 | none =>
  obtain⟨hl,hb⟩:=h;have hq1:w.cell? ⟨q,1,none⟩=some (.slice none 0 0):=hb.cell rfl;subst hl;clear hb;go_enter Tryz.func78,Tryz.ntmps78
  go_wp2
  go_ret
  exact⟨rfl,rfl⟩
 | some g =>
  obtain⟨hne,cap,hb,hr⟩:=h;have hq1:w.cell? ⟨q,1,none⟩=some (.slice (some ⟨g,0,none⟩) l.length cap):=hb.cell rfl;clear hb hr;go_enter Tryz.func78,Tryz.ntmps78
  go_wp2
  go_ret
  exact⟨rfl,rfl⟩
theorem qHi(q:Nat)(og:Option Nat)(l:List It)(w:World)(h:QRep w q og l):
  Calls Tryz.prog 80 #[.pointer (some ⟨q,0,none⟩)] w λe w'=>e=.returned (.tuple #[(itAt l 0).val,.bool (!l.isEmpty)])/\Keeps (λ_=>False) w w':=by
 have hlt:=h.lt;cases og with
 | none =>
  obtain⟨hl,hb⟩:=h;have hq1:w.cell? ⟨q,1,none⟩=some (.slice none 0 0):=hb.cell rfl;subst hl;have hlq:=hb.lt;clear hb hlt;go_enter Tryz.func80,Tryz.ntmps80
  go_wp2
  exact bodyPost_ret (v:=.tuple #[.agg #[.int .i64 0,.int .i64 0,.int .i64 0,.int .i64 0],.bool false]) (by simp[results,Tryz.results80,go_sem]) rfl ⟨rfl,by repeat (first | exact Keeps.refl _ _ | apply Keeps.drew | apply Keeps.alloc)⟩
 | some g =>
  obtain⟨hne,cap,hb,hr⟩:=h;have hq1:w.cell? ⟨q,1,none⟩=some (.slice (some ⟨g,0,none⟩) l.length cap):=hb.cell rfl;have hlq:=hb.lt;have hlg:=hr.lt;cases l with
  | nil =>
   clear hb hr hlt;go_enter Tryz.func80,Tryz.ntmps80
   go_wp2
   exact bodyPost_ret (v:=.tuple #[.agg #[.int .i64 0,.int .i64 0,.int .i64 0,.int .i64 0],.bool false]) (by simp[results,Tryz.results80,go_sem]) rfl ⟨rfl,by repeat (first | exact Keeps.refl _ _ | apply Keeps.drew | apply Keeps.alloc)⟩
  | cons x r =>
   obtain⟨x0,x1,x2,x3⟩:=hr.cells 0 (by simp);have hx:itAt (x::r) 0=x:=rfl;rw[hx]at x0 x1 x2 x3 ⊢;simp only[Nat.zero_mul,Nat.zero_add]at x0 x1 x2 x3;have hn:((x::r).length:Int)=(r.length:Int)+1:=by simp
   have hn0:(((x::r).length:Int)==0)=false:=by simp;omega
   have hn1:(0:Int)<((x::r).length:Int):=by simp
   generalize(x::r).length=n at *;clear hb hr hlt hn hx;go_enter Tryz.func80,Tryz.ntmps80
   go_wp2
   exact bodyPost_ret (v:=.tuple #[.agg #[.int .i64 x.t,.int .i64 x.k,.int .i64 x.d,.int .i64 x.n],.bool true]) (by simp[results,Tryz.results80,go_sem]) rfl ⟨rfl,by repeat (first | exact Keeps.refl _ _ | apply Keeps.drew | apply Keeps.alloc)⟩
theorem qHw: (Tryz.prog.info? 88).map (λi=>(i.zero,i.size,i.bytes))=some (some (.agg #[.int .i64 0,.int .i64 0,.int .i64 0,.int .i64 0]),4,32):=by kernel_rfl
theorem riseL_length(f:Nat)(l:List It)(i:Nat): (riseL f l i).length=l.length:=by
 induction f generalizing l i with
 | zero=>rfl
 | succ f ih =>
  unfold riseL
  split
  ·rfl
  ·split
   ·rw[ih,qAp]
   ·rfl
theorem qDk(f:Nat)(l:List It)(i:Nat): (sinkL f l i).length=l.length:=by
 induction f generalizing l i with
 | zero=>rfl
 | succ f ih =>
  unfold sinkL
  split
  ·rfl
  ·split
   ·rw[ih,qAp]
   ·rfl
def slV(og:Option Nat)(n cap:Nat): Value:=match og with | none=>.slice none 0 0 | some g=>.slice (some ⟨g,0,none⟩) n cap
theorem QRep.owns{w:World}{q:Nat}{og:Option Nat}{l:List It}(h:QRep w q og l):
  ∃cap,Blk w q [qCw,slV og l.length cap] 166/\w.ownsRow 0 88 4 (slV og l.length cap) l.length (flat l):=by
 cases og with
 | none=>obtain⟨rfl,hb⟩:=h;exact⟨0,hb,World.ownsRow_nil _ _ _ _⟩
 | some g =>
  obtain⟨hne,cap,hb,hr⟩:=h;obtain⟨cur,hc,hl,ht⟩:=hr.ex;exact⟨cap,hb,qD6 l,.inr ⟨g,cap,cur.toArray,rfl,Nat.zero_le _,hc,hr.le,hr.max,by simp[hl],by simpa using ht⟩⟩
theorem qHu{w:World}{g n cap:Nat}{l:List It}(hn:l.length=n)(h:w.ownsRow 0 88 4 (.slice (some ⟨g,0,none⟩) n cap) n (flat l)): IRow w g cap l:=by
 rcases h.2 with ⟨h1,_⟩ | ⟨g',cap',cur,h1,_,h3,h4,h5,h6,h7⟩
 ·cases h1
 ·cases h1
  subst hn;exact⟨⟨cur.toList,by unfold Blk;simpa using h3,by simpa using h6,h7⟩,h4,h5⟩
theorem qVh{w w1:World}{A B:Obj}{q gg n cap cap':Nat}{og:Option Nat}{l:List It}{x:It}{v:Value}(hn:l.length=n)(hv:slV og n cap=v)(hlq:q<w.heap.size)(hlg:∀g,og=some g->g<w.heap.size/\q≠g)(hb:Blk w q [qCw,v] 166)(hqv:some q≠v.ownBlock)(hown1:w1.ownsRow 0 88 4 (.slice (some ⟨gg,0,none⟩) (n+1) cap') (n+1) (flat l++[.int .i64 x.t,.int .i64 x.k,.int .i64 x.d,.int .i64 x.n]))(hgrow:((w.alloc A).alloc B).drew.grownBy w1 v.ownBlock)(hat:v.ownBlock=some gg\/gg=w.heap.size+2):
  QB (w1.setCell ⟨q,1,none⟩ (.slice (some ⟨gg,0,none⟩) (n+1) cap')) q (.slice (some ⟨gg,0,none⟩) (n+1) cap') /\
  IRow (w1.setCell ⟨q,1,none⟩ (.slice (some ⟨gg,0,none⟩) (n+1) cap')) gg cap' (l++[x]) /\
  Keeps (λk=>k=q\/og=some k) w (w1.setCell ⟨q,1,none⟩ (.slice (some ⟨gg,0,none⟩) (n+1) cap'))/\q≠gg/\(og=some gg\/w.heap.size<=gg):=by
 have hob:∀k,v.ownBlock=some k->og=some k:=by
  intro k hk;rw[<-hv]at hk;cases og with
  | none=>simp[slV,Value.ownBlock]at hk
  | some g=>simpa[slV,Value.ownBlock] using hk
 have hqg:q≠gg:=by
  rcases hat with h | h
  ·intro e;apply hqv;rw[h,e]
  ·omega
 have hk1:Keeps (λk=>k=q\/og=some k) w w1:=(((Keeps.refl _ w).alloc A).alloc B).drew.grown hgrow (λk hk=>Or.inl (Or.inr (hob k hk)));have hb1:Blk w1 q [qCw,v] 166:=by
  unfold Blk;rw[hgrow.block q (by simp;omega) hqv];exact(hb.alloc A).alloc B
 refine⟨⟨hb1.setCell 1 _⟩,?_,hk1.setCell (Or.inl (Or.inl rfl)) _,hqg,?_⟩
 ·have hfl:flat l++[.int .i64 x.t,.int .i64 x.k,.int .i64 x.d,.int .i64 x.n]=flat (l++[x]):=by rw[qFf];rfl
  rw[hfl]at hown1;exact(qHu (by simp[hn]) hown1).keeps (M:=λk=>k=q) ((Keeps.refl (λk=>k=q) _).setCell (Or.inl rfl) _) (λh=>hqg h.symm)
 ·rcases hat with h | h
  ·exact .inl (hob gg h)
  ·exact .inr (by omega)
theorem put_any(q:Nat)(og:Option Nat)(l:List It)(x:It)(w:World)(h:QRep w q og l)(hl:l.length<=900):
  Calls Tryz.prog 79 #[.pointer (some ⟨q,0,none⟩),x.val] w λe w'=>e=.returned (.tuple #[])/\∃og',QRep w' q og' (riseL (l.length+1) (l++[x]) l.length)/\Keeps (λk=>k=q\/og=some k) w w'/\(og'=og\/∃k,og'=some k/\w.heap.size<=k):=by
 obtain⟨hlq,hlg⟩:=h.lt;obtain⟨cap,hb,hown⟩:=h.owns;have hq1:w.cell? ⟨q,1,none⟩=some (slV og l.length cap):=hb.cell rfl;have hfz:=hb.frozen 1;obtain⟨i0,hi0,hz0,hz1,hz2⟩:=info_parts qHw;generalize hn:l.length=n at *;generalize hv:slV og n cap=v at *;unfold It.val;have HB:Hid (Blk w q [qCw,v] 166):=hb;have HV:Hid (slV og n cap=v):=hv;have HN:Hid (l.length=n):=hn;have hqv:some q≠v.ownBlock:=by
  rw[<-hv];cases og with
  | none=>simp[slV,Value.ownBlock]
  | some g=>simp[slV,Value.ownBlock];exact(hlg g rfl).2
 have HF:Hid (∀A B w1,((w.alloc A).alloc B).drew.grownBy w1 v.ownBlock->w1.cell? ⟨q,1,none⟩=some v/\w1.frozen? ⟨q,1,none⟩=false):=λA B w1 hg=>by
  have hb1:w1.heap[q]?=w.heap[q]?:=by
   rw[hg.block q (by simp;omega) hqv];show((w.alloc A).alloc B).heap[q]?=_;rw[Below.heap_alloc _ _ _ (by simp;omega),Below.heap_alloc _ _ _ hlq]
  exact⟨(World.cell?_of_block (a:=⟨q,1,none⟩) hb1).trans hq1,(World.frozen?_of_block (a:=⟨q,1,none⟩) hb1).trans hfz⟩
 have hnew:Hid (∀A B,((w.alloc A).alloc B).drew.heap[w.heap.size+1]?=some B):=λA B=>by
  have:=heap_alloc_new (w.alloc A) B
  rwa [World.size_alloc]at this
 have HLG:Hid (∀g,og=some g->g<w.heap.size/\q≠g):=hlg;clear hb h hv hn hlg;go_enter Tryz.func79,Tryz.ntmps79
 go_wp2_with fail
 go_region_law
  ((refine step_append_lies _ (by rfl) _ _ _ (by rfl) 0 88 i0 _ 4 32 Tryz.underlying141 hi0 hz0 hz1 hz2 rfl (by omega) v n (flat l) (by rfl) (((hown.alloc _).alloc _).drew)
        ⟨w.heap.size+1,0,none⟩ 1 1 [.int .i64 x.t,.int .i64 x.k,.int .i64 x.d,.int .i64 x.n] (by rfl) (by rfl) (World.news_of_block (cs:=#[.int .i64 x.t,.int .i64 x.k,.int .i64 x.d,.int .i64 x.n]) (t:=88) (fr:=(0,0)) (hnew.out _ _)) (by simp[Value.oneCell'])
        (by omega) (by unfold maxLen;omega) (by omega) (by omega) (w.heap.size+2) (by simp) ?_;intro gg cap' w1 hown1 hgrow hat hlt;have hcq:=(HF.out _ _ _ hgrow).1;have hfq:=(HF.out _ _ _ hgrow).2))
 all_goals
  have HE:=qVh HN.out HV.out hlq HLG.out HB.out hqv hown1 hgrow hat;obtain⟨hQ2,hI2,hK2,hqg,hog⟩:=HE;have HQ2:=hide hQ2;have HI2:=hide hI2;have HK2:=hide hK2;clear hQ2 hI2 hK2 hown1 hgrow hat hlt hcq hfq;generalize w1.setCell ⟨q,1,none⟩ (.slice (some ⟨gg,0,none⟩) (n+1) cap')=w2 at *;have hq2:w2.cell? ⟨q,1,none⟩=some (.slice (some ⟨gg,0,none⟩) (n+1) cap'):=(uh HQ2).b.cell rfl;go_wp2_with fail
  refine(qQy q gg n cap' (n+1) w2 (l++[x]) (by simp[HN.out]) (by omega) (uh HQ2) (uh HI2) (by omega) hqg).mono ?_;rintro e w3 ⟨rfl,hk3,hr3⟩;go_wp2
  go_end0
  refine⟨rfl,some gg,⟨hqg,cap',?_,hr3⟩,(uh HK2).trans hk3 (λi hi hlt=>?_),?_⟩
  ·have:(riseL (n+1) (l++[x]) n).length=n+1:=by rw[riseL_length];simp[HN.out]
   rw[this];exact(uh HQ2).b.keeps hk3 hqg
  ·subst hi
   rcases hog with h | h
   ·exact .inr h
   ·omega
  ·rcases hog with h | h
   ·exact .inl h.symm
   ·exact .inr ⟨gg,rfl,h⟩
end
end Go.Proofs.YtahnliehdjncdabGreatDoor
