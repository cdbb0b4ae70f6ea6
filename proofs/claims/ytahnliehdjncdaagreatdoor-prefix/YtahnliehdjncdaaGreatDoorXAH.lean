import Derived.Test.YtahnliehdjncdaaGreatDoorXAG
import Derived.BigRegion
import Derived.Deep.AppendLies
import Derived.Deep.RegionHeld3
import Derived.Deep.RegionLaw
import Derived.Laws.CopyOwn
import Derived.Laws.IdiomCopy
set_option maxRecDepth 100000
set_option maxHeartbeats 16000000
namespace Go.Proofs.YtahnliehdjncdaaGreatDoor
section
open Go.RowKit
theorem qF4: (Tryz.prog.info? 87).map (λi=>(i.zero,i.size,i.bytes))=some (some (.agg #[.int .i64 0,.int .i64 0,.int .i64 0,.int .i64 0]),4,32):=by kernel_rfl
theorem riseL_length(f:Nat)(l:List It)(i:Nat): (riseL f l i).length=l.length:=by
 induction f generalizing l i with
 | zero=>rfl
 | succ f ih =>
  unfold riseL
  split
  ·rfl
  ·split
   ·rw[ih,qA4]
   ·rfl
theorem qC1(f:Nat)(l:List It)(i:Nat): (sinkL f l i).length=l.length:=by
 induction f generalizing l i with
 | zero=>rfl
 | succ f ih =>
  unfold sinkL
  split
  ·rfl
  ·split
   ·rw[ih,qA4]
   ·rfl
def slV(og:Option Nat)(n cap:Nat): Value:=match og with | none=>.slice none 0 0 | some g=>.slice (some ⟨g,0,none⟩) n cap
theorem QRep.owns{w:World}{q:Nat}{og:Option Nat}{l:List It}(h:QRep w q og l):
  ∃cap,Blk w q [qCi,slV og l.length cap] 163/\w.ownsRow 0 87 4 (slV og l.length cap) l.length (flat l):=by
 cases og with
 | none=>obtain⟨rfl,hb⟩:=h;exact⟨0,hb,World.ownsRow_nil _ _ _ _⟩
 | some g =>
  obtain⟨hne,cap,hb,hr⟩:=h
  obtain⟨cur,hc,hl,ht⟩:=hr.ex
  exact⟨cap,hb,qDn l,.inr ⟨g,cap,cur.toArray,rfl,Nat.zero_le _,hc,hr.le,hr.max,by simp[hl],by simpa using ht⟩⟩
theorem qF5{w:World}{g n cap:Nat}{l:List It}(hn:l.length=n)(h:w.ownsRow 0 87 4 (.slice (some ⟨g,0,none⟩) n cap) n (flat l)): IRow w g cap l:=by
 rcases h.2 with ⟨h1,_⟩ | ⟨g',cap',cur,h1,_,h3,h4,h5,h6,h7⟩
 ·cases h1
 ·cases h1
  subst hn
  exact⟨⟨cur.toList,by unfold Blk;simpa using h3,by simpa using h6,h7⟩,h4,h5⟩
theorem qR0{w w1:World}{A B:Obj}{q gg n cap cap':Nat}{og:Option Nat}{l:List It}{x:It}{v:Value}(hn:l.length=n)(hv:slV og n cap=v)(hlq:q<w.heap.size)(hlg:∀g,og=some g->g<w.heap.size/\q≠g)(hb:Blk w q [qCi,v] 163)(hqv:some q≠v.ownBlock)(hown1:w1.ownsRow 0 87 4 (.slice (some ⟨gg,0,none⟩) (n+1) cap') (n+1) (flat l++[.int .i64 x.t,.int .i64 x.k,.int .i64 x.d,.int .i64 x.n]))(hgrow:((w.alloc A).alloc B).drew.grownBy w1 v.ownBlock)(hat:v.ownBlock=some gg\/gg=w.heap.size+2):
  QB (w1.setCell ⟨q,1,none⟩ (.slice (some ⟨gg,0,none⟩) (n+1) cap')) q (.slice (some ⟨gg,0,none⟩) (n+1) cap') /\
  IRow (w1.setCell ⟨q,1,none⟩ (.slice (some ⟨gg,0,none⟩) (n+1) cap')) gg cap' (l++[x]) /\
  Keeps (λk=>k=q\/og=some k) w (w1.setCell ⟨q,1,none⟩ (.slice (some ⟨gg,0,none⟩) (n+1) cap'))/\q≠gg/\(og=some gg\/w.heap.size<=gg):=by
 have hob:∀k,v.ownBlock=some k->og=some k:=by
  intro k hk
  rw[<-hv]at hk
  cases og with
  | none=>simp[slV,Value.ownBlock]at hk
  | some g=>simpa[slV,Value.ownBlock] using hk
 have hqg:q≠gg:=by
  rcases hat with h | h
  ·intro e;apply hqv;rw[h,e]
  ·omega
 have hk1:Keeps (λk=>k=q\/og=some k) w w1:=(((Keeps.refl _ w).alloc A).alloc B).drew.grown hgrow (λk hk=>Or.inl (Or.inr (hob k hk)))
 have hb1:Blk w1 q [qCi,v] 163:=by
  unfold Blk
  rw[hgrow.block q (by simp;omega) hqv]
  exact(hb.alloc A).alloc B
 refine⟨⟨hb1.setCell 1 _⟩,?_,hk1.setCell (Or.inl (Or.inl rfl)) _,hqg,?_⟩
 ·have hfl:flat l++[.int .i64 x.t,.int .i64 x.k,.int .i64 x.d,.int .i64 x.n]=flat (l++[x]):=by rw[qEp];rfl
  rw[hfl]at hown1
  exact(qF5 (by simp[hn]) hown1).keeps (M:=λk=>k=q) ((Keeps.refl (λk=>k=q) _).setCell (Or.inl rfl) _) (λh=>hqg h.symm)
 ·rcases hat with h | h
  ·exact .inl (hob gg h)
  ·exact .inr (by omega)
theorem put_any(q:Nat)(og:Option Nat)(l:List It)(x:It)(w:World)(h:QRep w q og l)(hl:l.length<=900):
  Calls Tryz.prog 92 #[.pointer (some ⟨q,0,none⟩),x.val] w λe w'=>e=.returned (.tuple #[])/\∃og',QRep w' q og' (riseL (l.length+1) (l++[x]) l.length)/\Keeps (λk=>k=q\/og=some k) w w'/\(og'=og\/∃k,og'=some k/\w.heap.size<=k):=by
 obtain⟨hlq,hlg⟩:=h.lt
 obtain⟨cap,hb,hown⟩:=h.owns
 have hq1:w.cell? ⟨q,1,none⟩=some (slV og l.length cap):=hb.cell rfl
 have hfz:=hb.frozen 1
 obtain⟨i0,hi0,hz0,hz1,hz2⟩:=info_parts qF4
 generalize hn:l.length=n at *
 generalize hv:slV og n cap=v at *
 unfold It.val
 have HB:Hid (Blk w q [qCi,v] 163):=hb
 have HV:Hid (slV og n cap=v):=hv
 have HN:Hid (l.length=n):=hn
 have hqv:some q≠v.ownBlock:=by
  rw[<-hv]
  cases og with
  | none=>simp[slV,Value.ownBlock]
  | some g=>simp[slV,Value.ownBlock];exact(hlg g rfl).2
 have HF:Hid (∀A B w1,((w.alloc A).alloc B).drew.grownBy w1 v.ownBlock->w1.cell? ⟨q,1,none⟩=some v/\w1.frozen? ⟨q,1,none⟩=false):=λA B w1 hg=>by
  have hb1:w1.heap[q]?=w.heap[q]?:=by
   rw[hg.block q (by simp;omega) hqv]
   show((w.alloc A).alloc B).heap[q]?=_
   rw[Below.heap_alloc _ _ _ (by simp;omega),Below.heap_alloc _ _ _ hlq]
  exact⟨(World.cell?_of_block (a:=⟨q,1,none⟩) hb1).trans hq1,(World.frozen?_of_block (a:=⟨q,1,none⟩) hb1).trans hfz⟩
 have hnew:Hid (∀A B,((w.alloc A).alloc B).drew.heap[w.heap.size+1]?=some B):=λA B=>by
  have:=heap_alloc_new (w.alloc A) B
  rwa [World.size_alloc]at this
 have HLG:Hid (∀g,og=some g->g<w.heap.size/\q≠g):=hlg
 clear hb h hv hn hlg
 go_enter Tryz.func92,Tryz.ntmps92
 go_wp2_with fail
 go_region_law
  ((refine step_append_lies _ (by rfl) _ _ _ (by rfl) 0 87 i0 _ 4 32 Tryz.underlying139 hi0 hz0 hz1 hz2 rfl (by omega) v n (flat l) (by rfl) (((hown.alloc _).alloc _).drew)
        ⟨w.heap.size+1,0,none⟩ 1 1 [.int .i64 x.t,.int .i64 x.k,.int .i64 x.d,.int .i64 x.n] (by rfl) (by rfl) (World.news_of_block (cs:=#[.int .i64 x.t,.int .i64 x.k,.int .i64 x.d,.int .i64 x.n]) (t:=87) (fr:=(0,0)) (hnew.out _ _)) (by simp[Value.oneCell'])
        (by omega) (by unfold maxLen;omega) (by omega) (by omega) (w.heap.size+2) (by simp) ?_;intro gg cap' w1 hown1 hgrow hat hlt;have hcq:=(HF.out _ _ _ hgrow).1;have hfq:=(HF.out _ _ _ hgrow).2))
 all_goals
  have HE:=qR0 HN.out HV.out hlq HLG.out HB.out hqv hown1 hgrow hat
  obtain⟨hQ2,hI2,hK2,hqg,hog⟩:=HE
  have HQ2:=hide hQ2
  have HI2:=hide hI2
  have HK2:=hide hK2
  clear hQ2 hI2 hK2 hown1 hgrow hat hlt hcq hfq
  generalize w1.setCell ⟨q,1,none⟩ (.slice (some ⟨gg,0,none⟩) (n+1) cap')=w2 at *
  have hq2:w2.cell? ⟨q,1,none⟩=some (.slice (some ⟨gg,0,none⟩) (n+1) cap'):=(uh HQ2).b.cell rfl
  go_wp2_with fail
  refine(qNx q gg n cap' (n+1) w2 (l++[x]) (by simp[HN.out]) (by omega) (uh HQ2) (uh HI2) (by omega) hqg).mono ?_
  rintro e w3 ⟨rfl,hk3,hr3⟩
  go_wp2
  go_end0
  refine⟨rfl,some gg,⟨hqg,cap',?_,hr3⟩,(uh HK2).trans hk3 (λi hi hlt=>?_),?_⟩
  ·have:(riseL (n+1) (l++[x]) n).length=n+1:=by rw[riseL_length];simp[HN.out]
   rw[this]
   exact(uh HQ2).b.keeps hk3 hqg
  ·subst hi
   rcases hog with h | h
   ·exact .inr h
   ·omega
  ·rcases hog with h | h
   ·exact .inl h.symm
   ·exact .inr ⟨gg,rfl,h⟩
theorem new_any(w:World):
  Calls Tryz.prog 89 #[qCi] w λe w'=>e=.returned (.pointer (some ⟨w.heap.size,0,none⟩))/\QRep w' w.heap.size none []/\Keeps (λ_=>False) w w'/\w'.heap.size=w.heap.size+1:=by
 unfold qCi
 go_enter Tryz.func89,Tryz.ntmps89
 go_wp2
 go_ret
 exact⟨rfl,⟨rfl,Blk.new _ [_,_] _⟩,(Keeps.refl _ _).alloc _,by simp⟩
def takeL(l:List It): List It:=sinkL l.length ((l.set 0 (itAt l (l.length-1))).take (l.length-1)) 0
theorem IRow.take{w:World}{g cap:Nat}{l:List It}(h:IRow w g cap l)(m:Nat): IRow w g cap (l.take m):=by
 obtain⟨cur,hb,hl,ht⟩:=h.ex
 have hf:∀(l:List It) (m:Nat),flat (l.take m)=(flat l).take (m*4):=by
  intro l
  induction l with
  | nil=>intro m;simp[flat]
  | cons x l ih =>
   intro m
   cases m with
   | zero=>simp[flat]
   | succ m=>rw[show(m+1)*4=m*4+4 by omega];simp[flat,ih]
 refine⟨⟨cur,hb,hl,?_⟩,Nat.le_trans (List.length_take_le' _ _) h.le,h.max⟩
 rw[hf,<-ht,List.take_take]
 congr 1
 simp[List.length_take]
theorem take_any(q g:Nat)(l:List It)(w:World)(h:QRep w q (some g) l)(hl:l.length<=900)(hl0:0<l.length):
  Calls Tryz.prog 94 #[.pointer (some ⟨q,0,none⟩)] w λe w'=>(∃v,e=.returned v)/\QRep w' q (some g) (takeL l)/\Keeps (λk=>k=q\/k=g) w w':=by
 obtain⟨hlq,hlg⟩:=h.lt
 obtain⟨hlg,hqg⟩:=hlg g rfl
 have H:=hide h
 clear h
 have hemp:(!l.isEmpty)=true:=by cases l with | nil=>simp at hl0 | cons=>rfl
 obtain⟨n,hn⟩:∃n,n=l.length:=⟨_,rfl⟩
 have hn0:0<n:=by omega
 have hn9:n<=900:=by omega
 have HN:=hide hn
 clear hn hl hl0
 go_enter Tryz.func94,Tryz.ntmps94
 go_wp2_with fail
 refine(qGr q (some g) l _ ((uh H).keeps ((Keeps.refl (λ_=>False) _).alloc _) (λh=>h) (λ_ _ h=>h))).mono ?_
 rintro e w1 ⟨rfl,hk1⟩
 rw[hemp]
 unfold It.val
 have hB1:Blk w1 w.heap.size [.int .i64 0,.int .i64 0,.int .i64 0,.int .i64 0] 87:=(Blk.new w _ 87).keeps hk1 (λh=>h)
 have hkk:Keeps (λ_=>False) w w1:=((Keeps.refl (λ_=>False) w).alloc _).then hk1
 have hz1:w.heap.size<w1.heap.size:=hB1.lt
 obtain⟨_,cap,hqb,hir⟩:=(uh H).keeps hkk (λh=>h) (λ_ _ h=>h)
 rw[<-uh HN]at hqb
 have hzq:q<w1.heap.size:=hqb.lt
 have hzg:g<w1.heap.size:=hir.lt
 have hqne:q≠w.heap.size:=by omega
 have hgne:g≠w.heap.size:=by omega
 have HB1:=hide hB1
 have HKK:=hide hkk
 have HQB:=hide hqb
 have HIR:=hide hir
 clear hk1 hB1 hkk hqb hir
 generalize hx:itAt l 0=x
 have HX:=hide hx
 clear hx
 obtain⟨m,hm⟩:∃m,n=m+1:=⟨n-1,by omega⟩
 subst hm
 have hq1:w1.cell? ⟨q,1,none⟩=some (.slice (some ⟨g,0,none⟩) (m+1) cap):=(uh HQB).cell rfl
 go_wp2_with fail
 have hk2:Keeps (λ_=>False) w1 (w1.alloc (.cells #[.int .i64 x.t,.int .i64 x.k,.int .i64 x.d,.int .i64 x.n] 87)):=(Keeps.refl _ _).alloc _
 have hx2:Blk (w1.alloc (.cells #[.int .i64 x.t,.int .i64 x.k,.int .i64 x.d,.int .i64 x.n] 87)) w1.heap.size [.int .i64 x.t,.int .i64 x.k,.int .i64 x.d,.int .i64 x.n] 87:=Blk.new _ _ _
 generalize w1.alloc (.cells #[.int .i64 x.t,.int .i64 x.k,.int .i64 x.d,.int .i64 x.n] 87)=W2 at *
 have HX2:=hide hx2
 have HR2:=hide ((uh HB1).keeps hk2 (λh=>h))
 have HQ2:=hide ((uh HQB).keeps hk2 (λh=>h))
 have HI2:=hide ((uh HIR).keeps hk2 (λh=>h))
 have HK2:=hide (Keeps.then (uh HKK) hk2)
 clear hk2 hx2 HB1 HQB HIR HKK hq1
 generalize hxb:w1.heap.size=xb at *
 generalize hrb:w.heap.size=rb at *
 have HRB:=hide hrb
 clear hxb hrb
 have hq1:W2.cell? ⟨q,1,none⟩=some (.slice (some ⟨g,0,none⟩) (m+1) cap):=(uh HQ2).cell rfl
 have hqf:W2.frozen? ⟨q,1,none⟩=false:=(uh HQ2).frozen 1
 obtain⟨x0,x1,x2,x3⟩:=(uh HI2).cells 0 (by rw[<-uh HN];omega)
 obtain⟨y0,y1,y2,y3⟩:=(uh HI2).cells m (by rw[<-uh HN];omega)
 simp only[Nat.zero_mul,Nat.zero_add]at x0 x1 x2 x3
 have hgf:=(uh HI2).frozen
 generalize hy:itAt l m=y at *
 have HY:=hide hy
 clear hy
 have hm0:(0:Int)<=(m:Int):=by omega
 have hm1:(m:Int)<(m:Int)+1:=by omega
 have hcap:=(uh HI2).le
 rw[<-uh HN]at hcap
 have hmc:(m:Int)<=(cap:Int):=by omega
 have HI3:=hide ((uh HI2).put 0 y)
 have HQ3:=hide (((uh HQ2).keeps ((Keeps.refl (λk=>k=g) W2).putIt (Or.inl rfl) 0 y) hqg).setCell 1 (.slice (some ⟨g,0,none⟩) m cap))
 have HK3:=hide ((((Keeps.refl (λk=>k=q\/k=g) W2).putIt (Or.inl (Or.inr rfl)) 0 y).setCell (p:=⟨q,1,none⟩) (Or.inl (Or.inl rfl)) (.slice (some ⟨g,0,none⟩) m cap)).drew)
 have HI3':=hide (((uh HI3).keeps (M:=λk=>k=q) ((Keeps.refl (λk=>k=q) _).setCell (p:=⟨q,1,none⟩) (Or.inl rfl) (.slice (some ⟨g,0,none⟩) m cap)) (λh=>hqg h.symm)).drew)
 go_region
 go_wp2_with fail
 have e3:(((((W2.setCell ⟨g,0,none⟩ (.int .i64 y.t)).setCell ⟨g,1,none⟩ (.int .i64 y.k)).setCell ⟨g,2,none⟩ (.int .i64 y.d)).setCell ⟨g,3,none⟩ (.int .i64 y.n)).setCell ⟨q,1,none⟩ (.slice (some ⟨g,0,none⟩) m cap)).drew=((putIt W2 g 0 y).setCell ⟨q,1,none⟩ (.slice (some ⟨g,0,none⟩) m cap)).drew:=by
  unfold putIt;rfl
 rw[e3]
 clear e3 hq1 hqf x0 x1 x2 x3 y0 y1 y2 y3 hgf
 have HQ4:Hid (QB ((putIt W2 g 0 y).setCell ⟨q,1,none⟩ (.slice (some ⟨g,0,none⟩) m cap)).drew q (.slice (some ⟨g,0,none⟩) m cap)):=⟨uh HQ3⟩
 have hlen:((l.set 0 y).take m).length=m:=by have:=uh HN;simp;omega
 have HL4:=hide hlen
 have HT:=hide (show takeL l=sinkL (m+1) ((l.set 0 y).take m) 0 by unfold takeL;rw[<-uh HN,<-uh HY];rfl)
 clear hlen HI3 HQ3
 generalize((putIt W2 g 0 y).setCell ⟨q,1,none⟩ (.slice (some ⟨g,0,none⟩) m cap)).drew=W3 at *
 refine(qJo q g 0 cap m W3 ((l.set 0 y).take m) (uh HL4) (by omega) (by omega) (uh HQ4) ((uh HI3').take m) (by omega) hqg).mono ?_
 rintro e w4 ⟨rfl,hk4,hr4⟩
 have hrne:¬(rb=q\/rb=g):=by omega
 have hxne:¬(xb=q\/xb=g):=by omega
 have HX4:=hide (((uh HX2).keeps (uh HK3) hxne).keeps hk4 (λh=>hxne (Or.inr h)))
 have HR4:=hide (((uh HR2).keeps (uh HK3) hrne).keeps hk4 (λh=>hrne (Or.inr h)))
 have HE1:=hide ((uh HQ4).b.keeps hk4 hqg)
 have HE2:=hide hr4
 have HE3:=hide ((((uh HK2).mono (M':=λk=>k=q\/k=g) (λ_ _ h=>h.elim)).then (uh HK3)).trans hk4 (λ_ h _=>Or.inr h))
 clear hk4 hr4 HQ4 HI3' HK3 HK2 HX2 HR2 HI2 HQ2
 have a0:w4.cell? ⟨xb,0,none⟩=some (.int .i64 x.t):=(uh HX4).cell rfl
 have a1:w4.cell? ⟨xb,1,none⟩=some (.int .i64 x.k):=(uh HX4).cell rfl
 have a2:w4.cell? ⟨xb,2,none⟩=some (.int .i64 x.d):=(uh HX4).cell rfl
 have a3:w4.cell? ⟨xb,3,none⟩=some (.int .i64 x.n):=(uh HX4).cell rfl
 have b0:w4.cell? ⟨rb,0,none⟩=some (.int .i64 0):=(uh HR4).cell rfl
 have b1:w4.cell? ⟨rb,1,none⟩=some (.int .i64 0):=(uh HR4).cell rfl
 have b2:w4.cell? ⟨rb,2,none⟩=some (.int .i64 0):=(uh HR4).cell rfl
 have b3:w4.cell? ⟨rb,3,none⟩=some (.int .i64 0):=(uh HR4).cell rfl
 have bf:=(uh HR4).frozen
 have HFIN:=hide (show Keeps (λk=>k=rb) w4 ((((w4.setCell ⟨rb,0,none⟩ (.int .i64 x.t)).setCell ⟨rb,1,none⟩ (.int .i64 x.k)).setCell ⟨rb,2,none⟩ (.int .i64 x.d)).setCell ⟨rb,3,none⟩ (.int .i64 x.n)) from
    ((((Keeps.refl (λk=>k=rb) w4).setCell (p:=⟨rb,0,none⟩) (Or.inl rfl) _).setCell (p:=⟨rb,1,none⟩) (Or.inl rfl) _).setCell (p:=⟨rb,2,none⟩) (Or.inl rfl) _).setCell (p:=⟨rb,3,none⟩) (Or.inl rfl) _)
 have HB5:=hide (((((uh HR4).setCell 0 (.int .i64 x.t)).setCell 1 (.int .i64 x.k)).setCell 2 (.int .i64 x.d)).setCell 3 (.int .i64 x.n))
 go_wp2
 generalize((((w4.setCell ⟨rb,0,none⟩ (.int .i64 x.t)).setCell ⟨rb,1,none⟩ (.int .i64 x.k)).setCell ⟨rb,2,none⟩ (.int .i64 x.d)).setCell ⟨rb,3,none⟩ (.int .i64 x.n))=w5 at *
 have c0:w5.cell? ⟨rb,0,none⟩=some (.int .i64 x.t):=(uh HB5).cell rfl
 have c1:w5.cell? ⟨rb,1,none⟩=some (.int .i64 x.k):=(uh HB5).cell rfl
 have c2:w5.cell? ⟨rb,2,none⟩=some (.int .i64 x.d):=(uh HB5).cell rfl
 have c3:w5.cell? ⟨rb,3,none⟩=some (.int .i64 x.n):=(uh HB5).cell rfl
 refine bodyPost_ret (v:=.tuple #[.agg #[.int .i64 x.t,.int .i64 x.k,.int .i64 x.d,.int .i64 x.n],.bool true]) (by simp[results,Tryz.results94,go_sem,c0,c1,c2,c3]) rfl ⟨⟨_,rfl⟩,⟨hqg,cap,?_,?_⟩,?_⟩
 ·have hl:(takeL l).length=m:=by rw[uh HT,qC1];exact uh HL4
  rw[hl]
  exact(uh HE1).keeps (uh HFIN) (λh=>hqne h)
 ·rw[uh HT]
  exact(uh HE2).keeps (uh HFIN) (λh=>hgne h)
 ·exact(uh HE3).trans (uh HFIN) (λi hi hlt=>by have:=uh HRB;omega)
def over(L:List Value)(o:Nat)(vs:List Value): List Value:=L.take o++vs++L.drop (o+vs.length)
theorem qBc{L:List Value}{o:Nat}{vs:List Value}(h:o+vs.length<=L.length): (over L o vs).length=L.length:=by
 simp[over];omega
theorem qWf(L:List Value)(o:Nat)(v:Value)(vs:List Value)(h:o+(vs.length+1)<=L.length): over (L.set o v) (o+1) vs=over L o (v::vs):=by
 unfold over
 have ho:o<L.length:=by omega
 have h1:(L.set o v).take (o+1)=L.take o++[v]:=by
  rw[List.take_add_one,List.take_set_of_le (Nat.le_refl _)]
  simp[ho]
 have h2:(L.set o v).drop (o+1+vs.length)=L.drop (o+(vs.length+1)):=by
  rw[List.drop_set_of_lt (by omega),show o+1+vs.length=o+(vs.length+1) by omega]
 rw[h1,h2];simp
theorem Blk.setCells{b:Nat}{T:TypeId}: ∀(vs:List Value) (o:Nat) (w:World) (cs:List Value),Blk w b cs T->o+vs.length<=cs.length->Blk (w.setCells b o vs) b (over cs o vs) T
 | [],o,_,cs,h,_=>by simpa[World.setCells,over] using h
 | v::vs,o,_,cs,h,hl=>by
  rw[World.setCells,<-qWf cs o v vs (by simpa using hl)]
  exact Blk.setCells vs (o+1) _ _ (h.setCell o v) (by simp at hl ⊢;omega)
theorem Keeps.setCells{M:Nat->Prop}{a:World}{b:Nat}(hp:M b\/a.heap.size<=b): ∀(vs:List Value) (o:Nat) (w:World),Keeps M a w->Keeps M a (w.setCells b o vs)
 | [],_,_,h=>h
 | v::vs,o,_,h=>Keeps.setCells hp vs (o+1) _ (h.setCell (p:=⟨b,o,none⟩) hp v)
theorem Blk.some{w:World}{b:Nat}{cs:List Value}{T:TypeId}(h:Blk w b cs T){i:Nat}(hi:i<cs.length): (w.cell? ⟨b,i,none⟩).isSome=true:=by
 rw[h.cell (List.getElem?_eq_getElem hi)];rfl
structure Bk where
 sz:Int
 t:Int
def Bk.val(x:Bk): Value:=.agg #[.int .i64 x.sz,.int .i64 x.t]
def qB8(l:List Bk)(i:Nat): Bk:=l.getD i ⟨0,0⟩
def qBm: List Bk->List Value
 | []=>[]
 | x::l=>.int .i64 x.sz::.int .i64 x.t::qBm l
def qB7: Nat->List Value
 | 0=>[]
 | n+1=>.int .i64 0::.int .i64 0::qB7 n
theorem qCl(l:List Bk): (qBm l).length=l.length*2:=by
 induction l with
 | nil=>rfl
 | cons x l ih=>simp[qBm,ih];omega
theorem qEd(a b:List Bk): qBm (a++b)=qBm a++qBm b:=by
 induction a with
 | nil=>rfl
 | cons x l ih=>simp[qBm,ih]
theorem qIv(l:List Bk)(i:Nat): qBm (l.drop i)=(qBm l).drop (i*2):=by
 induction l generalizing i with
 | nil=>simp[qBm]
 | cons x l ih =>
  cases i with
  | zero=>simp
  | succ i=>rw[show(i+1)*2=i*2+2 by omega];simp[qBm,ih]
theorem qIx(l:List Bk)(i:Nat): qBm (l.take i)=(qBm l).take (i*2):=by
 induction l generalizing i with
 | nil=>simp[qBm]
 | cons x l ih =>
  cases i with
  | zero=>simp[qBm]
  | succ i=>rw[show(i+1)*2=i*2+2 by omega];simp[qBm,ih]
theorem qPk(l:List Bk)(i:Nat)(h:i<l.length): (qBm l)[i*2]?=some (.int .i64 (qB8 l i).sz)/\(qBm l)[i*2+1]?=some (.int .i64 (qB8 l i).t):=by
 induction l generalizing i with
 | nil=>simp at h
 | cons x l ih =>
  cases i with
  | zero=>simp[qBm,qB8]
  | succ i =>
   have:=ih i (by simpa using h)
   rw[show(i+1)*2=i*2+2 by omega]
   simpa[qBm,qB8] using this
theorem qJ6(l:List Bk): ∀u∈qBm l,u.oneCell'=true:=by
 induction l with
 | nil=>simp[qBm]
 | cons x l ih =>
  intro u hu
  simp only[qBm,List.mem_cons]at hu
  rcases hu with rfl | rfl | hu
  ·rfl
  ·rfl
  ·exact ih u hu
theorem qBh(n:Nat): (qB7 n).length=n*2:=by
 induction n with
 | zero=>rfl
 | succ n ih=>simp[qB7,ih];omega
theorem qMq(n:Nat): ∀u∈qB7 n,u.oneCell'=true:=by
 induction n with
 | zero=>simp[qB7]
 | succ n ih =>
  intro u hu
  simp only[qB7,List.mem_cons]at hu
  rcases hu with rfl | rfl | hu
  ·rfl
  ·rfl
  ·exact ih u hu
theorem qUy(n j:Nat)(h:j<n*2): (qB7 n)[j]?=some (.int .i64 0):=by
 induction n generalizing j with
 | zero=>omega
 | succ n ih =>
  match j with
  | 0=>rfl
  | 1=>rfl
  | j+2=>simp only[qB7,List.getElem?_cons_succ];exact ih j (by omega)
structure BRow (w:World) (g cap:Nat) (l:List Bk):Prop where
 ex:∃cur:List Value,Blk w g cur 211/\cur.length=cap*2/\cur.take (l.length*2)=qBm l
 le:l.length<=cap
 max:cap<=maxLen
theorem BRow.lt{w:World}{g cap:Nat}{l:List Bk}(h:BRow w g cap l): g<w.heap.size:=by obtain⟨cur,hb,_⟩:=h.ex;exact hb.lt
theorem BRow.keeps{M:Nat->Prop}{w w':World}{g cap:Nat}{l:List Bk}(h:BRow w g cap l)(k:Keeps M w w')(hn:¬M g): BRow w' g cap l:=by
 obtain⟨cur,hb,r⟩:=h.ex;exact⟨⟨cur,hb.keeps k hn,r⟩,h.le,h.max⟩
theorem BRow.cells{w:World}{g cap:Nat}{l:List Bk}(h:BRow w g cap l)(i:Nat)(hi:i<l.length):
  w.cell? ⟨g,i*2,none⟩=some (.int .i64 (qB8 l i).sz)/\w.cell? ⟨g,i*2+1,none⟩=some (.int .i64 (qB8 l i).t):=by
 obtain⟨cur,hb,hl,ht⟩:=h.ex
 have hg:∀k,k<l.length*2->cur[k]?=(qBm l)[k]?:=λk hk=>by rw[<-ht,List.getElem?_take,if_pos hk]
 obtain⟨a,b⟩:=qPk l i hi
 exact⟨hb.cell (by rw[hg _ (by omega)];exact a),hb.cell (by rw[hg _ (by omega)];exact b)⟩
theorem BRow.owns{w:World}{g cap:Nat}{l:List Bk}(h:BRow w g cap l): w.ownsRow 0 211 2 (.slice (some ⟨g,0,none⟩) l.length cap) l.length (qBm l):=by
 obtain⟨cur,hc,hl,ht⟩:=h.ex
 exact⟨qCl l,.inr ⟨g,cap,cur.toArray,rfl,Nat.zero_le _,hc,h.le,h.max,by simp[hl],by simpa using ht⟩⟩
theorem brow_of_owns{w:World}{g n cap:Nat}{l:List Bk}(hn:l.length=n)(h:w.ownsRow 0 211 2 (.slice (some ⟨g,0,none⟩) n cap) n (qBm l)): BRow w g cap l:=by
 rcases h.2 with ⟨h1,_⟩ | ⟨g',cap',cur,h1,_,h3,h4,h5,h6,h7⟩
 ·cases h1
 ·cases h1
  subst hn
  exact⟨⟨cur.toList,by unfold Blk;simpa using h3,by simpa using h6,h7⟩,h4,h5⟩
theorem infoBk: (Tryz.prog.info? 211).map (λi=>(i.zero,i.size,i.bytes))=some (some (.agg #[.int .i64 0,.int .i64 0]),2,16):=by kernel_rfl
theorem qH1(n:Nat): (Builtin.zeroCells (Value.agg #[.int .i64 0,.int .i64 0]).cells n).toList=qB7 n:=by
 have hz:(Value.agg #[.int .i64 0,.int .i64 0]).cells=#[.int .i64 0,.int .i64 0]:=rfl
 rw[hz]
 apply List.ext_getElem?
 intro j
 by_cases hj:j<n*2
 ·rw[qUy n j hj]
  have:j%2=0\/j%2=1:=by omega
  rcases this with h | h <;> simp[Builtin.zeroCells,hj,h]
 ·rw[List.getElem?_eq_none (by simp[Builtin.zeroCells];omega),List.getElem?_eq_none (by rw[qBh];omega)]
theorem qB5(w:World)(ty:TypeId)(b o n c:Nat)(cs:List Value)(h:Blk w b cs 211)(hn:0<n)(hl:o+n*2<=cs.length):
  (Builtin.clear_ #[262] ty #[.slice (some ⟨b,o,none⟩) n c]).run Tryz.prog w=.ok (.tuple #[]) (w.setCells b o (qB7 n)):=by
 have hst:=run_storeCells_cells (P:=Tryz.prog) b o (qB7 n) 0 w (λj hj=>h.some (by rw[qBh]at hj;omega)) (λj _=>h.frozen _) (qMq n)
 simp only[Nat.add_zero]at hst
 obtain⟨m,rfl⟩:∃m,n=m+1:=⟨n-1,by omega⟩
 simp[Builtin.clear_,run_underlying Tryz.underlying262,qH1,hst]
theorem qHt(w:World)(ty:TypeId)(b o dLen dCap:Nat)(a:Addr)(sLen sCap:Nat)(cs news:List Value)(h:Blk w b cs 211)(hn:news.length=Nat.min sLen dLen*2)(hsrc:∀j v,news[j]?=some v->w.cell? (a.add j)=some v)(hfit:o+news.length<=cs.length)(h1:∀v∈news,v.oneCell'=true):
  (Builtin.copy_ #[262,262] ty #[.slice (some ⟨b,o,none⟩) dLen dCap,.slice (some a) sLen sCap]).run Tryz.prog w=.ok (goInt (Nat.min sLen dLen)) (w.setCells b o news):=by
 have hl:=run_loadCells_list (P:=Tryz.prog) w a news hsrc
 have hst:=run_storeCells_cells (P:=Tryz.prog) b o news 0 w (λj hj=>h.some (by omega)) (λj _=>h.frozen _) h1
 simp only[Nat.add_zero]at hst
 obtain⟨i0,hi0,hz0,hz1,hz2⟩:=info_parts infoBk
 simp[Builtin.copy_,run_underlying Tryz.underlying262,Builtin.lenOf,Builtin.firstCells,sizeOf,typeInfo,hi0,hz1,<-hn,hl,hst]
end
end Go.Proofs.YtahnliehdjncdaaGreatDoor
