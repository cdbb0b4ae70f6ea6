import Derived.Test.YtahnliehdjncdabGreatDoorXAP
import Derived.Test.YtahnliehdjncdabGreatDoorXAE
import Derived.Test.YtahnliehdjncdabGreatDoorXAB
import Derived.Test.YtahnliehdjncdabGreatDoorXAN
import Derived.Test.YtahnliehdjncdabGreatDoorXAO
set_option maxRecDepth 100000
set_option maxHeartbeats 16000000
namespace Go.Proofs.YtahnliehdjncdabGreatDoor.Dr
open Go.RowKit
def QRep(w:World)(q:Nat)(og:Option Nat)(l:List It): Prop :=
 match og with
 | none=>l=[]/\Blk w q [qCw,.slice none 0 0] 285
 | some g=>q≠g/\∃cap,Blk w q [qCw,.slice (some ⟨g,0,none⟩) l.length cap] 285/\IRow w g cap l
theorem QRep.lt{w:World}{q:Nat}{og:Option Nat}{l:List It}(h:QRep w q og l): q<w.heap.size/\∀g,og=some g->g<w.heap.size/\q≠g:=by
 cases og with
 | none=>exact⟨h.2.lt,λ_ h=>by cases h⟩
 | some g=>obtain⟨hne,cap,hb,hr⟩:=h;exact⟨hb.lt,λg' h=>by cases h;exact⟨hr.lt,hne⟩⟩
theorem QRep.keeps{M:Nat->Prop}{w w':World}{q:Nat}{og:Option Nat}{l:List It}(h:QRep w q og l)(k:Keeps M w w')(hq:¬M q)(hg:∀g,og=some g->¬M g): QRep w' q og l:=by
 cases og with
 | none=>exact⟨h.1,h.2.keeps k hq⟩
 | some g=>obtain⟨hne,cap,hb,hr⟩:=h;exact⟨hne,cap,hb.keeps k hq,hr.keeps k (hg g rfl)⟩
theorem len_any(q:Nat)(og:Option Nat)(l:List It)(w:World)(h:QRep w q og l):
  Calls Tryz.prog 217 #[.pointer (some ⟨q,0,none⟩)] w λe w'=>e=.returned (.int .i64 l.length)/\w'=w:=by
 cases og with
 | none =>
  obtain⟨hl,hb⟩:=h;have hq1:w.cell? ⟨q,1,none⟩=some (.slice none 0 0):=hb.cell rfl;subst hl;clear hb;go_enter Tryz.func217,Tryz.ntmps217
  go_wp2
  go_ret
  exact⟨rfl,rfl⟩
 | some g =>
  obtain⟨hne,cap,hb,hr⟩:=h;have hq1:w.cell? ⟨q,1,none⟩=some (.slice (some ⟨g,0,none⟩) l.length cap):=hb.cell rfl;clear hb hr;go_enter Tryz.func217,Tryz.ntmps217
  go_wp2
  go_ret
  exact⟨rfl,rfl⟩
theorem qHi(q:Nat)(og:Option Nat)(l:List It)(w:World)(h:QRep w q og l):
  Calls Tryz.prog 241 #[.pointer (some ⟨q,0,none⟩)] w λe w'=>e=.returned (.tuple #[(itAt l 0).val,.bool (!l.isEmpty)])/\Keeps (λ_=>False) w w':=by
 have hlt:=h.lt;cases og with
 | none =>
  obtain⟨hl,hb⟩:=h;have hq1:w.cell? ⟨q,1,none⟩=some (.slice none 0 0):=hb.cell rfl;subst hl;have hlq:=hb.lt;clear hb hlt;go_enter Tryz.func241,Tryz.ntmps241
  go_wp2
  exact bodyPost_ret (v:=.tuple #[.agg #[.int .i64 0,.int .i64 0,.int .i64 0,.int .i64 0,.int .i64 0],.bool false]) (by simp[results,Tryz.results241,go_sem]) rfl ⟨rfl,by repeat (first | exact Keeps.refl _ _ | apply Keeps.drew | apply Keeps.alloc)⟩
 | some g =>
  obtain⟨hne,cap,hb,hr⟩:=h;have hq1:w.cell? ⟨q,1,none⟩=some (.slice (some ⟨g,0,none⟩) l.length cap):=hb.cell rfl;have hlq:=hb.lt;have hlg:=hr.lt;cases l with
  | nil =>
   clear hb hr hlt;go_enter Tryz.func241,Tryz.ntmps241
   go_wp2
   exact bodyPost_ret (v:=.tuple #[.agg #[.int .i64 0,.int .i64 0,.int .i64 0,.int .i64 0,.int .i64 0],.bool false]) (by simp[results,Tryz.results241,go_sem]) rfl ⟨rfl,by repeat (first | exact Keeps.refl _ _ | apply Keeps.drew | apply Keeps.alloc)⟩
  | cons x r =>
   obtain⟨x0,x1,x2,x3,x4⟩:=hr.cells 0 (by simp);have hx:itAt (x::r) 0=x:=rfl;rw[hx]at x0 x1 x2 x3 x4 ⊢;simp only[Nat.zero_mul,Nat.zero_add]at x0 x1 x2 x3 x4;have hn:((x::r).length:Int)=(r.length:Int)+1:=by simp
   have hn0:(((x::r).length:Int)==0)=false:=by simp;omega
   have hn1:(0:Int)<((x::r).length:Int):=by simp
   generalize(x::r).length=n at *;clear hb hr hlt hn hx;go_enter Tryz.func241,Tryz.ntmps241
   go_wp2
   exact bodyPost_ret (v:=.tuple #[.agg #[.int .i64 x.t,.int .i64 x.k,.int .i64 x.d,.int .i64 x.n,.int .i64 x.v],.bool true]) (by simp[results,Tryz.results241,go_sem]) rfl ⟨rfl,by repeat (first | exact Keeps.refl _ _ | apply Keeps.drew | apply Keeps.alloc)⟩
end Go.Proofs.YtahnliehdjncdabGreatDoor.Dr
namespace Go.Proofs.YtahnliehdjncdabGreatDoor.Dr
open Go.RowKit
theorem qHw: (Tryz.prog.info? 254).map (λi=>(i.zero,i.size,i.bytes))=some (some (.agg #[.int .i64 0,.int .i64 0,.int .i64 0,.int .i64 0,.int .i64 0]),5,40):=by kernel_rfl
theorem riseL_length(f:Nat)(l:List It)(i:Nat): (riseL f l i).length=l.length:=by
 induction f generalizing l i with
 | zero=>rfl
 | succ f ih =>
  unfold riseL
  split
  ·rfl
  ·split
   ·rw[ih,qAp]
   ·rfl
theorem qDk(f:Nat)(l:List It)(i:Nat): (sinkL f l i).length=l.length:=by
 induction f generalizing l i with
 | zero=>rfl
 | succ f ih =>
  unfold sinkL
  split
  ·rfl
  ·split
   ·rw[ih,qAp]
   ·rfl
theorem QRep.owns{w:World}{q:Nat}{og:Option Nat}{l:List It}(h:QRep w q og l):
  ∃cap,Blk w q [qCw,slV og l.length cap] 285/\w.ownsRow 0 254 5 (slV og l.length cap) l.length (flat l):=by
 cases og with
 | none=>obtain⟨rfl,hb⟩:=h;exact⟨0,hb,World.ownsRow_nil _ _ _ _⟩
 | some g =>
  obtain⟨hne,cap,hb,hr⟩:=h;obtain⟨cur,hc,hl,ht⟩:=hr.ex;exact⟨cap,hb,qD6 l,.inr ⟨g,cap,cur.toArray,rfl,Nat.zero_le _,hc,hr.le,hr.max,by simp[hl],by simpa using ht⟩⟩
theorem qHu{w:World}{g n cap:Nat}{l:List It}(hn:l.length=n)(h:w.ownsRow 0 254 5 (.slice (some ⟨g,0,none⟩) n cap) n (flat l)): IRow w g cap l:=by
 rcases h.2 with ⟨h1,_⟩ | ⟨g',cap',cur,h1,_,h3,h4,h5,h6,h7⟩
 ·cases h1
 ·cases h1
  subst hn;exact⟨⟨cur.toList,by unfold Blk;simpa using h3,by simpa using h6,h7⟩,h4,h5⟩
theorem qVh{w w1:World}{A B:Obj}{q gg n cap cap':Nat}{og:Option Nat}{l:List It}{x:It}{v:Value}(hn:l.length=n)(hv:slV og n cap=v)(hlq:q<w.heap.size)(hlg:∀g,og=some g->g<w.heap.size/\q≠g)(hb:Blk w q [qCw,v] 285)(hqv:some q≠v.ownBlock)(hown1:w1.ownsRow 0 254 5 (.slice (some ⟨gg,0,none⟩) (n+1) cap') (n+1) (flat l++[.int .i64 x.t,.int .i64 x.k,.int .i64 x.d,.int .i64 x.n,.int .i64 x.v]))(hgrow:((w.alloc A).alloc B).drew.grownBy w1 v.ownBlock)(hat:v.ownBlock=some gg\/gg=w.heap.size+2):
  QB (w1.setCell ⟨q,1,none⟩ (.slice (some ⟨gg,0,none⟩) (n+1) cap')) q (.slice (some ⟨gg,0,none⟩) (n+1) cap') /\
  IRow (w1.setCell ⟨q,1,none⟩ (.slice (some ⟨gg,0,none⟩) (n+1) cap')) gg cap' (l++[x]) /\
  Keeps (λk=>k=q\/og=some k) w (w1.setCell ⟨q,1,none⟩ (.slice (some ⟨gg,0,none⟩) (n+1) cap'))/\q≠gg/\(og=some gg\/w.heap.size<=gg):=by
 have hob:∀k,v.ownBlock=some k->og=some k:=by
  intro k hk;rw[<-hv]at hk;cases og with
  | none=>simp[slV,Value.ownBlock]at hk
  | some g=>simpa[slV,Value.ownBlock] using hk
 have hqg:q≠gg:=by
  rcases hat with h | h
  ·intro e;apply hqv;rw[h,e]
  ·omega
 have hk1:Keeps (λk=>k=q\/og=some k) w w1:=(((Keeps.refl _ w).alloc A).alloc B).drew.grown hgrow (λk hk=>Or.inl (Or.inr (hob k hk)));have hb1:Blk w1 q [qCw,v] 285:=by
  unfold Blk;rw[hgrow.block q (by simp;omega) hqv];exact(hb.alloc A).alloc B
 refine⟨⟨hb1.setCell 1 _⟩,?_,hk1.setCell (Or.inl (Or.inl rfl)) _,hqg,?_⟩
 ·have hfl:flat l++[.int .i64 x.t,.int .i64 x.k,.int .i64 x.d,.int .i64 x.n,.int .i64 x.v]=flat (l++[x]):=by rw[qFf];rfl
  rw[hfl]at hown1;exact(qHu (by simp[hn]) hown1).keeps (M:=λk=>k=q) ((Keeps.refl (λk=>k=q) _).setCell (Or.inl rfl) _) (λh=>hqg h.symm)
 ·rcases hat with h | h
  ·exact .inl (hob gg h)
  ·exact .inr (by omega)
theorem put_any(q:Nat)(og:Option Nat)(l:List It)(x:It)(w:World)(h:QRep w q og l)(hl:l.length<=900):
  Calls Tryz.prog 216 #[.pointer (some ⟨q,0,none⟩),x.val] w λe w'=>e=.returned (.tuple #[])/\∃og',QRep w' q og' (riseL (l.length+1) (l++[x]) l.length)/\Keeps (λk=>k=q\/og=some k) w w'/\(og'=og\/∃k,og'=some k/\w.heap.size<=k):=by
 obtain⟨hlq,hlg⟩:=h.lt;obtain⟨cap,hb,hown⟩:=h.owns;have hq1:w.cell? ⟨q,1,none⟩=some (slV og l.length cap):=hb.cell rfl;have hfz:=hb.frozen 1;obtain⟨i0,hi0,hz0,hz1,hz2⟩:=info_parts qHw;generalize hn:l.length=n at *;generalize hv:slV og n cap=v at *;unfold It.val;have HB:Hid (Blk w q [qCw,v] 285):=hb;have HV:Hid (slV og n cap=v):=hv;have HN:Hid (l.length=n):=hn;have hqv:some q≠v.ownBlock:=by
  rw[<-hv];cases og with
  | none=>simp[slV,Value.ownBlock]
  | some g=>simp[slV,Value.ownBlock];exact(hlg g rfl).2
 have HF:Hid (∀A B w1,((w.alloc A).alloc B).drew.grownBy w1 v.ownBlock->w1.cell? ⟨q,1,none⟩=some v/\w1.frozen? ⟨q,1,none⟩=false):=λA B w1 hg=>by
  have hb1:w1.heap[q]?=w.heap[q]?:=by
   rw[hg.block q (by simp;omega) hqv];show((w.alloc A).alloc B).heap[q]?=_;rw[Below.heap_alloc _ _ _ (by simp;omega),Below.heap_alloc _ _ _ hlq]
  exact⟨(World.cell?_of_block (a:=⟨q,1,none⟩) hb1).trans hq1,(World.frozen?_of_block (a:=⟨q,1,none⟩) hb1).trans hfz⟩
 have hnew:Hid (∀A B,((w.alloc A).alloc B).drew.heap[w.heap.size+1]?=some B):=λA B=>by
  have:=heap_alloc_new (w.alloc A) B
  rwa [World.size_alloc]at this
 have HLG:Hid (∀g,og=some g->g<w.heap.size/\q≠g):=hlg;clear hb h hv hn hlg;go_enter Tryz.func216,Tryz.ntmps216
 go_wp2_with fail
 go_region_law
  ((refine step_append_lies _ (by rfl) _ _ _ (by rfl) 0 254 i0 _ 5 40 Tryz.underlying261 hi0 hz0 hz1 hz2 rfl (by omega) v n (flat l) (by rfl) (((hown.alloc _).alloc _).drew)
        ⟨w.heap.size+1,0,none⟩ 1 1 [.int .i64 x.t,.int .i64 x.k,.int .i64 x.d,.int .i64 x.n,.int .i64 x.v] (by rfl) (by rfl) (World.news_of_block (cs:=#[.int .i64 x.t,.int .i64 x.k,.int .i64 x.d,.int .i64 x.n,.int .i64 x.v]) (t:=254) (fr:=(0,0)) (hnew.out _ _)) (by simp[Value.oneCell'])
        (by omega) (by unfold maxLen;omega) (by omega) (by omega) (w.heap.size+2) (by simp) ?_;intro gg cap' w1 hown1 hgrow hat hlt;have hcq:=(HF.out _ _ _ hgrow).1;have hfq:=(HF.out _ _ _ hgrow).2))
 all_goals
  have HE:=qVh HN.out HV.out hlq HLG.out HB.out hqv hown1 hgrow hat;obtain⟨hQ2,hI2,hK2,hqg,hog⟩:=HE;have HQ2:=hide hQ2;have HI2:=hide hI2;have HK2:=hide hK2;clear hQ2 hI2 hK2 hown1 hgrow hat hlt hcq hfq;generalize w1.setCell ⟨q,1,none⟩ (.slice (some ⟨gg,0,none⟩) (n+1) cap')=w2 at *;have hq2:w2.cell? ⟨q,1,none⟩=some (.slice (some ⟨gg,0,none⟩) (n+1) cap'):=(uh HQ2).b.cell rfl;go_wp2_with fail
  refine(qQy q gg n cap' (n+1) w2 (l++[x]) (by simp[HN.out]) (by omega) (uh HQ2) (uh HI2) (by omega) hqg).mono ?_;rintro e w3 ⟨rfl,hk3,hr3⟩;go_wp2
  go_end0
  refine⟨rfl,some gg,⟨hqg,cap',?_,hr3⟩,(uh HK2).trans hk3 (λi hi hlt=>?_),?_⟩
  ·have:(riseL (n+1) (l++[x]) n).length=n+1:=by rw[riseL_length];simp[HN.out]
   rw[this];exact(uh HQ2).b.keeps hk3 hqg
  ·subst hi
   rcases hog with h | h
   ·exact .inr h
   ·omega
  ·rcases hog with h | h
   ·exact .inl h.symm
   ·exact .inr ⟨gg,rfl,h⟩
end Go.Proofs.YtahnliehdjncdabGreatDoor.Dr
namespace Go.Proofs.YtahnliehdjncdabGreatDoor.Dr
open Go.RowKit
theorem new_any(w:World):
  Calls Tryz.prog 214 #[qCw] w λe w'=>e=.returned (.pointer (some ⟨w.heap.size,0,none⟩))/\QRep w' w.heap.size none []/\Keeps (λ_=>False) w w'/\w'.heap.size=w.heap.size+1:=by
 unfold qCw;go_enter Tryz.func214,Tryz.ntmps214
 go_wp2
 go_ret
 exact⟨rfl,⟨rfl,Blk.new _ [_,_] _⟩,(Keeps.refl _ _).alloc _,by simp⟩
def takeL(l:List It): List It:=sinkL l.length ((l.set 0 (itAt l (l.length-1))).take (l.length-1)) 0
theorem IRow.take{w:World}{g cap:Nat}{l:List It}(h:IRow w g cap l)(m:Nat): IRow w g cap (l.take m):=by
 obtain⟨cur,hb,hl,ht⟩:=h.ex;have hf:∀(l:List It) (m:Nat),flat (l.take m)=(flat l).take (m*5):=by
  intro l
  induction l with
  | nil=>intro m;simp[flat]
  | cons x l ih =>
   intro m;cases m with
   | zero=>simp[flat]
   | succ m=>rw[show(m+1)*5=m*5+5 by omega];simp[flat,ih]
 refine⟨⟨cur,hb,hl,?_⟩,Nat.le_trans (List.length_take_le' _ _) h.le,h.max⟩;rw[hf,<-ht,List.take_take]
 congr 1
 simp[List.length_take]
theorem take_any(q g:Nat)(l:List It)(w:World)(h:QRep w q (some g) l)(hl:l.length<=900)(hl0:0<l.length):
  Calls Tryz.prog 218 #[.pointer (some ⟨q,0,none⟩)] w λe w'=>e=.returned (.tuple #[(itAt l 0).val,.bool true])/\QRep w' q (some g) (takeL l)/\Keeps (λk=>k=q\/k=g) w w':=by
 obtain⟨hlq,hlg⟩:=h.lt;obtain⟨hlg,hqg⟩:=hlg g rfl;have H:=hide h;clear h;have hemp:(!l.isEmpty)=true:=by cases l with | nil=>simp at hl0 | cons=>rfl
 obtain⟨n,hn⟩:∃n,n=l.length:=⟨_,rfl⟩;have hn0:0<n:=by omega
 have hn9:n<=900:=by omega
 have HN:=hide hn;clear hn hl hl0;go_enter Tryz.func218,Tryz.ntmps218
 go_wp2_with fail
 refine(qHi q (some g) l _ ((uh H).keeps ((Keeps.refl (λ_=>False) _).alloc _) (λh=>h) (λ_ _ h=>h))).mono ?_;rintro e w1 ⟨rfl,hk1⟩;rw[hemp];unfold It.val;have hB1:Blk w1 w.heap.size [.int .i64 0,.int .i64 0,.int .i64 0,.int .i64 0,.int .i64 0] 254:=(Blk.new w _ 254).keeps hk1 (λh=>h);have hkk:Keeps (λ_=>False) w w1:=((Keeps.refl (λ_=>False) w).alloc _).then hk1;have hz1:w.heap.size<w1.heap.size:=hB1.lt;obtain⟨_,cap,hqb,hir⟩:=(uh H).keeps hkk (λh=>h) (λ_ _ h=>h);rw[<-uh HN]at hqb;have hzq:q<w1.heap.size:=hqb.lt;have hzg:g<w1.heap.size:=hir.lt;have hqne:q≠w.heap.size:=by omega
 have hgne:g≠w.heap.size:=by omega
 have HB1:=hide hB1;have HKK:=hide hkk;have HQB:=hide hqb;have HIR:=hide hir;clear hk1 hB1 hkk hqb hir;generalize hx:itAt l 0=x;have HX:=hide hx;clear hx;obtain⟨m,hm⟩:∃m,n=m+1:=⟨n-1,by omega⟩;subst hm;have hq1:w1.cell? ⟨q,1,none⟩=some (.slice (some ⟨g,0,none⟩) (m+1) cap):=(uh HQB).cell rfl;go_wp2_with fail
 have hk2:Keeps (λ_=>False) w1 (w1.alloc (.cells #[.int .i64 x.t,.int .i64 x.k,.int .i64 x.d,.int .i64 x.n,.int .i64 x.v] 254)):=(Keeps.refl _ _).alloc _;have hx2:Blk (w1.alloc (.cells #[.int .i64 x.t,.int .i64 x.k,.int .i64 x.d,.int .i64 x.n,.int .i64 x.v] 254)) w1.heap.size [.int .i64 x.t,.int .i64 x.k,.int .i64 x.d,.int .i64 x.n,.int .i64 x.v] 254:=Blk.new _ _ _;generalize w1.alloc (.cells #[.int .i64 x.t,.int .i64 x.k,.int .i64 x.d,.int .i64 x.n,.int .i64 x.v] 254)=W2 at *;have HX2:=hide hx2;have HR2:=hide ((uh HB1).keeps hk2 (λh=>h));have HQ2:=hide ((uh HQB).keeps hk2 (λh=>h));have HI2:=hide ((uh HIR).keeps hk2 (λh=>h));have HK2:=hide (Keeps.then (uh HKK) hk2);clear hk2 hx2 HB1 HQB HIR HKK hq1;generalize hxb:w1.heap.size=xb at *;generalize hrb:w.heap.size=rb at *;have HRB:=hide hrb;clear hxb hrb;have hq1:W2.cell? ⟨q,1,none⟩=some (.slice (some ⟨g,0,none⟩) (m+1) cap):=(uh HQ2).cell rfl;have hqf:W2.frozen? ⟨q,1,none⟩=false:=(uh HQ2).frozen 1;obtain⟨x0,x1,x2,x3,x4⟩:=(uh HI2).cells 0 (by rw[<-uh HN];omega);obtain⟨y0,y1,y2,y3,y4⟩:=(uh HI2).cells m (by rw[<-uh HN];omega);simp only[Nat.zero_mul,Nat.zero_add]at x0 x1 x2 x3 x4;have hgf:=(uh HI2).frozen;generalize hy:itAt l m=y at *;have HY:=hide hy;clear hy;have hm0:(0:Int)<=(m:Int):=by omega
 have hm1:(m:Int)<(m:Int)+1:=by omega
 have hcap:=(uh HI2).le;rw[<-uh HN]at hcap;have hmc:(m:Int)<=(cap:Int):=by omega
 have HI3:=hide ((uh HI2).put 0 y);have HQ3:=hide (((uh HQ2).keeps ((Keeps.refl (λk=>k=g) W2).putTk (Or.inl rfl) 0 y) hqg).setCell 1 (.slice (some ⟨g,0,none⟩) m cap));have HK3:=hide ((((Keeps.refl (λk=>k=q\/k=g) W2).putTk (Or.inl (Or.inr rfl)) 0 y).setCell (p:=⟨q,1,none⟩) (Or.inl (Or.inl rfl)) (.slice (some ⟨g,0,none⟩) m cap)).drew);have HI3':=hide (((uh HI3).keeps (M:=λk=>k=q) ((Keeps.refl (λk=>k=q) _).setCell (p:=⟨q,1,none⟩) (Or.inl rfl) (.slice (some ⟨g,0,none⟩) m cap)) (λh=>hqg h.symm)).drew);go_region
 go_wp2_with fail
 have e3:((((((W2.setCell ⟨g,0,none⟩ (.int .i64 y.t)).setCell ⟨g,1,none⟩ (.int .i64 y.k)).setCell ⟨g,2,none⟩ (.int .i64 y.d)).setCell ⟨g,3,none⟩ (.int .i64 y.n)).setCell ⟨g,4,none⟩ (.int .i64 y.v)).setCell ⟨q,1,none⟩ (.slice (some ⟨g,0,none⟩) m cap)).drew=((putIt W2 g 0 y).setCell ⟨q,1,none⟩ (.slice (some ⟨g,0,none⟩) m cap)).drew:=by
  unfold putIt;rfl
 rw[e3];clear e3 hq1 hqf x0 x1 x2 x3 x4 y0 y1 y2 y3 y4 hgf;have HQ4:Hid (QB ((putIt W2 g 0 y).setCell ⟨q,1,none⟩ (.slice (some ⟨g,0,none⟩) m cap)).drew q (.slice (some ⟨g,0,none⟩) m cap)):=⟨(uh HQ3).drew⟩;have hlen:((l.set 0 y).take m).length=m:=by have:=uh HN;simp;omega
 have HL4:=hide hlen;have HT:=hide (show takeL l=sinkL (m+1) ((l.set 0 y).take m) 0 by unfold takeL;rw[<-uh HN,Nat.add_sub_cancel,uh HY]);clear hlen HI3 HQ3;generalize((putIt W2 g 0 y).setCell ⟨q,1,none⟩ (.slice (some ⟨g,0,none⟩) m cap)).drew=W3 at *;refine(qLn q g 0 cap m W3 ((l.set 0 y).take m) (uh HL4) (by omega) (by omega) (uh HQ4) ((uh HI3').take m) (by omega) hqg).mono ?_;rintro e w4 ⟨rfl,hk4,hr4⟩;have hrne:¬(rb=q\/rb=g):=by omega
 have hxne:¬(xb=q\/xb=g):=by omega
 have HX4:=hide (((uh HX2).keeps (uh HK3) hxne).keeps hk4 (λh=>hxne (Or.inr h)));have HR4:=hide (((uh HR2).keeps (uh HK3) hrne).keeps hk4 (λh=>hrne (Or.inr h)));have HE1:=hide ((uh HQ4).b.keeps hk4 hqg);have HE2:=hide hr4;have HE3:=hide ((((uh HK2).mono (M':=λk=>k=q\/k=g) (λ_ _ h=>h.elim)).then (uh HK3)).trans hk4 (λ_ h _=>Or.inr h));clear hk4 hr4 HQ4 HI3' HK3 HK2 HX2 HR2 HI2 HQ2;have a0:w4.cell? ⟨xb,0,none⟩=some (.int .i64 x.t):=(uh HX4).cell rfl;have a1:w4.cell? ⟨xb,1,none⟩=some (.int .i64 x.k):=(uh HX4).cell rfl;have a2:w4.cell? ⟨xb,2,none⟩=some (.int .i64 x.d):=(uh HX4).cell rfl;have a3:w4.cell? ⟨xb,3,none⟩=some (.int .i64 x.n):=(uh HX4).cell rfl;have a4:w4.cell? ⟨xb,4,none⟩=some (.int .i64 x.v):=(uh HX4).cell rfl;have b0:w4.cell? ⟨rb,0,none⟩=some (.int .i64 0):=(uh HR4).cell rfl;have b1:w4.cell? ⟨rb,1,none⟩=some (.int .i64 0):=(uh HR4).cell rfl;have b2:w4.cell? ⟨rb,2,none⟩=some (.int .i64 0):=(uh HR4).cell rfl;have b3:w4.cell? ⟨rb,3,none⟩=some (.int .i64 0):=(uh HR4).cell rfl;have b4:w4.cell? ⟨rb,4,none⟩=some (.int .i64 0):=(uh HR4).cell rfl;have bf:=(uh HR4).frozen
 have HFIN:=hide (show Keeps (λk=>k=rb) w4 (((((w4.setCell ⟨rb,0,none⟩ (.int .i64 x.t)).setCell ⟨rb,1,none⟩ (.int .i64 x.k)).setCell ⟨rb,2,none⟩ (.int .i64 x.d)).setCell ⟨rb,3,none⟩ (.int .i64 x.n)).setCell ⟨rb,4,none⟩ (.int .i64 x.v)) from
    (((((Keeps.refl (λk=>k=rb) w4).setCell (p:=⟨rb,0,none⟩) (Or.inl rfl) _).setCell (p:=⟨rb,1,none⟩) (Or.inl rfl) _).setCell (p:=⟨rb,2,none⟩) (Or.inl rfl) _).setCell (p:=⟨rb,3,none⟩) (Or.inl rfl) _).setCell (p:=⟨rb,4,none⟩) (Or.inl rfl) _)
 have HB5:=hide ((((((uh HR4).setCell 0 (.int .i64 x.t)).setCell 1 (.int .i64 x.k)).setCell 2 (.int .i64 x.d)).setCell 3 (.int .i64 x.n)).setCell 4 (.int .i64 x.v));go_wp2
 generalize(((((w4.setCell ⟨rb,0,none⟩ (.int .i64 x.t)).setCell ⟨rb,1,none⟩ (.int .i64 x.k)).setCell ⟨rb,2,none⟩ (.int .i64 x.d)).setCell ⟨rb,3,none⟩ (.int .i64 x.n)).setCell ⟨rb,4,none⟩ (.int .i64 x.v))=w5 at *;have c0:w5.cell? ⟨rb,0,none⟩=some (.int .i64 x.t):=(uh HB5).cell rfl;have c1:w5.cell? ⟨rb,1,none⟩=some (.int .i64 x.k):=(uh HB5).cell rfl;have c2:w5.cell? ⟨rb,2,none⟩=some (.int .i64 x.d):=(uh HB5).cell rfl;have c3:w5.cell? ⟨rb,3,none⟩=some (.int .i64 x.n):=(uh HB5).cell rfl;have c4:w5.cell? ⟨rb,4,none⟩=some (.int .i64 x.v):=(uh HB5).cell rfl;refine bodyPost_ret (v:=.tuple #[.agg #[.int .i64 x.t,.int .i64 x.k,.int .i64 x.d,.int .i64 x.n,.int .i64 x.v],.bool true]) (by simp[results,Tryz.results218,go_sem,c0,c1,c2,c3,c4]) rfl ⟨by rw[uh HX];rfl,⟨hqg,cap,?_,?_⟩,?_⟩
 ·have hl:(takeL l).length=m:=by rw[uh HT,qDk];exact uh HL4
  rw[hl];exact(uh HE1).keeps (uh HFIN) (λh=>hqne h)
 ·rw[uh HT]
  exact(uh HE2).keeps (uh HFIN) (λh=>hgne h)
 ·exact(uh HE3).trans (uh HFIN) (λi hi hlt=>by have:=uh HRB;omega)
end Go.Proofs.YtahnliehdjncdabGreatDoor.Dr
namespace Go.Proofs.YtahnliehdjncdabGreatDoor
section
open Go.RowKit
attribute [local go_sem ↓] qAd qAe
attribute [local go_sem] qAf qAl qAc qAb qAm qAn qAh qAk
def qQq(c:Cfg)(q:Nat): List Value:=c.cells++[.pointer (some ⟨q,0,none⟩)]
structure TRep (w:World) (d q:Nat) (og:Option Nat) (c:Cfg) (l:List Dr.It):Prop where
 blk:Blk w d (qQq c q) 257
 que:Dr.QRep w q og l
 dq:d≠q
 dg:∀g,og=some g->d≠g
theorem TRep.keeps{M:Nat->Prop}{w w':World}{d q:Nat}{og:Option Nat}{c:Cfg}{l:List Dr.It}(h:TRep w d q og c l)(k:Keeps M w w')(hd:¬M d)(hq:¬M q)(hg:∀g,og=some g->¬M g): TRep w' d q og c l :=
 ⟨h.blk.keeps k hd,h.que.keeps k hq hg,h.dq,h.dg⟩
theorem TRep.still{w w':World}{d q:Nat}{og:Option Nat}{c:Cfg}{l:List Dr.It}(h:TRep w d q og c l)(k:Keeps (λ_=>False) w w'): TRep w' d q og c l:=h.keeps k (λh=>h) (λh=>h) (λ_ _ h=>h)
theorem qH4{M:Nat->Prop}{w w':World}{b o n:Nat}(hk:Keeps M w w')(hlt:b<w.heap.size)(hb:¬M b): qAu w' b o n=qAu w b o n/\qA2 w' b o n=qA2 w b o n:=by
 have hc:∀j,w'.cell? ⟨b,o+j,none⟩=w.cell? ⟨b,o+j,none⟩:=λj=>World.cell?_of_block (a:=⟨b,o+j,none⟩) (hk.block b hlt hb)
 constructor
 ·unfold qAu qB0;simp only[hc]
 ·unfold qA2;simp only[hc]
theorem qVx(q:Nat)(og:Option Nat)(l:List Dr.It)(n:Int)(w:World)(h:Dr.QRep w q og l)(hn:(l.length:Int)=n):
  Calls Tryz.prog 217 #[.pointer (some ⟨q,0,none⟩)] w λe w'=>e=.returned (.int .i64 n)/\w'=w :=
 (Dr.len_any q og l w h).mono λ_ _ ⟨he,hw⟩=>⟨by rw[he,hn],hw⟩
def tick(c:Cfg)(y:It): Dr.It:=⟨y.t,y.k,y.d,y.n,qCb (qBg c y.t)⟩
def qG1(c:Cfg)(l:List Dr.It)(y:It): List Dr.It :=
 if c.size+1<((l.length+1:Nat):Int) then Dr.takeL (Dr.riseL (l.length+1) (l++[tick c y]) l.length) else Dr.riseL (l.length+1) (l++[tick c y]) l.length
theorem qIg(d q:Nat)(og:Option Nat)(c:Cfg)(l:List Dr.It)(y:It)(m:Int)(w:World)(h:TRep w d q og c l)(hc:c.weighs)(t0:0<=y.t)(t1:y.t<=4611686018427387904)(s0:1<=c.size)(s1:c.size<=5)(hl:l.length<=6):
  Calls Tryz.prog 170 #[.pointer (some ⟨d,0,none⟩),y.val,.int .i64 m] w λe w'=>e=.returned (.tuple #[])/\∃og',TRep w' d q og' c (qG1 c l y)/\Keeps (λk=>k=q\/og=some k) w w'/\(og'=og\/∃k,og'=some k/\w.heap.size<=k):=by
 obtain⟨W,hW⟩:∃W,W=w.alloc (.cells y.cells 88):=⟨_,rfl⟩;have HKW:=hide (show Keeps (λ_=>False) w W by rw[hW];exact(Keeps.refl _ _).alloc _);have hyW:Blk W w.heap.size [.int .i64 y.t,.int .i64 y.k,.int .i64 y.d,.int .i64 y.n] 88:=by rw[hW];exact Blk.new w _ _
 have HW0:=hide hW;have HT:=hide (h.still (uh HKW));clear hW;obtain⟨hlq,hlg⟩:=h.que.lt
 have HYN:=hide (show ¬(w.heap.size=q\/og=some w.heap.size) from λh=>by
    rcases h with h | h
    ·omega
    ·have:=(hlg _ h).1;omega)
 have HDN:=hide (show ¬(d=q\/og=some d) from λh'=>by
    rcases h' with h' | h'
    ·exact h.dq h'
    ·exact h.dg d h' rfl)
 have hb:=(uh HT).blk;have c10:W.cell? ⟨d,10,none⟩=some (.int .i64 c.size):=hb.cell rfl;have c20:W.cell? ⟨d,20,none⟩=some (.pointer (some ⟨q,0,none⟩)):=hb.cell rfl;have x0:W.cell? ⟨w.heap.size,0,none⟩=some (.int .i64 y.t):=hyW.cell rfl;have x1:W.cell? ⟨w.heap.size,1,none⟩=some (.int .i64 y.k):=hyW.cell rfl;have x2:W.cell? ⟨w.heap.size,2,none⟩=some (.int .i64 y.d):=hyW.cell rfl;have x3:W.cell? ⟨w.heap.size,3,none⟩=some (.int .i64 y.n):=hyW.cell rfl;obtain⟨hv,hh⟩:=qBh hb 0 20 c.cells rfl rfl;have hlt:=hb.lt;have HC:=hide hc;have HSZ:=hide (uh HKW).size;have HTW:=hide h.blk;clear hb h hyW hc hlg;obtain⟨x,hx⟩:∃x,x=tick c y:=⟨_,rfl⟩;have HX:=hide hx;have hxv:qCb (qBg c y.t)=x.v:=by rw[hx];rfl
 have HXV:=hide hxv;have HXE:=hide (show Dr.It.val x=.agg #[.int .i64 y.t,.int .i64 y.k,.int .i64 y.d,.int .i64 y.n,.int .i64 x.v] by rw[hx];rfl);clear hx hxv;unfold It.val;go_enter Tryz.func170,Tryz.ntmps170
 go_wp2_with fail
 rw[show w.alloc (.cells #[.int .i64 y.t,.int .i64 y.k,.int .i64 y.d,.int .i64 y.n] 88)=W from(uh HW0).symm];generalize hyb:w.heap.size=yb at *;have HYB:=hide hyb;clear hyb;go_region_held3 (λw'=>w'.cell? ⟨d,20,none⟩=some (.pointer (some ⟨q,0,none⟩))/\qAu w' d 0 20=.agg c.cells.toArray/\qA2 w' d 0 20=true/\w'.cell? ⟨yb,0,none⟩=some (.int .i64 y.t)/\w'.cell? ⟨yb,1,none⟩=some (.int .i64 y.k)/\w'.cell? ⟨yb,2,none⟩=some (.int .i64 y.d)/\w'.cell? ⟨yb,3,none⟩=some (.int .i64 y.n))
  (first | (go_split_ands;exact⟨by assumption,by assumption,by assumption,by assumption,by assumption,by assumption,by assumption⟩) | (go_split_ands;exact⟨hkp.cell (by assumption) (uh HDN),(qH4 hkp (by have h2:=hka.size;have h3:W.heap.size<=W1.heap.size:=(by simpa using h2);omega) (uh HDN)).1.trans (by assumption),(qH4 hkp (by have h2:=hka.size;have h3:W.heap.size<=W1.heap.size:=(by simpa using h2);omega) (uh HDN)).2.trans (by assumption),hkp.cell (by assumption) (uh HYN),hkp.cell (by assumption) (uh HYN),hkp.cell (by assumption) (uh HYN),hkp.cell (by assumption) (uh HYN)⟩) | (go_split_ands;exact⟨hka.cell (by assumption) (λh=>h),(qH4 hka (by first | exact hlt | simpa using hlt) (λh=>h)).1.trans (by assumption),(qH4 hka (by first | exact hlt | simpa using hlt) (λh=>h)).2.trans (by assumption),hka.cell (by assumption) (λh=>h),hka.cell (by assumption) (λh=>h),hka.cell (by assumption) (λh=>h),hka.cell (by assumption) (λh=>h)⟩))
  (first | (go_at_call 213;refine(qHv c y.t _ (uh HC) (by omega) t1).mono ?_;rintro e W1 ⟨rfl,hka⟩;rw[uh HXV]) | (go_at_call 216;rw[<-uh HXE];refine(Dr.put_any q og l x _ (by exact(uh HT).que.keeps (M:=λ_=>False) (((Keeps.refl _ _).drew).then hka) (λh=>h) (λ_ _ h=>h)) (by omega)).mono ?_;rintro e W2 ⟨rfl,og2,hq2,hkp,hog2⟩))
 have HKA:=hide ((((Keeps.refl (λ_=>False) W).drew).then hka));have HKP:=hide (((uh HKA).mono (M':=λk=>k=q\/og=some k) (λ_ _ h=>h.elim)).then hkp);have HB2:=hide ((uh HT).blk.keeps (uh HKP) (uh HDN));have d10:W2.cell? ⟨d,10,none⟩=some (.int .i64 c.size):=(uh HB2).cell rfl;have d20:W2.cell? ⟨d,20,none⟩=some (.pointer (some ⟨q,0,none⟩)):=(uh HB2).cell rfl;have HS1:=hide (uh HKA).size;obtain⟨l1,hl1⟩:∃l1,l1=Dr.riseL (l.length+1) (l++[x]) l.length:=⟨_,rfl⟩;rw[<-hl1]at hq2;have hlen:l1.length=l.length+1:=by rw[hl1,Dr.riseL_length];simp
 have HR:=hide (show qG1 c l y=if c.size+1<((l.length+1:Nat):Int) then Dr.takeL l1 else l1 by unfold qG1;rw[hl1,uh HX]);have HLN:=hide hlen
 have HFT:=hide (show ∀k,og2=some k->og=some k\/w.heap.size<=k from λk hk=>by
    rcases hog2 with h | ⟨k',h,hk'⟩
    ·exact .inl (by rw[<-h];exact hk)
    ·rw[h]at hk
     injection hk with hk;have h1:=uh HS1;have h2:=uh HSZ;have h3:=uh HYB
     have h4:W1.heap.size<=k':=hk'
     exact .inr (by omega))
 obtain⟨g,hg⟩:∃g,og2=some g:=by
  cases og2 with
  | none=>have:=hq2.1;rw[this]at hlen;simp at hlen
  | some g=>exact⟨g,rfl⟩
 subst hg;have HQ2:=hide hq2
 have HOGF:=hide (show some g=og\/∃k,some g=some k/\w.heap.size<=k from by
    rcases uh HFT g rfl with h | h
    ·exact .inl h.symm
    ·exact .inr ⟨g,rfl,h⟩)
 have HDG:=hide (show d≠g from λh=>by
    rcases uh HFT g rfl with h1 | h1
    ·exact uh HDN (.inr (by rw[h];exact h1))
    ·have h2:=hlt;have h3:=uh HYB
     have h4:=(uh HTW).lt
     omega)
 clear hq2 hl1 hog2 hka hkp c10 c20 x0 x1 x2 x3 hv hh hlen;generalize hn:l.length=n at *;have HN:=hide hn;clear hn;have hws:IntKind.i64.wrap (c.size+1)=c.size+1:=by rw[IntKind.wrap_i64];omega
 by_cases hc:c.size+1<(n:Int)+1
 ·have hcd:decide (c.size+1<(n:Int)+1)=true:=by simp;omega
  go_wp2_with fail
  go_quiet (first | (go_at_call 217;refine Calls.quiet_of_same (qVx q (some g) l1 ((n:Int)+1) _ (by exact(uh HQ2).keeps (M:=λ_=>False) (Keeps.drewN _ _ _) (λh=>h) (λ_ _ h=>h)) (by have:=uh HLN;omega))))
  have e20:(W2.drewN nq).cell? ⟨d,20,none⟩=some (.pointer (some ⟨q,0,none⟩)):=d20;have HQD:=hide (Keeps.drewN (λ_=>False) W2 nq);generalize W2.drewN nq=W3 at *;go_wp2_with fail
  refine(Dr.take_any q g l1 W3 ((uh HQ2).keeps (uh HQD) (λh=>h) (λ_ _ h=>h)) (by have:=uh HLN;omega) (by have:=uh HLN;omega)).mono ?_;rintro e W4 ⟨rfl,hq4,hk4⟩;have HQ4:=hide hq4;have HK4:=hide hk4;clear hq4 hk4;go_wp2
  go_end0
  refine⟨rfl,some g,⟨?_,?_,(uh HT).dq,λg' h=>by injection h with h;rw[<-h];exact uh HDG⟩,?_,uh HOGF⟩
  ·exact((uh HB2).keeps (uh HQD) (λh=>h)).keeps (uh HK4) (λh=>h.elim (uh HT).dq (λh=>uh HDG h))
  ·rw[uh HR,if_pos (by omega)];exact uh HQ4
  ·exact(((uh HKW).mono (λ_ _ h=>h.elim)).then (uh HKP)).trans (((uh HQD).mono (λ_ _ h=>h.elim)).then (uh HK4)) (λi hi hlt2=>by
      rcases hi with hi | hi
      ·exact .inl hi
      ·rcases uh HFT g rfl with h1 | h1
       ·exact .inr (by rw[hi];exact h1)
       ·omega)
 ·have hcd:decide (c.size+1<(n:Int)+1)=false:=by simp;omega
  go_wp2_with fail
  go_quiet (first | (go_at_call 217;refine Calls.quiet_of_same (qVx q (some g) l1 ((n:Int)+1) _ (by exact(uh HQ2).keeps (M:=λ_=>False) (Keeps.drewN _ _ _) (λh=>h) (λ_ _ h=>h)) (by have:=uh HLN;omega))))
  have HQD:=hide (Keeps.drewN (λ_=>False) W2 nq);generalize W2.drewN nq=W3 at *;go_wp2
  go_end0
  refine⟨rfl,some g,⟨?_,?_,(uh HT).dq,λg' h=>by injection h with h;rw[<-h];exact uh HDG⟩,?_,uh HOGF⟩
  ·exact(uh HB2).keeps (uh HQD) (λh=>h)
  ·rw[uh HR,if_neg (by omega)];exact(uh HQ2).keeps (uh HQD) (λh=>h) (λ_ _ h=>h)
  ·exact(((uh HKW).mono (λ_ _ h=>h.elim)).then (uh HKP)).trans (uh HQD) (λi hi=>hi.elim)
end
section
open Go.RowKit
theorem qEa(ρ:Operand->Value)(dst:Option Tmp)(x:Operand)(ty:TypeId)(pos:String)(after:Array Edge)(guard:Option (Nat×Bool)):
  execOp ρ { dst,op:=.load 235 x,type:=ty,pos,after,guard }=qE0 235 (ρ x):=rfl
theorem zGq: (Tryz.prog.info? 235).map (·.size)=some 48:=by kernel_rfl
theorem qF4(w:World)(b o:Nat)(h:qA2 w b o 48=true): (qE0 235 (.pointer (some ⟨b,o,none⟩))).run Tryz.prog w=.ok (.value (qAu w b o 48)) w:=by
 unfold qE0;rw[Sem.run_bind,run_loadAt_mid w b o 235 (qB0 w b o 48) _ (qFt h) Tryz.underlying235 rfl (by rw[zGq];simp[qB0])];rfl
def qAw: List Int:=List.replicate 48 0
theorem qBf: qAw.length=48:=by simp[qAw]
def qNg(n:Int): Pa.Pn:=⟨n,qAw,qBf⟩
def qMk(ty:TypeId)(ps:Array (Nat×Value)): Sem Next:=do pure (.value (<-Instr.build ty ps))
theorem qDp(ρ:Operand->Value)(dst:Option Tmp)(x:Array (Nat×Operand))(ty:TypeId)(pos:String)(after:Array Edge)(guard:Option (Nat×Bool)):
  execOp ρ { dst,op:=.build 235 x,type:=ty,pos,after,guard }=qMk 235 (x.map λ(i,y)=>(i,ρ y)):=rfl
theorem qDo(ρ:Operand->Value)(dst:Option Tmp)(x:Array (Nat×Operand))(ty:TypeId)(pos:String)(after:Array Edge)(guard:Option (Nat×Bool)):
  execOp ρ { dst,op:=.build 237 x,type:=ty,pos,after,guard }=qMk 237 (x.map λ(i,y)=>(i,ρ y)):=rfl
theorem qE6(w:World): (qMk 235 #[]).run Tryz.prog w=.ok (.value (.agg (qAv qAw).toArray)) w:=by kernel_rfl
theorem qE7(n:Int)(w:World): (qMk 237 #[(0,.int .i64 n)]).run Tryz.prog w=.ok (.value (.agg (qNg n).cells.toArray)) w:=by kernel_rfl
theorem qIb(n:Int)(d:Nat)(w:World)(h:w.there d 20 49): (Pa.storeP 237 (.pointer (some ⟨d,20,none⟩)) (.agg (qNg n).cells.toArray)).run Tryz.prog w=.ok .skip (w.setCells d 20 (qNg n).cells) :=
 Pa.run_storeP w d 20 (qNg n).cells (qNg n).cells_length h (qNg n).one
attribute [local go_sem ↓] Pa.execOp_loadP Pa.execOp_storeP qEa qDp qDo
attribute [local go_sem] Pa.run_loadP qF4 qE6 qE7 qIb zHx qBf qAc qAb
def qBp(o:Pa.Pn)(cl:List Pa.Pn)(n:Int): Pa.Pn×List Pa.Pn:=if o.no=n then(o,cl) else(qNg n,if o.cs=qAw then cl else cl++[o])
theorem qLt{w:World}{d q:Nat}{c:Cfg}{o:Pa.Pn}(h:Blk w d (qA4 c o q) 240): w.there d 20 49:=λj hj =>
 ⟨h.some (by simp[qA4,Cfg.cells,o.cells_length];omega),h.frozen _⟩
theorem qFz{w:World}{d q:Nat}{c:Cfg}{o:Pa.Pn}(h:Blk w d (qA4 c o q) 240): w.rangeAt d 20 o.cells:=λj v hv=>by
 have hj:j<49:=by have:=(List.getElem?_eq_some_iff.1 hv).1;rwa [o.cells_length]at this
 exact h.cell ((qJq c o q j hj).trans hv)
theorem qXr{w:World}{d q:Nat}{c:Cfg}{o:Pa.Pn}(h:Blk w d (qA4 c o q) 240): w.rangeAt d 21 (qAv o.cs):=λj v hv=>by
 have hj:j<48:=by have:=(List.getElem?_eq_some_iff.1 hv).1;simpa[qAv,o.len] using this
 rw[show 21+j=20+(j+1) by omega];refine h.cell ((qJq c o q (j+1) (by omega)).trans ?_);simpa[Pa.Pn.cells,qAv] using hv
theorem zAm{w:World}{d q:Nat}{c:Cfg}{o:Pa.Pn}(p:Pa.Pn)(h:Blk w d (qA4 c o q) 240): Blk (w.setCells d 20 p.cells) d (qA4 c p q) 240:=by
 have:=Blk.setCells p.cells 20 _ _ h (by simp[qA4,Cfg.cells,p.cells_length,o.cells_length]);have e:over (qA4 c o q) 20 p.cells=qA4 c p q:=by
  unfold over qA4;have hc:c.cells.length=20:=by simp[Cfg.cells]
  rw[List.take_append_of_le_length (by omega),List.take_of_length_le (by omega),List.drop_append,List.drop_append];have e1:List.drop 69 c.cells=[]:=List.drop_eq_nil_of_le (by omega);have e2:List.drop 49 o.cells=[]:=List.drop_eq_nil_of_le (by rw[o.cells_length];omega);simp[hc,p.cells_length,o.cells_length,e1,e2]
 rw[e]at this;exact this
theorem qSh(p:Pa.Pn)(w:World):
  Calls Tryz.prog 233 #[p.val] w λe w'=>e=.returned (.bool (decide (p.cs=qAw)))/\Keeps (λ_=>False) w w':=by
 have hol:=p.len;have hcl:=p.cells_length;have hv:qAu (w.alloc (.cells p.cells.toArray 237)) w.heap.size 1 48=.agg (qAv p.cs).toArray:=by
  rw[qUj _ _ _ _ _ (by omega)];have:(p.cells.drop 1).take 48=qAv p.cs:=by
   unfold Pa.Pn.cells;simp only[List.drop_succ_cons,List.drop_zero];exact List.take_of_length_le (by simp[p.len])
  rw[this]
 have hh:qA2 (w.alloc (.cells p.cells.toArray 237)) w.heap.size 1 48=true:=qT4 _ _ _ _ _ (by omega);unfold Pa.Pn.val;go_enter Tryz.func233,Tryz.ntmps233
 go_wp2
 go_ret
 exact⟨rfl,(Keeps.refl _ _).alloc _⟩
theorem qWj(d q:Nat)(og:Option Nat)(c:Cfg)(o:Pa.Pn)(cl:List Pa.Pn)(n:Int)(w:World)(hb:Blk w d (qA4 c o q) 240)(hr:Pa.RowRep w d q og cl)(hdq:d≠q)(hdg:∀g,og=some g->d≠g)(hl:cl.length<=1000000000):
  Calls Tryz.prog 203 #[.pointer (some ⟨d,0,none⟩),.int .i64 n] w λe w'=>e=.returned (.tuple #[])/\∃og',Blk w' d (qA4 c (qBp o cl n).1 q) 240/\Pa.RowRep w' d q og' (qBp o cl n).2/\Keeps (λk=>k=d\/k=q\/og=some k) w w'/\(og'=og\/∃k,og'=some k/\w.heap.size<=k):=by
 have c20:w.cell? ⟨d,20,none⟩=some (.int .i64 o.no):=hb.cell ((qJq c o q 0 (by omega)).trans rfl);have c69:w.cell? ⟨d,69,none⟩=some (.pointer (some ⟨q,0,none⟩)):=hb.cell (qL5 c o q);have hth:=qLt hb;have hr1:=qAq (qFz hb);have hr2:=qAq (qXr hb);rw[o.cells_length]at hr1;rw[show(qAv o.cs).length=48 by simp[qAv,o.len]]at hr2;have hv1:qAu w d 20 49=o.val:=by unfold qAu Pa.Pn.val;rw[hr1.1]
 have hh1:=hr1.2;have hv2:qAu w d 21 48=.agg (qAv o.cs).toArray:=by unfold qAu;rw[hr2.1]
 have hh2:=hr2.2;have hol:=o.len;have HB:=hide hb;have HR:=hide hr;have HDG:=hide hdg;clear hb hr hr1 hr2 hdg
 by_cases hn:o.no=n
 ·have ht:qBp o cl n=(o,cl):=by unfold qBp;rw[if_pos hn]
  rw[ht];clear hth hv1 hh1 hv2 hh2;go_enter Tryz.func203,Tryz.ntmps203
  go_wp2
  refine bodyPost_ret (results_none rfl _ _ _) rfl ?_;exact⟨rfl,og,uh HB,uh HR,Keeps.refl _ _,.inl rfl⟩
 ·have HEM:=hide (qSh o w)
  clear hv2 hh2 c69 hth;unfold Pa.Pn.val at *;go_enter Tryz.func203,Tryz.ntmps203
  go_wp2_with fail
  refine(uh HEM).mono ?_;rintro e w0 ⟨rfl,hk0⟩;have HB0:=hide ((uh HB).keeps hk0 (λh=>h));have HR0:=hide ((uh HR).still hk0);have HK0:=hide hk0;have hlt:=(uh HB).lt;have hlt0:=(uh HB0).lt;have HSZ:=hide hk0.size;clear hk0 hv1 hh1 c20 HEM;have c69:w0.cell? ⟨d,69,none⟩=some (.pointer (some ⟨q,0,none⟩)):=(uh HB0).cell (qL5 c o q);have hth:=qLt (uh HB0);have hr1:=qAq (qFz (uh HB0));rw[o.cells_length]at hr1;have hv1:qAu w0 d 20 49=.agg o.cells.toArray:=by unfold qAu;rw[hr1.1]
  have hh1:=hr1.2;clear hr1
  by_cases hz:o.cs=qAw
  ·have ht:qBp o cl n=(qNg n,cl):=by unfold qBp;rw[if_neg hn,if_pos hz]
   have HTO:=hide ht;have hd:decide (o.cs=qAw)=true:=by simpa using hz
   rw[hd];clear hv1 hh1 hd hz ht;go_wp2
   go_end0
   rw[uh HTO];refine⟨rfl,og,zAm _ (uh HB0),(uh HR0).keeps (M:=λk=>k=d) (Keeps.setCells (M:=λk=>k=d) (Or.inl rfl) _ _ _ (Keeps.refl _ _)) (λh=>hdq h.symm) (λg hg h=>uh HDG g hg h.symm),Keeps.setCells (Or.inl (Or.inl rfl)) _ _ _ ((uh HK0).mono (λ_ _ h=>h.elim)),.inl rfl⟩
  ·have ht:qBp o cl n=(qNg n,cl++[o]):=by unfold qBp;rw[if_neg hn,if_neg hz]
   have HTO:=hide ht;have hd:decide (o.cs=qAw)=false:=by simpa using hz
   rw[hd];clear hz hd ht;go_wp2_with fail
   have HDN:=hide (show ¬(d=q\/og=some d) by rintro (h | h);exact hdq h;exact uh HDG d h rfl);go_region_held3 (λw'=>w'.cell? ⟨d,69,none⟩=some (.pointer (some ⟨q,0,none⟩))/\qAu w' d 20 49=.agg o.cells.toArray/\qA2 w' d 20 49=true)
    (first | (go_split_ands;exact⟨by assumption,by assumption,by assumption⟩) | (go_split_ands;exact⟨hk1.cell (by assumption) (uh HDN),(qH4 hk1 (by first | exact hlt0 | simpa using hlt0) (uh HDN)).1.trans (by assumption),(qH4 hk1 (by first | exact hlt0 | simpa using hlt0) (uh HDN)).2.trans (by assumption)⟩))
    (first | (go_at_call 234;refine(Pa.rowPut_any d q og cl o _ (by exact(uh HR0).still (Keeps.refl _ _).drew) hl).mono ?_;rintro e w1 ⟨rfl,og',hr1,hk1,hog⟩))
   have HB1:=hide (((uh HB0).keeps ((Keeps.refl (λ_=>False) w0).drew) (λh=>h)).keeps hk1 (by rintro (h | h);exact hdq h;exact uh HDG d h rfl));have hth1:=qLt (uh HB1);have HK1:=hide hk1;have HR1:=hide hr1;clear hr1 hk1;go_wp2
   go_end0
   have hsz:=uh HSZ;have hdg':∀g,og'=some g->g≠d:=λg hg h=>by
    rcases hog with e | ⟨k,e,hk⟩
    ·exact uh HDG g (e ▸ hg) h.symm
    ·rw[e]at hg;cases hg;have hk':w0.heap.size<=g:=hk;omega
   rw[uh HTO];refine⟨rfl,og',zAm _ (uh HB1),(uh HR1).keeps (M:=λk=>k=d) (Keeps.setCells (M:=λk=>k=d) (Or.inl rfl) _ _ _ (Keeps.refl _ _)) (λh=>hdq h.symm) hdg',Keeps.setCells (Or.inl (Or.inl rfl)) _ _ _ (((((uh HK0).mono (M':=λk=>k=d\/k=q\/og=some k) (λ_ _ h=>h.elim)).drew).then ((uh HK1).mono (λk _ h=>Or.inr h)))),?_⟩;rcases hog with e | ⟨k,e,hk⟩
   ·exact .inl e
   ·exact .inr ⟨k,e,by have hk':w0.heap.size<=k:=hk;omega⟩
end
end Go.Proofs.YtahnliehdjncdabGreatDoor
