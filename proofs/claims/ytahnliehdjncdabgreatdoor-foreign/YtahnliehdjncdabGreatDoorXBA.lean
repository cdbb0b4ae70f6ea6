import Derived.Laws.MakeOwn
import Derived.Test.YtahnliehdjncdabGreatDoorXAF
import Derived.Test.YtahnliehdjncdabGreatDoorXAR
import Derived.Deep.LoopGhost
import Derived.Test.YtahnliehdjncdabGreatDoorXAA
import Derived.Test.YtahnliehdjncdabGreatDoorXAU
import Derived.Test.YtahnliehdjncdabGreatDoorXAZ
set_option maxRecDepth 100000
set_option maxHeartbeats 16000000
namespace Go.Proofs.YtahnliehdjncdabGreatDoor.Qi
open Go.RowKit
def Own(w:World)(base:Nat)(v:Value)(l:List It): Prop:=w.ownsRow base 88 4 v l.length (flat l)
theorem Own.keeps{M:Nat->Prop}{w w':World}{base:Nat}{v:Value}{l:List It}(h:Own w base v l)(hk:Keeps M w w')(hn:∀i,v.ownBlock=some i->¬M i): Own w' base v l:=by
 rcases h.2 with ⟨h1,h2⟩ | ⟨g,cap,cur,h1,h2,h3,h4⟩
 ·exact⟨h.1,.inl ⟨h1,h2⟩⟩
 ·refine⟨h.1,.inr ⟨g,cap,cur,h1,h2,?_,h4⟩⟩
  have hlt:g<w.heap.size:=(Array.getElem?_eq_some_iff.1 h3).1;rw[hk.block g hlt (hn g (by rw[h1];simp[Value.ownBlock]))];exact h3
theorem Own.base{w:World}{base:Nat}{v:Value}{l:List It}(h:Own w base v l)(i:Nat)(hi:v.ownBlock=some i): base<=i:=by
 rcases h.2 with ⟨h1,_⟩ | ⟨g,cap,cur,h1,h2,_⟩
 ·rw[h1]at hi;simp[Value.ownBlock]at hi
 ·rw[h1]at hi
  have:g=i:=by simpa[Value.ownBlock] using hi
  omega
theorem qQd(l:List It): ∀u∈flat l,u.oneCell'=true:=by
 induction l with
 | nil=>simp[flat]
 | cons x l ih =>
  intro u hu;simp only[flat,List.mem_cons]at hu;rcases hu with rfl | rfl | rfl | rfl | hu
  ·rfl
  ·rfl
  ·rfl
  ·rfl
  ·exact ih u hu
theorem qCz{w:World}{ops:Array Oper}{rest:List Oper}{o:Oper}{a:Act}{Q:Exit->Act->World->Prop}(hgd:o.guard=none)(s x:Operand)(ho:o.op=.call { callee:=.builtin .append,args:=#[s,x],argTypes:=#[141,141] })(base:Nat)(v:Value)(A:List It)(k:Nat)(hk:A.length=k)(hs:a.eval s=v)(hown:Own w base v A)(sb m c:Nat)(B:List It)(hm:B.length=m)(hx:a.eval x=.slice (some ⟨sb,0,none⟩) m c)(hB:∀j u,(flat B)[j]?=some u->w.cell? ⟨sb,j,none⟩=some u)(hpos:0<m)(hlen:k+m<=100000)(hbase:base<=w.heap.size)(h:∀g c' w1,Own w1 base (.slice (some ⟨g,0,none⟩) (k+m) c') (A++B)->Keeps (λi=>v.ownBlock=some i) w w1->(v.ownBlock=some g\/w.heap.size<=g)->wpList Tryz.prog ops Q rest (a.put o.dst (.slice (some ⟨g,0,none⟩) (k+m) c')) w1): wpList Tryz.prog ops Q (o::rest) a w:=by
 obtain⟨i0,hi0,hz0,hz1,hz2⟩:=info_parts qHw;subst hk hm;refine wpList_append_lies w hgd s x 141 ho base 88 i0 _ 4 32 Tryz.underlying141 hi0 hz0 hz1 hz2 (by rfl) (by omega) v A.length (flat A) hs hown ⟨sb,0,none⟩ B.length c (flat B) hx (qD6 B) ?_ (qQd B) hpos (by unfold maxLen;omega) (by omega) hbase w.heap.size rfl ?_
 ·intro j u hu
  rw[Addr.add_lit,Nat.zero_add];exact hB j u hu
 ·intro g c' w' hown' hgrow hat hlt'
  refine h g c' w' ?_ ⟨hgrow.os,hgrow.tape,hgrow.output,hgrow.size,λk hk hn=>hgrow.block k hk (λh=>hn h.symm)⟩ ?_
  ·show w'.ownsRow base 88 4 _ (A++B).length (flat (A++B))
   rw[qFf,List.length_append];exact hown'
  ·rcases hat with h1 | h1
   ·exact .inl h1
   ·exact .inr (by omega)
theorem Own.row{w:World}{base g n c:Nat}{l:List It}(_:l.length=n)(h:Own w base (.slice (some ⟨g,0,none⟩) n c) l): IRow w g c l/\base<=g:=by
 rcases h.2 with ⟨h1,_⟩ | ⟨g',cap',cur,h1,h2,h3,h4,h5,h6,h7⟩
 ·cases h1
 ·cases h1
  exact⟨⟨⟨cur.toList,by unfold Blk;simpa using h3,by simpa using h6,h7⟩,h4,h5⟩,h2⟩
theorem qQx(g n cap:Nat)(w:World): (binOp BinOp.eql 141 (.slice (some ⟨g,0,none⟩) n cap) (.slice none 0 0)).run Tryz.prog w=.ok (.bool false) w:=by kernel_rfl
theorem qL7(w:World): (binOp BinOp.eql 141 (.slice none 0 0) (.slice none 0 0)).run Tryz.prog w=.ok (.bool true) w:=by kernel_rfl
attribute [local go_sem] qQx qL7
theorem qHj(w:World):
  Calls Tryz.prog 131 #[.slice none 0 0] w λe w'=>e=.returned (.slice none 0 0)/\w'=w:=by
 go_enter Tryz.func131,Tryz.ntmps131
 go_wp2
 go_ret
 exact⟨rfl,rfl⟩
theorem qMf(g cap:Nat)(l:List It)(w:World)(h:IRow w g cap l)(hl:l.length<=1000):
  Calls Tryz.prog 131 #[.slice (some ⟨g,0,none⟩) l.length cap] w λe w'=>∃g' c',e=.returned (.slice (some ⟨g',0,none⟩) l.length c')/\w.heap.size<=g'/\IRow w' g' c' l/\Keeps (λ_=>False) w w':=by
 obtain⟨n,hn⟩:∃n,n=l.length:=⟨_,rfl⟩;have HR:=hide h;have HN:=hide hn;rw[<-hn]at hl ⊢;obtain⟨i0,hi0,hz0,hz1,hz2⟩:=info_parts qHw;clear hn h
 have HE:=hide (show Own (w.alloc (.cells #[] 88)) w.heap.size (.slice (some ⟨w.heap.size,0,none⟩) 0 0) [] from
    ⟨rfl,.inr ⟨w.heap.size,0,#[],rfl,Nat.le_refl _,heap_alloc_new w _,Nat.le_refl _,Nat.zero_le _,rfl,rfl⟩⟩)
 have HK:=hide ((Keeps.refl (λ_=>False) w).alloc (.cells #[] 88))
 by_cases h0:n=0
 ·subst h0
  have HL:=hide (show l=[] from List.length_eq_zero_iff.1 (uh HN).symm);go_enter Tryz.func131,Tryz.ntmps131
  go_wp2_with (at_builtin;refine qEl rfl _ _ 141 rfl w.heap.size 88 i0 4 Tryz.underlying141 hi0 _ 0 [] rfl (uh HE) (some ⟨g,0,none⟩) cap rfl ?_)
  go_ret
  refine⟨w.heap.size,0,rfl,Nat.le_refl _,?_,uh HK⟩;rw[uh HL];exact(Own.row rfl (uh HE)).1
 ·have HC:=hide (show ∀j u,(flat l)[j]?=some u->(w.alloc (.cells #[] 88)).cell? ⟨g,j,none⟩=some u from λj u hu=>by
     obtain⟨cur,hb,hl,ht⟩:=(uh HR).ex;refine(uh HK).cell (hb.cell ?_) (λh=>h);have hj:j<l.length*4:=by have:=(List.getElem?_eq_some_iff.1 hu).1;rwa [qD6]at this
     rw[<-ht,List.getElem?_take,if_pos hj]at hu
     exact hu)
  have hpos:0<n:=by omega
  go_enter Tryz.func131,Tryz.ntmps131
  go_wp2_with (at_builtin;refine qCz rfl _ _ rfl w.heap.size _ [] 0 rfl rfl (uh HE) g n cap l (uh HN).symm rfl (uh HC) hpos (by omega) (by simp) ?_;intro g2 c2 W2 hown2 hk2 hat2)
  have how:=Own.row (by have:=uh HN;simp;omega) hown2;have HO:=hide how.1;have HG:=hide how.2
  have HK2:=hide (((uh HK).trans hk2 (λi hi hlt=>by
         have hi':(Value.slice (some ⟨w.heap.size,0,none⟩) 0 0).ownBlock=some i:=hi;have:w.heap.size=i:=by simpa[Value.ownBlock] using hi'
         omega)))
  clear how hown2 hk2 hat2;go_wp2
  go_ret
  exact⟨g2,c2,rfl,uh HG,uh HO,uh HK2⟩
def allL: Nat->List It->List It
 | 0,_=>[]
 | f+1,l=>if l.length=0 then[] else itAt l 0::allL f (takeL l)
theorem takeL_length(l:List It): (takeL l).length=l.length-1:=by
 unfold takeL;rw[qDk];simp
theorem qZh(q g:Nat)(l:List It)(w:World)(h:QRep w q (some g) l)(hl:l.length<=900)(hl0:0<l.length):
  Calls Tryz.prog 81 #[.pointer (some ⟨q,0,none⟩)] w λe w'=>e=.returned (.tuple #[(itAt l 0).val,.bool true])/\QRep w' q (some g) (takeL l)/\Keeps (λk=>k=q\/k=g) w w':=by
 obtain⟨hlq,hlg⟩:=h.lt;obtain⟨hlg,hqg⟩:=hlg g rfl;have H:=hide h;clear h;have hemp:(!l.isEmpty)=true:=by cases l with | nil=>simp at hl0 | cons=>rfl
 obtain⟨n,hn⟩:∃n,n=l.length:=⟨_,rfl⟩;have hn0:0<n:=by omega
 have hn9:n<=900:=by omega
 have HN:=hide hn;clear hn hl hl0;go_enter Tryz.func81,Tryz.ntmps81
 go_wp2_with fail
 refine(qHi q (some g) l _ ((uh H).keeps ((Keeps.refl (λ_=>False) _).alloc _) (λh=>h) (λ_ _ h=>h))).mono ?_;rintro e w1 ⟨rfl,hk1⟩;rw[hemp];unfold It.val;have hB1:Blk w1 w.heap.size [.int .i64 0,.int .i64 0,.int .i64 0,.int .i64 0] 88:=(Blk.new w _ 88).keeps hk1 (λh=>h);have hkk:Keeps (λ_=>False) w w1:=((Keeps.refl (λ_=>False) w).alloc _).then hk1;have hz1:w.heap.size<w1.heap.size:=hB1.lt;obtain⟨_,cap,hqb,hir⟩:=(uh H).keeps hkk (λh=>h) (λ_ _ h=>h);rw[<-uh HN]at hqb;have hzq:q<w1.heap.size:=hqb.lt;have hzg:g<w1.heap.size:=hir.lt;have hqne:q≠w.heap.size:=by omega
 have hgne:g≠w.heap.size:=by omega
 have HB1:=hide hB1;have HKK:=hide hkk;have HQB:=hide hqb;have HIR:=hide hir;clear hk1 hB1 hkk hqb hir;generalize hx:itAt l 0=x;have HXE:=hide hx;have HX:=hide hx;clear hx;obtain⟨m,hm⟩:∃m,n=m+1:=⟨n-1,by omega⟩;subst hm;have hq1:w1.cell? ⟨q,1,none⟩=some (.slice (some ⟨g,0,none⟩) (m+1) cap):=(uh HQB).cell rfl;go_wp2_with fail
 have hk2:Keeps (λ_=>False) w1 (w1.alloc (.cells #[.int .i64 x.t,.int .i64 x.k,.int .i64 x.d,.int .i64 x.n] 88)):=(Keeps.refl _ _).alloc _;have hx2:Blk (w1.alloc (.cells #[.int .i64 x.t,.int .i64 x.k,.int .i64 x.d,.int .i64 x.n] 88)) w1.heap.size [.int .i64 x.t,.int .i64 x.k,.int .i64 x.d,.int .i64 x.n] 88:=Blk.new _ _ _;generalize w1.alloc (.cells #[.int .i64 x.t,.int .i64 x.k,.int .i64 x.d,.int .i64 x.n] 88)=W2 at *;have HX2:=hide hx2;have HR2:=hide ((uh HB1).keeps hk2 (λh=>h));have HQ2:=hide ((uh HQB).keeps hk2 (λh=>h));have HI2:=hide ((uh HIR).keeps hk2 (λh=>h));have HK2:=hide (Keeps.then (uh HKK) hk2);clear hk2 hx2 HB1 HQB HIR HKK hq1;generalize hxb:w1.heap.size=xb at *;generalize hrb:w.heap.size=rb at *;have HRB:=hide hrb;clear hxb hrb;have hq1:W2.cell? ⟨q,1,none⟩=some (.slice (some ⟨g,0,none⟩) (m+1) cap):=(uh HQ2).cell rfl;have hqf:W2.frozen? ⟨q,1,none⟩=false:=(uh HQ2).frozen 1;obtain⟨x0,x1,x2,x3⟩:=(uh HI2).cells 0 (by rw[<-uh HN];omega);obtain⟨y0,y1,y2,y3⟩:=(uh HI2).cells m (by rw[<-uh HN];omega);simp only[Nat.zero_mul,Nat.zero_add]at x0 x1 x2 x3;have hgf:=(uh HI2).frozen;generalize hy:itAt l m=y at *;have HY:=hide hy;clear hy;have hm0:(0:Int)<=(m:Int):=by omega
 have hm1:(m:Int)<(m:Int)+1:=by omega
 have hcap:=(uh HI2).le;rw[<-uh HN]at hcap;have hmc:(m:Int)<=(cap:Int):=by omega
 have HI3:=hide ((uh HI2).put 0 y);have HQ3:=hide (((uh HQ2).keeps ((Keeps.refl (λk=>k=g) W2).putIt (Or.inl rfl) 0 y) hqg).setCell 1 (.slice (some ⟨g,0,none⟩) m cap));have HK3:=hide ((((Keeps.refl (λk=>k=q\/k=g) W2).putIt (Or.inl (Or.inr rfl)) 0 y).setCell (p:=⟨q,1,none⟩) (Or.inl (Or.inl rfl)) (.slice (some ⟨g,0,none⟩) m cap)).drew);have HI3':=hide (((uh HI3).keeps (M:=λk=>k=q) ((Keeps.refl (λk=>k=q) _).setCell (p:=⟨q,1,none⟩) (Or.inl rfl) (.slice (some ⟨g,0,none⟩) m cap)) (λh=>hqg h.symm)).drew);go_region
 go_wp2_with fail
 have e3:(((((W2.setCell ⟨g,0,none⟩ (.int .i64 y.t)).setCell ⟨g,1,none⟩ (.int .i64 y.k)).setCell ⟨g,2,none⟩ (.int .i64 y.d)).setCell ⟨g,3,none⟩ (.int .i64 y.n)).setCell ⟨q,1,none⟩ (.slice (some ⟨g,0,none⟩) m cap)).drew=((putIt W2 g 0 y).setCell ⟨q,1,none⟩ (.slice (some ⟨g,0,none⟩) m cap)).drew:=by
  unfold putIt;rfl
 rw[e3];clear e3 hq1 hqf x0 x1 x2 x3 y0 y1 y2 y3 hgf;have HQ4:Hid (QB ((putIt W2 g 0 y).setCell ⟨q,1,none⟩ (.slice (some ⟨g,0,none⟩) m cap)).drew q (.slice (some ⟨g,0,none⟩) m cap)):=⟨uh HQ3⟩;have hlen:((l.set 0 y).take m).length=m:=by have:=uh HN;simp;omega
 have HL4:=hide hlen;have HT:=hide (show takeL l=sinkL (m+1) ((l.set 0 y).take m) 0 by unfold takeL;rw[<-uh HN,<-uh HY];rfl);clear hlen HI3 HQ3;generalize((putIt W2 g 0 y).setCell ⟨q,1,none⟩ (.slice (some ⟨g,0,none⟩) m cap)).drew=W3 at *;refine(qLn q g 0 cap m W3 ((l.set 0 y).take m) (uh HL4) (by omega) (by omega) (uh HQ4) ((uh HI3').take m) (by omega) hqg).mono ?_;rintro e w4 ⟨rfl,hk4,hr4⟩;have hrne:¬(rb=q\/rb=g):=by omega
 have hxne:¬(xb=q\/xb=g):=by omega
 have HX4:=hide (((uh HX2).keeps (uh HK3) hxne).keeps hk4 (λh=>hxne (Or.inr h)));have HR4:=hide (((uh HR2).keeps (uh HK3) hrne).keeps hk4 (λh=>hrne (Or.inr h)));have HE1:=hide ((uh HQ4).b.keeps hk4 hqg);have HE2:=hide hr4;have HE3:=hide ((((uh HK2).mono (M':=λk=>k=q\/k=g) (λ_ _ h=>h.elim)).then (uh HK3)).trans hk4 (λ_ h _=>Or.inr h));clear hk4 hr4 HQ4 HI3' HK3 HK2 HX2 HR2 HI2 HQ2;have a0:w4.cell? ⟨xb,0,none⟩=some (.int .i64 x.t):=(uh HX4).cell rfl;have a1:w4.cell? ⟨xb,1,none⟩=some (.int .i64 x.k):=(uh HX4).cell rfl;have a2:w4.cell? ⟨xb,2,none⟩=some (.int .i64 x.d):=(uh HX4).cell rfl;have a3:w4.cell? ⟨xb,3,none⟩=some (.int .i64 x.n):=(uh HX4).cell rfl;have b0:w4.cell? ⟨rb,0,none⟩=some (.int .i64 0):=(uh HR4).cell rfl;have b1:w4.cell? ⟨rb,1,none⟩=some (.int .i64 0):=(uh HR4).cell rfl;have b2:w4.cell? ⟨rb,2,none⟩=some (.int .i64 0):=(uh HR4).cell rfl;have b3:w4.cell? ⟨rb,3,none⟩=some (.int .i64 0):=(uh HR4).cell rfl;have bf:=(uh HR4).frozen
 have HFIN:=hide (show Keeps (λk=>k=rb) w4 ((((w4.setCell ⟨rb,0,none⟩ (.int .i64 x.t)).setCell ⟨rb,1,none⟩ (.int .i64 x.k)).setCell ⟨rb,2,none⟩ (.int .i64 x.d)).setCell ⟨rb,3,none⟩ (.int .i64 x.n)) from
    ((((Keeps.refl (λk=>k=rb) w4).setCell (p:=⟨rb,0,none⟩) (Or.inl rfl) _).setCell (p:=⟨rb,1,none⟩) (Or.inl rfl) _).setCell (p:=⟨rb,2,none⟩) (Or.inl rfl) _).setCell (p:=⟨rb,3,none⟩) (Or.inl rfl) _)
 have HB5:=hide (((((uh HR4).setCell 0 (.int .i64 x.t)).setCell 1 (.int .i64 x.k)).setCell 2 (.int .i64 x.d)).setCell 3 (.int .i64 x.n));go_wp2
 generalize((((w4.setCell ⟨rb,0,none⟩ (.int .i64 x.t)).setCell ⟨rb,1,none⟩ (.int .i64 x.k)).setCell ⟨rb,2,none⟩ (.int .i64 x.d)).setCell ⟨rb,3,none⟩ (.int .i64 x.n))=w5 at *;have c0:w5.cell? ⟨rb,0,none⟩=some (.int .i64 x.t):=(uh HB5).cell rfl;have c1:w5.cell? ⟨rb,1,none⟩=some (.int .i64 x.k):=(uh HB5).cell rfl;have c2:w5.cell? ⟨rb,2,none⟩=some (.int .i64 x.d):=(uh HB5).cell rfl;have c3:w5.cell? ⟨rb,3,none⟩=some (.int .i64 x.n):=(uh HB5).cell rfl;refine bodyPost_ret (v:=.tuple #[.agg #[.int .i64 x.t,.int .i64 x.k,.int .i64 x.d,.int .i64 x.n],.bool true]) (by simp[results,Tryz.results81,go_sem,c0,c1,c2,c3]) rfl ⟨by rw[uh HXE];rfl,⟨hqg,cap,?_,?_⟩,?_⟩
 ·have hl:(takeL l).length=m:=by rw[uh HT,qDk];exact uh HL4
  rw[hl];exact(uh HE1).keeps (uh HFIN) (λh=>hqne h)
 ·rw[uh HT]
  exact(uh HE2).keeps (uh HFIN) (λh=>hgne h)
 ·exact(uh HE3).trans (uh HFIN) (λi hi hlt=>by have:=uh HRB;omega)
end Go.Proofs.YtahnliehdjncdabGreatDoor.Qi
namespace Go.Proofs.YtahnliehdjncdabGreatDoor.Qi
open Go.RowKit
theorem qFk(q:Nat)(og:Option Nat)(l:List It)(n:Int)(w:World)(h:QRep w q og l)(hn:(l.length:Int)=n):
  Calls Tryz.prog 78 #[.pointer (some ⟨q,0,none⟩)] w λe w'=>e=.returned (.int .i64 n)/\w'=w :=
 (len_any q og l w h).mono λ_ _ ⟨he,hw⟩=>⟨by rw[he,hn],hw⟩
theorem qU7(q g:Nat)(l:List It)(x:It)(w:World)(h:QRep w q (some g) l)(hl:l.length<=900)(hl0:0<l.length)(hx:itAt l 0=x):
  Calls Tryz.prog 81 #[.pointer (some ⟨q,0,none⟩)] w λe w'=>e=.returned (.tuple #[.agg #[.int .i64 x.t,.int .i64 x.k,.int .i64 x.d,.int .i64 x.n],.bool true])/\QRep w' q (some g) (takeL l)/\Keeps (λk=>k=q\/k=g) w w' :=
 (qZh q g l w h hl hl0).mono λ_ _ ⟨he,hw⟩=>⟨by rw[he,hx];rfl,hw⟩
theorem all_some(q g:Nat)(l:List It)(w:World)(h:QRep w q (some g) l)(hl:l.length<=900):
  Calls Tryz.prog 84 #[.pointer (some ⟨q,0,none⟩)] w λe w'=>∃g cp,e=.returned (.slice (some ⟨g,0,none⟩) l.length cp)/\w.heap.size<=g/\IRow w' g cp (allL (l.length+1) l)/\(allL (l.length+1) l).length=l.length/\Keeps (λ_=>False) w w':=by
 obtain⟨n,hn⟩:∃n,n=l.length:=⟨_,rfl⟩;obtain⟨i0,hi0,hz0,hz1,hz2⟩:=info_parts qHw;have HN:=hide hn;have HQ:=hide h;rw[<-hn]at hl ⊢;obtain⟨hne,cap,hb,hr⟩:=h;have hq0:w.cell? ⟨q,0,none⟩=some (.func (.func 77) #[] #[]):=hb.cell rfl;have hq1:w.cell? ⟨q,1,none⟩=some (.slice (some ⟨g,0,none⟩) n cap):=by rw[hn];exact hb.cell rfl
 have HCL:=hide (show ∀W,Keeps (λ_=>False) w W->Calls Tryz.prog 131 #[.slice (some ⟨g,0,none⟩) n cap] W λe w'=>∃g1 c1,e=.returned (.slice (some ⟨g1,0,none⟩) n c1)/\W.heap.size<=g1/\IRow w' g1 c1 l/\Keeps (λ_=>False) W w' from λW hW=>by
    rw[hn];exact qMf g cap l W (hr.keeps hW (λh=>h)) (by omega))
 clear hb hr hn;go_enter Tryz.func84,Tryz.ntmps84
 go_wp2_with fail
 go_region_held3 (λw'=>w'.cell? ⟨q,0,none⟩=some (.func (.func 77) #[] #[])/\w'.cell? ⟨q,1,none⟩=some (.slice (some ⟨g,0,none⟩) n cap))
  (first | (go_split_ands;exact⟨by assumption,by assumption⟩) | (go_split_ands;exact⟨((Keeps.refl (λ_=>False) _).alloc _).cell (by assumption) (λh=>h),((Keeps.refl (λ_=>False) _).alloc _).cell (by assumption) (λh=>h)⟩) | (go_split_ands;exact⟨hka.cell (by assumption) (λh=>h),hka.cell (by assumption) (λh=>h)⟩))
  (first | (go_at_call 131;refine(uh HCL _ (by exact(Keeps.refl _ _).drew)).mono ?_;rintro e W1 ⟨g1,c1,rfl,hg1,hrow,hka⟩))
 have HK1:=hide (((Keeps.refl (λ_=>False) w).drew).then hka);have HG1:=hide (show w.heap.size<=g1 from hg1);have HZ1:=hide (uh HK1).size;have HGL:=hide hrow.lt;have HROW:=hide hrow;clear hrow hka HCL hg1;obtain⟨W2,hW2⟩:∃W2,W2=W1.alloc (.cells #[.func (.func 77) #[] #[],.slice (some ⟨g1,0,none⟩) n c1] 166):=⟨_,rfl⟩;have HB2:=hide (show Blk W2 W1.heap.size [qCw,.slice (some ⟨g1,0,none⟩) n c1] 166 by rw[hW2];exact Blk.new W1 _ _);have HA2:=hide (show Keeps (λ_=>False) W1 W2 by rw[hW2];exact(Keeps.refl (λ_=>False) W1).alloc _);have HW2:=hide hW2;clear hW2;have HQR:=hide (show QRep W2 W1.heap.size (some g1) l from⟨by have:=uh HGL;omega,c1,by rw[<-uh HN];exact uh HB2,(uh HROW).keeps (uh HA2) (λh=>h)⟩);have HK2:=hide ((uh HK1).then (uh HA2));obtain⟨wm,hmk,hown,hgr⟩:=run_make_own (P:=Tryz.prog) W2 w.heap.size 141 88 i0 _ 4 Tryz.underlying141 hi0 hz0 hz1 .i64 .i64 n (by rw[hz2];omega) (by unfold maxLen;omega) (uh HK2).size;have HKM:=hide (show Keeps (λ_=>False) W2 wm from(Keeps.refl (λ_=>False) W2).grown hgr (λk hk=>by cases hk));have HOM:=hide (show Own wm w.heap.size (.slice (some ⟨W2.heap.size,0,none⟩) 0 n) [] from hown);clear hown hgr;go_wp2_with fail
 rw[show W1.alloc (.cells #[.func (.func 77) #[] #[],.slice (some ⟨g1,0,none⟩) n c1] 166)=W2 from(uh HW2).symm];refine(qFk q (some g) l n W2 ((uh HQ).keeps (uh HK2) (λh=>h) (λ_ _ h=>h)) (by rw[uh HN])).mono ?_;rintro e w' ⟨rfl,hw'⟩;rw[hw'];clear hw' w';have HRB:=hide (show W1.heap.size<W2.heap.size from(uh HB2).lt);have HGB:=hide (show g1<W2.heap.size from((uh HQR).lt.2 g1 rfl).1);have HRG:=hide (show W1.heap.size≠g1 from((uh HQR).lt.2 g1 rfl).2);have HRBW:=hide (show w.heap.size<=W1.heap.size from uh HZ1);generalize hrb:W1.heap.size=rb at *;generalize hga:W2.heap.size=ga0 at *;go_wp2_with fail
 go_loopg [4] (n) (λgk v wr=>∃(m dn:List It) (ga cp:Nat),v=.slice (some ⟨ga,0,none⟩) dn.length cp/\Hid (m.length=gk)/\Hid (dn.length+gk=n)/\Hid (ga≠rb/\ga≠g1)/\Hid (Own wr w.heap.size (.slice (some ⟨ga,0,none⟩) dn.length cp) dn)/\Hid (QRep wr rb (some g1) m)/\Hid (Keeps (λ_=>False) w wr)/\Hid (allL (n+1) l=dn++allL (gk+1) m))
 case atStart=>exact⟨l,[],ga0,n,rfl,(uh HN).symm,by show _=_;simp,⟨by have:=uh HRB;omega,by have:=uh HGB;omega⟩,HOM,(uh HQR).keeps (uh HKM) (λh=>h) (λ_ _ h=>h),(uh HK2).then (uh HKM),rfl⟩
 case round =>
  obtain⟨m,dn,ga,cp,rfl,HM,HDN,HGA,HO,HQr,HKr,HE⟩:=hrel;obtain⟨k,hk⟩:∃k,dn.length=k:=⟨_,rfl⟩;rw[hk];have HKE:=hide hk;clear hk
  by_cases h0:gk=0
  ·go_wp2_with (go_at_call 78;refine(qFk rb (some g1) m 0 _ (uh HQr) (by have:=uh HM;omega)).mono ?_;rintro e w' ⟨rfl,hw'⟩;rw[hw'];clear hw' w')
   go_ret
   have hkn:k=n:=by have:=uh HDN;have:=uh HKE;omega
   subst hkn;have ho:=Own.row rfl (uh HO);have hall:allL (k+1) l=dn:=by
    rw[uh HE,h0];unfold allL;rw[if_pos (by have:=uh HM;omega),List.append_nil]
   refine⟨ga,cp,rfl,ho.2,?_,?_,uh HKr⟩
   ·rw[hall];exact ho.1
   ·rw[hall];exact uh HKE
  ·have hgt:(0:Int)<(gk:Int):=by omega
   have hgN:0<gk:=by omega
   obtain⟨x,hx⟩:∃x,itAt m 0=x:=⟨_,rfl⟩;have HTK:=hide (qU7 rb g1 m x wr (uh HQr) (by have:=uh HM;have:=uh HDN;omega) (by have:=uh HM;omega) hx);have HX:=hide hx;clear hx
   go_wp2_with (first | (go_at_call 78;refine(qFk rb (some g1) m gk _ (uh HQr) (by have:=uh HM;omega)).mono ?_;rintro e w' ⟨rfl,hw'⟩;rw[hw'];clear hw' w') | (go_at_call 81;refine(uh HTK).mono ?_;rintro e W3 ⟨rfl,hq3,hk3⟩;have HQ3:=hide hq3;have HK3:=hide hk3;clear hq3 hk3;have HO3:=hide (show Own W3 w.heap.size (.slice (some ⟨ga,0,none⟩) k cp) dn by rw[<-uh HKE];exact(uh HO).keeps (uh HK3) (λi hi h=>by
             have hi':ga=i:=by simpa[Value.ownBlock] using hi
             rcases h with h | h
             ·exact(uh HGA).1 (by omega)
             ·exact(uh HGA).2 (by omega)))) | (at_builtin;refine qCz rfl _ _ rfl w.heap.size _ dn k (uh HKE) rfl (by exact(uh HO3).keeps (((Keeps.refl (λ_=>False) W3).alloc _).alloc _) (λ_ _ h=>h)) (W3.heap.size+1) 1 1 [x] rfl rfl (by exact λj u hu=>(Blk.newAt (by simp) (flat [x]) 88).cell hu) (by omega) (by have:=uh HDN;have:=uh HKE;omega) (by have h1:=(uh HKr).size;have h2:=(uh HK3).size;simp;omega) ?_;intro g2 c2 W4 hown4 hk4 hat4))
   have HBND:=hide (show W3.heap.size<=W4.heap.size/\wr.heap.size<=W3.heap.size/\w.heap.size<=wr.heap.size from⟨by have:=hk4.size;simp at this;omega,(uh HK3).size,(uh HKr).size⟩);have hq3:=uh HQ3;have hlt3:=hq3.lt
   have HK4:=hide (((Keeps.refl (λi=>i=ga) W3).alloc (.cells #[.int .i64 x.t,.int .i64 x.k,.int .i64 x.d,.int .i64 x.n] 88)).alloc (.cells #[.int .i64 x.t,.int .i64 x.k,.int .i64 x.d,.int .i64 x.n] 88) |>.trans hk4 (λi hi hlt=>by
         have hi':(Value.slice (some ⟨ga,0,none⟩) k cp).ownBlock=some i:=hi;have:ga=i:=by simpa[Value.ownBlock] using hi'
         exact this.symm))
   have HO4:=hide hown4
   have HAT:=hide (show g2=ga\/W3.heap.size<=g2 from by
      rcases hat4 with h | h
      ·have h':(Value.slice (some ⟨ga,0,none⟩) k cp).ownBlock=some g2:=h
       exact .inl (by have:ga=g2:=(by simpa[Value.ownBlock] using h');exact this.symm)
      ·exact .inr (by simp at h;omega))
   clear hown4 hk4 hat4;have HGN:=hide (show w.heap.size<=ga from(uh HO).base ga (by simp[Value.ownBlock]));go_wp2
   go_roundg (gk-1)
   case measure=>omega
   case rel =>
    have hgl:=(hlt3.2 g1 rfl).1;have hgr:=hlt3.1;have hGA:=uh HGA;refine⟨takeL m,dn++[x],g2,c2,?_,?_,?_,?_,?_,?_,?_,?_⟩
    ·rw[List.length_append,uh HKE];rfl
    ·show _=_;rw[takeL_length];have:=uh HM;omega
    ·show _=_;rw[List.length_append];have:=uh HDN;simp;omega
    ·show _/\_
     rcases uh HAT with h | h
     ·rw[h];exact hGA
     ·exact⟨by omega,by omega⟩
    ·show Own _ _ _ _
     rw[List.length_append,uh HKE];exact uh HO4
    ·exact hq3.keeps (uh HK4) (λh=>hGA.1 h.symm) (λg hg h=>by injection hg with hg;exact hGA.2 (by rw[hg];exact h.symm))
    ·have hK3:Keeps (λ_=>False) w W3:=(uh HKr).trans (uh HK3) (λi hi hlt=>by
        rcases hi with hi | hi
        ·have:=uh HRBW;omega
        ·have:=uh HG1;omega)
     exact hK3.trans (uh HK4) (λi hi hlt=>by have:=uh HGN;omega)
    ·show _=_
     rw[uh HE]
     conv=>lhs;unfold allL
     rw[if_neg (by have:=uh HM;omega),uh HX,show gk-1+1=gk by omega];simp
end Go.Proofs.YtahnliehdjncdabGreatDoor.Qi
namespace Go.Proofs.YtahnliehdjncdabGreatDoor.Qi
open Go.RowKit
theorem all_none(q:Nat)(w:World)(h:QRep w q none []):
  Calls Tryz.prog 84 #[.pointer (some ⟨q,0,none⟩)] w λe w'=>∃g cp,e=.returned (.slice (some ⟨g,0,none⟩) 0 cp)/\w.heap.size<=g/\IRow w' g cp []/\Keeps (λ_=>False) w w':=by
 obtain⟨i0,hi0,hz0,hz1,hz2⟩:=info_parts qHw;have HQ:=hide h;have hb:=h.2;have hq0:w.cell? ⟨q,0,none⟩=some (.func (.func 77) #[] #[]):=hb.cell rfl;have hq1:w.cell? ⟨q,1,none⟩=some (.slice none 0 0):=hb.cell rfl;clear hb h;go_enter Tryz.func84,Tryz.ntmps84
 go_wp2_with fail
 go_region_held3 (λw'=>w'.cell? ⟨q,0,none⟩=some (.func (.func 77) #[] #[])/\w'.cell? ⟨q,1,none⟩=some (.slice none 0 0))
  (first | (go_split_ands;exact⟨by assumption,by assumption⟩) | (go_split_ands;exact⟨((Keeps.refl (λ_=>False) _).alloc _).cell (by assumption) (λh=>h),((Keeps.refl (λ_=>False) _).alloc _).cell (by assumption) (λh=>h)⟩))
  (first | (go_at_call 131;refine(qHj _).mono ?_;rintro e w' ⟨rfl,rfl⟩))
 obtain⟨W2,hW2⟩:∃W2,W2=(w.alloc (.cells #[.func (.func 77) #[] #[],.slice none 0 0] 166)).drew:=⟨_,rfl⟩;have HB2:=hide (show Blk W2 w.heap.size [qCw,.slice none 0 0] 166 by rw[hW2];exact(Blk.new w _ _).drew);have HK2:=hide (show Keeps (λ_=>False) w W2 by rw[hW2];exact((Keeps.refl (λ_=>False) w).alloc _).drew);have HW2:=hide hW2;clear hW2;have HQR:=hide (show QRep W2 w.heap.size none [] from⟨rfl,uh HB2⟩);obtain⟨wm,hmk,hown,hgr⟩:=run_make_own (P:=Tryz.prog) W2 w.heap.size 141 88 i0 _ 4 Tryz.underlying141 hi0 hz0 hz1 .i64 .i64 0 (by rw[hz2];omega) (by unfold maxLen;omega) (uh HK2).size;have HKM:=hide (show Keeps (λ_=>False) W2 wm from(Keeps.refl (λ_=>False) W2).grown hgr (λk hk=>by cases hk));have HOM:=hide (show Own wm w.heap.size (.slice (some ⟨W2.heap.size,0,none⟩) 0 0) [] from hown);have hmk2:(Instr.makeSlice 141 (.int .i64 0) (.int .i64 0)).run Tryz.prog W2=.ok (.slice (some ⟨W2.heap.size,0,none⟩) 0 0) wm:=hmk;clear hown hgr hmk;go_wp2_with fail
 rw[show(w.alloc (.cells #[.func (.func 77) #[] #[],.slice none 0 0] 166)).drew=W2 from(uh HW2).symm];refine(qFk q none [] 0 W2 ((uh HQ).keeps (uh HK2) (λh=>h) (λ_ h=>by cases h)) rfl).mono ?_;rintro e w' ⟨rfl,hw'⟩;rw[hw'];clear hw' w';generalize hrb:w.heap.size=rb at *;go_wp2_with fail
 go_loopg [4] (0) (λgk v wr=>v=.slice (some ⟨W2.heap.size,0,none⟩) 0 0/\wr=wm)
 case atStart=>exact⟨rfl,rfl⟩
 case round =>
  obtain⟨rfl,hwr⟩:=hrel;rw[hwr];clear hwr wr;go_wp2_with (go_at_call 78;refine(qFk rb none [] 0 _ ((uh HQR).keeps (uh HKM) (λh=>h) (λ_ h=>by cases h)) rfl).mono ?_;rintro e w' ⟨rfl,hw'⟩;rw[hw'];clear hw' w')
  go_ret
  have ho:=Own.row rfl (uh HOM);exact⟨W2.heap.size,0,rfl,by rw[hrb];exact ho.2,ho.1,(uh HK2).then (uh HKM)⟩
end Go.Proofs.YtahnliehdjncdabGreatDoor.Qi
namespace Go.Proofs.YtahnliehdjncdabGreatDoor
section
open Go.RowKit
def qKe(k:Nat)(y:It): List Int:=y.n::(qB9 k).map (λj=>[y.t,y.k,y.d].getD j 0)
def qG2(k:Nat)(l:List It): List Int:=l.flatMap (qKe k)
def qIv(x:Ser): List Int:=x.id::(qBt x.k x.c++(qCp.map (qAx x.ref)++[x.rel,(x.l.length:Int)]))
def qC2(clock:Int)(x:Ser): List Int:=qIv x++(qG2 x.k (Qi.allL (x.l.length+1) x.l)++qG4 x.k x.c x.nt (clock-x.c.lag))
theorem qNd(k:Nat): (qB9 k).length<=3:=by unfold qB9;split <;> simp
theorem qRu(k:Nat)(y:It): (qKe k y).length<=4:=by have:=qNd k;simp[qKe];omega
theorem qMe(k:Nat)(l:List It): (qG2 k l).length<=4*l.length:=by
 induction l with
 | nil=>simp[qG2]
 | cons y l ih=>have:=qRu k y;simp[qG2]at ih ⊢;omega
theorem qNe(k:Nat)(a b:List It): qG2 k (a++b)=qG2 k a++qG2 k b:=by simp[qG2]
theorem qR4(k:Nat)(r:List It)(i:Nat)(h:i<r.length): qG2 k (r.take (i+1))=qG2 k (r.take i)++qKe k (itAt r i):=by
 rw[List.take_add_one,qNe,List.getElem?_eq_getElem h];simp[qG2,itAt,List.getD_eq_getElem?_getD,List.getElem?_eq_getElem h]
theorem qYs{w:World}{cb k:Nat}{y:It}{T:Nat}(h:Blk w cb [.int .i64 y.t,.int .i64 y.k,.int .i64 y.d,.int .i64 y.n] T): PartsAt w (at' cb (qB9 k)) ((qB9 k).map (λj=>[y.t,y.k,y.d].getD j 0)):=by
 refine⟨by simp[at'],λi p n hp hn=>?_⟩;have hall:∀j,j∈qB9 k->w.cell? ⟨cb,j,none⟩=some (.int .i64 ([y.t,y.k,y.d].getD j 0)):=by
  intro j hj;have:j=0\/j=1\/j=2:=by unfold qB9 at hj;split at hj <;> simp at hj <;> omega
  rcases this with e | e | e <;> subst e <;> exact h.cell rfl
 unfold at' at hp;rw[List.getElem?_map]at hp hn;cases ho:(qB9 k)[i]? with
 | none=>rw[ho]at hp;cases hp
 | some o =>
  rw[ho]at hp hn;simp only[Option.map_some,Option.some.injEq]at hp hn;subst hp hn;exact hall o (List.mem_of_getElem? ho)
theorem zEi(q:Nat)(og:Option Nat)(l:List It)(w:World)(h:QRep w q og l)(hl:l.length<=900):
  Calls Tryz.prog 84 #[.pointer (some ⟨q,0,none⟩)] w λe w'=>∃g cp,e=.returned (.slice (some ⟨g,0,none⟩) l.length cp)/\w.heap.size<=g/\IRow w' g cp (Qi.allL (l.length+1) l)/\(Qi.allL (l.length+1) l).length=l.length/\Keeps (λ_=>False) w w':=by
 cases og with
 | none =>
  obtain⟨rfl,hb⟩:=h;refine(Qi.all_none q w ⟨rfl,hb⟩).mono ?_;rintro e w' ⟨g,cp,rfl,hg,hr,hk⟩;exact⟨g,cp,rfl,hg,hr,rfl,hk⟩
 | some g=>exact Qi.all_some q g l w h hl
structure SerOk (x:Ser):Prop where
 id0:0<=x.id/\x.id<=9223372036854775807
 cfg:∀n,n∈qBt x.k x.c->0<=n/\n<=9223372036854775807
 p0:0<=qA1 x.k x.c
 p3:qA1 x.k x.c<=3
 refl:x.ref.length=12
 ref:∀v,v∈x.ref->0<=v/\v<=9223372036854775807
 rel:0<=x.rel/\x.rel<=9223372036854775807
 len:x.l.length<=8
 buf:∀n,n∈qG2 x.k (Qi.allL (x.l.length+1) x.l)->0<=n/\n<=9223372036854775807
 note:SavOk x.k x.c x.nt
 valid:qA5 x.c=true
 kind:x.c.kind=x.k
 k1:1<=x.k
 k5:x.k<=5
theorem qGp{l:List Int}(h:∀v,v∈l->0<=v/\v<=9223372036854775807)(j:Nat): 0<=qAx l j/\qAx l j<=9223372036854775807:=by
 unfold qAx;rw[List.getD_eq_getElem?_getD];cases hj:l[j]? with
 | none=>simp
 | some v=>exact h v (List.mem_of_getElem? hj)
theorem qFc(f:Nat->Int)(k j:Nat)(h:qCp[k]?=some j): (qCp.map f).take (k+1)=(qCp.map f).take k++[f j]:=by
 rw[List.take_add_one,List.getElem?_map,h];rfl
end
end Go.Proofs.YtahnliehdjncdabGreatDoor
