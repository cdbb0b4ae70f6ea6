import Derived.Test.YtahnliehdjncdabGreatDoorXAJ
import Derived.BigRegion
import Derived.Deep.AppendLies
import Derived.Deep.RegionHeld3
import Derived.Deep.RegionLaw
import Derived.Laws.CopyOwn
import Derived.Laws.IdiomCopy
import Derived.Test.YtahnliehdjncdabGreatDoorXAD
import Derived.Test.YtahnliehdjncdabGreatDoorXAG
set_option maxRecDepth 100000
set_option maxHeartbeats 16000000
namespace Go.Proofs.YtahnliehdjncdabGreatDoor
section
open Go.RowKit
theorem new_any(w:World):
  Calls Tryz.prog 76 #[qCf] w λe w'=>e=.returned (.pointer (some ⟨w.heap.size,0,none⟩))/\QRep w' w.heap.size none []/\Keeps (λ_=>False) w w'/\w'.heap.size=w.heap.size+1:=by
 unfold qCf
 go_enter Tryz.func76,Tryz.ntmps76
 go_wp2
 go_ret
 exact⟨rfl,⟨rfl,Blk.new _ [_,_] _⟩,(Keeps.refl _ _).alloc _,by simp⟩
def takeL(l:List It): List It:=sinkL l.length ((l.set 0 (itAt l (l.length-1))).take (l.length-1)) 0
theorem IRow.take{w:World}{g cap:Nat}{l:List It}(h:IRow w g cap l)(m:Nat): IRow w g cap (l.take m):=by
 obtain⟨cur,hb,hl,ht⟩:=h.ex
 have hf:∀(l:List It) (m:Nat),flat (l.take m)=(flat l).take (m*4):=by
  intro l
  induction l with
  | nil=>intro m;simp[flat]
  | cons x l ih =>
   intro m
   cases m with
   | zero=>simp[flat]
   | succ m=>rw[show(m+1)*4=m*4+4 by omega];simp[flat,ih]
 refine⟨⟨cur,hb,hl,?_⟩,Nat.le_trans (List.length_take_le' _ _) h.le,h.max⟩
 rw[hf,<-ht,List.take_take]
 congr 1
 simp[List.length_take]
theorem take_any(q g:Nat)(l:List It)(w:World)(h:QRep w q (some g) l)(hl:l.length<=900)(hl0:0<l.length):
  Calls Tryz.prog 81 #[.pointer (some ⟨q,0,none⟩)] w λe w'=>(∃v,e=.returned v)/\QRep w' q (some g) (takeL l)/\Keeps (λk=>k=q\/k=g) w w':=by
 obtain⟨hlq,hlg⟩:=h.lt
 obtain⟨hlg,hqg⟩:=hlg g rfl
 have H:=hide h
 clear h
 have hemp:(!l.isEmpty)=true:=by cases l with | nil=>simp at hl0 | cons=>rfl
 obtain⟨n,hn⟩:∃n,n=l.length:=⟨_,rfl⟩
 have hn0:0<n:=by omega
 have hn9:n<=900:=by omega
 have HN:=hide hn
 clear hn hl hl0
 go_enter Tryz.func81,Tryz.ntmps81
 go_wp2_with fail
 refine(qGl q (some g) l _ ((uh H).keeps ((Keeps.refl (λ_=>False) _).alloc _) (λh=>h) (λ_ _ h=>h))).mono ?_
 rintro e w1 ⟨rfl,hk1⟩
 rw[hemp]
 unfold It.val
 have hB1:Blk w1 w.heap.size [.int .i64 0,.int .i64 0,.int .i64 0,.int .i64 0] 88:=(Blk.new w _ 88).keeps hk1 (λh=>h)
 have hkk:Keeps (λ_=>False) w w1:=((Keeps.refl (λ_=>False) w).alloc _).then hk1
 have hz1:w.heap.size<w1.heap.size:=hB1.lt
 obtain⟨_,cap,hqb,hir⟩:=(uh H).keeps hkk (λh=>h) (λ_ _ h=>h)
 rw[<-uh HN]at hqb
 have hzq:q<w1.heap.size:=hqb.lt
 have hzg:g<w1.heap.size:=hir.lt
 have hqne:q≠w.heap.size:=by omega
 have hgne:g≠w.heap.size:=by omega
 have HB1:=hide hB1
 have HKK:=hide hkk
 have HQB:=hide hqb
 have HIR:=hide hir
 clear hk1 hB1 hkk hqb hir
 generalize hx:itAt l 0=x
 have HX:=hide hx
 clear hx
 obtain⟨m,hm⟩:∃m,n=m+1:=⟨n-1,by omega⟩
 subst hm
 have hq1:w1.cell? ⟨q,1,none⟩=some (.slice (some ⟨g,0,none⟩) (m+1) cap):=(uh HQB).cell rfl
 go_wp2_with fail
 have hk2:Keeps (λ_=>False) w1 (w1.alloc (.cells #[.int .i64 x.t,.int .i64 x.k,.int .i64 x.d,.int .i64 x.n] 88)):=(Keeps.refl _ _).alloc _
 have hx2:Blk (w1.alloc (.cells #[.int .i64 x.t,.int .i64 x.k,.int .i64 x.d,.int .i64 x.n] 88)) w1.heap.size [.int .i64 x.t,.int .i64 x.k,.int .i64 x.d,.int .i64 x.n] 88:=Blk.new _ _ _
 generalize w1.alloc (.cells #[.int .i64 x.t,.int .i64 x.k,.int .i64 x.d,.int .i64 x.n] 88)=W2 at *
 have HX2:=hide hx2
 have HR2:=hide ((uh HB1).keeps hk2 (λh=>h))
 have HQ2:=hide ((uh HQB).keeps hk2 (λh=>h))
 have HI2:=hide ((uh HIR).keeps hk2 (λh=>h))
 have HK2:=hide (Keeps.then (uh HKK) hk2)
 clear hk2 hx2 HB1 HQB HIR HKK hq1
 generalize hxb:w1.heap.size=xb at *
 generalize hrb:w.heap.size=rb at *
 have HRB:=hide hrb
 clear hxb hrb
 have hq1:W2.cell? ⟨q,1,none⟩=some (.slice (some ⟨g,0,none⟩) (m+1) cap):=(uh HQ2).cell rfl
 have hqf:W2.frozen? ⟨q,1,none⟩=false:=(uh HQ2).frozen 1
 obtain⟨x0,x1,x2,x3⟩:=(uh HI2).cells 0 (by rw[<-uh HN];omega)
 obtain⟨y0,y1,y2,y3⟩:=(uh HI2).cells m (by rw[<-uh HN];omega)
 simp only[Nat.zero_mul,Nat.zero_add]at x0 x1 x2 x3
 have hgf:=(uh HI2).frozen
 generalize hy:itAt l m=y at *
 have HY:=hide hy
 clear hy
 have hm0:(0:Int)<=(m:Int):=by omega
 have hm1:(m:Int)<(m:Int)+1:=by omega
 have hcap:=(uh HI2).le
 rw[<-uh HN]at hcap
 have hmc:(m:Int)<=(cap:Int):=by omega
 have HI3:=hide ((uh HI2).put 0 y)
 have HQ3:=hide (((uh HQ2).keeps ((Keeps.refl (λk=>k=g) W2).putIt (Or.inl rfl) 0 y) hqg).setCell 1 (.slice (some ⟨g,0,none⟩) m cap))
 have HK3:=hide ((((Keeps.refl (λk=>k=q\/k=g) W2).putIt (Or.inl (Or.inr rfl)) 0 y).setCell (p:=⟨q,1,none⟩) (Or.inl (Or.inl rfl)) (.slice (some ⟨g,0,none⟩) m cap)).drew)
 have HI3':=hide (((uh HI3).keeps (M:=λk=>k=q) ((Keeps.refl (λk=>k=q) _).setCell (p:=⟨q,1,none⟩) (Or.inl rfl) (.slice (some ⟨g,0,none⟩) m cap)) (λh=>hqg h.symm)).drew)
 go_region
 go_wp2_with fail
 have e3:(((((W2.setCell ⟨g,0,none⟩ (.int .i64 y.t)).setCell ⟨g,1,none⟩ (.int .i64 y.k)).setCell ⟨g,2,none⟩ (.int .i64 y.d)).setCell ⟨g,3,none⟩ (.int .i64 y.n)).setCell ⟨q,1,none⟩ (.slice (some ⟨g,0,none⟩) m cap)).drew=((putIt W2 g 0 y).setCell ⟨q,1,none⟩ (.slice (some ⟨g,0,none⟩) m cap)).drew:=by
  unfold putIt;rfl
 rw[e3]
 clear e3 hq1 hqf x0 x1 x2 x3 y0 y1 y2 y3 hgf
 have HQ4:Hid (QB ((putIt W2 g 0 y).setCell ⟨q,1,none⟩ (.slice (some ⟨g,0,none⟩) m cap)).drew q (.slice (some ⟨g,0,none⟩) m cap)):=⟨uh HQ3⟩
 have hlen:((l.set 0 y).take m).length=m:=by have:=uh HN;simp;omega
 have HL4:=hide hlen
 have HT:=hide (show takeL l=sinkL (m+1) ((l.set 0 y).take m) 0 by unfold takeL;rw[<-uh HN,<-uh HY];rfl)
 clear hlen HI3 HQ3
 generalize((putIt W2 g 0 y).setCell ⟨q,1,none⟩ (.slice (some ⟨g,0,none⟩) m cap)).drew=W3 at *
 refine(qJz q g 0 cap m W3 ((l.set 0 y).take m) (uh HL4) (by omega) (by omega) (uh HQ4) ((uh HI3').take m) (by omega) hqg).mono ?_
 rintro e w4 ⟨rfl,hk4,hr4⟩
 have hrne:¬(rb=q\/rb=g):=by omega
 have hxne:¬(xb=q\/xb=g):=by omega
 have HX4:=hide (((uh HX2).keeps (uh HK3) hxne).keeps hk4 (λh=>hxne (Or.inr h)))
 have HR4:=hide (((uh HR2).keeps (uh HK3) hrne).keeps hk4 (λh=>hrne (Or.inr h)))
 have HE1:=hide ((uh HQ4).b.keeps hk4 hqg)
 have HE2:=hide hr4
 have HE3:=hide ((((uh HK2).mono (M':=λk=>k=q\/k=g) (λ_ _ h=>h.elim)).then (uh HK3)).trans hk4 (λ_ h _=>Or.inr h))
 clear hk4 hr4 HQ4 HI3' HK3 HK2 HX2 HR2 HI2 HQ2
 have a0:w4.cell? ⟨xb,0,none⟩=some (.int .i64 x.t):=(uh HX4).cell rfl
 have a1:w4.cell? ⟨xb,1,none⟩=some (.int .i64 x.k):=(uh HX4).cell rfl
 have a2:w4.cell? ⟨xb,2,none⟩=some (.int .i64 x.d):=(uh HX4).cell rfl
 have a3:w4.cell? ⟨xb,3,none⟩=some (.int .i64 x.n):=(uh HX4).cell rfl
 have b0:w4.cell? ⟨rb,0,none⟩=some (.int .i64 0):=(uh HR4).cell rfl
 have b1:w4.cell? ⟨rb,1,none⟩=some (.int .i64 0):=(uh HR4).cell rfl
 have b2:w4.cell? ⟨rb,2,none⟩=some (.int .i64 0):=(uh HR4).cell rfl
 have b3:w4.cell? ⟨rb,3,none⟩=some (.int .i64 0):=(uh HR4).cell rfl
 have bf:=(uh HR4).frozen
 have HFIN:=hide (show Keeps (λk=>k=rb) w4 ((((w4.setCell ⟨rb,0,none⟩ (.int .i64 x.t)).setCell ⟨rb,1,none⟩ (.int .i64 x.k)).setCell ⟨rb,2,none⟩ (.int .i64 x.d)).setCell ⟨rb,3,none⟩ (.int .i64 x.n)) from
    ((((Keeps.refl (λk=>k=rb) w4).setCell (p:=⟨rb,0,none⟩) (Or.inl rfl) _).setCell (p:=⟨rb,1,none⟩) (Or.inl rfl) _).setCell (p:=⟨rb,2,none⟩) (Or.inl rfl) _).setCell (p:=⟨rb,3,none⟩) (Or.inl rfl) _)
 have HB5:=hide (((((uh HR4).setCell 0 (.int .i64 x.t)).setCell 1 (.int .i64 x.k)).setCell 2 (.int .i64 x.d)).setCell 3 (.int .i64 x.n))
 go_wp2
 generalize((((w4.setCell ⟨rb,0,none⟩ (.int .i64 x.t)).setCell ⟨rb,1,none⟩ (.int .i64 x.k)).setCell ⟨rb,2,none⟩ (.int .i64 x.d)).setCell ⟨rb,3,none⟩ (.int .i64 x.n))=w5 at *
 have c0:w5.cell? ⟨rb,0,none⟩=some (.int .i64 x.t):=(uh HB5).cell rfl
 have c1:w5.cell? ⟨rb,1,none⟩=some (.int .i64 x.k):=(uh HB5).cell rfl
 have c2:w5.cell? ⟨rb,2,none⟩=some (.int .i64 x.d):=(uh HB5).cell rfl
 have c3:w5.cell? ⟨rb,3,none⟩=some (.int .i64 x.n):=(uh HB5).cell rfl
 refine bodyPost_ret (v:=.tuple #[.agg #[.int .i64 x.t,.int .i64 x.k,.int .i64 x.d,.int .i64 x.n],.bool true]) (by simp[results,Tryz.results81,go_sem,c0,c1,c2,c3]) rfl ⟨⟨_,rfl⟩,⟨hqg,cap,?_,?_⟩,?_⟩
 ·have hl:(takeL l).length=m:=by rw[uh HT,qC2];exact uh HL4
  rw[hl]
  exact(uh HE1).keeps (uh HFIN) (λh=>hqne h)
 ·rw[uh HT]
  exact(uh HE2).keeps (uh HFIN) (λh=>hgne h)
 ·exact(uh HE3).trans (uh HFIN) (λi hi hlt=>by have:=uh HRB;omega)
def over(L:List Value)(o:Nat)(vs:List Value): List Value:=L.take o++vs++L.drop (o+vs.length)
theorem qBa{L:List Value}{o:Nat}{vs:List Value}(h:o+vs.length<=L.length): (over L o vs).length=L.length:=by
 simp[over];omega
theorem qXo(L:List Value)(o:Nat)(v:Value)(vs:List Value)(h:o+(vs.length+1)<=L.length): over (L.set o v) (o+1) vs=over L o (v::vs):=by
 unfold over
 have ho:o<L.length:=by omega
 have h1:(L.set o v).take (o+1)=L.take o++[v]:=by
  rw[List.take_add_one,List.take_set_of_le (Nat.le_refl _)]
  simp[ho]
 have h2:(L.set o v).drop (o+1+vs.length)=L.drop (o+(vs.length+1)):=by
  rw[List.drop_set_of_lt (by omega),show o+1+vs.length=o+(vs.length+1) by omega]
 rw[h1,h2];simp
theorem Blk.setCells{b:Nat}{T:TypeId}: ∀(vs:List Value) (o:Nat) (w:World) (cs:List Value),Blk w b cs T->o+vs.length<=cs.length->Blk (w.setCells b o vs) b (over cs o vs) T
 | [],o,_,cs,h,_=>by simpa[World.setCells,over] using h
 | v::vs,o,_,cs,h,hl=>by
  rw[World.setCells,<-qXo cs o v vs (by simpa using hl)]
  exact Blk.setCells vs (o+1) _ _ (h.setCell o v) (by simp at hl ⊢;omega)
theorem Keeps.setCells{M:Nat->Prop}{a:World}{b:Nat}(hp:M b\/a.heap.size<=b): ∀(vs:List Value) (o:Nat) (w:World),Keeps M a w->Keeps M a (w.setCells b o vs)
 | [],_,_,h=>h
 | v::vs,o,_,h=>Keeps.setCells hp vs (o+1) _ (h.setCell (p:=⟨b,o,none⟩) hp v)
theorem Blk.some{w:World}{b:Nat}{cs:List Value}{T:TypeId}(h:Blk w b cs T){i:Nat}(hi:i<cs.length): (w.cell? ⟨b,i,none⟩).isSome=true:=by
 rw[h.cell (List.getElem?_eq_getElem hi)];rfl
structure Bk where
 sz:Int
 t:Int
def Bk.val(x:Bk): Value:=.agg #[.int .i64 x.sz,.int .i64 x.t]
def qBi(l:List Bk)(i:Nat): Bk:=l.getD i ⟨0,0⟩
def qBn: List Bk->List Value
 | []=>[]
 | x::l=>.int .i64 x.sz::.int .i64 x.t::qBn l
def qCa: Nat->List Value
 | 0=>[]
 | n+1=>.int .i64 0::.int .i64 0::qCa n
theorem qCk(l:List Bk): (qBn l).length=l.length*2:=by
 induction l with
 | nil=>rfl
 | cons x l ih=>simp[qBn,ih];omega
theorem qEg(a b:List Bk): qBn (a++b)=qBn a++qBn b:=by
 induction a with
 | nil=>rfl
 | cons x l ih=>simp[qBn,ih]
theorem qI5(l:List Bk)(i:Nat): qBn (l.drop i)=(qBn l).drop (i*2):=by
 induction l generalizing i with
 | nil=>simp[qBn]
 | cons x l ih =>
  cases i with
  | zero=>simp
  | succ i=>rw[show(i+1)*2=i*2+2 by omega];simp[qBn,ih]
theorem qIv(l:List Bk)(i:Nat): qBn (l.take i)=(qBn l).take (i*2):=by
 induction l generalizing i with
 | nil=>simp[qBn]
 | cons x l ih =>
  cases i with
  | zero=>simp[qBn]
  | succ i=>rw[show(i+1)*2=i*2+2 by omega];simp[qBn,ih]
theorem qO3(l:List Bk)(i:Nat)(h:i<l.length): (qBn l)[i*2]?=some (.int .i64 (qBi l i).sz)/\(qBn l)[i*2+1]?=some (.int .i64 (qBi l i).t):=by
 induction l generalizing i with
 | nil=>simp at h
 | cons x l ih =>
  cases i with
  | zero=>simp[qBn,qBi]
  | succ i =>
   have:=ih i (by simpa using h)
   rw[show(i+1)*2=i*2+2 by omega]
   simpa[qBn,qBi] using this
theorem qKn(l:List Bk): ∀u∈qBn l,u.oneCell'=true:=by
 induction l with
 | nil=>simp[qBn]
 | cons x l ih =>
  intro u hu
  simp only[qBn,List.mem_cons]at hu
  rcases hu with rfl | rfl | hu
  ·rfl
  ·rfl
  ·exact ih u hu
theorem qBe(n:Nat): (qCa n).length=n*2:=by
 induction n with
 | zero=>rfl
 | succ n ih=>simp[qCa,ih];omega
theorem qL8(n:Nat): ∀u∈qCa n,u.oneCell'=true:=by
 induction n with
 | zero=>simp[qCa]
 | succ n ih =>
  intro u hu
  simp only[qCa,List.mem_cons]at hu
  rcases hu with rfl | rfl | hu
  ·rfl
  ·rfl
  ·exact ih u hu
theorem qVf(n j:Nat)(h:j<n*2): (qCa n)[j]?=some (.int .i64 0):=by
 induction n generalizing j with
 | zero=>omega
 | succ n ih =>
  match j with
  | 0=>rfl
  | 1=>rfl
  | j+2=>simp only[qCa,List.getElem?_cons_succ];exact ih j (by omega)
structure BRow (w:World) (g cap:Nat) (l:List Bk):Prop where
 ex:∃cur:List Value,Blk w g cur 214/\cur.length=cap*2/\cur.take (l.length*2)=qBn l
 le:l.length<=cap
 max:cap<=maxLen
theorem BRow.lt{w:World}{g cap:Nat}{l:List Bk}(h:BRow w g cap l): g<w.heap.size:=by obtain⟨cur,hb,_⟩:=h.ex;exact hb.lt
theorem BRow.keeps{M:Nat->Prop}{w w':World}{g cap:Nat}{l:List Bk}(h:BRow w g cap l)(k:Keeps M w w')(hn:¬M g): BRow w' g cap l:=by
 obtain⟨cur,hb,r⟩:=h.ex;exact⟨⟨cur,hb.keeps k hn,r⟩,h.le,h.max⟩
theorem BRow.cells{w:World}{g cap:Nat}{l:List Bk}(h:BRow w g cap l)(i:Nat)(hi:i<l.length):
  w.cell? ⟨g,i*2,none⟩=some (.int .i64 (qBi l i).sz)/\w.cell? ⟨g,i*2+1,none⟩=some (.int .i64 (qBi l i).t):=by
 obtain⟨cur,hb,hl,ht⟩:=h.ex
 have hg:∀k,k<l.length*2->cur[k]?=(qBn l)[k]?:=λk hk=>by rw[<-ht,List.getElem?_take,if_pos hk]
 obtain⟨a,b⟩:=qO3 l i hi
 exact⟨hb.cell (by rw[hg _ (by omega)];exact a),hb.cell (by rw[hg _ (by omega)];exact b)⟩
theorem BRow.owns{w:World}{g cap:Nat}{l:List Bk}(h:BRow w g cap l): w.ownsRow 0 214 2 (.slice (some ⟨g,0,none⟩) l.length cap) l.length (qBn l):=by
 obtain⟨cur,hc,hl,ht⟩:=h.ex
 exact⟨qCk l,.inr ⟨g,cap,cur.toArray,rfl,Nat.zero_le _,hc,h.le,h.max,by simp[hl],by simpa using ht⟩⟩
theorem brow_of_owns{w:World}{g n cap:Nat}{l:List Bk}(hn:l.length=n)(h:w.ownsRow 0 214 2 (.slice (some ⟨g,0,none⟩) n cap) n (qBn l)): BRow w g cap l:=by
 rcases h.2 with ⟨h1,_⟩ | ⟨g',cap',cur,h1,_,h3,h4,h5,h6,h7⟩
 ·cases h1
 ·cases h1
  subst hn
  exact⟨⟨cur.toList,by unfold Blk;simpa using h3,by simpa using h6,h7⟩,h4,h5⟩
theorem infoBk: (Tryz.prog.info? 214).map (λi=>(i.zero,i.size,i.bytes))=some (some (.agg #[.int .i64 0,.int .i64 0]),2,16):=by kernel_rfl
theorem qIe(n:Nat): (Builtin.zeroCells (Value.agg #[.int .i64 0,.int .i64 0]).cells n).toList=qCa n:=by
 have hz:(Value.agg #[.int .i64 0,.int .i64 0]).cells=#[.int .i64 0,.int .i64 0]:=rfl
 rw[hz]
 apply List.ext_getElem?
 intro j
 by_cases hj:j<n*2
 ·rw[qVf n j hj]
  have:j%2=0\/j%2=1:=by omega
  rcases this with h | h <;> simp[Builtin.zeroCells,hj,h]
 ·rw[List.getElem?_eq_none (by simp[Builtin.zeroCells];omega),List.getElem?_eq_none (by rw[qBe];omega)]
theorem qB8(w:World)(ty:TypeId)(b o n c:Nat)(cs:List Value)(h:Blk w b cs 214)(hn:0<n)(hl:o+n*2<=cs.length):
  (Builtin.clear_ #[265] ty #[.slice (some ⟨b,o,none⟩) n c]).run Tryz.prog w=.ok (.tuple #[]) (w.setCells b o (qCa n)):=by
 have hst:=run_storeCells_cells (P:=Tryz.prog) b o (qCa n) 0 w (λj hj=>h.some (by rw[qBe]at hj;omega)) (λj _=>h.frozen _) (qL8 n)
 simp only[Nat.add_zero]at hst
 obtain⟨m,rfl⟩:∃m,n=m+1:=⟨n-1,by omega⟩
 simp[Builtin.clear_,run_underlying Tryz.underlying265,qIe,hst]
theorem qIh(w:World)(ty:TypeId)(b o dLen dCap:Nat)(a:Addr)(sLen sCap:Nat)(cs news:List Value)(h:Blk w b cs 214)(hn:news.length=Nat.min sLen dLen*2)(hsrc:∀j v,news[j]?=some v->w.cell? (a.add j)=some v)(hfit:o+news.length<=cs.length)(h1:∀v∈news,v.oneCell'=true):
  (Builtin.copy_ #[265,265] ty #[.slice (some ⟨b,o,none⟩) dLen dCap,.slice (some a) sLen sCap]).run Tryz.prog w=.ok (goInt (Nat.min sLen dLen)) (w.setCells b o news):=by
 have hl:=run_loadCells_list (P:=Tryz.prog) w a news hsrc
 have hst:=run_storeCells_cells (P:=Tryz.prog) b o news 0 w (λj hj=>h.some (by omega)) (λj _=>h.frozen _) h1
 simp only[Nat.add_zero]at hst
 obtain⟨i0,hi0,hz0,hz1,hz2⟩:=info_parts infoBk
 simp[Builtin.copy_,run_underlying Tryz.underlying265,Builtin.lenOf,Builtin.firstCells,sizeOf,typeInfo,hi0,hz1,<-hn,hl,hst]
theorem qO9(r:Nat)(w:World): Calls Tryz.prog 135 #[.pointer (some ⟨r,0,none⟩),.bool true] w λe w'=>e=.returned (.tuple #[])/\w'=w:=by
 go_enter Tryz.func135,Tryz.ntmps135
 go_wp2
 go_end0
 exact⟨rfl,rfl⟩
theorem qDq(r:Nat)(n lo hi:Int)(tl:List Nat)(w:World)(h:RdRep w r (enc n++tl))(n0:0<=n)(n1:n<=9223372036854775807)(h1:lo<=n)(h2:n<=hi):
  Calls Tryz.prog 88 #[.pointer (some ⟨r,0,none⟩),.int .i64 lo,.int .i64 hi] w λe w'=>e=.returned (.int .i64 n)/\RdRep w' r tl/\Keeps (λi=>i=r) w w':=by
 have hb:inB n lo hi=true:=by simp[inB,h1,h2]
 go_enter Tryz.func88,Tryz.ntmps88
 go_wp2_with fail
 refine(zAc r n tl w h n0 n1).mono ?_
 rintro e w1 ⟨rfl,hr1,hk1⟩
 have HR:=hide hr1
 have HK:=hide hk1
 have hc:w1.cell? ⟨r,1,none⟩=some (.bool false):=hr1.blk.cell rfl
 clear h hr1 hk1
 go_wp2_with fail
 refine(qAh n lo hi _).mono ?_
 rintro e w2 ⟨rfl,hw2⟩
 rw[hw2,hb]
 clear hw2 w2
 go_wp2_with fail
 refine(qO9 r _).mono ?_
 rintro e w2 ⟨rfl,hw2⟩
 rw[hw2]
 clear hw2 w2
 go_wp2
 go_ret
 exact⟨rfl,uh HR,uh HK⟩
def qQl: List Value->List Nat->List Int->List Value
 | cs,o::os,n::ns=>qQl (cs.set o (.int .i64 n)) os ns
 | cs,_,_=>cs
theorem qSj(os:List Nat): ∀(cs:List Value) (ns:List Int),(qQl cs os ns).length=cs.length:=by
 induction os with
 | nil=>intro cs ns;rfl
 | cons o os ih =>
  intro cs ns
  cases ns with
  | nil=>rfl
  | cons n ns=>show(qQl (cs.set o (.int .i64 n)) os ns).length=_;rw[ih];simp
theorem qW5(os:List Nat): ∀(cs:List Value) (ns:List Int) (o:Nat) (n:Int),os.length=ns.length->qQl cs (os++[o]) (ns++[n])=(qQl cs os ns).set o (.int .i64 n):=by
 induction os with
 | nil =>
  intro cs ns o n h
  cases ns with
  | nil=>rfl
  | cons a ns=>simp at h
 | cons a os ih =>
  intro cs ns o n h
  cases ns with
  | nil=>simp at h
  | cons b ns =>
   show qQl (cs.set a (.int .i64 b)) (os++[o]) (ns++[n])=(qQl (cs.set a (.int .i64 b)) os ns).set o (.int .i64 n)
   exact ih _ _ _ _ (by simpa using h)
theorem qUp(r cb:Nat)(os:List Nat)(ns:List Int)(cs:List Value)(T:TypeId)(pv:Value)(base:Nat)(tl:List Nat)(w:World)(h:RdRep w r (qB2 ns++tl))(hp:w.ownsRow base 170 1 pv os.length (qC4 (at' cb os)))(hb:Blk w cb cs T)(hlen:os.length=ns.length)(ho:∀o,o∈os->o<cs.length)(hne:cb≠r)(hpv:∀i,pv.ownBlock=some i->i≠r/\i≠cb)(hn:∀n,n∈ns->0<=n/\n<=9223372036854775807)(hl2:os.length<=1000):
  Calls Tryz.prog 139 #[.pointer (some ⟨r,0,none⟩),pv] w λe w'=>e=.returned (.tuple #[])/\RdRep w' r tl/\Blk w' cb (qQl cs os ns) T/\Keeps (λi=>i=r\/i=cb) w w':=by
 have HR:=hide h
 have HP:=hide hp
 have HB:=hide hb
 have HO:=hide ho
 have HPV:=hide hpv
 have HN:=hide hn
 obtain⟨va,vcap,hv,hva⟩:=qB4 hp
 have HVA:=hide hva
 clear h hp hb ho hpv hn hva
 subst hv
 generalize hm:os.length=m at *
 have HM:=hide hm
 have HLM:=hide hlen
 clear hm hlen
 go_enter Tryz.func139,Tryz.ntmps139
 go_wp2
 go_loopw [8] (λi wr=>∃k:Nat,i=.int .i64 k/\k<=m/\Hid (RdRep wr r (qB2 (ns.drop k)++tl))/\Hid (Blk wr cb (qQl cs (os.take k) (ns.take k)) T)/\Hid (Keeps (λi=>i=r\/i=cb) w wr)) (λi _=>m-(intOf i).toNat)
 case atStart=>exact⟨0,rfl,Nat.zero_le _,HR,HB,Keeps.refl _ _⟩
 case round =>
  obtain⟨k,rfl,hk,HRr,HBr,HKr⟩:=hrel
  by_cases hlk:k<m
  ·obtain⟨g,hg,hgb⟩:=uh HVA (by omega)
   subst hg
   have hkp:k<os.length:=by rw[uh HM];exact hlk
   have hkn:k<ns.length:=by rw[<-uh HLM];exact hlk
   obtain⟨o,hok⟩:∃o,os[k]?=some o:=⟨_,List.getElem?_eq_getElem hkp⟩
   obtain⟨n,hnk⟩:∃n,ns[k]?=some n:=⟨_,List.getElem?_eq_getElem hkn⟩
   have hrow:=qPq (uh HP) (uh HKr) (λi hi he=>by have:=uh HPV i hi;rcases he with e | e <;> omega)
   have hck:wr.cell? ⟨g,k,none⟩=some (.pointer (some ⟨cb,o,none⟩)):=by
    rcases qMu hrow with ⟨h0,_⟩ | ⟨g',cap',hv',hc⟩
    ·omega
    ·cases hv';exact hc k _ (by unfold qC4 at';rw[List.getElem?_map,List.getElem?_map,hok];rfl)
   obtain⟨n0,n1⟩:=uh HN n (List.mem_of_getElem? hnk)
   have hol:=uh HO o (List.mem_of_getElem? hok)
   have HNX:=hide (show RdRep wr r (enc n++(qB2 (ns.drop (k+1))++tl)) by
      have:=uh HRr
      rw[List.drop_eq_getElem_cons hkn,qBk,List.append_assoc]at this
      rw[List.getElem?_eq_getElem hkn]at hnk
      cases hnk
      exact this)
   have HTK:=hide (show qQl cs (os.take (k+1)) (ns.take (k+1))=(qQl cs (os.take k) (ns.take k)).set o (.int .i64 n) by
      rw[List.take_add_one,List.take_add_one,hok,hnk]
      exact qW5 _ _ _ _ _ (by rw[List.length_take,List.length_take,uh HM,<-uh HLM]))
   have hk0:(0:Int)<=(k:Int):=by omega
   have hkm:(k:Int)<(m:Int):=by omega
   clear hrow hok hnk hkp hkn
   go_wp2_with fail
   refine(qDq r n 0 9223372036854775807 _ wr (uh HNX) n0 n1 n0 n1).mono ?_
   rintro e w1 ⟨rfl,hr1,hk1⟩
   have HR1:=hide hr1
   have HB1:=hide ((uh HBr).keeps hk1 hne)
   have HK1:=hide ((uh HKr).trans hk1 (λi hi _=>.inl hi))
   clear hr1 hk1 hck
   obtain⟨u,hu⟩:∃u,(qQl cs (os.take k) (ns.take k))[o]?=some u:=⟨_,List.getElem?_eq_getElem (by rw[qSj];exact hol)⟩
   have hcu:=(uh HB1).cell hu
   have hfz:=(uh HB1).frozen o
   have HB2:=hide ((uh HB1).setCell o (.int .i64 n))
   have HR2:=hide ((uh HR1).keeps ((Keeps.refl (λi=>i=cb) w1).setCell (p:=⟨cb,o,none⟩) (Or.inl rfl) (.int .i64 n)) (λe=>hne e.symm))
   have HK2:=hide ((uh HK1).setCell (p:=⟨cb,o,none⟩) (Or.inl (.inr rfl)) (.int .i64 n))
   clear hu
   go_wp2
   go_roundw
   case rel=>exact⟨k+1,by go_num,by omega,HR2,hide (by rw[uh HTK];exact uh HB2),HK2⟩
   case measure=>simp[intOf];omega
  ·have hkm:k=m:=by omega
   subst hkm
   have h1:os.take k=os:=List.take_of_length_le (by rw[uh HM];exact Nat.le_refl _)
   have h2:ns.take k=ns:=List.take_of_length_le (by rw[<-uh HLM];exact Nat.le_refl _)
   have h3:ns.drop k=[]:=List.drop_eq_nil_iff.2 (by rw[<-uh HLM];exact Nat.le_refl _)
   rw[h1,h2]at HBr
   rw[h3]at HRr
   go_wp2
   go_end0
   exact⟨rfl,uh HRr,uh HBr,uh HKr⟩
theorem qJb(w:World)(ty:TypeId)(b dLen dCap:Nat)(s:ByteArray)(cs:List Value)(hcs:cs=((s.extract 0 (Nat.min s.size dLen)).data.map λ(b:UInt8)=>Value.int .u8 (b.toNat:Int)).toList)(hc:∀j,j<cs.length->(w.cell? ⟨b,j,none⟩).isSome=true)(hf:∀j,j<cs.length->w.frozen? ⟨b,j,none⟩=false):
  (Builtin.copy_ #[136,9] ty #[.slice (some ⟨b,0,none⟩) dLen dCap,.string s]).run Tryz.prog w=.ok (goInt (Nat.min s.size dLen)) (w.setCells b 0 cs):=by
 obtain⟨i0,hi0,hz0,hz1,hz2⟩:=info_parts zAm
 have hst:=run_storeCells_cells (P:=Tryz.prog) b 0 cs 0 w (by simpa using hc) (by simpa using hf) (λv hv=>by
    rw[hcs,Array.toList_map]at hv
    obtain⟨a,_,rfl⟩:=List.mem_map.1 hv
    rfl)
 subst hcs
 simp[Builtin.copy_,run_underlying Tryz.underlying136,Builtin.lenOf,Builtin.firstCells,sizeOf,typeInfo,hi0]
 simp at hst
 rw[hst]
 rfl
theorem qTy: (Tryz.prog.info? 173).map (·.size)=some 8:=by kernel_rfl
theorem qWh(rest:List Nat): qBy qCs=(((qEn (qCs++rest)).extract 0 (Nat.min (qEn (qCs++rest)).size 8)).data.map λ(b:UInt8)=>Value.int .u8 (b.toNat:Int)).toList:=by
 have h8:Nat.min (qEn (qCs++rest)).size 8=8:=by
  rw[qFi,List.length_append]
  exact Nat.min_eq_right (by show 8<=8+rest.length;omega)
 rw[h8]
 unfold qEn strOfNums
 rw[ByteArray.extract_mk]
 rw[List.map_append,List.map_append,List.drop_zero]
 rw[List.take_append_of_le_length (by simp[qCs])]
 clear h8
 simp[qCs,qBy]
theorem qHr(rest:List Nat)(w:World): Calls Tryz.prog 133 #[.string (qEn (qCs++rest))] w λe w'=>e=.returned (.agg (qBy qCs).toArray)/\Keeps (λ_=>False) w w':=by
 go_enter Tryz.func133,Tryz.ntmps133
 have HW0:=hide (show Blk ((w.alloc (.cells #[.int .u8 0,.int .u8 0,.int .u8 0,.int .u8 0,.int .u8 0,.int .u8 0,.int .u8 0,.int .u8 0] 173)).alloc (.cells #[.int .u8 0,.int .u8 0,.int .u8 0,.int .u8 0,.int .u8 0,.int .u8 0,.int .u8 0,.int .u8 0] 173)) (w.heap.size+1) [.int .u8 0,.int .u8 0,.int .u8 0,.int .u8 0,.int .u8 0,.int .u8 0,.int .u8 0,.int .u8 0] 173 from Blk.newAt (by simp) _ _)
 have HR0:=hide (show Blk ((w.alloc (.cells #[.int .u8 0,.int .u8 0,.int .u8 0,.int .u8 0,.int .u8 0,.int .u8 0,.int .u8 0,.int .u8 0] 173)).alloc (.cells #[.int .u8 0,.int .u8 0,.int .u8 0,.int .u8 0,.int .u8 0,.int .u8 0,.int .u8 0,.int .u8 0] 173)) w.heap.size [.int .u8 0,.int .u8 0,.int .u8 0,.int .u8 0,.int .u8 0,.int .u8 0,.int .u8 0,.int .u8 0] 173 from(Blk.new w _ _).alloc _)
 have HK0:=hide (show Keeps (λ_=>False) w ((w.alloc (.cells #[.int .u8 0,.int .u8 0,.int .u8 0,.int .u8 0,.int .u8 0,.int .u8 0,.int .u8 0,.int .u8 0] 173)).alloc (.cells #[.int .u8 0,.int .u8 0,.int .u8 0,.int .u8 0,.int .u8 0,.int .u8 0,.int .u8 0,.int .u8 0] 173)) from((Keeps.refl _ _).alloc _).alloc _)
 obtain⟨W0,hW0⟩:∃W0,((w.alloc (.cells #[.int .u8 0,.int .u8 0,.int .u8 0,.int .u8 0,.int .u8 0,.int .u8 0,.int .u8 0,.int .u8 0] 173)).alloc (.cells #[.int .u8 0,.int .u8 0,.int .u8 0,.int .u8 0,.int .u8 0,.int .u8 0,.int .u8 0,.int .u8 0] 173))=W0:=⟨_,rfl⟩
 rw[hW0]at HW0 HR0 HK0
 obtain⟨W1,hW1⟩:∃W1,W0.setCells (w.heap.size+1) 0 (qBy qCs)=W1:=⟨_,rfl⟩
 have hcp:(Builtin.copy_ #[136,9] 3 #[.slice (some ⟨w.heap.size+1,0,none⟩) 8 8,.string (qEn (qCs++rest))]).run Tryz.prog ((w.alloc (.cells #[.int .u8 0,.int .u8 0,.int .u8 0,.int .u8 0,.int .u8 0,.int .u8 0,.int .u8 0,.int .u8 0] 173)).alloc (.cells #[.int .u8 0,.int .u8 0,.int .u8 0,.int .u8 0,.int .u8 0,.int .u8 0,.int .u8 0,.int .u8 0] 173))=.ok (goInt (Nat.min (qEn (qCs++rest)).size 8)) W1:=by
  rw[hW0,<-hW1]
  exact qJb W0 3 (w.heap.size+1) 8 8 _ _ (qWh rest) (λj hj=>by rw[(uh HW0).cell (v:=.int .u8 0) (by have:j<8:=hj;match j,this with | 0,_=>rfl | 1,_=>rfl | 2,_=>rfl | 3,_=>rfl | 4,_=>rfl | 5,_=>rfl | 6,_=>rfl | 7,_=>rfl)];rfl) (λj _=>(uh HW0).frozen j)
 have HB1:=hide (show Blk W1 (w.heap.size+1) (qBy qCs) 173 by
    rw[<-hW1]
    exact((((((((uh HW0).setCell 0 (.int .u8 115)).setCell 1 (.int .u8 107)).setCell 2 (.int .u8 101)).setCell 3 (.int .u8 116)).setCell 4 (.int .u8 99)).setCell 5 (.int .u8 104)).setCell 6 (.int .u8 32)).setCell 7 (.int .u8 49))
 have hk1:Keeps (λi=>i=w.heap.size+1) W0 W1:=by rw[<-hW1];exact Keeps.setCells (M:=λi=>i=w.heap.size+1) (b:=w.heap.size+1) (Or.inl rfl) _ _ _ (Keeps.refl _ _)
 have HK1:=hide ((uh HK0).trans hk1 (λi hi hlt=>by omega))
 have HR1:=hide ((uh HR0).keeps hk1 (by omega))
 have a0:=(uh HB1).cell (i:=0) rfl
 have a1:=(uh HB1).cell (i:=1) rfl
 have a2:=(uh HB1).cell (i:=2) rfl
 have a3:=(uh HB1).cell (i:=3) rfl
 have a4:=(uh HB1).cell (i:=4) rfl
 have a5:=(uh HB1).cell (i:=5) rfl
 have a6:=(uh HB1).cell (i:=6) rfl
 have a7:=(uh HB1).cell (i:=7) rfl
 have b0:=(uh HR1).cell (i:=0) rfl
 have b1:=(uh HR1).cell (i:=1) rfl
 have b2:=(uh HR1).cell (i:=2) rfl
 have b3:=(uh HR1).cell (i:=3) rfl
 have b4:=(uh HR1).cell (i:=4) rfl
 have b5:=(uh HR1).cell (i:=5) rfl
 have b6:=(uh HR1).cell (i:=6) rfl
 have b7:=(uh HR1).cell (i:=7) rfl
 have bf:=(uh HR1).frozen
 have HK2:=hide ((((((((((uh HK1).setCell (p:=⟨w.heap.size,0,none⟩) (Or.inr (Nat.le_refl _)) (.int .u8 115)).setCell (p:=⟨w.heap.size,1,none⟩) (Or.inr (Nat.le_refl _)) (.int .u8 107)).setCell (p:=⟨w.heap.size,2,none⟩) (Or.inr (Nat.le_refl _)) (.int .u8 101)).setCell (p:=⟨w.heap.size,3,none⟩) (Or.inr (Nat.le_refl _)) (.int .u8 116)).setCell (p:=⟨w.heap.size,4,none⟩) (Or.inr (Nat.le_refl _)) (.int .u8 99)).setCell (p:=⟨w.heap.size,5,none⟩) (Or.inr (Nat.le_refl _)) (.int .u8 104)).setCell (p:=⟨w.heap.size,6,none⟩) (Or.inr (Nat.le_refl _)) (.int .u8 32)).setCell (p:=⟨w.heap.size,7,none⟩) (Or.inr (Nat.le_refl _)) (.int .u8 49)))
 have HF:=hide (show Blk _ w.heap.size (qBy qCs) 173 from((((((((uh HR1).setCell 0 (.int .u8 115)).setCell 1 (.int .u8 107)).setCell 2 (.int .u8 101)).setCell 3 (.int .u8 116)).setCell 4 (.int .u8 99)).setCell 5 (.int .u8 104)).setCell 6 (.int .u8 32)).setCell 7 (.int .u8 49))
 clear hW0 hW1 hk1
 go_wp2
 clear a0 a1 a2 a3 a4 a5 a6 a7 b0 b1 b2 b3 b4 b5 b6 b7 bf HB1 HR1 hcp
 generalize(((((((W1.setCell ⟨w.heap.size,0,none⟩ (.int .u8 115)).setCell ⟨w.heap.size,1,none⟩ (.int .u8 107)).setCell ⟨w.heap.size,2,none⟩ (.int .u8 101)).setCell ⟨w.heap.size,3,none⟩ (.int .u8 116)).setCell ⟨w.heap.size,4,none⟩ (.int .u8 99)).setCell ⟨w.heap.size,5,none⟩ (.int .u8 104)).setCell ⟨w.heap.size,6,none⟩ (.int .u8 32)).setCell ⟨w.heap.size,7,none⟩ (.int .u8 49)=W2 at *
 have HLV:=hide (show(loadVar 173 ⟨w.heap.size,0,none⟩).run Tryz.prog W2=.ok (.agg (qBy qCs).toArray) W2 from run_loadVar_mid W2 w.heap.size 0 173 (qBy qCs) _ (λj v hv=>by rw[Nat.zero_add];exact(uh HF).cell hv) Tryz.underlying173 rfl (by rw[qTy];rfl))
 refine bodyPost_ret (v:=.agg (qBy qCs).toArray) (by simp[results,Tryz.results133,asAddr,uh HLV]) rfl ?_
 exact⟨rfl,uh HK2⟩
theorem qYk(w:World): (Op.equalIn 10000 173 (.agg (qBy qCs).toArray) (.agg (qBy qCs).toArray)).run Tryz.prog w=.ok true w:=by kernel_rfl
theorem qOh(rest:List Nat)(w:World)(hl:rest.length<=140737488355328): Calls Tryz.prog 87 #[.string (qEn (qCs++rest))] w λe w'=>∃r,e=.returned (.pointer (some ⟨r,0,none⟩))/\w.heap.size<=r/\RdRep w' r rest/\Keeps (λ_=>False) w w':=by
 have hdr:(qEn (qCs++rest)).extract 8 (qEn (qCs++rest)).size=qEn rest:=by
  rw[qO4];rfl
 have hsz:(qEn (qCs++rest)).size=8+rest.length:=by rw[qFi,List.length_append];rfl
 go_enter Tryz.func87,Tryz.ntmps87
 go_wp2_with fail
 refine(qHr rest w).mono ?_
 rintro e w1 ⟨rfl,hk1⟩
 have HK1:=hide hk1
 clear hk1
 go_wp2_with fail
 have hF:(Value.string ⟨#[115,107,101,116,99,104,32,49]⟩)=.string (qEn (qCs++[])):=by kernel_rfl
 rw[hF]
 refine(qHr [] w1).mono ?_
 rintro e w2 ⟨rfl,hk2⟩
 have HK2:=hide ((uh HK1).then hk2)
 have hs:=qYk w2
 clear hk2 HK1 hF
 obtain⟨st,hst⟩:∃st,qEn (qCs++rest)=st:=⟨_,rfl⟩
 rw[hst]at hdr hsz
 rw[hst]
 clear hst
 have HHL:=hide hl
 obtain⟨rl,hrl⟩:∃rl,rest.length=rl:=⟨_,rfl⟩
 rw[hrl]at hsz hl
 clear hrl
 rw[hsz]at hdr
 have HRB:=hide (Blk.new w2 [.string (qEn rest),.bool false] 176)
 have HK3:=hide ((uh HK2).alloc (.cells #[.string (qEn rest),.bool false] 176))
 have hle:=(uh HK2).size
 go_wp2
 go_ret
 exact⟨_,rfl,hle,⟨uh HRB,uh HHL⟩,uh HK3⟩
end
end Go.Proofs.YtahnliehdjncdabGreatDoor
