import Derived.Test.YtahnliehdjncdabGreatDoorXAE
import Derived.BigRegion
import Derived.Deep.AppendLies
import Derived.Deep.RegionHeld3
import Derived.Deep.RegionLaw
import Derived.Laws.CopyOwn
import Derived.Laws.IdiomCopy
set_option maxRecDepth 100000
set_option maxHeartbeats 16000000
namespace Go.Proofs.YtahnliehdjncdabGreatDoor
section
open Go.RowKit
theorem new_any(w:World):
  Calls Tryz.prog 76 #[qCw] w λe w'=>e=.returned (.pointer (some ⟨w.heap.size,0,none⟩))/\QRep w' w.heap.size none []/\Keeps (λ_=>False) w w'/\w'.heap.size=w.heap.size+1:=by
 unfold qCw;go_enter Tryz.func76,Tryz.ntmps76
 go_wp2
 go_ret
 exact⟨rfl,⟨rfl,Blk.new _ [_,_] _⟩,(Keeps.refl _ _).alloc _,by simp⟩
def takeL(l:List It): List It:=sinkL l.length ((l.set 0 (itAt l (l.length-1))).take (l.length-1)) 0
theorem IRow.take{w:World}{g cap:Nat}{l:List It}(h:IRow w g cap l)(m:Nat): IRow w g cap (l.take m):=by
 obtain⟨cur,hb,hl,ht⟩:=h.ex;have hf:∀(l:List It) (m:Nat),flat (l.take m)=(flat l).take (m*4):=by
  intro l
  induction l with
  | nil=>intro m;simp[flat]
  | cons x l ih =>
   intro m;cases m with
   | zero=>simp[flat]
   | succ m=>rw[show(m+1)*4=m*4+4 by omega];simp[flat,ih]
 refine⟨⟨cur,hb,hl,?_⟩,Nat.le_trans (List.length_take_le' _ _) h.le,h.max⟩;rw[hf,<-ht,List.take_take]
 congr 1
 simp[List.length_take]
theorem take_any(q g:Nat)(l:List It)(w:World)(h:QRep w q (some g) l)(hl:l.length<=900)(hl0:0<l.length):
  Calls Tryz.prog 81 #[.pointer (some ⟨q,0,none⟩)] w λe w'=>(∃v,e=.returned v)/\QRep w' q (some g) (takeL l)/\Keeps (λk=>k=q\/k=g) w w':=by
 obtain⟨hlq,hlg⟩:=h.lt;obtain⟨hlg,hqg⟩:=hlg g rfl;have H:=hide h;clear h;have hemp:(!l.isEmpty)=true:=by cases l with | nil=>simp at hl0 | cons=>rfl
 obtain⟨n,hn⟩:∃n,n=l.length:=⟨_,rfl⟩;have hn0:0<n:=by omega
 have hn9:n<=900:=by omega
 have HN:=hide hn;clear hn hl hl0;go_enter Tryz.func81,Tryz.ntmps81
 go_wp2_with fail
 refine(qHi q (some g) l _ ((uh H).keeps ((Keeps.refl (λ_=>False) _).alloc _) (λh=>h) (λ_ _ h=>h))).mono ?_;rintro e w1 ⟨rfl,hk1⟩;rw[hemp];unfold It.val;have hB1:Blk w1 w.heap.size [.int .i64 0,.int .i64 0,.int .i64 0,.int .i64 0] 88:=(Blk.new w _ 88).keeps hk1 (λh=>h);have hkk:Keeps (λ_=>False) w w1:=((Keeps.refl (λ_=>False) w).alloc _).then hk1;have hz1:w.heap.size<w1.heap.size:=hB1.lt;obtain⟨_,cap,hqb,hir⟩:=(uh H).keeps hkk (λh=>h) (λ_ _ h=>h);rw[<-uh HN]at hqb;have hzq:q<w1.heap.size:=hqb.lt;have hzg:g<w1.heap.size:=hir.lt;have hqne:q≠w.heap.size:=by omega
 have hgne:g≠w.heap.size:=by omega
 have HB1:=hide hB1;have HKK:=hide hkk;have HQB:=hide hqb;have HIR:=hide hir;clear hk1 hB1 hkk hqb hir;generalize hx:itAt l 0=x;have HX:=hide hx;clear hx;obtain⟨m,hm⟩:∃m,n=m+1:=⟨n-1,by omega⟩;subst hm;have hq1:w1.cell? ⟨q,1,none⟩=some (.slice (some ⟨g,0,none⟩) (m+1) cap):=(uh HQB).cell rfl;go_wp2_with fail
 have hk2:Keeps (λ_=>False) w1 (w1.alloc (.cells #[.int .i64 x.t,.int .i64 x.k,.int .i64 x.d,.int .i64 x.n] 88)):=(Keeps.refl _ _).alloc _;have hx2:Blk (w1.alloc (.cells #[.int .i64 x.t,.int .i64 x.k,.int .i64 x.d,.int .i64 x.n] 88)) w1.heap.size [.int .i64 x.t,.int .i64 x.k,.int .i64 x.d,.int .i64 x.n] 88:=Blk.new _ _ _;generalize w1.alloc (.cells #[.int .i64 x.t,.int .i64 x.k,.int .i64 x.d,.int .i64 x.n] 88)=W2 at *;have HX2:=hide hx2;have HR2:=hide ((uh HB1).keeps hk2 (λh=>h));have HQ2:=hide ((uh HQB).keeps hk2 (λh=>h));have HI2:=hide ((uh HIR).keeps hk2 (λh=>h));have HK2:=hide (Keeps.then (uh HKK) hk2);clear hk2 hx2 HB1 HQB HIR HKK hq1;generalize hxb:w1.heap.size=xb at *;generalize hrb:w.heap.size=rb at *;have HRB:=hide hrb;clear hxb hrb;have hq1:W2.cell? ⟨q,1,none⟩=some (.slice (some ⟨g,0,none⟩) (m+1) cap):=(uh HQ2).cell rfl;have hqf:W2.frozen? ⟨q,1,none⟩=false:=(uh HQ2).frozen 1;obtain⟨x0,x1,x2,x3⟩:=(uh HI2).cells 0 (by rw[<-uh HN];omega);obtain⟨y0,y1,y2,y3⟩:=(uh HI2).cells m (by rw[<-uh HN];omega);simp only[Nat.zero_mul,Nat.zero_add]at x0 x1 x2 x3;have hgf:=(uh HI2).frozen;generalize hy:itAt l m=y at *;have HY:=hide hy;clear hy;have hm0:(0:Int)<=(m:Int):=by omega
 have hm1:(m:Int)<(m:Int)+1:=by omega
 have hcap:=(uh HI2).le;rw[<-uh HN]at hcap;have hmc:(m:Int)<=(cap:Int):=by omega
 have HI3:=hide ((uh HI2).put 0 y);have HQ3:=hide (((uh HQ2).keeps ((Keeps.refl (λk=>k=g) W2).putIt (Or.inl rfl) 0 y) hqg).setCell 1 (.slice (some ⟨g,0,none⟩) m cap));have HK3:=hide ((((Keeps.refl (λk=>k=q\/k=g) W2).putIt (Or.inl (Or.inr rfl)) 0 y).setCell (p:=⟨q,1,none⟩) (Or.inl (Or.inl rfl)) (.slice (some ⟨g,0,none⟩) m cap)).drew);have HI3':=hide (((uh HI3).keeps (M:=λk=>k=q) ((Keeps.refl (λk=>k=q) _).setCell (p:=⟨q,1,none⟩) (Or.inl rfl) (.slice (some ⟨g,0,none⟩) m cap)) (λh=>hqg h.symm)).drew);go_region
 go_wp2_with fail
 have e3:(((((W2.setCell ⟨g,0,none⟩ (.int .i64 y.t)).setCell ⟨g,1,none⟩ (.int .i64 y.k)).setCell ⟨g,2,none⟩ (.int .i64 y.d)).setCell ⟨g,3,none⟩ (.int .i64 y.n)).setCell ⟨q,1,none⟩ (.slice (some ⟨g,0,none⟩) m cap)).drew=((putIt W2 g 0 y).setCell ⟨q,1,none⟩ (.slice (some ⟨g,0,none⟩) m cap)).drew:=by
  unfold putIt;rfl
 rw[e3];clear e3 hq1 hqf x0 x1 x2 x3 y0 y1 y2 y3 hgf;have HQ4:Hid (QB ((putIt W2 g 0 y).setCell ⟨q,1,none⟩ (.slice (some ⟨g,0,none⟩) m cap)).drew q (.slice (some ⟨g,0,none⟩) m cap)):=⟨uh HQ3⟩;have hlen:((l.set 0 y).take m).length=m:=by have:=uh HN;simp;omega
 have HL4:=hide hlen;have HT:=hide (show takeL l=sinkL (m+1) ((l.set 0 y).take m) 0 by unfold takeL;rw[<-uh HN,<-uh HY];rfl);clear hlen HI3 HQ3;generalize((putIt W2 g 0 y).setCell ⟨q,1,none⟩ (.slice (some ⟨g,0,none⟩) m cap)).drew=W3 at *;refine(qLn q g 0 cap m W3 ((l.set 0 y).take m) (uh HL4) (by omega) (by omega) (uh HQ4) ((uh HI3').take m) (by omega) hqg).mono ?_;rintro e w4 ⟨rfl,hk4,hr4⟩;have hrne:¬(rb=q\/rb=g):=by omega
 have hxne:¬(xb=q\/xb=g):=by omega
 have HX4:=hide (((uh HX2).keeps (uh HK3) hxne).keeps hk4 (λh=>hxne (Or.inr h)));have HR4:=hide (((uh HR2).keeps (uh HK3) hrne).keeps hk4 (λh=>hrne (Or.inr h)));have HE1:=hide ((uh HQ4).b.keeps hk4 hqg);have HE2:=hide hr4;have HE3:=hide ((((uh HK2).mono (M':=λk=>k=q\/k=g) (λ_ _ h=>h.elim)).then (uh HK3)).trans hk4 (λ_ h _=>Or.inr h));clear hk4 hr4 HQ4 HI3' HK3 HK2 HX2 HR2 HI2 HQ2;have a0:w4.cell? ⟨xb,0,none⟩=some (.int .i64 x.t):=(uh HX4).cell rfl;have a1:w4.cell? ⟨xb,1,none⟩=some (.int .i64 x.k):=(uh HX4).cell rfl;have a2:w4.cell? ⟨xb,2,none⟩=some (.int .i64 x.d):=(uh HX4).cell rfl;have a3:w4.cell? ⟨xb,3,none⟩=some (.int .i64 x.n):=(uh HX4).cell rfl;have b0:w4.cell? ⟨rb,0,none⟩=some (.int .i64 0):=(uh HR4).cell rfl;have b1:w4.cell? ⟨rb,1,none⟩=some (.int .i64 0):=(uh HR4).cell rfl;have b2:w4.cell? ⟨rb,2,none⟩=some (.int .i64 0):=(uh HR4).cell rfl;have b3:w4.cell? ⟨rb,3,none⟩=some (.int .i64 0):=(uh HR4).cell rfl;have bf:=(uh HR4).frozen
 have HFIN:=hide (show Keeps (λk=>k=rb) w4 ((((w4.setCell ⟨rb,0,none⟩ (.int .i64 x.t)).setCell ⟨rb,1,none⟩ (.int .i64 x.k)).setCell ⟨rb,2,none⟩ (.int .i64 x.d)).setCell ⟨rb,3,none⟩ (.int .i64 x.n)) from
    ((((Keeps.refl (λk=>k=rb) w4).setCell (p:=⟨rb,0,none⟩) (Or.inl rfl) _).setCell (p:=⟨rb,1,none⟩) (Or.inl rfl) _).setCell (p:=⟨rb,2,none⟩) (Or.inl rfl) _).setCell (p:=⟨rb,3,none⟩) (Or.inl rfl) _)
 have HB5:=hide (((((uh HR4).setCell 0 (.int .i64 x.t)).setCell 1 (.int .i64 x.k)).setCell 2 (.int .i64 x.d)).setCell 3 (.int .i64 x.n));go_wp2
 generalize((((w4.setCell ⟨rb,0,none⟩ (.int .i64 x.t)).setCell ⟨rb,1,none⟩ (.int .i64 x.k)).setCell ⟨rb,2,none⟩ (.int .i64 x.d)).setCell ⟨rb,3,none⟩ (.int .i64 x.n))=w5 at *;have c0:w5.cell? ⟨rb,0,none⟩=some (.int .i64 x.t):=(uh HB5).cell rfl;have c1:w5.cell? ⟨rb,1,none⟩=some (.int .i64 x.k):=(uh HB5).cell rfl;have c2:w5.cell? ⟨rb,2,none⟩=some (.int .i64 x.d):=(uh HB5).cell rfl;have c3:w5.cell? ⟨rb,3,none⟩=some (.int .i64 x.n):=(uh HB5).cell rfl;refine bodyPost_ret (v:=.tuple #[.agg #[.int .i64 x.t,.int .i64 x.k,.int .i64 x.d,.int .i64 x.n],.bool true]) (by simp[results,Tryz.results81,go_sem,c0,c1,c2,c3]) rfl ⟨⟨_,rfl⟩,⟨hqg,cap,?_,?_⟩,?_⟩
 ·have hl:(takeL l).length=m:=by rw[uh HT,qDk];exact uh HL4
  rw[hl];exact(uh HE1).keeps (uh HFIN) (λh=>hqne h)
 ·rw[uh HT]
  exact(uh HE2).keeps (uh HFIN) (λh=>hgne h)
 ·exact(uh HE3).trans (uh HFIN) (λi hi hlt=>by have:=uh HRB;omega)
def over(L:List Value)(o:Nat)(vs:List Value): List Value:=L.take o++vs++L.drop (o+vs.length)
theorem qBi{L:List Value}{o:Nat}{vs:List Value}(h:o+vs.length<=L.length): (over L o vs).length=L.length:=by
 simp[over];omega
theorem zAv(L:List Value)(o:Nat)(v:Value)(vs:List Value)(h:o+(vs.length+1)<=L.length): over (L.set o v) (o+1) vs=over L o (v::vs):=by
 unfold over;have ho:o<L.length:=by omega
 have h1:(L.set o v).take (o+1)=L.take o++[v]:=by
  rw[List.take_add_one,List.take_set_of_le (Nat.le_refl _)];simp[ho]
 have h2:(L.set o v).drop (o+1+vs.length)=L.drop (o+(vs.length+1)):=by
  rw[List.drop_set_of_lt (by omega),show o+1+vs.length=o+(vs.length+1) by omega]
 rw[h1,h2];simp
theorem Blk.setCells{b:Nat}{T:TypeId}: ∀(vs:List Value) (o:Nat) (w:World) (cs:List Value),Blk w b cs T->o+vs.length<=cs.length->Blk (w.setCells b o vs) b (over cs o vs) T
 | [],o,_,cs,h,_=>by simpa[World.setCells,over] using h
 | v::vs,o,_,cs,h,hl=>by
  rw[World.setCells,<-zAv cs o v vs (by simpa using hl)];exact Blk.setCells vs (o+1) _ _ (h.setCell o v) (by simp at hl ⊢;omega)
theorem Keeps.setCells{M:Nat->Prop}{a:World}{b:Nat}(hp:M b\/a.heap.size<=b): ∀(vs:List Value) (o:Nat) (w:World),Keeps M a w->Keeps M a (w.setCells b o vs)
 | [],_,_,h=>h
 | v::vs,o,_,h=>Keeps.setCells hp vs (o+1) _ (h.setCell (p:=⟨b,o,none⟩) hp v)
theorem Blk.some{w:World}{b:Nat}{cs:List Value}{T:TypeId}(h:Blk w b cs T){i:Nat}(hi:i<cs.length): (w.cell? ⟨b,i,none⟩).isSome=true:=by
 rw[h.cell (List.getElem?_eq_getElem hi)];rfl
structure Bk where
 sz:Int
 t:Int
def Bk.val(x:Bk): Value:=.agg #[.int .i64 x.sz,.int .i64 x.t]
def qCf(l:List Bk)(i:Nat): Bk:=l.getD i ⟨0,0⟩
def qBu: List Bk->List Value
 | []=>[]
 | x::l=>.int .i64 x.sz::.int .i64 x.t::qBu l
def qCm: Nat->List Value
 | 0=>[]
 | n+1=>.int .i64 0::.int .i64 0::qCm n
theorem qC1(l:List Bk): (qBu l).length=l.length*2:=by
 induction l with
 | nil=>rfl
 | cons x l ih=>simp[qBu,ih];omega
theorem qEw(a b:List Bk): qBu (a++b)=qBu a++qBu b:=by
 induction a with
 | nil=>rfl
 | cons x l ih=>simp[qBu,ih]
theorem qKp(l:List Bk)(i:Nat): qBu (l.drop i)=(qBu l).drop (i*2):=by
 induction l generalizing i with
 | nil=>simp[qBu]
 | cons x l ih =>
  cases i with
  | zero=>simp
  | succ i=>rw[show(i+1)*2=i*2+2 by omega];simp[qBu,ih]
theorem qKg(l:List Bk)(i:Nat): qBu (l.take i)=(qBu l).take (i*2):=by
 induction l generalizing i with
 | nil=>simp[qBu]
 | cons x l ih =>
  cases i with
  | zero=>simp[qBu]
  | succ i=>rw[show(i+1)*2=i*2+2 by omega];simp[qBu,ih]
theorem qRy(l:List Bk)(i:Nat)(h:i<l.length): (qBu l)[i*2]?=some (.int .i64 (qCf l i).sz)/\(qBu l)[i*2+1]?=some (.int .i64 (qCf l i).t):=by
 induction l generalizing i with
 | nil=>simp at h
 | cons x l ih =>
  cases i with
  | zero=>simp[qBu,qCf]
  | succ i =>
   have:=ih i (by simpa using h);rw[show(i+1)*2=i*2+2 by omega];simpa[qBu,qCf] using this
theorem qMb(l:List Bk): ∀u∈qBu l,u.oneCell'=true:=by
 induction l with
 | nil=>simp[qBu]
 | cons x l ih =>
  intro u hu;simp only[qBu,List.mem_cons]at hu;rcases hu with rfl | rfl | hu
  ·rfl
  ·rfl
  ·exact ih u hu
theorem qBo(n:Nat): (qCm n).length=n*2:=by
 induction n with
 | zero=>rfl
 | succ n ih=>simp[qCm,ih];omega
theorem qOm(n:Nat): ∀u∈qCm n,u.oneCell'=true:=by
 induction n with
 | zero=>simp[qCm]
 | succ n ih =>
  intro u hu;simp only[qCm,List.mem_cons]at hu;rcases hu with rfl | rfl | hu
  ·rfl
  ·rfl
  ·exact ih u hu
theorem qYp(n j:Nat)(h:j<n*2): (qCm n)[j]?=some (.int .i64 0):=by
 induction n generalizing j with
 | zero=>omega
 | succ n ih =>
  match j with
  | 0=>rfl
  | 1=>rfl
  | j+2=>simp only[qCm,List.getElem?_cons_succ];exact ih j (by omega)
structure BRow (w:World) (g cap:Nat) (l:List Bk):Prop where
 ex:∃cur:List Value,Blk w g cur 214/\cur.length=cap*2/\cur.take (l.length*2)=qBu l
 le:l.length<=cap
 max:cap<=maxLen
theorem BRow.lt{w:World}{g cap:Nat}{l:List Bk}(h:BRow w g cap l): g<w.heap.size:=by obtain⟨cur,hb,_⟩:=h.ex;exact hb.lt
theorem BRow.keeps{M:Nat->Prop}{w w':World}{g cap:Nat}{l:List Bk}(h:BRow w g cap l)(k:Keeps M w w')(hn:¬M g): BRow w' g cap l:=by
 obtain⟨cur,hb,r⟩:=h.ex;exact⟨⟨cur,hb.keeps k hn,r⟩,h.le,h.max⟩
theorem BRow.cells{w:World}{g cap:Nat}{l:List Bk}(h:BRow w g cap l)(i:Nat)(hi:i<l.length):
  w.cell? ⟨g,i*2,none⟩=some (.int .i64 (qCf l i).sz)/\w.cell? ⟨g,i*2+1,none⟩=some (.int .i64 (qCf l i).t):=by
 obtain⟨cur,hb,hl,ht⟩:=h.ex;have hg:∀k,k<l.length*2->cur[k]?=(qBu l)[k]?:=λk hk=>by rw[<-ht,List.getElem?_take,if_pos hk]
 obtain⟨a,b⟩:=qRy l i hi;exact⟨hb.cell (by rw[hg _ (by omega)];exact a),hb.cell (by rw[hg _ (by omega)];exact b)⟩
theorem BRow.owns{w:World}{g cap:Nat}{l:List Bk}(h:BRow w g cap l): w.ownsRow 0 214 2 (.slice (some ⟨g,0,none⟩) l.length cap) l.length (qBu l):=by
 obtain⟨cur,hc,hl,ht⟩:=h.ex;exact⟨qC1 l,.inr ⟨g,cap,cur.toArray,rfl,Nat.zero_le _,hc,h.le,h.max,by simp[hl],by simpa using ht⟩⟩
theorem brow_of_owns{w:World}{g n cap:Nat}{l:List Bk}(hn:l.length=n)(h:w.ownsRow 0 214 2 (.slice (some ⟨g,0,none⟩) n cap) n (qBu l)): BRow w g cap l:=by
 rcases h.2 with ⟨h1,_⟩ | ⟨g',cap',cur,h1,_,h3,h4,h5,h6,h7⟩
 ·cases h1
 ·cases h1
  subst hn;exact⟨⟨cur.toList,by unfold Blk;simpa using h3,by simpa using h6,h7⟩,h4,h5⟩
theorem infoBk: (Tryz.prog.info? 214).map (λi=>(i.zero,i.size,i.bytes))=some (some (.agg #[.int .i64 0,.int .i64 0]),2,16):=by kernel_rfl
theorem qJp(n:Nat): (Builtin.zeroCells (Value.agg #[.int .i64 0,.int .i64 0]).cells n).toList=qCm n:=by
 have hz:(Value.agg #[.int .i64 0,.int .i64 0]).cells=#[.int .i64 0,.int .i64 0]:=rfl;rw[hz];apply List.ext_getElem?;intro j
 by_cases hj:j<n*2
 ·rw[qYp n j hj]
  have:j%2=0\/j%2=1:=by omega
  rcases this with h | h <;> simp[Builtin.zeroCells,hj,h]
 ·rw[List.getElem?_eq_none (by simp[Builtin.zeroCells];omega),List.getElem?_eq_none (by rw[qBo];omega)]
theorem qCo(w:World)(ty:TypeId)(b o n c:Nat)(cs:List Value)(h:Blk w b cs 214)(hn:0<n)(hl:o+n*2<=cs.length):
  (Builtin.clear_ #[265] ty #[.slice (some ⟨b,o,none⟩) n c]).run Tryz.prog w=.ok (.tuple #[]) (w.setCells b o (qCm n)):=by
 have hst:=run_storeCells_cells (P:=Tryz.prog) b o (qCm n) 0 w (λj hj=>h.some (by rw[qBo]at hj;omega)) (λj _=>h.frozen _) (qOm n);simp only[Nat.add_zero]at hst;obtain⟨m,rfl⟩:∃m,n=m+1:=⟨n-1,by omega⟩;simp[Builtin.clear_,run_underlying Tryz.underlying265,qJp,hst]
theorem qJy(w:World)(ty:TypeId)(b o dLen dCap:Nat)(a:Addr)(sLen sCap:Nat)(cs news:List Value)(h:Blk w b cs 214)(hn:news.length=Nat.min sLen dLen*2)(hsrc:∀j v,news[j]?=some v->w.cell? (a.add j)=some v)(hfit:o+news.length<=cs.length)(h1:∀v∈news,v.oneCell'=true):
  (Builtin.copy_ #[265,265] ty #[.slice (some ⟨b,o,none⟩) dLen dCap,.slice (some a) sLen sCap]).run Tryz.prog w=.ok (goInt (Nat.min sLen dLen)) (w.setCells b o news):=by
 have hl:=run_loadCells_list (P:=Tryz.prog) w a news hsrc;have hst:=run_storeCells_cells (P:=Tryz.prog) b o news 0 w (λj hj=>h.some (by omega)) (λj _=>h.frozen _) h1;simp only[Nat.add_zero]at hst;obtain⟨i0,hi0,hz0,hz1,hz2⟩:=info_parts infoBk;simp[Builtin.copy_,run_underlying Tryz.underlying265,Builtin.lenOf,Builtin.firstCells,sizeOf,typeInfo,hi0,hz1,<-hn,hl,hst]
theorem qF2{w:World}{g cap n j:Nat}{l:List Bk}{cur:List Value}(hn:l.length=n)(hb:Blk w g cur 214)(hl:cur.length=cap*2)(hle:n<=cap)(hmax:cap<=maxLen)(hj:j<=n):
  BRow ((w.setCells g 0 (qBu (l.drop j))).setCells g ((n-j)*2) (qCm j)) g cap (l.drop j):=by
 have h1:(qBu (l.drop j)).length=(n-j)*2:=by rw[qC1];simp[hn]
 have hb1:=Blk.setCells (qBu (l.drop j)) 0 w cur hb (by rw[h1];omega);have hl1:(over cur 0 (qBu (l.drop j))).length=cap*2:=by rw[qBi (by rw[h1];omega),hl]
 have hb2:=Blk.setCells (qCm j) ((n-j)*2) _ _ hb1 (by rw[hl1,qBo];omega);refine⟨⟨_,hb2,by rw[qBi (by rw[hl1,qBo];omega),hl1],?_⟩,by simp[hn];omega,hmax⟩;have hlen:(l.drop j).length*2=(n-j)*2:=by simp[hn]
 rw[hlen];unfold over;rw[List.append_assoc,List.take_append_of_le_length (by simp[h1])];rw[List.take_take,Nat.min_self];simp only[List.take_zero,List.nil_append];rw[List.take_append_of_le_length (by omega),List.take_of_length_le (by omega)]
theorem qEk(w:World):
  Calls Tryz.prog 223 #[.slice none 0 0,.int .i64 0,.int .i64 0] w λe w'=>e=.returned (.slice none 0 0)/\w'=w:=by
 go_enter Tryz.func223,Tryz.ntmps223
 go_wp2
 go_ret
 exact⟨rfl,rfl⟩
theorem qDx(g cap n:Nat)(w:World)(hle:n<=cap):
  Calls Tryz.prog 223 #[.slice (some ⟨g,0,none⟩) n cap,.int .i64 0,.int .i64 0] w λe w'=>e=.returned (.slice (some ⟨g,0,none⟩) n cap)/\w'=w:=by
 have h0:(0:Int)<=(n:Int):=by omega
 have h1:(n:Int)<=(cap:Int):=by omega
 go_enter Tryz.func223,Tryz.ntmps223
 go_wp2
 go_ret
 exact⟨rfl,rfl⟩
theorem qGc(g cap n j:Nat)(l:List Bk)(w:World)(hn:l.length=n)(hr:BRow w g cap l)(hj0:0<j)(hj:j<=n):
  Calls Tryz.prog 223 #[.slice (some ⟨g,0,none⟩) n cap,.int .i64 0,.int .i64 j] w λe w'=>e=.returned (.slice (some ⟨g,0,none⟩) (n-j) cap)/\BRow w' g cap (l.drop j)/\Keeps (·=g) w w':=by
 obtain⟨cur,hb,hl,ht⟩:=hr.ex;have hle:=hr.le;rw[hn]at hle;have hmax:=hr.max;have hcap:cap<=9223372036854775807:=by unfold maxLen at hmax;omega
 have HFIN:=hide (qF2 (w:=w.drew) hn (by exact hb.drew) hl hle hmax hj);obtain⟨news,hnews⟩:∃news,news=qBu (l.drop j):=⟨_,rfl⟩;rw[<-hnews]at HFIN;have hlen:news.length=(n-j)*2:=by rw[hnews,qC1];simp[hn]
 have hget:∀t u,news[t]?=some u->w.cell? ⟨g,j*2+t,none⟩=some u:=by
  intro t u hu;refine hb.cell ?_;have htl:t<(n-j)*2:=by have:=(List.getElem?_eq_some_iff.1 hu).1;omega
  rw[hnews,qKp,List.getElem?_drop,<-ht,List.getElem?_take,if_pos (by omega)]at hu;exact hu
 obtain⟨A,hA,hsrc⟩:∃A:Addr,(if cap=j then some (⟨g,0,none⟩:Addr) else some ⟨g,j*2,none⟩)=some A/\Hid (∀t u,news[t]?=some u->w.drew.cell? (A.add t)=some u):=by
  by_cases h:cap=j
  ·refine⟨⟨g,0,none⟩,by simp[h],λt u hu=>?_⟩
   have h0:news.length=0:=by omega
   rw[List.length_eq_zero_iff.1 h0]at hu;simp at hu
  ·refine⟨⟨g,j*2,none⟩,by simp[h],λt u hu=>?_⟩
   rw[Addr.add_lit];exact hget t u hu
 have s1:Hid (news.length=(n-j)*2):=hlen;have s2:Hid (∀u∈news,u.oneCell'=true):=by rw[hnews];exact qMb _
 have s3:Hid (∀t,t<news.length->(w.drew.cell? ⟨g,0+0*2+t,none⟩).isSome=true/\w.drew.frozen? ⟨g,0+0*2+t,none⟩=false):=by
  intro t ht';exact⟨hb.some (by omega),hb.frozen _⟩
 obtain⟨W1,hW1⟩:∃W1,W1=w.drew.setCells g 0 news:=⟨_,rfl⟩;have hbW:Blk W1 g (over cur 0 news) 214:=by rw[hW1];exact Blk.setCells _ _ _ _ hb.drew (by omega)
 have hcl:∀ty,(Builtin.clear_ #[265] ty #[.slice (some ⟨g,(n-j)*2,none⟩) (n-(n-j)) (cap-(n-j))]).run Tryz.prog W1=.ok (.tuple #[]) (W1.setCells g ((n-j)*2) (qCm (n-(n-j)))) :=
  λty=>qCo W1 ty g _ _ _ _ hbW (by omega) (by rw[qBi (by omega)];omega)
 have hW:Hid (W1=w.drew.setCells g (0+0*2) news):=hW1;have HK:=hide (show Keeps (·=g) w W1 by rw[hW1];exact Keeps.setCells (M:=λx=>x=g) (Or.inl rfl) _ _ _ (Keeps.refl _ _).drew);rw[<-hW1]at HFIN;obtain⟨i0,hi0,hz0,hz1,hz2⟩:=info_parts infoBk;have hjc:j<=cap:=by omega
 have HNJ:=hide (show n-(n-j)=j by omega);clear hW1 hbW hget hnews hlen hb ht hl hr hn hmax hz0 hz2;go_enter Tryz.func223,Tryz.ntmps223
 go_wp2_with fail
 go_region_law (refine step_append_room rfl (.tmp 22) (.tmp 25) 265 rfl 214 i0 2 Tryz.underlying265 hi0 hz1 g 0 0 cap (by simp[Act.eval,Act.put]) A (n-j) (cap-j) news (by simp[Act.eval,Act.put]) s1.out hsrc.out s2.out (by omega) s3.out ?_;rw[<-hW.out])
 go_wp2
 go_ret
 refine⟨by simp,?_,?_⟩
 ·have:=uh HFIN;rw[uh HNJ];exact this
 ·exact Keeps.setCells (M:=λx=>x=g) (Or.inl rfl) _ _ _ (uh HK)
end
end Go.Proofs.YtahnliehdjncdabGreatDoor
