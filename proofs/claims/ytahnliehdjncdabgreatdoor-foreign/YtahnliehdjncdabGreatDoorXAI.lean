import Derived.Deep.LoopGhost
import Derived.Test.YtahnliehdjncdabGreatDoorXAH
set_option maxRecDepth 100000
set_option maxHeartbeats 16000000
namespace Go.Proofs.YtahnliehdjncdabGreatDoor
section
open Go.RowKit
attribute [local go_sem ↓] qEv
attribute [local go_sem] qGv
structure BInv (l:List Bk):Prop where
 one:∀b∈l,1<=b.sz
 sum:qDn l<=4611686018427387904
 ln:l.length<=4398046511104
theorem BInv.len{l:List Bk}(h:BInv l): l.length<=4398046511104:=h.ln
theorem BInv.drop{l:List Bk}(h:BInv l)(k:Nat): BInv (l.drop k):=by
 refine⟨λb hb=>h.one b (List.mem_of_mem_drop hb),?_,by have:=h.ln;rw[List.length_drop];omega⟩;have h1:=qH0 l k;have h2:=qCr (l:=l.take k) (λb hb=>h.one b (List.mem_of_mem_take hb));have h3:=h.sum;omega
theorem qX2{K:Int}(hK:0<=K)(f1 f2:Nat)(l:List Bk)(sz:Int)(e:Nat)(h1:e<f1)(h2:e<f2): joinL K f1 l sz e=joinL K f2 l sz e:=by
 induction f1 generalizing f2 l sz e with
 | zero=>omega
 | succ f1 ih =>
  obtain⟨f2,rfl⟩:∃f,f2=f+1:=⟨f2-1,by omega⟩;unfold joinL
  split
  ·rfl
  ·rename_i h
   exact ih _ _ _ _ (by omega) (by omega)
theorem qXe{l:List Bk}{sz t:Int}{s e:Nat}(h:BInv l)(hs:s=qCg l sz e)(he:e<=l.length)(h2:s+2<=e)(z1:1<=sz): BInv (qDa l s ⟨2*sz,t⟩)/\2*sz<=4611686018427387904/\qDn (qDa l s ⟨2*sz,t⟩)=qDn l:=by
 have a1:(qCf l s).sz=sz:=qJw l sz e s (by omega) (by omega);have a2:(qCf l (s+1)).sz=sz:=qJw l sz e (s+1) (by omega) (by omega);have h4:=h.sum;have hsum:=qN9 l s ⟨2*sz,t⟩ (by omega) (by show 2*sz=_;omega);have hone:=qKo l s (⟨2*sz,t⟩:Bk) h.one (by show 1<=2*sz;omega);have h5:=qO1 hone (show(⟨2*sz,t⟩:Bk)∈qDa l s ⟨2*sz,t⟩ by unfold qDa;simp);rw[hsum]at h5;have h6:2*sz<=qDn l:=h5;refine⟨⟨hone,by rw[hsum];exact h4,?_⟩,by omega,hsum⟩;have:=qDt (⟨2*sz,t⟩:Bk) (l:=l) (i:=s) (by omega);have:=h.ln;omega
theorem zD6(d r:Nat)(og:Option Nat)(c:Cfg)(l:List Bk)(w:World)(h:CRep w d r og c l)(hi:BInv l)(k1:1<=c.k)(k10:c.k<=10):
  Calls Tryz.prog 185 #[.pointer (some ⟨d,0,none⟩)] w λe w'=>e=.returned (.tuple #[])/\CRep w' d r og c (joinL c.k (l.length+1) l 1 l.length)/\Keeps (λi=>i=r\/og=some i) w w':=by
 have hc20:w.cell? ⟨d,20,none⟩=some (.pointer (some ⟨r,0,none⟩)):=h.blk.cell rfl;have HC:=hide h;have HI:=hide hi;have hl:=hi.len;clear h hi;go_enter Tryz.func185,Tryz.ntmps185
 go_wp2_with fail
 refine(rowLen_any r og l w (uh HC).row).mono ?_;rintro e w1 ⟨rfl,hw1⟩;rw[hw1];clear hw1 w1 hc20;generalize hn:l.length=n at *;have HN:=hide hn;clear hn;go_wp2_with fail
 go_loopg [2,3,4,5] (n) (λg a b _ _ wr=>∃(m:List Bk) (e:Nat) (sz:Int),a=.int .i64 e/\b=.int .i64 sz/\e=g/\1<=sz/\sz<=4611686018427387904/\e<=4398046511104/\Hid (e<=m.length)/\Hid (BInv m)/\Hid (CRep wr d r og c m)/\Hid (Keeps (λi=>i=r\/og=some i) w wr)/\Hid (joinL c.k (n+1) l 1 n=joinL c.k (e+1) m sz e))
 case atStart=>exact⟨l,n,1,rfl,rfl,rfl,by omega,by omega,hl,by show _<=_;rw[uh HN];omega,HI,HC,Keeps.refl _ _,rfl⟩
 case round =>
  obtain⟨m,e,sz,rfl,rfl,heg,z1,z2,e2,HEM,HIM,HCM,HKM,HJ⟩:=hrel;have HEG:=hide heg;clear heg;have hc20:wr.cell? ⟨d,20,none⟩=some (.pointer (some ⟨r,0,none⟩)):=(uh HCM).blk.cell rfl;have hc4:wr.cell? ⟨d,4,none⟩=some (.int .i64 c.k):=(uh HCM).blk.cell rfl;go_wp2_with fail
  refine(qT0 d r og c m sz e wr (uh HCM) (uh HIM).len (uh HEM)).mono ?_;rintro x w1 ⟨rfl,hk1⟩;have HC1:=hide ((uh HCM).still hk1);have HK1:=hide ((uh HKM).trans hk1 (λ_ h _=>h.elim));clear hk1 hc20 hc4 HCM HKM;have hc20:w1.cell? ⟨d,20,none⟩=some (.pointer (some ⟨r,0,none⟩)):=(uh HC1).blk.cell rfl;have hc4:w1.cell? ⟨d,4,none⟩=some (.int .i64 c.k):=(uh HC1).blk.cell rfl;have hse:=qZl m sz e;generalize hs:qCg m sz e=s at *;have HS:=hide hs;clear hs;have hw1:IntKind.i64.wrap ((e:Int)-(s:Int))=(e:Int)-(s:Int):=by rw[IntKind.wrap_i64];omega
  by_cases hle:(e:Int)-(s:Int)<=c.k+1
  ·go_wp2
   refine bodyPost_ret (results_none rfl _ _ _) rfl ⟨rfl,?_,uh HK1⟩;rw[uh HN,uh HJ];unfold joinL;rw[uh HS,if_pos hle];exact uh HC1
  ·have hd:decide ((e:Int)-(s:Int)<=c.k+1)=false:=by simpa using hle
   have HLE:=hide hle;have hs2:s+2<e:=by omega
   obtain⟨s1,hs1⟩:∃s1,s1=s+1:=⟨_,rfl⟩;have e1:(s:Int)+1=(s1:Int):=by omega
   have HJI:=hide (qXe (t:=(qCf m s1).t) (uh HIM) (uh HS).symm (uh HEM) (by omega) z1);have HSL:=hide (show s+2<=m.length by have:=uh HEM;omega);have HS1:=hide hs1;have hsz2:=(uh HJI).2.1;clear hle hs1;go_wp2_with fail
   refine(qEe r og m s1 w1 (uh HC1).row (by have h1:=uh HSL;have h2:=uh HS1;omega)).mono ?_;rintro x w2 ⟨rfl,hk2⟩;have HC2:=hide ((uh HC1).still hk2);have HK2:=hide ((uh HK1).trans hk2 (λ_ h _=>h.elim));clear hk2 hc20 hc4 HC1 HK1;generalize hx:qCf m s1=x at *;have HX:=hide hx;clear hx;unfold Bk.val;have hc20:w2.cell? ⟨d,20,none⟩=some (.pointer (some ⟨r,0,none⟩)):=(uh HC2).blk.cell rfl;have hlt2:=(uh HC2).blk.lt;go_wp2_with fail
   have HC3:=hide ((uh HC2).still ((Keeps.refl (λ_=>False) w2).alloc (.cells #[.int .i64 x.sz,.int .i64 x.t] 214)));have HK3:=hide ((uh HK2).alloc (.cells #[.int .i64 x.sz,.int .i64 x.t] 214));have HX3:=hide (Blk.new w2 [.int .i64 x.sz,.int .i64 x.t] 214);have e3:(w2.alloc (.cells [Value.int .i64 x.sz,.int .i64 x.t].toArray 214))=(w2.alloc (.cells #[.int .i64 x.sz,.int .i64 x.t] 214)):=rfl;rw[e3]at HX3;clear e3;generalize w2.alloc (.cells #[.int .i64 x.sz,.int .i64 x.t] 214)=w3 at *;generalize w2.heap.size=bx at *;clear hc20 hlt2 HC2 HK2;have hc20:w3.cell? ⟨d,20,none⟩=some (.pointer (some ⟨r,0,none⟩)):=(uh HC3).blk.cell rfl;have hx1:w3.cell? ⟨bx,1,none⟩=some (.int .i64 x.t):=(uh HX3).cell rfl;have hw2:IntKind.i64.wrap (2*sz)=2*sz:=by rw[IntKind.wrap_i64];omega
   go_region_with (go_at_call 226;refine(qTt r og m s ⟨2*sz,x.t⟩ _ (by exact(uh HC3).row.still (Keeps.refl _ _).drew) (uh HSL) (uh HIM).len).mono ?_;rintro y w4 ⟨rfl,hr4,hk4⟩)
   all_goals
    have HC4:=hide (show CRep w4 d r og c (qDa m s ⟨2*sz,x.t⟩) from⟨((uh HC3).blk.drew).keeps hk4 (λh=>h.elim (uh HC3).dr (λh=>(uh HC3).dg d h rfl)),hr4,(uh HC3).dr,(uh HC3).dg⟩);have HK4:=hide (((uh HK3).drew).then hk4);clear hr4 hk4 hc20 hx1 hw2;have hw5:IntKind.i64.wrap (sz*2)=2*sz:=by rw[IntKind.wrap_i64];omega
    go_wp2
    go_roundg (s1)
    case measure=>have h1:=uh HEG;have h2:=uh HS1;omega
    case rel =>
     refine⟨qDa m s ⟨2*sz,x.t⟩,s1,2*sz,rfl,rfl,rfl,by omega,by omega,by omega,?_,(uh HJI).1,HC4,HK4,?_⟩
     ·show _<=_
      have:=qDt (⟨2*sz,x.t⟩:Bk) (uh HSL);have h2:=uh HS1;have h3:=uh HSL;omega
     ·show _=_
      rw[uh HJ]
      conv=>lhs;unfold joinL
      rw[uh HS,if_neg (by have:=uh HLE;omega),<-uh HS1,uh HX];exact qX2 (by omega) _ _ _ _ _ (by have:=uh HS1;omega) (by omega)
def zIe(l:List Bk)(t:Int): Int:=qDn (l.drop (pastN l t))-(if pastN l t=l.length then 0 else(qCf l (pastN l t)).sz/2)
theorem qRr(d r:Nat)(og:Option Nat)(c:Cfg)(l:List Bk)(t:Int)(w:World)(h:CRep w d r og c l)(hi:BInv l):
  Calls Tryz.prog 186 #[.pointer (some ⟨d,0,none⟩),.int .i64 t] w λe w'=>e=.returned (.int .i64 (zIe l t))/\Keeps (λ_=>False) w w':=by
 have hc20:w.cell? ⟨d,20,none⟩=some (.pointer (some ⟨r,0,none⟩)):=h.blk.cell rfl;have HC:=hide h;have HI:=hide hi;have hl:=hi.len;clear h hi;go_enter Tryz.func186,Tryz.ntmps186
 go_wp2_with fail
 refine(past_any r og l t w (uh HC).row hl).mono ?_;rintro e w1 ⟨rfl,hk1⟩;have HC1:=hide ((uh HC).still hk1);have HK1:=hide hk1;clear hk1 hc20;have hc20:w1.cell? ⟨d,20,none⟩=some (.pointer (some ⟨r,0,none⟩)):=(uh HC1).blk.cell rfl;have hp:=pastN_le l t;have HE:=hide (show zIe l t=qDn (l.drop (pastN l t))-(if pastN l t=l.length then 0 else(qCf l (pastN l t)).sz/2) from rfl);generalize pastN l t=p at *;go_wp2_with fail
 refine(rowLen_any r og l w1 (uh HC1).row).mono ?_;rintro e w2 ⟨rfl,hw2⟩;rw[hw2];clear hw2 w2;generalize hn:l.length=n at *;have HN:=hide hn;clear hn
 by_cases hpn:p=n
 ·have hb:((p:Int)==(n:Int))=true:=by simp[hpn]
  have HPN:=hide hpn;clear hpn;go_wp2
  go_ret
  refine⟨?_,uh HK1⟩;rw[uh HE,if_pos (uh HPN),List.drop_eq_nil_of_le (by rw[uh HN,uh HPN];exact Nat.le_refl _)];rfl
 ·have hb:((p:Int)==(n:Int))=false:=by simp;omega
  have HPN:=hide hpn;have hpl:p<n:=by omega
  clear hpn;go_wp2_with fail
  go_loopg [6,7] (n-p) (λg a b wr=>∃(k:Nat) (s:Int),a=.int .i64 s/\b=.int .i64 k/\p<=k/\k<=n/\n-k=g/\0<=s/\s<=4611686018427387904/\Hid (CRep wr d r og c l)/\Hid (Keeps (λ_=>False) w wr)/\Hid (s+qDn (l.drop k)=qDn (l.drop p)))
  case atStart=>exact⟨p,0,rfl,rfl,Nat.le_refl _,by omega,rfl,by omega,by omega,HC1,HK1,by show _=_;omega⟩
  case round =>
   obtain⟨k,s,rfl,rfl,hk1,hk2,hg,s0,s1,HCR,HKR,HSR⟩:=hrel;have HG:=hide hg;clear hg hc20;have hc20:wr.cell? ⟨d,20,none⟩=some (.pointer (some ⟨r,0,none⟩)):=(uh HCR).blk.cell rfl;go_wp2_with fail
   refine(rowLen_any r og l wr (uh HCR).row).mono ?_;rintro e w2 ⟨rfl,hw2⟩;rw[hw2,uh HN];clear hw2 w2
   by_cases hkn:k<n
   ·have hkn':(k:Int)<(n:Int):=by omega
    go_wp2_with fail
    refine(qEe r og l k wr (uh HCR).row (by rw[uh HN];exact hkn)).mono ?_;rintro e w2 ⟨rfl,hk3⟩;have HC2:=hide ((uh HCR).still hk3);have HK2:=hide ((uh HKR).then hk3);clear hk3;have hdk:=qHr l k (by rw[uh HN];exact hkn);have hx1:=(uh HI).one _ (qGk (l:=l) (i:=k) (by rw[uh HN];exact hkn));generalize qCf l k=x at *;have hsd:qDn (l.drop k)=x.sz+qDn (l.drop (k+1)):=by rw[hdk];rfl
    have hsp:qDn (l.drop p)<=4611686018427387904:=((uh HI).drop p).sum;have hs1:0<=qDn (l.drop (k+1)):=qCr ((uh HI).drop (k+1)).one;have hse:s+x.sz<=4611686018427387904:=by have:=uh HSR;omega
    have HSN:=hide (show s+x.sz+qDn (l.drop (k+1))=qDn (l.drop p) by have:=uh HSR;omega);clear hdk hsd hsp hs1;have hw3:IntKind.i64.wrap (s+x.sz)=s+x.sz:=by rw[IntKind.wrap_i64];omega
    unfold Bk.val;go_wp2
    go_roundg (n-(k+1))
    case measure=>have:=uh HG;omega
    case rel=>exact⟨k+1,s+x.sz,rfl,by go_num,by omega,by omega,rfl,by omega,by omega,HC2,HK2,HSN⟩
   ·have HKN:=hide (show k=n by omega)
    go_wp2_with fail
    refine(qEe r og l p wr (uh HCR).row (by rw[uh HN];exact hpl)).mono ?_;rintro e w2 ⟨rfl,hk3⟩;have HK2:=hide ((uh HKR).then hk3);clear hk3;have hx1:=(uh HI).one _ (qGk (l:=l) (i:=p) (by rw[uh HN];exact hpl));have hx2:=qO1 (uh HI).one (qGk (l:=l) (i:=p) (by rw[uh HN];exact hpl));have hx3:=(uh HI).sum;generalize qCf l p=x at *;have hx4:x.sz<=4611686018427387904:=by omega
    have hx5:x.sz/2<=4611686018427387904:=by omega
    have hx6:0<=x.sz/2:=by omega
    have HSF:=hide (show s=qDn (l.drop p) by
       have:=uh HSR;rw[List.drop_eq_nil_of_le (by rw[uh HN,uh HKN];exact Nat.le_refl _)]at this
       simp only[qDn]at this;omega)
    have hw4:IntKind.i64.wrap (s-x.sz/2)=s-x.sz/2:=by rw[IntKind.wrap_i64];omega
    clear hx2 hx3;unfold Bk.val;go_wp2
    go_ret
    refine⟨?_,uh HK2⟩;rw[uh HE,if_neg (uh HPN),uh HSF];rfl
end
end Go.Proofs.YtahnliehdjncdabGreatDoor
