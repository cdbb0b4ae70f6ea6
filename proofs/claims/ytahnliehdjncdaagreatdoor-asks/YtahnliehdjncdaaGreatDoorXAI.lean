import Derived.Test.YtahnliehdjncdaaGreatDoorXAH
import Derived.Test.YtahnliehdjncdaaGreatDoorXAA
import Derived.Deep.LoopGhost
set_option maxRecDepth 100000
set_option maxHeartbeats 16000000
namespace Go.Proofs.YtahnliehdjncdaaGreatDoor
section
open Go.RowKit
def qOa(c:Cfg)(r:Nat): List Value:=c.cells++[.pointer (some ⟨r,0,none⟩)]
structure CRep (w:World) (d r:Nat) (og:Option Nat) (c:Cfg) (l:List Bk):Prop where
 blk:Blk w d (qOa c r) 214
 row:RowRep w r og l
 dr:d≠r
 dg:∀g,og=some g->d≠g
theorem CRep.keeps{M:Nat->Prop}{w w':World}{d r:Nat}{og:Option Nat}{c:Cfg}{l:List Bk}(h:CRep w d r og c l)(k:Keeps M w w')(hd:¬M d)(hr:¬M r)(hg:∀g,og=some g->¬M g): CRep w' d r og c l :=
 ⟨h.blk.keeps k hd,h.row.keeps k hr hg,h.dr,h.dg⟩
theorem CRep.still{w w':World}{d r:Nat}{og:Option Nat}{c:Cfg}{l:List Bk}(h:CRep w d r og c l)(k:Keeps (λ_=>False) w w'): CRep w' d r og c l:=h.keeps k (λh=>h) (λh=>h) (λ_ _ h=>h)
def qD3: List Bk->Int
 | []=>0
 | b::l=>b.sz+qD3 l
theorem qEq(a b:List Bk): qD3 (a++b)=qD3 a+qD3 b:=by
 induction a with
 | nil=>simp[qD3]
 | cons x l ih=>simp[qD3,ih];omega
theorem qC8{l:List Bk}(h:∀b∈l,1<=b.sz): 0<=qD3 l:=by
 induction l with
 | nil=>simp[qD3]
 | cons x l ih =>
  have h1:=h x (by simp)
  have h2:=ih (λb hb=>h b (by simp[hb]))
  simp only[qD3];omega
theorem qEu{l:List Bk}(h:∀b∈l,1<=b.sz): (l.length:Int)<=qD3 l:=by
 induction l with
 | nil=>simp[qD3]
 | cons x l ih =>
  have h1:=h x (by simp)
  have h2:=ih (λb hb=>h b (by simp[hb]))
  simp only[qD3,List.length_cons];omega
theorem qFf(l:List Bk)(k:Nat): qD3 (l.take k)+qD3 (l.drop k)=qD3 l:=by
 rw[<-qEq,List.take_append_drop]
theorem qE9{l:List Bk}{i:Nat}(h:i<l.length): qBn l i∈l:=by
 have:qBn l i=l[i]:=by simp[qBn,List.getD_eq_getElem?_getD,List.getElem?_eq_getElem h]
 rw[this];exact List.getElem_mem h
theorem qHt{l:List Bk}(h:∀b∈l,1<=b.sz){b:Bk}(hb:b∈l): b.sz<=qD3 l:=by
 induction l with
 | nil=>simp at hb
 | cons x l ih =>
  have h0:=qC8 (l:=l) (λb hb=>h b (by simp[hb]))
  have h1:=h x (by simp)
  simp only[qD3]
  rcases List.mem_cons.1 hb with rfl | hb
  ·omega
  ·have:=ih (λb hb=>h b (by simp[hb])) hb
   omega
def qXv(v:Value): Sem Next:=do pure (.value (<-Instr.field 211 v 0))
theorem qEs(ρ:Operand->Value)(dst:Option Tmp)(x:Operand)(ty:TypeId)(pos:String)(after:Array Edge)(guard:Option (Nat×Bool)):
  execOp ρ { dst,op:=.field 211 x 0,type:=ty,pos,after,guard }=qXv (ρ x):=rfl
theorem qGw(a b:Value)(w:World): (qXv (.agg #[a,b])).run Tryz.prog w=.ok (.value a) w:=by kernel_rfl
attribute [local go_sem ↓] qEs
attribute [local go_sem] qGw
def qBk(l:List Bk)(sz:Int): Nat->Nat
 | 0=>0
 | e+1=>if (qBn l e).sz=sz then qBk l sz e else e+1
theorem qGi(l:List Bk)(sz:Int)(e:Nat): qBk l sz e<=e:=by
 induction e with
 | zero=>simp[qBk]
 | succ e ih=>unfold qBk;split <;> omega
theorem qGa(l:List Bk)(sz:Int)(e i:Nat)(h1:qBk l sz e<=i)(h2:i<e): (qBn l i).sz=sz:=by
 induction e with
 | zero=>omega
 | succ e ih =>
  unfold qBk at h1
  split at h1
  ·rename_i h
   by_cases hi:i=e
   ·rw[hi];exact h
   ·exact ih h1 (by omega)
  ·omega
def joinL(K:Int): Nat->List Bk->Int->Nat->List Bk
 | 0,l,_,_=>l
 | f+1,l,sz,e=>if (e:Int)-(qBk l sz e:Int)<=K+1 then l else joinL K f (qCr l (qBk l sz e) ⟨2*sz,(qBn l (qBk l sz e+1)).t⟩) (2*sz) (qBk l sz e+1)
theorem qPh(l:List Bk)(i:Nat)(h:i+2<=l.length): l=l.take i++(qBn l i::qBn l (i+1)::l.drop (i+2)):=by
 conv=>lhs;rw[<-List.take_append_drop i l]
 rw[qEw l i (by omega),qEw l (i+1) (by omega)]
theorem qM1(l:List Bk)(i:Nat)(x:Bk)(h:i+2<=l.length)(hx:x.sz=(qBn l i).sz+(qBn l (i+1)).sz): qD3 (qCr l i x)=qD3 l:=by
 conv=>rhs;rw[qPh l i h]
 unfold qCr
 simp only[qEq,qD3]
 omega
theorem qJh{P:Bk->Prop}(l:List Bk)(i:Nat)(x:Bk)(h:∀b∈l,P b)(hx:P x): ∀b∈qCr l i x,P b:=by
 intro b hb
 unfold qCr at hb
 rcases List.mem_append.1 hb with hb | hb
 ·rcases List.mem_append.1 hb with hb | hb
  ·exact h b (List.mem_of_mem_take hb)
  ·rw[List.mem_singleton]at hb;rw[hb];exact hx
 ·exact h b (List.mem_of_mem_drop hb)
theorem qTh(d r:Nat)(og:Option Nat)(c:Cfg)(l:List Bk)(m:Int)(w:World)(h:CRep w d r og c l)(hl:l.length<=4398046511104)(m0:-100<=m)(m1:m<=4611686018427387904)(w0:0<=c.window)(w1:c.window<=1000):
  Calls Tryz.prog 196 #[.pointer (some ⟨d,0,none⟩),.int .i64 m] w λe w'=>e=.returned (.int .i64 (pastN l (m-c.window)))/\Keeps (λ_=>False) w w':=by
 have hc5:w.cell? ⟨d,5,none⟩=some (.int .i64 c.window):=h.blk.cell rfl
 have hc20:w.cell? ⟨d,20,none⟩=some (.pointer (some ⟨r,0,none⟩)):=h.blk.cell rfl
 have HR:=hide h.row
 have hwr:IntKind.i64.wrap (m-c.window)=m-c.window:=by rw[IntKind.wrap_i64];omega
 clear h
 go_enter Tryz.func196,Tryz.ntmps196
 go_wp2_with fail
 go_region_with (go_at_call 237;refine(past_any r og l (m-c.window) _ (by exact(uh HR).still (Keeps.refl _ _).drew) hl).mono ?_;rintro e w1 ⟨rfl,hk1⟩)
 all_goals
  go_wp2
  go_ret
  exact⟨rfl,((Keeps.refl _ _).drew).then hk1⟩
theorem qR9(d r:Nat)(og:Option Nat)(c:Cfg)(l:List Bk)(sz:Int)(e:Nat)(w:World)(h:CRep w d r og c l)(hl:l.length<=4398046511104)(he:e<=l.length):
  Calls Tryz.prog 238 #[.pointer (some ⟨d,0,none⟩),.int .i64 sz,.int .i64 e] w λr w'=>r=.returned (.int .i64 (qBk l sz e))/\Keeps (λ_=>False) w w':=by
 have HR:=hide h
 clear h
 go_enter Tryz.func238,Tryz.ntmps238
 go_wp2
 go_loopw [7] (λs wr=>∃k:Nat,s=.int .i64 k/\k<=e/\Hid (Keeps (λ_=>False) w wr)/\Hid (qBk l sz e=qBk l sz k)) (λs _=>(intOf s).toNat)
 case atStart=>exact⟨e,rfl,Nat.le_refl _,Keeps.refl _ _,rfl⟩
 case round =>
  obtain⟨k,rfl,hk,HK,HE⟩:=hrel
  have HC:=hide ((uh HR).still (uh HK))
  have hc20:wr.cell? ⟨d,20,none⟩=some (.pointer (some ⟨r,0,none⟩)):=(uh HC).blk.cell rfl
  cases k with
  | zero =>
   go_wp2
   go_ret
   exact⟨by rw[uh HE];rfl,uh HK⟩
  | succ k =>
   have hkl:k<l.length:=by omega
   have hk1:((k+1:Nat):Int)-1=(k:Int):=by omega
   have hk0:(0:Int)<((k+1:Nat):Int):=by omega
   have hk2:((k+1:Nat):Int)<=4398046511104:=by omega
   have HU:=hide (show qBk l sz (k+1)=if (qBn l k).sz=sz then qBk l sz k else k+1 from rfl)
   generalize hk3:((k+1:Nat):Int)=kk at *
   have HK3:=hide hk3
   clear hk3
   go_wp2_with fail
   refine(qGk r og l k wr (uh HC).row hkl).mono ?_
   rintro x w1 ⟨rfl,hk4⟩
   have HK4:=hide ((uh HK).then hk4)
   clear hk4
   generalize qBn l k=x at *
   unfold Bk.val
   by_cases hs:x.sz=sz
   ·have HS:=hide hs
    have hs':(x.sz==sz)=true:=by simpa using hs
    clear hs
    go_wp2
    go_roundw
    case rel=>exact⟨k,rfl,by omega,HK4,by show _=_;rw[uh HE,uh HU,if_pos (uh HS)]⟩
    case measure=>simp[intOf];have:=uh HK3;omega
   ·have HS:=hide hs
    have hs':(x.sz==sz)=false:=by simpa using hs
    clear hs
    go_wp2
    go_ret
    exact⟨by rw[uh HE,uh HU,if_neg (uh HS),uh HK3];rfl,uh HK4⟩
end
section
open Go.RowKit
attribute [local go_sem ↓] qEs
attribute [local go_sem] qGw
structure BInv (l:List Bk):Prop where
 one:∀b∈l,1<=b.sz
 sum:qD3 l<=4398046511104
theorem BInv.len{l:List Bk}(h:BInv l): l.length<=4398046511104:=by have h1:=qEu h.one;have h2:=h.sum;omega
theorem BInv.drop{l:List Bk}(h:BInv l)(k:Nat): BInv (l.drop k):=by
 refine⟨λb hb=>h.one b (List.mem_of_mem_drop hb),?_⟩
 have h1:=qFf l k
 have h2:=qC8 (l:=l.take k) (λb hb=>h.one b (List.mem_of_mem_take hb))
 have h3:=h.sum
 omega
theorem qJi{K:Int}(hK:0<=K)(f1 f2:Nat)(l:List Bk)(sz:Int)(e:Nat)(h1:e<f1)(h2:e<f2): joinL K f1 l sz e=joinL K f2 l sz e:=by
 induction f1 generalizing f2 l sz e with
 | zero=>omega
 | succ f1 ih =>
  obtain⟨f2,rfl⟩:∃f,f2=f+1:=⟨f2-1,by omega⟩
  unfold joinL
  split
  ·rfl
  ·rename_i h
   exact ih _ _ _ _ (by omega) (by omega)
theorem qMy{l:List Bk}{sz t:Int}{s e:Nat}(h:BInv l)(hs:s=qBk l sz e)(he:e<=l.length)(h2:s+2<=e)(z1:1<=sz): BInv (qCr l s ⟨2*sz,t⟩)/\sz<=4398046511104/\qD3 (qCr l s ⟨2*sz,t⟩)=qD3 l:=by
 have a1:(qBn l s).sz=sz:=qGa l sz e s (by omega) (by omega)
 have a2:(qBn l (s+1)).sz=sz:=qGa l sz e (s+1) (by omega) (by omega)
 have h3:=qHt h.one (qE9 (l:=l) (i:=s) (by omega))
 have h4:=h.sum
 have hsum:=qM1 l s ⟨2*sz,t⟩ (by omega) (by show 2*sz=_;omega)
 refine⟨⟨qJh l s _ h.one (by show 1<=2*sz;omega),?_⟩,by omega,hsum⟩
 rw[hsum]
 exact h4
theorem qZ6(d r:Nat)(og:Option Nat)(c:Cfg)(l:List Bk)(w:World)(h:CRep w d r og c l)(hi:BInv l)(k1:1<=c.k)(k10:c.k<=10):
  Calls Tryz.prog 198 #[.pointer (some ⟨d,0,none⟩)] w λe w'=>e=.returned (.tuple #[])/\CRep w' d r og c (joinL c.k (l.length+1) l 1 l.length)/\Keeps (λi=>i=r\/og=some i) w w':=by
 have hc20:w.cell? ⟨d,20,none⟩=some (.pointer (some ⟨r,0,none⟩)):=h.blk.cell rfl
 have HC:=hide h
 have HI:=hide hi
 have hl:=hi.len
 clear h hi
 go_enter Tryz.func198,Tryz.ntmps198
 go_wp2_with fail
 refine(rowLen_any r og l w (uh HC).row).mono ?_
 rintro e w1 ⟨rfl,hw1⟩
 rw[hw1]
 clear hw1 w1 hc20
 generalize hn:l.length=n at *
 have HN:=hide hn
 clear hn
 go_wp2_with fail
 go_loopg [2,3,4,5] (n) (λg a b _ _ wr=>∃(m:List Bk) (e:Nat) (sz:Int),a=.int .i64 e/\b=.int .i64 sz/\e=g/\1<=sz/\sz<=8796093022208/\e<=4398046511104/\Hid (e<=m.length)/\Hid (BInv m)/\Hid (CRep wr d r og c m)/\Hid (Keeps (λi=>i=r\/og=some i) w wr)/\Hid (joinL c.k (n+1) l 1 n=joinL c.k (e+1) m sz e))
 case atStart=>exact⟨l,n,1,rfl,rfl,rfl,by omega,by omega,hl,by show _<=_;rw[uh HN];omega,HI,HC,Keeps.refl _ _,rfl⟩
 case round =>
  obtain⟨m,e,sz,rfl,rfl,heg,z1,z2,e2,HEM,HIM,HCM,HKM,HJ⟩:=hrel
  have HEG:=hide heg
  clear heg
  have hc20:wr.cell? ⟨d,20,none⟩=some (.pointer (some ⟨r,0,none⟩)):=(uh HCM).blk.cell rfl
  have hc4:wr.cell? ⟨d,4,none⟩=some (.int .i64 c.k):=(uh HCM).blk.cell rfl
  go_wp2_with fail
  refine(qR9 d r og c m sz e wr (uh HCM) (uh HIM).len (uh HEM)).mono ?_
  rintro x w1 ⟨rfl,hk1⟩
  have HC1:=hide ((uh HCM).still hk1)
  have HK1:=hide ((uh HKM).trans hk1 (λ_ h _=>h.elim))
  clear hk1 hc20 hc4 HCM HKM
  have hc20:w1.cell? ⟨d,20,none⟩=some (.pointer (some ⟨r,0,none⟩)):=(uh HC1).blk.cell rfl
  have hc4:w1.cell? ⟨d,4,none⟩=some (.int .i64 c.k):=(uh HC1).blk.cell rfl
  have hse:=qGi m sz e
  generalize hs:qBk m sz e=s at *
  have HS:=hide hs
  clear hs
  have hw1:IntKind.i64.wrap ((e:Int)-(s:Int))=(e:Int)-(s:Int):=by rw[IntKind.wrap_i64];omega
  by_cases hle:(e:Int)-(s:Int)<=c.k+1
  ·go_wp2
   refine bodyPost_ret (results_none rfl _ _ _) rfl ⟨rfl,?_,uh HK1⟩
   rw[uh HN,uh HJ]
   unfold joinL
   rw[uh HS,if_pos hle]
   exact uh HC1
  ·have hd:decide ((e:Int)-(s:Int)<=c.k+1)=false:=by simpa using hle
   have HLE:=hide hle
   have hs2:s+2<e:=by omega
   obtain⟨s1,hs1⟩:∃s1,s1=s+1:=⟨_,rfl⟩
   have e1:(s:Int)+1=(s1:Int):=by omega
   have HJI:=hide (qMy (t:=(qBn m s1).t) (uh HIM) (uh HS).symm (uh HEM) (by omega) z1)
   have HSL:=hide (show s+2<=m.length by have:=uh HEM;omega)
   have HS1:=hide hs1
   have hsz2:=(uh HJI).2.1
   clear hle hs1
   go_wp2_with fail
   refine(qGk r og m s1 w1 (uh HC1).row (by have h1:=uh HSL;have h2:=uh HS1;omega)).mono ?_
   rintro x w2 ⟨rfl,hk2⟩
   have HC2:=hide ((uh HC1).still hk2)
   have HK2:=hide ((uh HK1).trans hk2 (λ_ h _=>h.elim))
   clear hk2 hc20 hc4 HC1 HK1
   generalize hx:qBn m s1=x at *
   have HX:=hide hx
   clear hx
   unfold Bk.val
   have hc20:w2.cell? ⟨d,20,none⟩=some (.pointer (some ⟨r,0,none⟩)):=(uh HC2).blk.cell rfl
   have hlt2:=(uh HC2).blk.lt
   go_wp2_with fail
   have HC3:=hide ((uh HC2).still ((Keeps.refl (λ_=>False) w2).alloc (.cells #[.int .i64 x.sz,.int .i64 x.t] 211)))
   have HK3:=hide ((uh HK2).alloc (.cells #[.int .i64 x.sz,.int .i64 x.t] 211))
   have HX3:=hide (Blk.new w2 [.int .i64 x.sz,.int .i64 x.t] 211)
   have e3:(w2.alloc (.cells [Value.int .i64 x.sz,.int .i64 x.t].toArray 211))=(w2.alloc (.cells #[.int .i64 x.sz,.int .i64 x.t] 211)):=rfl
   rw[e3]at HX3
   clear e3
   generalize w2.alloc (.cells #[.int .i64 x.sz,.int .i64 x.t] 211)=w3 at *
   generalize w2.heap.size=bx at *
   clear hc20 hlt2 HC2 HK2
   have hc20:w3.cell? ⟨d,20,none⟩=some (.pointer (some ⟨r,0,none⟩)):=(uh HC3).blk.cell rfl
   have hx1:w3.cell? ⟨bx,1,none⟩=some (.int .i64 x.t):=(uh HX3).cell rfl
   have hw2:IntKind.i64.wrap (2*sz)=2*sz:=by rw[IntKind.wrap_i64];omega
   go_region_with (go_at_call 239;refine(qSr r og m s ⟨2*sz,x.t⟩ _ (by exact(uh HC3).row.still (Keeps.refl _ _).drew) (uh HSL) (uh HIM).len).mono ?_;rintro y w4 ⟨rfl,hr4,hk4⟩)
   all_goals
    have HC4:=hide (show CRep w4 d r og c (qCr m s ⟨2*sz,x.t⟩) from⟨((uh HC3).blk.drew).keeps hk4 (λh=>h.elim (uh HC3).dr (λh=>(uh HC3).dg d h rfl)),hr4,(uh HC3).dr,(uh HC3).dg⟩)
    have HK4:=hide (((uh HK3).drew).then hk4)
    clear hr4 hk4 hc20 hx1 hw2
    have hw5:IntKind.i64.wrap (sz*2)=2*sz:=by rw[IntKind.wrap_i64];omega
    go_wp2
    go_roundg (s1)
    case measure=>have h1:=uh HEG;have h2:=uh HS1;omega
    case rel =>
     refine⟨qCr m s ⟨2*sz,x.t⟩,s1,2*sz,rfl,rfl,rfl,by omega,by omega,by omega,?_,(uh HJI).1,HC4,HK4,?_⟩
     ·show _<=_
      have:=qB8 (⟨2*sz,x.t⟩:Bk) (uh HSL);have h2:=uh HS1;have h3:=uh HSL;omega
     ·show _=_
      rw[uh HJ]
      conv=>lhs;unfold joinL
      rw[uh HS,if_neg (by have:=uh HLE;omega),<-uh HS1,uh HX]
      exact qJi (by omega) _ _ _ _ _ (by have:=uh HS1;omega) (by omega)
def qV1(l:List Bk)(t:Int): Int:=qD3 (l.drop (pastN l t))-(if pastN l t=l.length then 0 else(qBn l (pastN l t)).sz/2)
theorem qQ7(d r:Nat)(og:Option Nat)(c:Cfg)(l:List Bk)(t:Int)(w:World)(h:CRep w d r og c l)(hi:BInv l):
  Calls Tryz.prog 199 #[.pointer (some ⟨d,0,none⟩),.int .i64 t] w λe w'=>e=.returned (.int .i64 (qV1 l t))/\Keeps (λ_=>False) w w':=by
 have hc20:w.cell? ⟨d,20,none⟩=some (.pointer (some ⟨r,0,none⟩)):=h.blk.cell rfl
 have HC:=hide h
 have HI:=hide hi
 have hl:=hi.len
 clear h hi
 go_enter Tryz.func199,Tryz.ntmps199
 go_wp2_with fail
 refine(past_any r og l t w (uh HC).row hl).mono ?_
 rintro e w1 ⟨rfl,hk1⟩
 have HC1:=hide ((uh HC).still hk1)
 have HK1:=hide hk1
 clear hk1 hc20
 have hc20:w1.cell? ⟨d,20,none⟩=some (.pointer (some ⟨r,0,none⟩)):=(uh HC1).blk.cell rfl
 have hp:=pastN_le l t
 have HE:=hide (show qV1 l t=qD3 (l.drop (pastN l t))-(if pastN l t=l.length then 0 else(qBn l (pastN l t)).sz/2) from rfl)
 generalize pastN l t=p at *
 go_wp2_with fail
 refine(rowLen_any r og l w1 (uh HC1).row).mono ?_
 rintro e w2 ⟨rfl,hw2⟩
 rw[hw2]
 clear hw2 w2
 generalize hn:l.length=n at *
 have HN:=hide hn
 clear hn
 by_cases hpn:p=n
 ·have hb:((p:Int)==(n:Int))=true:=by simp[hpn]
  have HPN:=hide hpn
  clear hpn
  go_wp2
  go_ret
  refine⟨?_,uh HK1⟩
  rw[uh HE,if_pos (uh HPN),List.drop_eq_nil_of_le (by rw[uh HN,uh HPN];exact Nat.le_refl _)]
  rfl
 ·have hb:((p:Int)==(n:Int))=false:=by simp;omega
  have HPN:=hide hpn
  have hpl:p<n:=by omega
  clear hpn
  go_wp2_with fail
  go_loopg [6,7] (n-p) (λg a b wr=>∃(k:Nat) (s:Int),a=.int .i64 s/\b=.int .i64 k/\p<=k/\k<=n/\n-k=g/\0<=s/\s<=4398046511104/\Hid (CRep wr d r og c l)/\Hid (Keeps (λ_=>False) w wr)/\Hid (s+qD3 (l.drop k)=qD3 (l.drop p)))
  case atStart=>exact⟨p,0,rfl,rfl,Nat.le_refl _,by omega,rfl,by omega,by omega,HC1,HK1,by show _=_;omega⟩
  case round =>
   obtain⟨k,s,rfl,rfl,hk1,hk2,hg,s0,s1,HCR,HKR,HSR⟩:=hrel
   have HG:=hide hg
   clear hg hc20
   have hc20:wr.cell? ⟨d,20,none⟩=some (.pointer (some ⟨r,0,none⟩)):=(uh HCR).blk.cell rfl
   go_wp2_with fail
   refine(rowLen_any r og l wr (uh HCR).row).mono ?_
   rintro e w2 ⟨rfl,hw2⟩
   rw[hw2,uh HN]
   clear hw2 w2
   by_cases hkn:k<n
   ·have hkn':(k:Int)<(n:Int):=by omega
    go_wp2_with fail
    refine(qGk r og l k wr (uh HCR).row (by rw[uh HN];exact hkn)).mono ?_
    rintro e w2 ⟨rfl,hk3⟩
    have HC2:=hide ((uh HCR).still hk3)
    have HK2:=hide ((uh HKR).then hk3)
    clear hk3
    have hdk:=qEw l k (by rw[uh HN];exact hkn)
    have hx1:=(uh HI).one _ (qE9 (l:=l) (i:=k) (by rw[uh HN];exact hkn))
    generalize qBn l k=x at *
    have hsd:qD3 (l.drop k)=x.sz+qD3 (l.drop (k+1)):=by rw[hdk];rfl
    have hsp:qD3 (l.drop p)<=4398046511104:=((uh HI).drop p).sum
    have hs1:0<=qD3 (l.drop (k+1)):=qC8 ((uh HI).drop (k+1)).one
    have hse:s+x.sz<=4398046511104:=by have:=uh HSR;omega
    have HSN:=hide (show s+x.sz+qD3 (l.drop (k+1))=qD3 (l.drop p) by have:=uh HSR;omega)
    clear hdk hsd hsp hs1
    have hw3:IntKind.i64.wrap (s+x.sz)=s+x.sz:=by rw[IntKind.wrap_i64];omega
    unfold Bk.val
    go_wp2
    go_roundg (n-(k+1))
    case measure=>have:=uh HG;omega
    case rel=>exact⟨k+1,s+x.sz,rfl,by go_num,by omega,by omega,rfl,by omega,by omega,HC2,HK2,HSN⟩
   ·have HKN:=hide (show k=n by omega)
    go_wp2_with fail
    refine(qGk r og l p wr (uh HCR).row (by rw[uh HN];exact hpl)).mono ?_
    rintro e w2 ⟨rfl,hk3⟩
    have HK2:=hide ((uh HKR).then hk3)
    clear hk3
    have hx1:=(uh HI).one _ (qE9 (l:=l) (i:=p) (by rw[uh HN];exact hpl))
    have hx2:=qHt (uh HI).one (qE9 (l:=l) (i:=p) (by rw[uh HN];exact hpl))
    have hx3:=(uh HI).sum
    generalize qBn l p=x at *
    have hx4:x.sz<=4398046511104:=by omega
    have hx5:x.sz/2<=4398046511104:=by omega
    have hx6:0<=x.sz/2:=by omega
    have HSF:=hide (show s=qD3 (l.drop p) by
       have:=uh HSR
       rw[List.drop_eq_nil_of_le (by rw[uh HN,uh HKN];exact Nat.le_refl _)]at this
       simp only[qD3]at this;omega)
    have hw4:IntKind.i64.wrap (s-x.sz/2)=s-x.sz/2:=by rw[IntKind.wrap_i64];omega
    clear hx2 hx3
    unfold Bk.val
    go_wp2
    go_ret
    refine⟨?_,uh HK2⟩
    rw[uh HE,if_neg (uh HPN),uh HSF]
    rfl
end
end Go.Proofs.YtahnliehdjncdaaGreatDoor
