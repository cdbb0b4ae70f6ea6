import Derived.Test.YtahnliehdjncdaaGreatDoorXBC
import Derived.Test.YtahnliehdjncdaaGreatDoorXAW
import Derived.Laws.MathBits
import Derived.Lib.Tables
import Derived.Test.YtahnliehdjncdaaGreatDoorXAJ
import Derived.Test.YtahnliehdjncdaaGreatDoorXAK
import Derived.Test.YtahnliehdjncdaaGreatDoorXAQ
set_option maxRecDepth 100000
set_option maxHeartbeats 16000000
namespace Go.Proofs.YtahnliehdjncdaaGreatDoor
section
open Go.RowKit
attribute [local go_sem ↓] Mk.execOp_fieldMk
attribute [local go_sem] Mk.run_fieldMk0 Mk.run_fieldMk1
theorem Wrote.kp{w w1:World}{b:Nat}{v:Value}{bs:List Nat}(h:Wrote w b v bs w1): Keeps (qB2 b v) w w1:=by obtain⟨_,_,_,hk⟩:=h;exact hk
theorem Wrote.still{w w1 w2:World}{b:Nat}{v:Value}{bs:List Nat}(h:Wrote w b v bs w1)(hk:Keeps (λ_=>False) w1 w2): Wrote w b v bs w2:=by
 obtain⟨v',a,c,d⟩:=h
 exact⟨v',a.still hk,c,d.trans hk (λ_ h=>h.elim)⟩
theorem qBv(b:Nat)(v:Value)(bs:List Nat)(n:Int)(w w1:World)(h:Wrote w b v bs w1)(n0:0<=n)(n1:n<=9223372036854775807)(hl:bs.length<=140737488355300):
  Calls Tryz.prog 71 #[.pointer (some ⟨b,0,none⟩),.int .i64 n] w1 λe w'=>e=.returned (.tuple #[])/\Wrote w b v (bs++enc n) w':=by
 obtain⟨v',a,c,d⟩:=h
 exact(qDc b v' bs n w1 a n0 n1 hl).mono λe w' ⟨he,hw⟩=>⟨he,Wrote.then c d hw⟩
def qEw(l:List Bk): List Int:=l.flatMap λb=>[b.sz,b.t]
theorem qNw(a b:List Bk): qEw (a++b)=qEw a++qEw b:=by simp[qEw]
theorem qH7(l:List Bk): (qEw l).length=2*l.length:=by
 induction l with
 | nil=>rfl
 | cons x l ih=>simp[qEw]at ih ⊢;omega
def zEk(l:List Bk)(t:Int): List Int:=((l.length-Mk.pastN l t:Nat):Int)::qEw (l.drop (Mk.pastN l t))
theorem qTc(l:List Bk)(t:Int): (zEk l t).length<=1+2*l.length:=by
 unfold zEk
 rw[List.length_cons,qH7,List.length_drop];omega
def qVh(ls:Nat->List Bk)(n:Nat)(t:Int): List Int:=(List.range n).flatMap λi=>zEk (ls i) t
theorem qPw(ls:Nat->List Bk)(n:Nat)(t:Int): qVh ls (n+1) t=qVh ls n t++zEk (ls n) t:=by
 simp[qVh,List.range_succ]
theorem qKj(ls:Nat->List Bk)(n:Nat)(t:Int)(h:∀i,(ls i).length<=40): (qVh ls n t).length<=81*n:=by
 induction n with
 | zero=>simp[qVh]
 | succ n ih=>have h1:=qTc (ls n) t;have h2:=h n;rw[qPw,List.length_append];omega
theorem qWv(l:List Bk)(p j:Nat)(x:Bk)(h:p+j<l.length)(hx:qCc l (p+j)=x): qEw ((l.drop p).take (j+1))=qEw ((l.drop p).take j)++[x.sz,x.t]:=by
 have hj:j<(l.drop p).length:=by rw[List.length_drop];omega
 rw[List.take_add_one,qNw,List.getElem?_eq_getElem hj]
 subst hx
 simp[qEw,qCc,List.getD_eq_getElem?_getD,List.getElem?_eq_getElem h]
theorem zBs{l:List Bk}{i:Nat}(h:i<l.length): qCc l i∈l:=by
 have:qCc l i=l[i]:=by simp[qCc,List.getD_eq_getElem?_getD,List.getElem?_eq_getElem h]
 rw[this];exact List.getElem_mem h
theorem qSr(d rg:Nat)(qs:List (Nat×Option Nat))(c:Cfg)(ls:Nat->List Bk)(b:Nat)(v:Value)(bs:List Nat)(m:Int)(w:World)(h:DRep w d rg qs c ls)(hw:WRep w b v bs)(hf:∀i,qB2 b v i->i≠d/\i≠rg/\∀j,j<qs.length->¬qf (qAt qs j) i)(hq2:qs.length<=16)(w0:0<=c.window)(w1:c.window<=1000)(m0:-100<=m)(m1:m<=4611686018427387904)(hl:∀i,(ls i).length<=40)(hr:∀i,∀b∈ls i,0<=b.sz/\b.sz<=4611686018427387904/\1<=b.t/\b.t<=40)(hbl:bs.length<=140737488300000):
  Calls Tryz.prog 169 #[.pointer (some ⟨d,0,none⟩),.pointer (some ⟨b,0,none⟩),.int .i64 m] w λe w'=>e=.returned (.tuple #[])/\Wrote w b v (bs++qC4 (qVh ls qs.length (m-c.window))) w':=by
 obtain⟨n,hn⟩:∃n,n=qs.length:=⟨_,rfl⟩
 have c20:w.cell? ⟨d,20,none⟩=some (.slice (some ⟨rg,0,none⟩) n n):=by rw[hn];exact h.blk.cell rfl
 have HD:=hide (show ∀w',Keeps (qB2 b v) w w'->DRep w' d rg qs c ls from λw' hk=>h.keeps hk (λhi=>(hf d hi).1 rfl) (λhi=>(hf rg hi).2.1 rfl) (λj a hj hq hi=>(hf a hi).2.2 j hj hq))
 have HW:=hide hw
 have HL:=hide hl
 have HR:=hide hr
 have HN:=hide hn
 rw[<-hn]at hq2 ⊢
 obtain⟨t,ht⟩:∃t,m-c.window=t:=⟨_,rfl⟩
 rw[ht]
 have hsub:IntKind.i64.wrap (m-c.window)=t:=by rw[IntKind.wrap_i64];omega
 clear h hw hf hl hr hn
 have hn0:(0:Int)<=(n:Int):=by omega
 go_enter Tryz.func169,Tryz.ntmps169
 go_wp2_with fail
 clear c20
 go_loopw [15] (λi wr=>∃(k:Nat),i=.int .i64 k/\k<=n/\Hid (Wrote w b v (bs++qC4 (qVh ls k t)) wr)) (λi _=>n-(intOf i).toNat)
 case atStart=>exact⟨0,rfl,Nat.zero_le _,by show Wrote _ _ _ _ _;simp only[qVh,List.range_zero,List.flatMap_nil,qC8,List.append_nil];exact Wrote.refl (uh HW)⟩
 case round =>
  obtain⟨k,rfl,hk,HO⟩:=hrel
  have hk0:(0:Int)<=(k:Int):=by omega
  by_cases hlt:k<n
  ·have hkn:(k:Int)<(n:Int):=by omega
   have hkq:k<qs.length:=by have:=uh HN;omega
   have HDr:=hide (uh HD wr (uh HO).kp)
   obtain⟨q,hq'⟩:∃q,qAt qs k=q:=⟨_,rfl⟩
   have cr:wr.cell? ⟨rg,k,none⟩=some (.pointer (some ⟨q.1,0,none⟩)):=by rw[<-hq'];exact(uh HDr).reg.cell (qFd hkq)
   have c5:wr.cell? ⟨d,5,none⟩=some (.int .i64 c.window):=(uh HDr).blk.cell rfl
   have HRow:=hide (show ∀w',Keeps (qB2 b v) w w'->Mk.RowRep w' q.1 q.2 (ls k) from λw' hk'=>by rw[<-hq'];exact(uh HD w' hk').row k hkq)
   have HP:=hide (Mk.past_any q.1 q.2 (ls k) t wr (uh HRow wr (uh HO).kp) (by have:=uh HL k;omega))
   have HLk:=hide (qPw ls k t)
   have HLN:=hide (qKj ls k t (uh HL))
   obtain⟨l,hl⟩:∃l,ls k=l:=⟨_,rfl⟩
   have HRl:=hide (uh HR k)
   have hlk:=uh HL k
   rw[hl]at HRl HP HRow HLk hlk
   have hple:=Mk.pastN_le l t
   obtain⟨len,hlen⟩:∃len,l.length=len:=⟨_,rfl⟩
   obtain⟨p,hp⟩:∃p,Mk.pastN l t=p:=⟨_,rfl⟩
   have HSR:=hide (show zEk l t=((len-p:Nat):Int)::qEw (l.drop p) by unfold zEk;rw[hp,hlen])
   rw[hp]at HP hple
   rw[hlen]at hple hlk
   have HLE:=hide hlen
   obtain⟨r,hr⟩:∃r:Nat,len-p=r:=⟨_,rfl⟩
   have hrI:(len:Int)-(p:Int)=(r:Int):=by omega
   have hwr1:IntKind.i64.wrap ((len:Int)-(p:Int))=(r:Int):=by rw[IntKind.wrap_i64];omega
   rw[hr]at HSR
   clear hl hlen hp hq' hkq HDr
   go_wp2_with fail
   refine(uh HP).mono ?_
   rintro e W1 ⟨rfl,hk1⟩
   have HO1:=hide ((uh HO).still hk1)
   clear hk1 cr c5 HP
   go_wp2_with (go_at_call 211;refine(Mk.rowLen_int q.1 q.2 l len _ (uh HRow _ (uh HO1).kp) (by rw[uh HLE])).mono ?_;rintro e w' ⟨rfl,hw'⟩;rw[hw'];clear hw' w')
   have hlb:(bs++qC4 (qVh ls k t)).length<=140737488320000:=by
    have h1:=qAw (qVh ls k t)
    have h2:=uh HLN
    rw[List.length_append];omega
   refine(qBv b v _ r w W1 (uh HO1) (by omega) (by omega) (by omega)).mono ?_
   rintro e W2 ⟨rfl,hw2⟩
   have HO2:=hide hw2
   clear hw2 HO1 HO
   go_wp2_with fail
   go_loopw [9] (λi wr=>∃(j:Nat),i=.int .i64 ((p+j:Nat):Int)/\j<=r/\Hid (Wrote w b v (bs++qC4 (qVh ls k t)++enc r++qC4 (qEw ((l.drop p).take j))) wr)) (λi _=>len-(intOf i).toNat)
   case atStart=>exact⟨0,rfl,Nat.zero_le _,by show Wrote _ _ _ _ _;simp only[List.take_zero,qEw,List.flatMap_nil,qC8,List.append_nil];exact uh HO2⟩
   case round =>
    obtain⟨j,rfl,hj,HOr⟩:=hrel
    obtain⟨pj,hpj⟩:∃pj,p+j=pj:=⟨_,rfl⟩
    rw[hpj]
    by_cases hjr:j<r
    ·have hpl:pj<len:=by omega
     have hplI:(pj:Int)<(len:Int):=by omega
     have hpl2:pj<l.length:=by rw[uh HLE];exact hpl
     obtain⟨x,hx⟩:∃x,qCc l pj=x:=⟨_,rfl⟩
     have HX:=hide hx
     have HNX:=hide (qWv l p j x (by rw[hpj];exact hpl2) (by rw[hpj];exact hx))
     obtain⟨x0,x1,x2,x3⟩:=uh HRl x (by rw[<-hx];exact zBs hpl2)
     have HPL:=hide hpl2
     have hlb2:(bs++qC4 (qVh ls k t)++enc r++qC4 (qEw ((l.drop p).take j))).length<=140737488330000:=by
      have h1:=qAw (qEw ((l.drop p).take j))
      have h2:=qBk r
      rw[qH7,List.length_take,List.length_drop,uh HLE]at h1
      rw[List.length_append,List.length_append]
      omega
     clear hx hpl2
     go_wp2_with (first
        | (go_at_call 211;refine(Mk.rowLen_int q.1 q.2 l len _ (uh HRow _ (uh HOr).kp) (by rw[uh HLE])).mono ?_;rintro e w' ⟨rfl,hw'⟩;rw[hw'];clear hw' w')
        | (go_at_call 212;fail))
     refine(Mk.rowAt_is q.1 q.2 l pj x _ (uh HRow _ (uh HOr).kp) (uh HPL) (uh HX)).mono ?_
     rintro e W3 ⟨rfl,hk3⟩
     have HO3:=hide ((uh HOr).still hk3)
     clear hk3
     go_wp2_with fail
     refine(qBv b v _ x.sz w W3 (uh HO3) (by omega) (by omega) (by omega)).mono ?_
     rintro e W4 ⟨rfl,hw4⟩
     have HO4:=hide hw4
     clear hw4 HO3
     go_wp2_with fail
     refine(Mk.rowAt_is q.1 q.2 l pj x _ (uh HRow _ (uh HO4).kp) (uh HPL) (uh HX)).mono ?_
     rintro e W5 ⟨rfl,hk5⟩
     have HO5:=hide ((uh HO4).still hk5)
     clear hk5 HO4
     go_wp2_with fail
     refine(qBv b v _ x.t w W5 (uh HO5) (by omega) (by omega) (by have:=qBk x.sz;rw[List.length_append];omega)).mono ?_
     rintro e W6 ⟨rfl,hw6⟩
     have HO6:=hide hw6
     clear hw6 HO5
     go_wp2
     go_roundw
     case rel =>
      refine⟨j+1,by go_num,by omega,?_⟩
      show Wrote _ _ _ _ _
      have:=uh HO6
      rw[uh HNX,qAx,qB3,qCy]
      simp only[List.append_assoc]at this ⊢
      exact this
     case measure=>simp[intOf];omega
    ·have hjE:j=r:=by omega
     have hpl:pj=len:=by omega
     clear hpj
     subst hpl
     have hf:decide ((pj:Int)<(pj:Int))=false:=by simp
     go_wp2_with (go_at_call 211;refine(Mk.rowLen_int q.1 q.2 l pj _ (uh HRow _ (uh HOr).kp) (by rw[uh HLE])).mono ?_;rintro e w' ⟨rfl,hw'⟩;rw[hw'];clear hw' w')
     go_roundw
     case rel =>
      refine⟨k+1,by go_num,by omega,?_⟩
      show Wrote _ _ _ _ _
      have:=uh HOr
      rw[uh HLk,uh HSR,qAx,qB3]
      rw[List.take_of_length_le (by rw[List.length_drop,uh HLE];omega)]at this
      simp only[List.append_assoc]at this ⊢
      exact this
     case measure=>simp[intOf];omega
  ·have hkE:k=n:=by omega
   subst hkE
   go_wp2
   go_end0
   exact⟨rfl,uh HO⟩
end
section
open Go.RowKit
attribute [local go_sem ↓] Pa.execOp_loadP Pa.execOp_storeP qDu qDa qDb qEl
attribute [local go_sem] Pa.run_loadP qFc qEm qEn qA9 qAc qAb qG4 qFb
def qVg(wd:Nat)(cs:List Int)(r:Nat): List Int:=(List.range wd).map λj=>cs.getD (r*16+j) 0
def qGf(rs wd:Nat)(cs:List Int): List Int:=(List.range rs).flatMap (qVg wd cs)
def qT2(c:Cfg)(p:Pa.Pn): List Int:=p.no::qGf c.rows.toNat c.width.toNat p.cs
def qD0(c:Cfg)(l:List Pa.Pn): List Int:=l.flatMap (qT2 c)
def savO(c:Cfg)(o:Pa.Pn)(cl:List Pa.Pn)(t:Int): List Int:=((qC0 c o cl t).length:Int)::qD0 c (qC0 c o cl t)
theorem qY7(wd:Nat)(cs:List Int)(r:Nat): qVg (wd+1) cs r=qVg wd cs r++[cs.getD (r*16+wd) 0]:=by simp[qVg,List.range_succ]
theorem qKp(rs wd:Nat)(cs:List Int): qGf (rs+1) wd cs=qGf rs wd cs++qVg wd cs rs:=by simp[qGf,List.range_succ]
theorem qLe(wd:Nat)(cs:List Int)(r:Nat): (qVg wd cs r).length=wd:=by simp[qVg]
theorem qH3(rs wd:Nat)(cs:List Int): (qGf rs wd cs).length=rs*wd:=by
 induction rs with
 | zero=>simp[qGf]
 | succ n ih=>rw[qKp,List.length_append,qLe,ih,Nat.succ_mul]
theorem qNx(c:Cfg)(a b:List Pa.Pn): qD0 c (a++b)=qD0 c a++qD0 c b:=by simp[qD0]
theorem qQf(c:Cfg)(p:Pa.Pn)(h3:c.rows.toNat<=3)(h16:c.width.toNat<=16): (qT2 c p).length<=49:=by
 unfold qT2
 rw[List.length_cons,qH3]
 have:=Nat.mul_le_mul h3 h16
 omega
theorem qIk(c:Cfg)(l:List Pa.Pn)(h3:c.rows.toNat<=3)(h16:c.width.toNat<=16): (qD0 c l).length<=49*l.length:=by
 induction l with
 | nil=>simp[qD0]
 | cons p l ih =>
  have h1:=qQf c p h3 h16
  have e:qD0 c (p::l)=qT2 c p++qD0 c l:=by simp[qD0]
  rw[e,List.length_append,List.length_cons];omega
theorem qS2(c:Cfg)(L:List Pa.Pn)(k:Nat)(h:k<L.length): qD0 c (L.take (k+1))=qD0 c (L.take k)++qT2 c (Pa.pnAt L k):=by
 rw[List.take_succ_eq_append_getElem h,qNx]
 congr 1
 simp[qD0,Pa.pnAt,List.getD_eq_getElem?_getD,List.getElem?_eq_getElem h]
theorem qTp(d q:Nat)(og:Option Nat)(c:Cfg)(o:Pa.Pn)(cl:List Pa.Pn)(b:Nat)(v:Value)(bs:List Nat)(m:Int)(w:World)(h:ORep w d q og c o cl)(hw:WRep w b v bs)(hfd:¬qB2 b v d)(hc:c.paned)(hl:cl.length<=1000)(hp:∀p∈cl,OkP c p)(ho:OkP c o)(hcs:∀x∈o.cs,0<=x/\x<=4611686018427387904)(hls:∀p∈cl,∀x∈p.cs,0<=x/\x<=4611686018427387904)(r0:0<=c.rows)(r3:c.rows<=3)(wd0:0<=c.width)(wd1:c.width<=16)(m0:-100<=m)(m1:m<=4611686018427387904)(hbl:bs.length<=140737480000000):
  Calls Tryz.prog 174 #[.pointer (some ⟨d,0,none⟩),.pointer (some ⟨b,0,none⟩),.int .i64 m] w λe w'=>e=.returned (.tuple #[])/\Wrote w b v (bs++qC4 (savO c o cl (m-c.window))) w':=by
 have c5:w.cell? ⟨d,5,none⟩=some (.int .i64 c.window):=h.blk.cell (by rw[qBr c o q 5 (by omega)];rfl)
 have c7:w.cell? ⟨d,7,none⟩=some (.int .i64 c.rows):=h.blk.cell (by rw[qBr c o q 7 (by omega)];rfl)
 have c8:w.cell? ⟨d,8,none⟩=some (.int .i64 c.width):=h.blk.cell (by rw[qBr c o q 8 (by omega)];rfl)
 have hdl:=h.blk.lt
 have hw0:=hc.w0
 have hw1:=hc.w1
 obtain⟨t,ht⟩:∃t,m-c.window=t:=⟨_,rfl⟩
 have hsub:IntKind.i64.wrap (m-c.window)=t:=by rw[IntKind.wrap_i64];omega
 rw[ht]
 have HPN:=hide (qQw d q og c o cl t w h hc hl hp ho)
 have HSO:=hide (show savO c o cl t=((qC0 c o cl t).length:Int)::qD0 c (qC0 c o cl t) from rfl)
 have HPL:=hide (show(qC0 c o cl t).length<=1001 by
    unfold qC0
    rw[List.length_append,List.length_drop]
    split <;> simp <;> omega)
 have HLS:=hide (show ∀p∈qC0 c o cl t,OkP c p/\∀x∈p.cs,0<=x/\x<=4611686018427387904 from λp hp'=>by
    unfold qC0 at hp'
    rcases List.mem_append.1 hp' with h1 | h1
    ·exact⟨hp p (List.mem_of_mem_drop h1),hls p (List.mem_of_mem_drop h1)⟩
    ·split at h1
     ·rw[List.mem_singleton]at h1;rw[h1];exact⟨ho,hcs⟩
     ·cases h1)
 generalize qC0 c o cl t=L at *
 have HW:=hide hw
 have HFD:=hide hfd
 have HTN:=hide ht
 obtain⟨rs,hrs⟩:∃rs:Nat,c.rows=rs:=⟨c.rows.toNat,by omega⟩
 obtain⟨wd,hwd⟩:∃wd:Nat,c.width=wd:=⟨c.width.toNat,by omega⟩
 have HPA:=hide (show ∀p,qT2 c p=p.no::qGf rs wd p.cs from λp=>by unfold qT2;rw[hrs,hwd];rfl)
 have HR3:=hide (show c.rows.toNat<=3/\c.width.toNat<=16 by omega)
 rw[hrs]at c7 r3
 rw[hwd]at c8 wd1
 clear hc hp ho hcs hls h hl hw hfd ht hrs hwd r0 wd0
 have hrs3:rs<=3:=by omega
 have hwd16:wd<=16:=by omega
 go_enter Tryz.func174,Tryz.ntmps174
 go_wp2_with fail
 refine(uh HPN).mono ?_
 rintro e W1 ⟨pv,rfl,hown1,hk1⟩
 obtain⟨va,vcap,hv,hva⟩:=qB7 hown1
 subst hv
 have HLT:=hide (uh HW).lt
 have HW1:=hide (Wrote.refl ((uh HW).still hk1))
 have HK1:=hide hk1
 have HOW:=hide hown1
 have HVA:=hide hva
 have d7:W1.cell? ⟨d,7,none⟩=some (.int .i64 rs):=hk1.cell c7 (λh=>h)
 have d8:W1.cell? ⟨d,8,none⟩=some (.int .i64 wd):=hk1.cell c8 (λh=>h)
 have hdl1:d<W1.heap.size:=Nat.lt_of_lt_of_le hdl hk1.size
 have HSZ:=hide hk1.size
 have HD7:=hide d7
 have HD8:=hide d8
 clear hk1 HPN hown1 hva c5 c7 c8 d7 d8 hdl hsub
 generalize hn:L.length=n at *
 have HN:=hide hn
 clear hn
 have hn1:n<=1001:=uh HPL
 go_wp2_with fail
 refine(qBv b v bs n W1 W1 (uh HW1) (by omega) (by omega) (by omega)).mono ?_
 rintro e W2 ⟨rfl,hw2⟩
 have HO2:=hide hw2
 clear hw2 HW1
 have hlen0:(bs++enc (n:Int)).length<=140737480000010:=by have:=qBk (n:Int);rw[List.length_append];omega
 obtain⟨bs0,hbs0⟩:∃bs0,bs++enc (n:Int)=bs0:=⟨_,rfl⟩
 rw[hbs0]at hlen0 HO2
 have HB0:=hide hbs0
 clear hbs0
 go_wp2_with fail
 go_loopw [26] (λi wr=>∃k:Nat,i=.int .i64 k/\k<=n/\Hid (Wrote W1 b v (bs0++qC4 (qD0 c (L.take k))) wr)) (λi _=>n-(intOf i).toNat)
 case atStart=>exact⟨0,rfl,Nat.zero_le _,by show Wrote _ _ _ _ _;simp only[List.take_zero,qD0,List.flatMap_nil,qC8,List.append_nil];exact uh HO2⟩
 case round =>
  obtain⟨k,rfl,hk2,HO⟩:=hrel
  have hk0:(0:Int)<=(k:Int):=by omega
  by_cases hlk:k<n
  ·obtain⟨g,hg,hgb⟩:=uh HVA (by omega)
   subst hg
   have hkl:k<L.length:=by rw[uh HN];exact hlk
   obtain⟨v',hwr,hvr,hkr⟩:=uh HO
   have HBW:=hide (show Pa.BRow wr g vcap L from by
      refine Pa.brow_of_owns (uh HN) (qP4 (qL4 (uh HOW) hkr (λi hi h=>?_)))
      have:g=i:=by simpa[Value.ownBlock] using hi
      have:=uh HLT i h
      omega)
   have hrg:=qAo ((uh HBW).range k hkl)
   rw[Pa.Pn.cells_length]at hrg
   have hbv:qAp wr g (k*49) 49=.agg (Pa.pnAt L k).cells.toArray:=by unfold qAp;rw[hrg.1]
   have hbh:qAu wr g (k*49) 49=true:=hrg.2
   have HTK:=hide (qS2 c L k hkl)
   have HM:=hide (uh HLS (Pa.pnAt L k) (by
        have:Pa.pnAt L k=L[k]:=by simp[Pa.pnAt,List.getD_eq_getElem?_getD,List.getElem?_eq_getElem hkl]
        rw[this];exact List.getElem_mem hkl))
   have HLK:=hide (show(bs0++qC4 (qD0 c (L.take k))).length<=140737481000000 by
      have h1:=qAw (qD0 c (L.take k))
      have h2:=qIk c (L.take k) (uh HR3).1 (uh HR3).2
      rw[List.length_take]at h2
      rw[List.length_append]
      omega)
   obtain⟨bk,hbk⟩:∃bk,bs0++qC4 (qD0 c (L.take k))=bk:=⟨_,rfl⟩
   rw[hbk]at HLK hwr
   have HBK:=hide hbk
   have HWr:=hide hwr
   have HVr:=hide hvr
   have HKr:=hide hkr
   have HLTr:=hide hwr.lt
   clear hrg hkl hbk hwr hvr hkr HO
   generalize Pa.pnAt L k=x at *
   obtain⟨W2,hst,hb2,hk2w⟩:=qKx x wr
   have HB2:=hide hb2
   have hxl:=x.len
   have hxc:=x.cells_length
   have HKa:=hide hk2w
   have HWa:=hide ((uh HWr).still hk2w)
   have HNF:=hide (show ¬qB2 b v' wr.heap.size from λhf=>by have:=uh HLTr _ hf;omega)
   have HNFd:=hide (qEx (uh HFD) (uh HVr) hdl1)
   have hgs:g≠wr.heap.size:=by have:=(uh HBW).lt;omega
   have hin:(k:Int)<(n:Int):=by omega
   have hno:W2.cell? ⟨wr.heap.size,0,none⟩=some (.int .i64 x.no):=hb2.cell rfl
   have HC7:=hide (show ∀w',Keeps (qB2 b v') W2 w'->w'.cell? ⟨d,7,none⟩=some (.int .i64 rs) from λw' hk'=>hk'.cell (hk2w.cell ((uh HKr).cell (uh HD7) (uh HFD)) (λh=>h)) (uh HNFd))
   have HC8:=hide (show ∀w',Keeps (qB2 b v') W2 w'->w'.cell? ⟨d,8,none⟩=some (.int .i64 wd) from λw' hk'=>hk'.cell (hk2w.cell ((uh HKr).cell (uh HD8) (uh HFD)) (λh=>h)) (uh HNFd))
   have hno0:=(uh HM).1.1
   have hno1:=(uh HM).1.2.1
   have HXB:=hide (uh HM).2
   have hbk1:=uh HLK
   clear hb2 hk2w
   go_wp2_with fail
   refine(qDc b v' bk x.no W2 (uh HWa) hno0 (by omega) (by omega)).mono ?_
   rintro e W3 ⟨rfl,hw3⟩
   have HO3:=hide hw3
   clear hw3 hno hbv hbh hst
   have e7:W3.cell? ⟨d,7,none⟩=some (.int .i64 rs):=uh HC7 W3 (uh HO3).kp
   go_wp2_with fail
   clear e7
   generalize hxb:wr.heap.size=xb at *
   obtain⟨wo,hwo⟩:∃wo,wo=wr:=⟨_,rfl⟩
   rw[<-hwo]at HKa HKr HBW
   clear hwo hxb HWr HLTr
   go_loopw [39] (λi wr=>∃r:Nat,i=.int .i64 r/\r<=rs/\Hid (Wrote W2 b v' (bk++enc x.no++qC4 (qGf r wd x.cs)) wr)) (λi _=>rs-(intOf i).toNat)
   case atStart=>exact⟨0,rfl,Nat.zero_le _,by show Wrote _ _ _ _ _;simp only[qGf,List.range_zero,List.flatMap_nil,qC8,List.append_nil];exact uh HO3⟩
   case round =>
    obtain⟨r,rfl,hr2,HOr⟩:=hrel
    have hr0:(0:Int)<=(r:Int):=by omega
    by_cases hrl:r<rs
    ·have hrI:(r:Int)<(rs:Int):=by omega
     have hr3:(r:Int)<3:=by omega
     have e8:wr.cell? ⟨d,8,none⟩=some (.int .i64 wd):=uh HC8 wr (uh HOr).kp
     obtain⟨bk2,hbk2⟩:∃bk2,bk++enc x.no++qC4 (qGf r wd x.cs)=bk2:=⟨_,rfl⟩
     have hbl2:bk2.length<=140737481001000:=by
      have h1:=qAw (qGf r wd x.cs)
      have h2:=qBk x.no
      rw[qH3]at h1
      have:=Nat.mul_le_mul (show r<=3 by omega) hwd16
      rw[<-hbk2,List.length_append,List.length_append];omega
     rw[hbk2]at HOr
     have HBK2:=hide hbk2
     clear hbk2
     go_wp2_with fail
     clear e8
     obtain⟨wp,hwp⟩:∃wp,wp=wr:=⟨_,rfl⟩
     clear hwp
     go_loopw [47] (λi wr=>∃j:Nat,i=.int .i64 j/\j<=wd/\Hid (Wrote W2 b v' (bk2++qC4 (qVg j x.cs r)) wr)) (λi _=>wd-(intOf i).toNat)
     case atStart=>exact⟨0,rfl,Nat.zero_le _,by show Wrote _ _ _ _ _;simp only[qVg,List.range_zero,List.map_nil,qC8,List.append_nil];exact uh HOr⟩
     case round =>
      obtain⟨j,rfl,hj2,HOj⟩:=hrel
      have hj0:(0:Int)<=(j:Int):=by omega
      by_cases hjl:j<wd
      ·have hjI:(j:Int)<(wd:Int):=by omega
       have hj16:(j:Int)<16:=by omega
       have hil:r*16+j<x.cs.length:=by omega
       obtain⟨y,hy⟩:∃y,x.cs.getD (r*16+j) 0=y:=⟨_,rfl⟩
       have hy2:x.cs[r*16+j]?=some y:=by rw[<-hy,List.getD_eq_getElem?_getD,List.getElem?_eq_getElem hil];rfl
       obtain⟨y0,y1⟩:=uh HXB y (List.mem_of_getElem? hy2)
       have hcy:wr.cell? ⟨xb,1+r*16+j,none⟩=some (.int .i64 y):=(uh HOj).kp.cell ((uh HB2).cell (by
            unfold Pa.Pn.cells
            rw[show 1+r*16+j=(r*16+j)+1 by omega,List.getElem?_cons_succ,List.getElem?_map,hy2]
            rfl)) (uh HNF)
       have HNX:=hide (show qVg (j+1) x.cs r=qVg j x.cs r++[y] by rw[qY7,hy])
       have hbl3:(bk2++qC4 (qVg j x.cs r)).length<=140737481002000:=by
        have h1:=qAw (qVg j x.cs r)
        rw[qLe]at h1
        rw[List.length_append];omega
       clear hy hy2 hil
       go_wp2_with fail
       refine(qBv b v' _ y W2 wr (uh HOj) y0 (by omega) (by omega)).mono ?_
       rintro e W5 ⟨rfl,hw5⟩
       have HO5:=hide hw5
       clear hw5 hcy
       go_wp2
       go_roundw
       case rel =>
        refine⟨j+1,by go_num,by omega,?_⟩
        show Wrote _ _ _ _ _
        have:=uh HO5
        rw[uh HNX,qAx,qCy]
        simp only[List.append_assoc]at this ⊢
        exact this
       case measure=>simp[intOf];omega
      ·have hjE:j=wd:=by omega
       subst hjE
       go_wp2
       go_roundw
       case rel =>
        refine⟨r+1,by go_num,by omega,?_⟩
        show Wrote _ _ _ _ _
        have:=uh HOj
        rw[<-uh HBK2]at this
        rw[qKp,qAx]
        simp only[List.append_assoc]at this ⊢
        exact this
       case measure=>simp[intOf];omega
    ·have hrE:r=rs:=by omega
     subst hrE
     go_wp2
     go_roundw
     case rel =>
      refine⟨k+1,by go_num,by omega,?_⟩
      show Wrote _ _ _ _ _
      have h5:=Wrote.then (uh HVr) (uh HKr) (Wrote.pre (uh HKa) (uh HOr))
      rw[uh HTK,qAx,uh HPA,qB3]
      rw[<-uh HBK]at h5
      simp only[List.append_assoc]at h5 ⊢
      exact h5
     case measure=>simp[intOf];omega
  ·have hkE:k=n:=by omega
   subst hkE
   go_wp2
   go_end0
   refine⟨rfl,Wrote.pre (uh HK1) ?_⟩
   have h5:=uh HO
   rw[List.take_of_length_le (by rw[uh HN];omega),<-uh HB0]at h5
   rw[uh HSO,qB3,<-List.append_assoc]
   exact h5
end
section
open Go.RowKit
theorem qFz(i:Nat)(h:i<256): Lib.len8 (i:Int)=(bitLen i:Int):=by
 have:∀i:Fin 256,Lib.len8 ((i.val:Nat):Int)=(bitLen i.val:Int):=by decide +kernel
 exact this ⟨i,h⟩
theorem qGd(i:Nat)(h:i<256): 0<=Lib.len8 (i:Int)/\Lib.len8 (i:Int)<=8:=by
 rw[qFz i h];have:=bitLen_le8 i h;omega
theorem qW5(x:Nat)(w:World)(hx:x<9223372036854775808):
  Calls Tryz.prog 241 #[.int .u64 x] w λe w'=>e=.returned (.int .i64 (bitLen x))/\w'=w:=by
 by_cases h0:4294967296<=x
 ·have d0:decide ((4294967296:Int)<=(x:Int))=true:=by simp;omega
  have s0:=bitLen_shift x 32 (by omega)
  obtain⟨y,hy⟩:∃y,x/4294967296=y:=⟨_,rfl⟩
  have e0:(x:Int)/4294967296=(y:Int):=by omega
  rw[show x/2 ^ 32=y from hy]at s0
  have b0:y<2147483648:=by omega
  by_cases h1:65536<=y
  ·have d1:decide ((65536:Int)<=(y:Int))=true:=by simp;omega
   have s1:=bitLen_shift y 16 (by omega)
   obtain⟨z,hz⟩:∃z,y/65536=z:=⟨_,rfl⟩
   have e1:(y:Int)/65536=(z:Int):=by omega
   rw[show y/2 ^ 16=z from hz]at s1
   have b1:z<32768:=by omega
   by_cases h2:256<=z
   ·have d2:decide ((256:Int)<=(z:Int))=true:=by simp;omega
    have s2:=bitLen_shift z 8 (by omega)
    obtain⟨u,hu⟩:∃u,z/256=u:=⟨_,rfl⟩
    have e2:(z:Int)/256=(u:Int):=by omega
    rw[show z/2 ^ 8=u from hu]at s2
    have b2:u<128:=by omega
    have u0:(0:Int)<=(u:Int):=by omega
    have u1:(u:Int)<=255:=by omega
    have w8:IntKind.u8.wrap (u:Int)=(u:Int):=by rw[IntKind.wrap_u8'];omega
    obtain⟨l0,l8⟩:=qGd u (by omega)
    have HF:=hide (show(bitLen x:Int)=56+Lib.len8 (u:Int) by rw[s0,s1,s2,qFz u (by omega)];omega)
    go_enter Tryz.func241,Tryz.ntmps241
    go_wp2
    go_ret
    exact⟨qA7 (by rw[uh HF];try omega),rfl⟩
   ·have d2:decide ((256:Int)<=(z:Int))=false:=by simp;omega
    have u0:(0:Int)<=(z:Int):=by omega
    have u1:(z:Int)<=255:=by omega
    have w8:IntKind.u8.wrap (z:Int)=(z:Int):=by rw[IntKind.wrap_u8'];omega
    obtain⟨l0,l8⟩:=qGd z (by omega)
    have HF:=hide (show(bitLen x:Int)=48+Lib.len8 (z:Int) by rw[s0,s1,qFz z (by omega)];omega)
    go_enter Tryz.func241,Tryz.ntmps241
    go_wp2
    go_ret
    exact⟨qA7 (by rw[uh HF];try omega),rfl⟩
  ·have d1:decide ((65536:Int)<=(y:Int))=false:=by simp;omega
   by_cases h2:256<=y
   ·have d2:decide ((256:Int)<=(y:Int))=true:=by simp;omega
    have s2:=bitLen_shift y 8 (by omega)
    obtain⟨u,hu⟩:∃u,y/256=u:=⟨_,rfl⟩
    have e2:(y:Int)/256=(u:Int):=by omega
    rw[show y/2 ^ 8=u from hu]at s2
    have b2:u<18446744073709551616:=by omega
    have u0:(0:Int)<=(u:Int):=by omega
    have u1:(u:Int)<=255:=by omega
    have w8:IntKind.u8.wrap (u:Int)=(u:Int):=by rw[IntKind.wrap_u8'];omega
    obtain⟨l0,l8⟩:=qGd u (by omega)
    have HF:=hide (show(bitLen x:Int)=40+Lib.len8 (u:Int) by rw[s0,s2,qFz u (by omega)];omega)
    go_enter Tryz.func241,Tryz.ntmps241
    go_wp2
    go_ret
    exact⟨qA7 (by rw[uh HF];try omega),rfl⟩
   ·have d2:decide ((256:Int)<=(y:Int))=false:=by simp;omega
    have u0:(0:Int)<=(y:Int):=by omega
    have u1:(y:Int)<=255:=by omega
    have w8:IntKind.u8.wrap (y:Int)=(y:Int):=by rw[IntKind.wrap_u8'];omega
    obtain⟨l0,l8⟩:=qGd y (by omega)
    have HF:=hide (show(bitLen x:Int)=32+Lib.len8 (y:Int) by rw[s0,qFz y (by omega)];omega)
    go_enter Tryz.func241,Tryz.ntmps241
    go_wp2
    go_ret
    exact⟨qA7 (by rw[uh HF];try omega),rfl⟩
 ·have d0:decide ((4294967296:Int)<=(x:Int))=false:=by simp;omega
  by_cases h1:65536<=x
  ·have d1:decide ((65536:Int)<=(x:Int))=true:=by simp;omega
   have s1:=bitLen_shift x 16 (by omega)
   obtain⟨z,hz⟩:∃z,x/65536=z:=⟨_,rfl⟩
   have e1:(x:Int)/65536=(z:Int):=by omega
   rw[show x/2 ^ 16=z from hz]at s1
   have b1:z<18446744073709551616:=by omega
   by_cases h2:256<=z
   ·have d2:decide ((256:Int)<=(z:Int))=true:=by simp;omega
    have s2:=bitLen_shift z 8 (by omega)
    obtain⟨u,hu⟩:∃u,z/256=u:=⟨_,rfl⟩
    have e2:(z:Int)/256=(u:Int):=by omega
    rw[show z/2 ^ 8=u from hu]at s2
    have b2:u<18446744073709551616:=by omega
    have u0:(0:Int)<=(u:Int):=by omega
    have u1:(u:Int)<=255:=by omega
    have w8:IntKind.u8.wrap (u:Int)=(u:Int):=by rw[IntKind.wrap_u8'];omega
    obtain⟨l0,l8⟩:=qGd u (by omega)
    have HF:=hide (show(bitLen x:Int)=24+Lib.len8 (u:Int) by rw[s1,s2,qFz u (by omega)];omega)
    go_enter Tryz.func241,Tryz.ntmps241
    go_wp2
    go_ret
    exact⟨qA7 (by rw[uh HF];try omega),rfl⟩
   ·have d2:decide ((256:Int)<=(z:Int))=false:=by simp;omega
    have u0:(0:Int)<=(z:Int):=by omega
    have u1:(z:Int)<=255:=by omega
    have w8:IntKind.u8.wrap (z:Int)=(z:Int):=by rw[IntKind.wrap_u8'];omega
    obtain⟨l0,l8⟩:=qGd z (by omega)
    have HF:=hide (show(bitLen x:Int)=16+Lib.len8 (z:Int) by rw[s1,qFz z (by omega)];omega)
    go_enter Tryz.func241,Tryz.ntmps241
    go_wp2
    go_ret
    exact⟨qA7 (by rw[uh HF];try omega),rfl⟩
  ·have d1:decide ((65536:Int)<=(x:Int))=false:=by simp;omega
   by_cases h2:256<=x
   ·have d2:decide ((256:Int)<=(x:Int))=true:=by simp;omega
    have s2:=bitLen_shift x 8 (by omega)
    obtain⟨u,hu⟩:∃u,x/256=u:=⟨_,rfl⟩
    have e2:(x:Int)/256=(u:Int):=by omega
    rw[show x/2 ^ 8=u from hu]at s2
    have b2:u<18446744073709551616:=by omega
    have u0:(0:Int)<=(u:Int):=by omega
    have u1:(u:Int)<=255:=by omega
    have w8:IntKind.u8.wrap (u:Int)=(u:Int):=by rw[IntKind.wrap_u8'];omega
    obtain⟨l0,l8⟩:=qGd u (by omega)
    have HF:=hide (show(bitLen x:Int)=8+Lib.len8 (u:Int) by rw[s2,qFz u (by omega)];omega)
    go_enter Tryz.func241,Tryz.ntmps241
    go_wp2
    go_ret
    exact⟨qA7 (by rw[uh HF];try omega),rfl⟩
   ·have d2:decide ((256:Int)<=(x:Int))=false:=by simp;omega
    have u0:(0:Int)<=(x:Int):=by omega
    have u1:(x:Int)<=255:=by omega
    have w8:IntKind.u8.wrap (x:Int)=(x:Int):=by rw[IntKind.wrap_u8'];omega
    obtain⟨l0,l8⟩:=qGd x (by omega)
    have HF:=hide (show(bitLen x:Int)=0+Lib.len8 (x:Int) by rw[qFz x (by omega)];omega)
    go_enter Tryz.func241,Tryz.ntmps241
    go_wp2
    go_ret
    exact⟨qA7 (by rw[uh HF];try omega),rfl⟩
theorem qSo(x:Nat)(w:World)(hx:x<9223372036854775808):
  Calls Tryz.prog 201 #[.int .u64 x] w λe w'=>e=.returned (.int .i64 (bitLen x))/\w'=w:=by
 have HL:=hide (qW5 x w hx)
 go_enter Tryz.func201,Tryz.ntmps201
 go_wp2_with fail
 refine(uh HL).mono ?_
 rintro e w' ⟨rfl,rfl⟩
 go_wp2
 go_ret
 exact⟨rfl,rfl⟩
end
section
open Go.RowKit
def qXc(v:Value): Sem Next:=do pure (.value (<-Instr.field 211 v 1))
theorem qL7(ρ:Operand->Value)(dst:Option Tmp)(x:Operand)(ty:TypeId)(pos:String)(after:Array Edge)(guard:Option (Nat×Bool)):
  execOp ρ { dst,op:=.field 211 x 1,type:=ty,pos,after,guard }=qXc (ρ x):=rfl
theorem qSq(a b:Value)(w:World): (qXc (.agg #[a,b])).run Tryz.prog w=.ok (.value b) w:=by kernel_rfl
attribute [local go_sem ↓] qEe qL7
attribute [local go_sem] qFq qSq
def qL0(l:List Bk)(sz:Int)(s:Nat): Nat:=s+((l.drop s).takeWhile (λb=>decide (b.sz=sz))).length
theorem qW4(l:List Bk)(sz:Int)(s:Nat)(h:s<=l.length): s<=qL0 l sz s/\qL0 l sz s<=l.length:=by
 unfold qL0
 have:=(List.takeWhile_prefix (l:=l.drop s) (λb=>decide (b.sz=sz))).length_le
 rw[List.length_drop]at this
 omega
theorem qNd(l:List Bk)(i:Nat)(h:i<l.length): l.drop i=qCc l i::l.drop (i+1):=by
 rw[List.drop_eq_getElem_cons h]
 simp[qCc,List.getD_eq_getElem?_getD,List.getElem?_eq_getElem h]
theorem zAg(l:List Bk)(sz:Int)(s:Nat)(h:s<l.length)(he:(qCc l s).sz=sz): qL0 l sz s=qL0 l sz (s+1):=by
 unfold qL0
 rw[qNd l s h,List.takeWhile_cons_of_pos (by simpa using he),List.length_cons]
 omega
theorem zC6(l:List Bk)(sz:Int)(s:Nat)(h:s<l.length)(he:(qCc l s).sz≠sz): qL0 l sz s=s:=by
 unfold qL0
 rw[qNd l s h,List.takeWhile_cons_of_neg (by simpa using he)]
 rfl
theorem zBq(l:List Bk)(sz:Int): qL0 l sz l.length=l.length:=by
 unfold qL0
 rw[List.drop_length]
 rfl
theorem qXg(d r:Nat)(og:Option Nat)(c:Cfg)(l:List Bk)(sz:Int)(s:Nat)(w:World)(h:CRep w d r og c l)(hl:l.length<=4398046511104)(hs:s<=l.length):
  Calls Tryz.prog 203 #[.pointer (some ⟨d,0,none⟩),.int .i64 sz,.int .i64 s] w λr w'=>r=.returned (.int .i64 (qL0 l sz s))/\Keeps (λ_=>False) w w':=by
 have HR:=hide h
 clear h
 obtain⟨n,hn⟩:∃n,l.length=n:=⟨_,rfl⟩
 rw[hn]at hl hs
 have HN:=hide hn
 clear hn
 go_enter Tryz.func203,Tryz.ntmps203
 go_wp2
 go_loopw [7] (λx wr=>∃k:Nat,x=.int .i64 k/\k<=n/\Hid (Keeps (λ_=>False) w wr)/\Hid (qL0 l sz s=qL0 l sz k)) (λx _=>n-(intOf x).toNat)
 case atStart=>exact⟨s,rfl,hs,Keeps.refl _ _,rfl⟩
 case round =>
  obtain⟨k,rfl,hk,HK,HE⟩:=hrel
  have HC:=hide ((uh HR).still (uh HK))
  have hc20:wr.cell? ⟨d,20,none⟩=some (.pointer (some ⟨r,0,none⟩)):=(uh HC).blk.cell rfl
  have HLen:=hide (show Calls Tryz.prog 200 #[.pointer (some ⟨r,0,none⟩)] wr λe w'=>e=.returned (.int .i64 n)/\w'=wr by
     have:=rowLen_any r og l wr (uh HC).row
     rw[uh HN]at this
     exact this)
  by_cases hlk:k<n
  ·have hkl:k<l.length:=by rw[uh HN];exact hlk
   have hlt:(k:Int)<(n:Int):=by omega
   have HAt:=hide (qD3 r og l k wr (uh HC).row hkl)
   have HY:=hide (zAg l sz k hkl)
   have HNo:=hide (zC6 l sz k hkl)
   clear hkl
   generalize qCc l k=x at *
   unfold Bk.val at HAt
   go_wp2_with fail
   refine(uh HLen).mono ?_
   rintro e w1 ⟨rfl,hw1⟩
   rw[hw1]
   clear hw1 w1
   go_wp2_with fail
   refine(uh HAt).mono ?_
   rintro e w2 ⟨rfl,hk2⟩
   have HK2:=hide ((uh HK).then hk2)
   clear hk2
   by_cases hx:x.sz=sz
   ·have hx':(x.sz==sz)=true:=by simpa using hx
    have HX:=hide hx
    clear hx
    go_wp2
    go_roundw
    case rel=>exact⟨k+1,by go_num,by omega,HK2,by show _=_;rw[uh HE,uh HY (uh HX)]⟩
    case measure=>simp[intOf];omega
   ·have hx':(x.sz==sz)=false:=by simpa using hx
    have HX:=hide hx
    clear hx
    go_wp2
    go_ret
    exact⟨by rw[uh HE,uh HNo (uh HX)];rfl,uh HK2⟩
  ·have hkn:k=n:=by omega
   subst hkn
   have hf:decide ((k:Int)<(k:Int))=false:=by simp
   go_wp2_with fail
   refine(uh HLen).mono ?_
   rintro e w1 ⟨rfl,hw1⟩
   rw[hw1]
   clear hw1 w1
   go_wp2
   go_ret
   refine⟨?_,uh HK⟩
   rw[uh HE,<-uh HN,zBq]
   rfl
def qXz(l:List Bk): Nat->Nat->List Int
 | 0,_=>[]
 | f+1,s=>((qL0 l (2 ^ f) s-s:Nat):Int)::(((l.drop s).take (qL0 l (2 ^ f) s-s)).map (·.t)++qXz l f (qL0 l (2 ^ f) s))
def qE4(l:List Bk): Nat:=if l.length=0 then 0 else bitLen (qCc l 0).sz.toNat
def savC(l:List Bk): List Int:=(qE4 l:Int)::qXz l (qE4 l) 0
theorem qU9(l:List Bk)(s j:Nat)(x:Bk)(h:s+j<l.length)(hx:qCc l (s+j)=x): ((l.drop s).take (j+1)).map (·.t)=((l.drop s).take j).map (·.t)++[x.t]:=by
 have hj:j<(l.drop s).length:=by rw[List.length_drop];omega
 rw[List.take_add_one,List.map_append,List.getElem?_eq_getElem hj]
 subst hx
 simp[qCc,List.getD_eq_getElem?_getD,List.getElem?_eq_getElem h]
theorem qPb(l:List Bk)(f s:Nat): qXz l (f+1) s=((qL0 l (2 ^ f) s-s:Nat):Int)::(((l.drop s).take (qL0 l (2 ^ f) s-s)).map (·.t)++qXz l f (qL0 l (2 ^ f) s)):=rfl
theorem qTf(d r:Nat)(og:Option Nat)(c:Cfg)(l:List Bk)(b:Nat)(v:Value)(bs:List Nat)(m:Int)(w:World)(h:CRep w d r og c l)(hw:WRep w b v bs)(hf:∀i,qB2 b v i->i≠d/\i≠r/\og≠some i)(hl:l.length<=1000000000000)(hsz:∀x∈l,1<=x.sz/\x.sz<4611686018427387904)(ht:∀x∈l,0<=x.t/\x.t<=9223372036854775807)(hbl:bs.length+10*l.length<=140737488350000):
  Calls Tryz.prog 161 #[.pointer (some ⟨d,0,none⟩),.pointer (some ⟨b,0,none⟩),.int .i64 m] w λe w'=>e=.returned (.tuple #[])/\Wrote w b v (bs++qC4 (savC l)) w':=by
 have HC:=hide (show ∀w',Keeps (qB2 b v) w w'->CRep w' d r og c l from λw' hk=>h.keeps hk (λhi=>(hf d hi).1 rfl) (λhi=>(hf r hi).2.1 rfl) (λg hg hi=>(hf g hi).2.2 hg))
 have hc20:w.cell? ⟨d,20,none⟩=some (.pointer (some ⟨r,0,none⟩)):=h.blk.cell rfl
 obtain⟨n,hn⟩:∃n,l.length=n:=⟨_,rfl⟩
 have HLen:=hide (show ∀w',Keeps (qB2 b v) w w'->Calls Tryz.prog 200 #[.pointer (some ⟨r,0,none⟩)] w' λe w1=>e=.returned (.int .i64 n)/\w1=w' from λw' hk=>by
    have:=rowLen_any r og l w' (uh HC w' hk).row
    rw[hn]at this
    exact this)
 have HW:=hide (Wrote.refl hw)
 have HT:=hide ht
 have HSZ:=hide (show qE4 l<=62 by
    unfold qE4
    split
    ·omega
    ·rename_i h0
     have hb:=hsz (qCc l 0) (qFs (by omega))
     have hs:=bitLen_spec (qCc l 0).sz.toNat
     have h2:=hs.2 (by omega)
     rcases Nat.lt_or_ge (bitLen (qCc l 0).sz.toNat-1) 62 with h3 | h3
     ·omega
     ·have:=Nat.pow_le_pow_right (show 1<=2 by omega) h3
      have e:(2:Nat) ^ 62=4611686018427387904:=by decide
      omega)
 have HSC:=hide (show savC l=(qE4 l:Int)::qXz l (qE4 l) 0 from rfl)
 have HB0:=hide (show n≠0->∃x:Bk,qCc l 0=x/\0<=x.sz/\x.sz<4611686018427387904/\(qE4 l:Int)=(bitLen x.sz.toNat:Int)/\0<l.length from λh0=>by
    have hb:=hsz (qCc l 0) (qFs (by omega))
    exact⟨_,rfl,by omega,by omega,by unfold qE4;rw[if_neg (by omega)],by omega⟩)
 have HB1:=hide (show n=0->qE4 l=0 from λh0=>by unfold qE4;rw[if_pos (by omega)])
 have HN:=hide hn
 rw[hn]at hl hbl
 clear h hw hf hsz ht hn
 generalize hS:qE4 l=S at *
 clear hS
 have hS62:S<=62:=uh HSZ
 have HC20:=hide (show ∀w',Keeps (qB2 b v) w w'->w'.cell? ⟨d,20,none⟩=some (.pointer (some ⟨r,0,none⟩)) from λw' hk=>(uh HC w' hk).blk.cell rfl)
 by_cases hn0:n=0
 ·have hS0:=uh HB1 hn0
  subst hS0
  subst hn0
  go_enter Tryz.func161,Tryz.ntmps161
  go_wp2_with fail
  refine(uh HLen w (Keeps.refl _ _)).mono ?_
  rintro e w1 ⟨rfl,hw1⟩
  rw[hw1]
  clear hw1 w1
  go_wp2_with fail
  refine(qBv b v bs 0 w w (uh HW) (by omega) (by omega) (by omega)).mono ?_
  rintro e w1 ⟨rfl,hw1⟩
  have HO:=hide hw1
  clear hw1
  go_wp2_with fail
  go_loopw [7,8] (λx y wr=>x=.int .i64 0/\y=.int .i64 (-1)/\Hid (Wrote w b v (bs++enc 0) wr)) (λ_ _ _=>0)
  case atStart=>exact⟨rfl,rfl,HO⟩
  case round =>
   obtain⟨rfl,rfl,HO2⟩:=hrel
   go_wp2
   go_end0
   refine⟨rfl,?_⟩
   have:=uh HO2
   rw[uh HSC,qB3]
   simpa[qXz,qC8] using this
 ·obtain⟨x,hx,x0,x1,hSx,hl0⟩:=uh HB0 hn0
  have HAt:=hide (qD3 r og l 0 w (uh HC w (Keeps.refl _ _)).row hl0)
  rw[hx]at HAt
  unfold Bk.val at HAt
  obtain⟨y,hy⟩:=Int.eq_ofNat_of_zero_le x0
  rw[hy]at x1 hSx HAt
  have wq:IntKind.u64.wrap (y:Int)=(y:Int):=by rw[IntKind.wrap_u64];omega
  have HLN:=hide (qSo y)
  rw[Int.toNat_natCast]at hSx
  have hSy:bitLen y=S:=by omega
  rw[hSy]at HLN
  have hn1:(0:Int)<(n:Int):=by omega
  have hn2:0<n:=by omega
  clear hx hSx hSy hy x0 hn0 hl0 hn1
  go_enter Tryz.func161,Tryz.ntmps161
  go_wp2_with fail
  refine(uh HLen w (Keeps.refl _ _)).mono ?_
  rintro e w1 ⟨rfl,hw1⟩
  rw[hw1]
  clear hw1 w1
  go_wp2_with fail
  refine(uh HAt).mono ?_
  rintro e w1 ⟨rfl,hk1⟩
  have HW1:=hide ((uh HW).still hk1)
  clear hk1 hc20
  go_wp2_with fail
  refine(uh HLN w1 (by omega)).mono ?_
  rintro e w2 ⟨rfl,hw2⟩
  rw[hw2]
  clear hw2 w2
  go_wp2_with fail
  refine(qBv b v bs S w w1 (uh HW1) (by omega) (by omega) (by omega)).mono ?_
  rintro e w2 ⟨rfl,hw2⟩
  have HO:=hide hw2
  clear hw2 HW1
  have hwS:IntKind.i64.wrap ((S:Int)-1)=(S:Int)-1:=by rw[IntKind.wrap_i64];omega
  have hlS:(bs++enc (S:Int)).length+10*n<=140737488350010:=by have:=qBk (S:Int);rw[List.length_append];omega
  obtain⟨bs0,hbs0⟩:∃bs0,bs++enc (S:Int)=bs0:=⟨_,rfl⟩
  rw[hbs0]at hlS HO
  have HBS:=hide hbs0
  clear hbs0 hn2 HAt HLN wq x1
  go_wp2_with fail
  go_loopw [7,8] (λx y wr=>∃(f s:Nat) (pre:List Int),x=.int .i64 s/\y=.int .i64 ((f:Int)-1)/\f<=S/\s<=n/\pre.length+f<=S+s/\Hid (qXz l S 0=pre++qXz l f s)/\Hid (Wrote w b v (bs0++qC4 pre) wr)) (λ_ y _=>(intOf y+1).toNat)
  case atStart=>exact⟨S,0,[],rfl,rfl,by omega,by omega,by simp,by show _=_;rfl,by show Wrote _ _ _ _ _;rw[qC8,List.append_nil];exact uh HO⟩
  case round =>
   obtain⟨f,s,pre,rfl,rfl,hf,hs,hpl,HEQ,HOr⟩:=hrel
   cases f with
   | zero =>
    go_wp2
    go_end0
    refine⟨rfl,?_⟩
    have:=uh HOr
    rw[uh HSC,qB3,uh HEQ]
    simp only[qXz,List.append_nil]
    rw[<-List.append_assoc,uh HBS]
    exact this
   | succ f =>
    have e1:((f+1:Nat):Int)-1=(f:Int):=by omega
    rw[e1]
    have p2:=qI9 f (by omega)
    obtain⟨P,hP⟩:∃P,(2:Int) ^ f=P:=⟨_,rfl⟩
    have HE:=hide (qXg d r og c l P s wr (uh HC wr (uh HOr).kp) (by rw[uh HN];omega) (by rw[uh HN];exact hs))
    have HSB:=hide (qPb l f s)
    rw[hP]at p2 HSB
    have hle:=qW4 l P s (by rw[uh HN];exact hs)
    obtain⟨e,he⟩:∃e,qL0 l P s=e:=⟨_,rfl⟩
    rw[he]at HE HSB hle
    rw[uh HN]at hle
    obtain⟨hle1,hle2⟩:=hle
    obtain⟨p21,p22⟩:=p2
    clear he
    have hk0:(0:Int)<=(f:Int):=by omega
    have hf62:(f:Int)<=61:=by omega
    obtain⟨q,hq⟩:∃q:Nat,e-s=q:=⟨_,rfl⟩
    rw[hq]at HSB
    have hwq:IntKind.i64.wrap ((e:Int)-(s:Int))=(q:Int):=by rw[IntKind.wrap_i64];omega
    have hlp:(bs0++qC4 pre).length<=140737488350010+10*62-10*n+10*s/\10*n<=140737488350010:=by
     have:=qAw pre
     rw[List.length_append];omega
    obtain⟨hlp1,hlp2⟩:=hlp
    go_wp2_with fail
    refine(uh HE).mono ?_
    rintro e' w3 ⟨rfl,hk3⟩
    have HO3:=hide ((uh HOr).still hk3)
    clear hk3 HE
    go_wp2_with fail
    refine(qBv b v _ q w w3 (uh HO3) (by omega) (by omega) (by omega)).mono ?_
    rintro e' w4 ⟨rfl,hw4⟩
    have HO4:=hide hw4
    clear hw4 HO3 hwq
    go_wp2_with fail
    go_loopw [7] (λx wr=>∃j:Nat,x=.int .i64 ((s+j:Nat):Int)/\j<=q/\Hid (Wrote w b v (bs0++qC4 pre++enc q++qC4 (((l.drop s).take j).map (·.t))) wr)) (λx _=>e-(intOf x).toNat)
    case atStart=>exact⟨0,rfl,Nat.zero_le _,by show Wrote _ _ _ _ _;simp only[List.take_zero,List.map_nil,qC8,List.append_nil];exact uh HO4⟩
    case round =>
     obtain⟨j,rfl,hj,HOj⟩:=hrel
     obtain⟨k,hk⟩:∃k,s+j=k:=⟨_,rfl⟩
     rw[hk]
     by_cases hjq:j<q
     ·have hkl:k<l.length:=by rw[uh HN];omega
      have hke:(k:Int)<(e:Int):=by omega
      obtain⟨x,hx⟩:∃x,qCc l k=x:=⟨_,rfl⟩
      have HAt:=hide (qD3 r og l k wr (uh HC wr (uh HOj).kp).row hkl)
      have HNX:=hide (qU9 l s j x (by rw[hk];exact hkl) (by rw[hk];exact hx))
      obtain⟨t0,t1⟩:=uh HT x (by rw[<-hx];exact qFs hkl)
      have hc2:wr.cell? ⟨d,20,none⟩=some (.pointer (some ⟨r,0,none⟩)):=uh HC20 wr (uh HOj).kp
      rw[hx]at HAt
      unfold Bk.val at HAt
      have hlb:(bs0++qC4 pre++enc q++qC4 (((l.drop s).take j).map (·.t))).length<=140737488351000:=by
       have h1:=qAw (((l.drop s).take j).map (·.t))
       have h2:=qBk q
       rw[List.length_map,List.length_take,List.length_drop,uh HN]at h1
       rw[List.length_append,List.length_append]
       omega
      clear hx hkl
      go_wp2_with fail
      refine(uh HAt).mono ?_
      rintro e' w5 ⟨rfl,hk5⟩
      have HO5:=hide ((uh HOj).still hk5)
      clear hk5 HAt hc2
      go_wp2_with fail
      refine(qBv b v _ x.t w w5 (uh HO5) t0 t1 (by omega)).mono ?_
      rintro e' w6 ⟨rfl,hw6⟩
      have HO6:=hide hw6
      clear hw6 HO5
      go_wp2
      go_roundw
      case rel =>
       refine⟨j+1,by go_num,by omega,?_⟩
       show Wrote _ _ _ _ _
       have:=uh HO6
       rw[uh HNX,qAx,qCy,<-List.append_assoc]
       exact this
      case measure=>simp[intOf];omega
     ·have hjE:j=q:=by omega
      have hkE:k=e:=by omega
      clear hk
      subst hkE
      have hf':decide ((k:Int)<(k:Int))=false:=by simp
      go_wp2
      go_roundw
      case rel =>
       refine⟨f,k,pre++((q:Int)::((l.drop s).take q).map (·.t)),rfl,by go_num,by omega,by omega,?_,?_,?_⟩
       ·have h1:(((l.drop s).take q).map (·.t)).length<=q:=by rw[List.length_map,List.length_take];omega
        rw[List.length_append,List.length_cons];omega
       ·show _=_
        rw[uh HEQ,uh HSB]
        simp
       ·show Wrote _ _ _ _ _
        have:=uh HOj
        rw[hjE]at this
        rw[qAx,qB3]
        simp only[List.append_assoc]at this ⊢
        exact this
      case measure=>simp[intOf]
end
section
open Go.RowKit
def zFe(k:Nat)(c:Cfg)(nt:Note)(m:Int): List Int :=
 if k=4 then[nt.q,nt.r] else if k=1 then savC nt.bs else if k=2 then qVh nt.rg (qMm c) (m-c.window)
 else if k=3 then savO c nt.op nt.cl (m-c.window) else if k=5 then qL1 (Dr.allL (nt.tk.length+1) nt.tk) else[]
structure SavOk (k:Nat) (c:Cfg) (nt:Note):Prop where
 q0:0<=nt.q/\nt.q<=9223372036854775807
 r0:0<=nt.r/\nt.r<=9223372036854775807
 bn:nt.bs.length<=1000000000000
 bz:∀x∈nt.bs,1<=x.sz/\x.sz<4611686018427387904
 bt:∀x∈nt.bs,0<=x.t/\x.t<=9223372036854775807
 rl:∀i,(nt.rg i).length<=40
 rb:∀i,∀b∈nt.rg i,0<=b.sz/\b.sz<=4611686018427387904/\1<=b.t/\b.t<=40
 oc:k=3->nt.cl.length<=1000/\(∀p∈nt.cl,OkP c p)/\OkP c nt.op/\(∀x∈nt.op.cs,0<=x/\x<=4611686018427387904)/\(∀p∈nt.cl,∀x∈p.cs,0<=x/\x<=4611686018427387904)
 tl:k=5->nt.tk.length<=6
 tb:k=5->∀n∈qL1 (Dr.allL (nt.tk.length+1) nt.tk),0<=n/\n<=9223372036854775807
theorem zDe(k:Nat)(nb:NB)(c:Cfg)(nt:Note)(b:Nat)(v:Value)(bs:List Nat)(m:Int)(args:Array Value)(w:World)(ha:args=qIs nb.d++#[.pointer (some ⟨b,0,none⟩),.int .i64 m])(h:NRep w k nb c nt)(hw:WRep w b v bs)(hf:∀i,qB2 b v i->¬qD4 k nb i)(hi:SavOk k c nt)(hv:qBg c=true)(hk:c.kind=k)(k1:1<=k)(k5:k<=5)(m0:-100<=m)(m1:m<=4611686018427387904)(hbl:bs.length+10*nt.bs.length<=140737480000000):
  Calls Tryz.prog (zEi k) args w λe w'=>e=.returned (.tuple #[])/\Wrote w b v (bs++qC4 (zFe k c nt m)) w':=by
 subst ha
 rcases five k1 k5 with e | e | e | e | e
 ·subst e
  exact qTf nb.d nb.r nb.g c nt.bs b v bs m w (h.cnt rfl) hw (λi hi'=>⟨λe=>hf i hi' (.inl ⟨rfl,.inl e⟩),λe=>hf i hi' (.inl ⟨rfl,.inr (.inl e)⟩),λe=>hf i hi' (.inl ⟨rfl,.inr (.inr e)⟩)⟩) hi.bn hi.bz hi.bt (by omega)
 ·subst e
  obtain⟨a1,a2,a3,a4,a5⟩:=qB0 hv hk rfl
  obtain⟨hd,hq⟩:=h.dis rfl
  have hq2:nb.qs.length<=16:=by rw[hq];exact Nat.pow_le_pow_right (n:=2) (by omega) (show c.bits.toNat<=4 by omega)
  have:=qSr nb.d nb.r nb.qs c nt.rg b v bs m w hd hw (λi hi'=>⟨λe=>hf i hi' (.inr (.inr (.inl ⟨rfl,.inl e⟩))),λe=>hf i hi' (.inr (.inr (.inl ⟨rfl,.inr (.inl e)⟩))),λj hj hq=>hf i hi' (.inr (.inr (.inl ⟨rfl,.inr (.inr ⟨j,hj,hq⟩)⟩)))⟩) hq2 (by omega) a5 m0 m1 hi.rl hi.rb (by omega)
  rw[hq]at this
  exact this
 ·subst e
  obtain⟨o1,o2,o3,o4,o5⟩:=hi.oc rfl
  obtain⟨hc,hrw,_⟩:=qCd hv hk rfl
  exact qTp nb.d nb.r nb.g c nt.op nt.cl b v bs m w (h.oft rfl) hw (λe=>hf _ e (.inr (.inr (.inr (.inl ⟨rfl,.inl rfl⟩))))) hc o1 o2 o3 o4 o5 (by have:=hrw.r0;omega) hrw.r1 (by have:=hrw.w0;omega) hrw.w1 m0 m1 (by omega)
 ·subst e
  exact qSk nb.d b c nt.q nt.r m v bs w (h.dec rfl) hw (λe=>hf _ e (.inr (.inl ⟨rfl,rfl⟩))) hi.q0.1 hi.q0.2 hi.r0.1 hi.r0.2 (by omega)
 ·subst e
  exact qSh nb.d nb.r nb.g c nt.tk b v bs m w (h.drw rfl) hw (hi.tl rfl) (hi.tb rfl) (by omega)
end
end Go.Proofs.YtahnliehdjncdaaGreatDoor
