import Derived.Test.YtahnliehdjncdaaGreatDoorXAY
import Derived.Test.YtahnliehdjncdaaGreatDoorXBE
import Derived.Test.YtahnliehdjncdaaGreatDoorXAX
import Derived.Laws.MathBits
import Derived.Lib.Tables
import Derived.Test.YtahnliehdjncdaaGreatDoorXAK
import Derived.Test.YtahnliehdjncdaaGreatDoorXAL
import Derived.Test.YtahnliehdjncdaaGreatDoorXAS
set_option maxRecDepth 100000
set_option maxHeartbeats 16000000
namespace Go.Proofs.YtahnliehdjncdaaGreatDoor
section
open Go.RowKit
theorem qEm{b:Nat}{v v1:Value}{s cb:Nat}(h0:¬qBz b v cb)(hv:∀i,v1.ownBlock=some i->v.ownBlock=some i\/s<=i)(hc:cb<s): ¬qBz b v1 cb:=by
 rintro (h | h)
 ·exact h0 (.inl h)
 ·rcases hv cb h with h | h
  ·exact h0 (.inr h)
  ·omega
theorem Wrote.pre{w w1 w2:World}{b:Nat}{v:Value}{bs:List Nat}(hk:Keeps (λ_=>False) w w1)(h:Wrote w1 b v bs w2): Wrote w b v bs w2 :=
 Wrote.then (λ_ hi=>.inl hi) (hk.mono (λ_ _ h=>h.elim)) h
def qK4(l:List Dr.It): List Int:=l.flatMap λx=>[x.n,x.t,x.k,x.d]
theorem qKi(a b:List Dr.It): qK4 (a++b)=qK4 a++qK4 b:=by simp[qK4]
theorem qJy(l:List Dr.It): (qK4 l).length=4*l.length:=by
 induction l with
 | nil=>rfl
 | cons x l ih=>simp[qK4]at ih ⊢;omega
theorem qOt(r:List Dr.It)(k:Nat)(hk:k<r.length): qK4 (r.take (k+1))=qK4 (r.take k)++[(Dr.itAt r k).n,(Dr.itAt r k).t,(Dr.itAt r k).k,(Dr.itAt r k).d]:=by
 rw[List.take_add_one,qKi,List.getElem?_eq_getElem hk]
 simp[qK4,Dr.itAt,List.getD_eq_getElem?_getD,List.getElem?_eq_getElem hk]
theorem qUv{w:World}{cb:Nat}{t k d:Int}{l:List Value}{T:Nat}(h:Blk w cb (.int .i64 t::.int .i64 k::.int .i64 d::l) T): PartsAt w (at' cb [0,1,2]) [t,k,d]:=by
 refine⟨by simp[at'],λi p n hp hn=>?_⟩
 match i with
 | 0=>simp[at']at hp hn;subst hp hn;exact h.cell rfl
 | 1=>simp[at']at hp hn;subst hp hn;exact h.cell rfl
 | 2=>simp[at']at hp hn;subst hp hn;exact h.cell rfl
 | i+3=>simp[at']at hp
theorem qQ4(d q:Nat)(og:Option Nat)(c:Cfg)(l:List Dr.It)(b:Nat)(v:Value)(bs:List Nat)(m:Int)(w:World)(h:TRep w d q og c l)(hw:WRep w b v bs)(hl:l.length<=6)(hn:∀n,n∈qK4 (Dr.allL (l.length+1) l)->0<=n/\n<=9223372036854775807)(hbl:bs.length<=140737488354000):
  Calls Tryz.prog 185 #[.pointer (some ⟨d,0,none⟩),.pointer (some ⟨b,0,none⟩),.int .i64 m] w λe w'=>e=.returned (.tuple #[])/\Wrote w b v (bs++qC0 (qK4 (Dr.allL (l.length+1) l))) w':=by
 have c20:w.cell? ⟨d,20,none⟩=some (.pointer (some ⟨q,0,none⟩)):=h.blk.cell rfl
 have hA:=qX4 q og l w h.que (by omega)
 clear h
 generalize Dr.allL (l.length+1) l=r at *
 generalize l.length=n at *
 have HA:=hide hA
 have HW:=hide hw
 have HNR:=hide hn
 clear hw hn hA
 go_enter Tryz.func185,Tryz.ntmps185
 go_wp2_with fail
 refine(uh HA).mono ?_
 rintro e W1 ⟨g,cp,rfl,hg,hr1,hlen,hk1⟩
 have HR:=hide hr1
 have HLN:=hide hlen
 have HK1:=hide hk1
 have HG:=hide (show ¬qBz b v g from λhf=>by have:=(uh HW).lt g hf;omega)
 have HW1:=hide ((uh HW).still hk1)
 have hn6:n<=6:=by omega
 clear hr1 hlen hk1 hg c20 HA
 go_wp2_with fail
 go_loopw [14] (λi wr=>∃(k:Nat),i=.int .i64 k/\k<=n/\Hid (Wrote W1 b v (bs++qC0 (qK4 (r.take k))) wr)) (λi _=>n-(intOf i).toNat)
 case atStart=>exact⟨0,rfl,Nat.zero_le _,by show Wrote _ _ _ _ _;simp only[List.take_zero,qK4,List.flatMap_nil,qC8,List.append_nil];exact Wrote.refl (uh HW1)⟩
 case round =>
  obtain⟨k,rfl,hk,HO⟩:=hrel
  by_cases hlk:k<n
  ·obtain⟨v',hwr,hvr,hkr⟩:=uh HO
   have hkn:k<r.length:=by rw[uh HLN];exact hlk
   obtain⟨x0,x1,x2,x3,x4⟩:=((uh HR).keeps hkr (uh HG)).cells k hkn
   have HTK:=hide (qOt r k hkn)
   have HNX:=hide (show ∀n,n∈[(Dr.itAt r k).n,(Dr.itAt r k).t,(Dr.itAt r k).k,(Dr.itAt r k).d]->0<=n/\n<=9223372036854775807 from λn hn=>uh HNR n (by
        have e:qK4 (r.take (k+1)++r.drop (k+1))=qK4 r:=by rw[List.take_append_drop]
        rw[<-e,qKi,qOt r k hkn]
        simp only[List.mem_append]
        exact .inl (.inr hn)))
   have HLT:=hide hwr.lt
   have HWr:=hide hwr
   have HVr:=hide hvr
   have HKr:=hide hkr
   have hk0:(0:Int)<=(k:Int):=by omega
   have hkE:(k:Int)<(n:Int):=by omega
   generalize Dr.itAt r k=x at *
   have hlb:(bs++qC0 (qK4 (r.take k))).length<=140737488354240:=by
    have h1:=qAv (qK4 (r.take k))
    rw[qJy,List.length_take]at h1
    rw[List.length_append];omega
   clear hwr hvr hkr HO
   obtain⟨wa,hwa⟩:∃wa,wa=wr.alloc (.cells #[.int .i64 x.t,.int .i64 x.k,.int .i64 x.d,.int .i64 x.n,.int .i64 x.v] 251):=⟨_,rfl⟩
   have HBa:=hide (show Blk wa wr.heap.size [.int .i64 x.t,.int .i64 x.k,.int .i64 x.d,.int .i64 x.n,.int .i64 x.v] 251 by rw[hwa];exact Blk.new wr _ _)
   have HKa:=hide (show Keeps (λ_=>False) wr wa by rw[hwa];exact(Keeps.refl _ _).alloc _)
   have HWa:=hide ((uh HWr).still (uh HKa))
   have HNF:=hide (show ¬qBz b v' wr.heap.size from λhf=>by have:=uh HLT _ hf;omega)
   obtain⟨n0,n1⟩:=uh HNX x.n (by simp)
   have hc3:wa.cell? ⟨wr.heap.size,3,none⟩=some (.int .i64 x.n):=(uh HBa).cell rfl
   have HEQ:=hide hwa.symm
   clear hwa
   go_wp2_with fail
   rw[uh HEQ]
   refine(qC3 b v' _ x.n wa (uh HWa) n0 n1 (by omega)).mono ?_
   rintro e w2 ⟨rfl,v2,hw2,hv2,hk2⟩
   have hlt2:wr.heap.size<wa.heap.size:=(uh HBa).lt
   have HB2:=hide ((uh HBa).keeps hk2 (uh HNF))
   have HNF2:=hide (qEm (uh HNF) hv2 hlt2)
   have HW2:=hide hw2
   have HV2:=hide hv2
   have HK2:=hide hk2
   have HL2:=hide hw2.lt
   clear hw2 hv2 hk2 hc3 HBa
   go_wp2_with fail
   refine(qNk wr.heap.size w2).mono ?_
   rintro e w3 ⟨pv,rfl,hown3,hk3⟩
   obtain⟨pa,pcap,hpv,_⟩:=qB4 hown3
   subst hpv
   have HW3:=hide ((uh HW2).still hk3)
   have HB3:=hide ((uh HB2).keeps hk3 (λh=>h))
   have HO3:=hide hown3
   have HK3:=hide hk3
   clear hown3 hk3
   go_wp2_with fail
   refine(qEo b v2 _ _ w2.heap.size wr.heap.size [0,1,2] [x.t,x.k,x.d] w3 (uh HW3) (uh HO3) (qUv (uh HB3)) (uh HNF2) (λi hi h=>by have:=uh HL2 i h;omega) (λn hn=>uh HNX n (by simp at hn ⊢;exact .inr hn)) (by have:=qBj x.n;rw[List.length_append];show _+10*3<=_;omega) (by simp)).mono ?_
   rintro e w4 ⟨rfl,hw4⟩
   have HF:=hide (show Wrote W1 b v (bs++qC0 (qK4 (r.take (k+1)))) w4 by
      have hA:=Wrote.then (uh HVr) (uh HKr) (Wrote.pre (uh HKa) (Wrote.then (uh HV2) (uh HK2) (Wrote.pre (uh HK3) hw4)))
      rw[uh HTK,qAx]
      have e:qC0 [x.n,x.t,x.k,x.d]=enc x.n++qC0 [x.t,x.k,x.d]:=qB0 _ _
      rw[e]
      simp only[List.append_assoc]at hA ⊢
      exact hA)
   clear hw4
   go_wp2
   go_roundw
   case rel=>exact⟨k+1,by go_num,by omega,HF⟩
   case measure=>simp[intOf];omega
  ·have hkE:k=n:=by omega
   subst hkE
   go_wp2
   go_end0
   refine⟨rfl,?_⟩
   have h:=uh HO
   rw[<-uh HLN,List.take_length]at h
   exact Wrote.pre (uh HK1) h
end
section
open Go.RowKit
attribute [local go_sem ↓] Mk.execOp_fieldMk
attribute [local go_sem] Mk.run_fieldMk0 Mk.run_fieldMk1
theorem Wrote.kp{w w1:World}{b:Nat}{v:Value}{bs:List Nat}(h:Wrote w b v bs w1): Keeps (qBz b v) w w1:=by obtain⟨_,_,_,hk⟩:=h;exact hk
theorem Wrote.still{w w1 w2:World}{b:Nat}{v:Value}{bs:List Nat}(h:Wrote w b v bs w1)(hk:Keeps (λ_=>False) w1 w2): Wrote w b v bs w2:=by
 obtain⟨v',a,c,d⟩:=h
 exact⟨v',a.still hk,c,d.trans hk (λ_ h=>h.elim)⟩
theorem qBt(b:Nat)(v:Value)(bs:List Nat)(n:Int)(w w1:World)(h:Wrote w b v bs w1)(n0:0<=n)(n1:n<=9223372036854775807)(hl:bs.length<=140737488355300):
  Calls Tryz.prog 71 #[.pointer (some ⟨b,0,none⟩),.int .i64 n] w1 λe w'=>e=.returned (.tuple #[])/\Wrote w b v (bs++enc n) w':=by
 obtain⟨v',a,c,d⟩:=h
 exact(qC3 b v' bs n w1 a n0 n1 hl).mono λe w' ⟨he,hw⟩=>⟨he,Wrote.then c d hw⟩
def qEk(l:List Bk): List Int:=l.flatMap λb=>[b.sz,b.t]
theorem qMs(a b:List Bk): qEk (a++b)=qEk a++qEk b:=by simp[qEk]
theorem qHw(l:List Bk): (qEk l).length=2*l.length:=by
 induction l with
 | nil=>rfl
 | cons x l ih=>simp[qEk]at ih ⊢;omega
def zDj(l:List Bk)(t:Int): List Int:=((l.length-Mk.pastN l t:Nat):Int)::qEk (l.drop (Mk.pastN l t))
theorem qRd(l:List Bk)(t:Int): (zDj l t).length<=1+2*l.length:=by
 unfold zDj
 rw[List.length_cons,qHw,List.length_drop];omega
def qVs(ls:Nat->List Bk)(n:Nat)(t:Int): List Int:=(List.range n).flatMap λi=>zDj (ls i) t
theorem qP9(ls:Nat->List Bk)(n:Nat)(t:Int): qVs ls (n+1) t=qVs ls n t++zDj (ls n) t:=by
 simp[qVs,List.range_succ]
theorem qJ3(ls:Nat->List Bk)(n:Nat)(t:Int)(h:∀i,(ls i).length<=40): (qVs ls n t).length<=81*n:=by
 induction n with
 | zero=>simp[qVs]
 | succ n ih=>have h1:=qRd (ls n) t;have h2:=h n;rw[qP9,List.length_append];omega
theorem qVe(l:List Bk)(p j:Nat)(x:Bk)(h:p+j<l.length)(hx:qB8 l (p+j)=x): qEk ((l.drop p).take (j+1))=qEk ((l.drop p).take j)++[x.sz,x.t]:=by
 have hj:j<(l.drop p).length:=by rw[List.length_drop];omega
 rw[List.take_add_one,qMs,List.getElem?_eq_getElem hj]
 subst hx
 simp[qEk,qB8,List.getD_eq_getElem?_getD,List.getElem?_eq_getElem h]
theorem zAk{l:List Bk}{i:Nat}(h:i<l.length): qB8 l i∈l:=by
 have:qB8 l i=l[i]:=by simp[qB8,List.getD_eq_getElem?_getD,List.getElem?_eq_getElem h]
 rw[this];exact List.getElem_mem h
theorem qSw(d rg:Nat)(qs:List (Nat×Option Nat))(c:Cfg)(ls:Nat->List Bk)(b:Nat)(v:Value)(bs:List Nat)(m:Int)(w:World)(h:DRep w d rg qs c ls)(hw:WRep w b v bs)(hf:∀i,qBz b v i->i≠d/\i≠rg/\∀j,j<qs.length->¬qf (qAt qs j) i)(hq2:qs.length<=16)(w0:0<=c.window)(w1:c.window<=1000)(m0:-100<=m)(m1:m<=4611686018427387904)(hl:∀i,(ls i).length<=40)(hr:∀i,∀b∈ls i,0<=b.sz/\b.sz<=4611686018427387904/\1<=b.t/\b.t<=40)(hbl:bs.length<=140737488300000):
  Calls Tryz.prog 169 #[.pointer (some ⟨d,0,none⟩),.pointer (some ⟨b,0,none⟩),.int .i64 m] w λe w'=>e=.returned (.tuple #[])/\Wrote w b v (bs++qC0 (qVs ls qs.length (m-c.window))) w':=by
 obtain⟨n,hn⟩:∃n,n=qs.length:=⟨_,rfl⟩
 have c20:w.cell? ⟨d,20,none⟩=some (.slice (some ⟨rg,0,none⟩) n n):=by rw[hn];exact h.blk.cell rfl
 have HD:=hide (show ∀w',Keeps (qBz b v) w w'->DRep w' d rg qs c ls from λw' hk=>h.keeps hk (λhi=>(hf d hi).1 rfl) (λhi=>(hf rg hi).2.1 rfl) (λj a hj hq hi=>(hf a hi).2.2 j hj hq))
 have HW:=hide hw
 have HL:=hide hl
 have HR:=hide hr
 have HN:=hide hn
 rw[<-hn]at hq2 ⊢
 obtain⟨t,ht⟩:∃t,m-c.window=t:=⟨_,rfl⟩
 rw[ht]
 have hsub:IntKind.i64.wrap (m-c.window)=t:=by rw[IntKind.wrap_i64];omega
 clear h hw hf hl hr hn
 have hn0:(0:Int)<=(n:Int):=by omega
 go_enter Tryz.func169,Tryz.ntmps169
 go_wp2_with fail
 clear c20
 go_loopw [15] (λi wr=>∃(k:Nat),i=.int .i64 k/\k<=n/\Hid (Wrote w b v (bs++qC0 (qVs ls k t)) wr)) (λi _=>n-(intOf i).toNat)
 case atStart=>exact⟨0,rfl,Nat.zero_le _,by show Wrote _ _ _ _ _;simp only[qVs,List.range_zero,List.flatMap_nil,qC8,List.append_nil];exact Wrote.refl (uh HW)⟩
 case round =>
  obtain⟨k,rfl,hk,HO⟩:=hrel
  have hk0:(0:Int)<=(k:Int):=by omega
  by_cases hlt:k<n
  ·have hkn:(k:Int)<(n:Int):=by omega
   have hkq:k<qs.length:=by have:=uh HN;omega
   have HDr:=hide (uh HD wr (uh HO).kp)
   obtain⟨q,hq'⟩:∃q,qAt qs k=q:=⟨_,rfl⟩
   have cr:wr.cell? ⟨rg,k,none⟩=some (.pointer (some ⟨q.1,0,none⟩)):=by rw[<-hq'];exact(uh HDr).reg.cell (qE4 hkq)
   have c5:wr.cell? ⟨d,5,none⟩=some (.int .i64 c.window):=(uh HDr).blk.cell rfl
   have HRow:=hide (show ∀w',Keeps (qBz b v) w w'->Mk.RowRep w' q.1 q.2 (ls k) from λw' hk'=>by rw[<-hq'];exact(uh HD w' hk').row k hkq)
   have HP:=hide (Mk.past_any q.1 q.2 (ls k) t wr (uh HRow wr (uh HO).kp) (by have:=uh HL k;omega))
   have HLk:=hide (qP9 ls k t)
   have HLN:=hide (qJ3 ls k t (uh HL))
   obtain⟨l,hl⟩:∃l,ls k=l:=⟨_,rfl⟩
   have HRl:=hide (uh HR k)
   have hlk:=uh HL k
   rw[hl]at HRl HP HRow HLk hlk
   have hple:=Mk.pastN_le l t
   obtain⟨len,hlen⟩:∃len,l.length=len:=⟨_,rfl⟩
   obtain⟨p,hp⟩:∃p,Mk.pastN l t=p:=⟨_,rfl⟩
   have HSR:=hide (show zDj l t=((len-p:Nat):Int)::qEk (l.drop p) by unfold zDj;rw[hp,hlen])
   rw[hp]at HP hple
   rw[hlen]at hple hlk
   have HLE:=hide hlen
   obtain⟨r,hr⟩:∃r:Nat,len-p=r:=⟨_,rfl⟩
   have hrI:(len:Int)-(p:Int)=(r:Int):=by omega
   have hwr1:IntKind.i64.wrap ((len:Int)-(p:Int))=(r:Int):=by rw[IntKind.wrap_i64];omega
   rw[hr]at HSR
   clear hl hlen hp hq' hkq HDr
   go_wp2_with fail
   refine(uh HP).mono ?_
   rintro e W1 ⟨rfl,hk1⟩
   have HO1:=hide ((uh HO).still hk1)
   clear hk1 cr c5 HP
   go_wp2_with (go_at_call 211;refine(Mk.rowLen_int q.1 q.2 l len _ (uh HRow _ (uh HO1).kp) (by rw[uh HLE])).mono ?_;rintro e w' ⟨rfl,hw'⟩;rw[hw'];clear hw' w')
   have hlb:(bs++qC0 (qVs ls k t)).length<=140737488320000:=by
    have h1:=qAv (qVs ls k t)
    have h2:=uh HLN
    rw[List.length_append];omega
   refine(qBt b v _ r w W1 (uh HO1) (by omega) (by omega) (by omega)).mono ?_
   rintro e W2 ⟨rfl,hw2⟩
   have HO2:=hide hw2
   clear hw2 HO1 HO
   go_wp2_with fail
   go_loopw [9] (λi wr=>∃(j:Nat),i=.int .i64 ((p+j:Nat):Int)/\j<=r/\Hid (Wrote w b v (bs++qC0 (qVs ls k t)++enc r++qC0 (qEk ((l.drop p).take j))) wr)) (λi _=>len-(intOf i).toNat)
   case atStart=>exact⟨0,rfl,Nat.zero_le _,by show Wrote _ _ _ _ _;simp only[List.take_zero,qEk,List.flatMap_nil,qC8,List.append_nil];exact uh HO2⟩
   case round =>
    obtain⟨j,rfl,hj,HOr⟩:=hrel
    obtain⟨pj,hpj⟩:∃pj,p+j=pj:=⟨_,rfl⟩
    rw[hpj]
    by_cases hjr:j<r
    ·have hpl:pj<len:=by omega
     have hplI:(pj:Int)<(len:Int):=by omega
     have hpl2:pj<l.length:=by rw[uh HLE];exact hpl
     obtain⟨x,hx⟩:∃x,qB8 l pj=x:=⟨_,rfl⟩
     have HX:=hide hx
     have HNX:=hide (qVe l p j x (by rw[hpj];exact hpl2) (by rw[hpj];exact hx))
     obtain⟨x0,x1,x2,x3⟩:=uh HRl x (by rw[<-hx];exact zAk hpl2)
     have HPL:=hide hpl2
     have hlb2:(bs++qC0 (qVs ls k t)++enc r++qC0 (qEk ((l.drop p).take j))).length<=140737488330000:=by
      have h1:=qAv (qEk ((l.drop p).take j))
      have h2:=qBj r
      rw[qHw,List.length_take,List.length_drop,uh HLE]at h1
      rw[List.length_append,List.length_append]
      omega
     clear hx hpl2
     go_wp2_with (first
        | (go_at_call 211;refine(Mk.rowLen_int q.1 q.2 l len _ (uh HRow _ (uh HOr).kp) (by rw[uh HLE])).mono ?_;rintro e w' ⟨rfl,hw'⟩;rw[hw'];clear hw' w')
        | (go_at_call 212;fail))
     refine(Mk.rowAt_is q.1 q.2 l pj x _ (uh HRow _ (uh HOr).kp) (uh HPL) (uh HX)).mono ?_
     rintro e W3 ⟨rfl,hk3⟩
     have HO3:=hide ((uh HOr).still hk3)
     clear hk3
     go_wp2_with fail
     refine(qBt b v _ x.sz w W3 (uh HO3) (by omega) (by omega) (by omega)).mono ?_
     rintro e W4 ⟨rfl,hw4⟩
     have HO4:=hide hw4
     clear hw4 HO3
     go_wp2_with fail
     refine(Mk.rowAt_is q.1 q.2 l pj x _ (uh HRow _ (uh HO4).kp) (uh HPL) (uh HX)).mono ?_
     rintro e W5 ⟨rfl,hk5⟩
     have HO5:=hide ((uh HO4).still hk5)
     clear hk5 HO4
     go_wp2_with fail
     refine(qBt b v _ x.t w W5 (uh HO5) (by omega) (by omega) (by have:=qBj x.sz;rw[List.length_append];omega)).mono ?_
     rintro e W6 ⟨rfl,hw6⟩
     have HO6:=hide hw6
     clear hw6 HO5
     go_wp2
     go_roundw
     case rel =>
      refine⟨j+1,by go_num,by omega,?_⟩
      show Wrote _ _ _ _ _
      have:=uh HO6
      rw[uh HNX,qAx,qB0,qCv]
      simp only[List.append_assoc]at this ⊢
      exact this
     case measure=>simp[intOf];omega
    ·have hjE:j=r:=by omega
     have hpl:pj=len:=by omega
     clear hpj
     subst hpl
     have hf:decide ((pj:Int)<(pj:Int))=false:=by simp
     go_wp2_with (go_at_call 211;refine(Mk.rowLen_int q.1 q.2 l pj _ (uh HRow _ (uh HOr).kp) (by rw[uh HLE])).mono ?_;rintro e w' ⟨rfl,hw'⟩;rw[hw'];clear hw' w')
     go_roundw
     case rel =>
      refine⟨k+1,by go_num,by omega,?_⟩
      show Wrote _ _ _ _ _
      have:=uh HOr
      rw[uh HLk,uh HSR,qAx,qB0]
      rw[List.take_of_length_le (by rw[List.length_drop,uh HLE];omega)]at this
      simp only[List.append_assoc]at this ⊢
      exact this
     case measure=>simp[intOf];omega
  ·have hkE:k=n:=by omega
   subst hkE
   go_wp2
   go_end0
   exact⟨rfl,uh HO⟩
end
section
open Go.RowKit
attribute [local go_sem ↓] Pa.execOp_loadP Pa.execOp_storeP qDs qC5 qC9 qEg
attribute [local go_sem] Pa.run_loadP qE9 qEi qEh qA8 qAb qAc qGw qFe
def qVt(wd:Nat)(cs:List Int)(r:Nat): List Int:=(List.range wd).map λj=>cs.getD (r*16+j) 0
def qF9(rs wd:Nat)(cs:List Int): List Int:=(List.range rs).flatMap (qVt wd cs)
def qRo(c:Cfg)(p:Pa.Pn): List Int:=p.no::qF9 c.rows.toNat c.width.toNat p.cs
def qDy(c:Cfg)(l:List Pa.Pn): List Int:=l.flatMap (qRo c)
def savO(c:Cfg)(o:Pa.Pn)(cl:List Pa.Pn)(t:Int): List Int:=((qCu c o cl t).length:Int)::qDy c (qCu c o cl t)
theorem qXr(wd:Nat)(cs:List Int)(r:Nat): qVt (wd+1) cs r=qVt wd cs r++[cs.getD (r*16+wd) 0]:=by simp[qVt,List.range_succ]
theorem qJ4(rs wd:Nat)(cs:List Int): qF9 (rs+1) wd cs=qF9 rs wd cs++qVt wd cs rs:=by simp[qF9,List.range_succ]
theorem qKr(wd:Nat)(cs:List Int)(r:Nat): (qVt wd cs r).length=wd:=by simp[qVt]
theorem qH3(rs wd:Nat)(cs:List Int): (qF9 rs wd cs).length=rs*wd:=by
 induction rs with
 | zero=>simp[qF9]
 | succ n ih=>rw[qJ4,List.length_append,qKr,ih,Nat.succ_mul]
theorem qN5(c:Cfg)(a b:List Pa.Pn): qDy c (a++b)=qDy c a++qDy c b:=by simp[qDy]
theorem qQh(c:Cfg)(p:Pa.Pn)(h3:c.rows.toNat<=3)(h16:c.width.toNat<=16): (qRo c p).length<=49:=by
 unfold qRo
 rw[List.length_cons,qH3]
 have:=Nat.mul_le_mul h3 h16
 omega
theorem qHq(c:Cfg)(l:List Pa.Pn)(h3:c.rows.toNat<=3)(h16:c.width.toNat<=16): (qDy c l).length<=49*l.length:=by
 induction l with
 | nil=>simp[qDy]
 | cons p l ih =>
  have h1:=qQh c p h3 h16
  have e:qDy c (p::l)=qRo c p++qDy c l:=by simp[qDy]
  rw[e,List.length_append,List.length_cons];omega
theorem qRj(c:Cfg)(L:List Pa.Pn)(k:Nat)(h:k<L.length): qDy c (L.take (k+1))=qDy c (L.take k)++qRo c (Pa.pnAt L k):=by
 rw[List.take_succ_eq_append_getElem h,qN5]
 congr 1
 simp[qDy,Pa.pnAt,List.getD_eq_getElem?_getD,List.getElem?_eq_getElem h]
theorem qRr(d q:Nat)(og:Option Nat)(c:Cfg)(o:Pa.Pn)(cl:List Pa.Pn)(b:Nat)(v:Value)(bs:List Nat)(m:Int)(w:World)(h:ORep w d q og c o cl)(hw:WRep w b v bs)(hfd:¬qBz b v d)(hc:c.paned)(hl:cl.length<=1000)(hp:∀p∈cl,OkP c p)(ho:OkP c o)(hcs:∀x∈o.cs,0<=x/\x<=4611686018427387904)(hls:∀p∈cl,∀x∈p.cs,0<=x/\x<=4611686018427387904)(r0:0<=c.rows)(r3:c.rows<=3)(wd0:0<=c.width)(wd1:c.width<=16)(m0:-100<=m)(m1:m<=4611686018427387904)(hbl:bs.length<=140737480000000):
  Calls Tryz.prog 174 #[.pointer (some ⟨d,0,none⟩),.pointer (some ⟨b,0,none⟩),.int .i64 m] w λe w'=>e=.returned (.tuple #[])/\Wrote w b v (bs++qC0 (savO c o cl (m-c.window))) w':=by
 have c5:w.cell? ⟨d,5,none⟩=some (.int .i64 c.window):=h.blk.cell (by rw[qBp c o q 5 (by omega)];rfl)
 have c7:w.cell? ⟨d,7,none⟩=some (.int .i64 c.rows):=h.blk.cell (by rw[qBp c o q 7 (by omega)];rfl)
 have c8:w.cell? ⟨d,8,none⟩=some (.int .i64 c.width):=h.blk.cell (by rw[qBp c o q 8 (by omega)];rfl)
 have hdl:=h.blk.lt
 have hw0:=hc.w0
 have hw1:=hc.w1
 obtain⟨t,ht⟩:∃t,m-c.window=t:=⟨_,rfl⟩
 have hsub:IntKind.i64.wrap (m-c.window)=t:=by rw[IntKind.wrap_i64];omega
 rw[ht]
 have HPN:=hide (qO1 d q og c o cl t w h hc hl hp ho)
 have HSO:=hide (show savO c o cl t=((qCu c o cl t).length:Int)::qDy c (qCu c o cl t) from rfl)
 have HPL:=hide (show(qCu c o cl t).length<=1001 by
    unfold qCu
    rw[List.length_append,List.length_drop]
    split <;> simp <;> omega)
 have HLS:=hide (show ∀p∈qCu c o cl t,OkP c p/\∀x∈p.cs,0<=x/\x<=4611686018427387904 from λp hp'=>by
    unfold qCu at hp'
    rcases List.mem_append.1 hp' with h1 | h1
    ·exact⟨hp p (List.mem_of_mem_drop h1),hls p (List.mem_of_mem_drop h1)⟩
    ·split at h1
     ·rw[List.mem_singleton]at h1;rw[h1];exact⟨ho,hcs⟩
     ·cases h1)
 generalize qCu c o cl t=L at *
 have HW:=hide hw
 have HFD:=hide hfd
 have HTN:=hide ht
 obtain⟨rs,hrs⟩:∃rs:Nat,c.rows=rs:=⟨c.rows.toNat,by omega⟩
 obtain⟨wd,hwd⟩:∃wd:Nat,c.width=wd:=⟨c.width.toNat,by omega⟩
 have HPA:=hide (show ∀p,qRo c p=p.no::qF9 rs wd p.cs from λp=>by unfold qRo;rw[hrs,hwd];rfl)
 have HR3:=hide (show c.rows.toNat<=3/\c.width.toNat<=16 by omega)
 rw[hrs]at c7 r3
 rw[hwd]at c8 wd1
 clear hc hp ho hcs hls h hl hw hfd ht hrs hwd r0 wd0
 have hrs3:rs<=3:=by omega
 have hwd16:wd<=16:=by omega
 go_enter Tryz.func174,Tryz.ntmps174
 go_wp2_with fail
 refine(uh HPN).mono ?_
 rintro e W1 ⟨pv,rfl,hown1,hk1⟩
 obtain⟨va,vcap,hv,hva⟩:=qB4 hown1
 subst hv
 have HLT:=hide (uh HW).lt
 have HW1:=hide (Wrote.refl ((uh HW).still hk1))
 have HK1:=hide hk1
 have HOW:=hide hown1
 have HVA:=hide hva
 have d7:W1.cell? ⟨d,7,none⟩=some (.int .i64 rs):=hk1.cell c7 (λh=>h)
 have d8:W1.cell? ⟨d,8,none⟩=some (.int .i64 wd):=hk1.cell c8 (λh=>h)
 have hdl1:d<W1.heap.size:=Nat.lt_of_lt_of_le hdl hk1.size
 have HSZ:=hide hk1.size
 have HD7:=hide d7
 have HD8:=hide d8
 clear hk1 HPN hown1 hva c5 c7 c8 d7 d8 hdl hsub
 generalize hn:L.length=n at *
 have HN:=hide hn
 clear hn
 have hn1:n<=1001:=uh HPL
 go_wp2_with fail
 refine(qBt b v bs n W1 W1 (uh HW1) (by omega) (by omega) (by omega)).mono ?_
 rintro e W2 ⟨rfl,hw2⟩
 have HO2:=hide hw2
 clear hw2 HW1
 have hlen0:(bs++enc (n:Int)).length<=140737480000010:=by have:=qBj (n:Int);rw[List.length_append];omega
 obtain⟨bs0,hbs0⟩:∃bs0,bs++enc (n:Int)=bs0:=⟨_,rfl⟩
 rw[hbs0]at hlen0 HO2
 have HB0:=hide hbs0
 clear hbs0
 go_wp2_with fail
 go_loopw [26] (λi wr=>∃k:Nat,i=.int .i64 k/\k<=n/\Hid (Wrote W1 b v (bs0++qC0 (qDy c (L.take k))) wr)) (λi _=>n-(intOf i).toNat)
 case atStart=>exact⟨0,rfl,Nat.zero_le _,by show Wrote _ _ _ _ _;simp only[List.take_zero,qDy,List.flatMap_nil,qC8,List.append_nil];exact uh HO2⟩
 case round =>
  obtain⟨k,rfl,hk2,HO⟩:=hrel
  have hk0:(0:Int)<=(k:Int):=by omega
  by_cases hlk:k<n
  ·obtain⟨g,hg,hgb⟩:=uh HVA (by omega)
   subst hg
   have hkl:k<L.length:=by rw[uh HN];exact hlk
   obtain⟨v',hwr,hvr,hkr⟩:=uh HO
   have HBW:=hide (show Pa.BRow wr g vcap L from by
      refine Pa.brow_of_owns (uh HN) (qQe (qLg (uh HOW) hkr (λi hi h=>?_)))
      have:g=i:=by simpa[Value.ownBlock] using hi
      have:=uh HLT i h
      omega)
   have hrg:=qAo ((uh HBW).range k hkl)
   rw[Pa.Pn.cells_length]at hrg
   have hbv:qAq wr g (k*49) 49=.agg (Pa.pnAt L k).cells.toArray:=by unfold qAq;rw[hrg.1]
   have hbh:qAw wr g (k*49) 49=true:=hrg.2
   have HTK:=hide (qRj c L k hkl)
   have HM:=hide (uh HLS (Pa.pnAt L k) (by
        have:Pa.pnAt L k=L[k]:=by simp[Pa.pnAt,List.getD_eq_getElem?_getD,List.getElem?_eq_getElem hkl]
        rw[this];exact List.getElem_mem hkl))
   have HLK:=hide (show(bs0++qC0 (qDy c (L.take k))).length<=140737481000000 by
      have h1:=qAv (qDy c (L.take k))
      have h2:=qHq c (L.take k) (uh HR3).1 (uh HR3).2
      rw[List.length_take]at h2
      rw[List.length_append]
      omega)
   obtain⟨bk,hbk⟩:∃bk,bs0++qC0 (qDy c (L.take k))=bk:=⟨_,rfl⟩
   rw[hbk]at HLK hwr
   have HBK:=hide hbk
   have HWr:=hide hwr
   have HVr:=hide hvr
   have HKr:=hide hkr
   have HLTr:=hide hwr.lt
   clear hrg hkl hbk hwr hvr hkr HO
   generalize Pa.pnAt L k=x at *
   obtain⟨W2,hst,hb2,hk2w⟩:=qKb x wr
   have HB2:=hide hb2
   have hxl:=x.len
   have hxc:=x.cells_length
   have HKa:=hide hk2w
   have HWa:=hide ((uh HWr).still hk2w)
   have HNF:=hide (show ¬qBz b v' wr.heap.size from λhf=>by have:=uh HLTr _ hf;omega)
   have HNFd:=hide (qEm (uh HFD) (uh HVr) hdl1)
   have hgs:g≠wr.heap.size:=by have:=(uh HBW).lt;omega
   have hin:(k:Int)<(n:Int):=by omega
   have hno:W2.cell? ⟨wr.heap.size,0,none⟩=some (.int .i64 x.no):=hb2.cell rfl
   have HC7:=hide (show ∀w',Keeps (qBz b v') W2 w'->w'.cell? ⟨d,7,none⟩=some (.int .i64 rs) from λw' hk'=>hk'.cell (hk2w.cell ((uh HKr).cell (uh HD7) (uh HFD)) (λh=>h)) (uh HNFd))
   have HC8:=hide (show ∀w',Keeps (qBz b v') W2 w'->w'.cell? ⟨d,8,none⟩=some (.int .i64 wd) from λw' hk'=>hk'.cell (hk2w.cell ((uh HKr).cell (uh HD8) (uh HFD)) (λh=>h)) (uh HNFd))
   have hno0:=(uh HM).1.1
   have hno1:=(uh HM).1.2.1
   have HXB:=hide (uh HM).2
   have hbk1:=uh HLK
   clear hb2 hk2w
   go_wp2_with fail
   refine(qC3 b v' bk x.no W2 (uh HWa) hno0 (by omega) (by omega)).mono ?_
   rintro e W3 ⟨rfl,hw3⟩
   have HO3:=hide hw3
   clear hw3 hno hbv hbh hst
   have e7:W3.cell? ⟨d,7,none⟩=some (.int .i64 rs):=uh HC7 W3 (uh HO3).kp
   go_wp2_with fail
   clear e7
   generalize hxb:wr.heap.size=xb at *
   obtain⟨wo,hwo⟩:∃wo,wo=wr:=⟨_,rfl⟩
   rw[<-hwo]at HKa HKr HBW
   clear hwo hxb HWr HLTr
   go_loopw [39] (λi wr=>∃r:Nat,i=.int .i64 r/\r<=rs/\Hid (Wrote W2 b v' (bk++enc x.no++qC0 (qF9 r wd x.cs)) wr)) (λi _=>rs-(intOf i).toNat)
   case atStart=>exact⟨0,rfl,Nat.zero_le _,by show Wrote _ _ _ _ _;simp only[qF9,List.range_zero,List.flatMap_nil,qC8,List.append_nil];exact uh HO3⟩
   case round =>
    obtain⟨r,rfl,hr2,HOr⟩:=hrel
    have hr0:(0:Int)<=(r:Int):=by omega
    by_cases hrl:r<rs
    ·have hrI:(r:Int)<(rs:Int):=by omega
     have hr3:(r:Int)<3:=by omega
     have e8:wr.cell? ⟨d,8,none⟩=some (.int .i64 wd):=uh HC8 wr (uh HOr).kp
     obtain⟨bk2,hbk2⟩:∃bk2,bk++enc x.no++qC0 (qF9 r wd x.cs)=bk2:=⟨_,rfl⟩
     have hbl2:bk2.length<=140737481001000:=by
      have h1:=qAv (qF9 r wd x.cs)
      have h2:=qBj x.no
      rw[qH3]at h1
      have:=Nat.mul_le_mul (show r<=3 by omega) hwd16
      rw[<-hbk2,List.length_append,List.length_append];omega
     rw[hbk2]at HOr
     have HBK2:=hide hbk2
     clear hbk2
     go_wp2_with fail
     clear e8
     obtain⟨wp,hwp⟩:∃wp,wp=wr:=⟨_,rfl⟩
     clear hwp
     go_loopw [47] (λi wr=>∃j:Nat,i=.int .i64 j/\j<=wd/\Hid (Wrote W2 b v' (bk2++qC0 (qVt j x.cs r)) wr)) (λi _=>wd-(intOf i).toNat)
     case atStart=>exact⟨0,rfl,Nat.zero_le _,by show Wrote _ _ _ _ _;simp only[qVt,List.range_zero,List.map_nil,qC8,List.append_nil];exact uh HOr⟩
     case round =>
      obtain⟨j,rfl,hj2,HOj⟩:=hrel
      have hj0:(0:Int)<=(j:Int):=by omega
      by_cases hjl:j<wd
      ·have hjI:(j:Int)<(wd:Int):=by omega
       have hj16:(j:Int)<16:=by omega
       have hil:r*16+j<x.cs.length:=by omega
       obtain⟨y,hy⟩:∃y,x.cs.getD (r*16+j) 0=y:=⟨_,rfl⟩
       have hy2:x.cs[r*16+j]?=some y:=by rw[<-hy,List.getD_eq_getElem?_getD,List.getElem?_eq_getElem hil];rfl
       obtain⟨y0,y1⟩:=uh HXB y (List.mem_of_getElem? hy2)
       have hcy:wr.cell? ⟨xb,1+r*16+j,none⟩=some (.int .i64 y):=(uh HOj).kp.cell ((uh HB2).cell (by
            unfold Pa.Pn.cells
            rw[show 1+r*16+j=(r*16+j)+1 by omega,List.getElem?_cons_succ,List.getElem?_map,hy2]
            rfl)) (uh HNF)
       have HNX:=hide (show qVt (j+1) x.cs r=qVt j x.cs r++[y] by rw[qXr,hy])
       have hbl3:(bk2++qC0 (qVt j x.cs r)).length<=140737481002000:=by
        have h1:=qAv (qVt j x.cs r)
        rw[qKr]at h1
        rw[List.length_append];omega
       clear hy hy2 hil
       go_wp2_with fail
       refine(qBt b v' _ y W2 wr (uh HOj) y0 (by omega) (by omega)).mono ?_
       rintro e W5 ⟨rfl,hw5⟩
       have HO5:=hide hw5
       clear hw5 hcy
       go_wp2
       go_roundw
       case rel =>
        refine⟨j+1,by go_num,by omega,?_⟩
        show Wrote _ _ _ _ _
        have:=uh HO5
        rw[uh HNX,qAx,qCv]
        simp only[List.append_assoc]at this ⊢
        exact this
       case measure=>simp[intOf];omega
      ·have hjE:j=wd:=by omega
       subst hjE
       go_wp2
       go_roundw
       case rel =>
        refine⟨r+1,by go_num,by omega,?_⟩
        show Wrote _ _ _ _ _
        have:=uh HOj
        rw[<-uh HBK2]at this
        rw[qJ4,qAx]
        simp only[List.append_assoc]at this ⊢
        exact this
       case measure=>simp[intOf];omega
    ·have hrE:r=rs:=by omega
     subst hrE
     go_wp2
     go_roundw
     case rel =>
      refine⟨k+1,by go_num,by omega,?_⟩
      show Wrote _ _ _ _ _
      have h5:=Wrote.then (uh HVr) (uh HKr) (Wrote.pre (uh HKa) (uh HOr))
      rw[uh HTK,qAx,uh HPA,qB0]
      rw[<-uh HBK]at h5
      simp only[List.append_assoc]at h5 ⊢
      exact h5
     case measure=>simp[intOf];omega
  ·have hkE:k=n:=by omega
   subst hkE
   go_wp2
   go_end0
   refine⟨rfl,Wrote.pre (uh HK1) ?_⟩
   have h5:=uh HO
   rw[List.take_of_length_le (by rw[uh HN];omega),<-uh HB0]at h5
   rw[uh HSO,qB0,<-List.append_assoc]
   exact h5
end
section
open Go.RowKit
theorem qFw(i:Nat)(h:i<256): Lib.len8 (i:Int)=(bitLen i:Int):=by
 have:∀i:Fin 256,Lib.len8 ((i.val:Nat):Int)=(bitLen i.val:Int):=by decide +kernel
 exact this ⟨i,h⟩
theorem qGa(i:Nat)(h:i<256): 0<=Lib.len8 (i:Int)/\Lib.len8 (i:Int)<=8:=by
 rw[qFw i h];have:=bitLen_le8 i h;omega
theorem qWk(x:Nat)(w:World)(hx:x<9223372036854775808):
  Calls Tryz.prog 241 #[.int .u64 x] w λe w'=>e=.returned (.int .i64 (bitLen x))/\w'=w:=by
 by_cases h0:4294967296<=x
 ·have d0:decide ((4294967296:Int)<=(x:Int))=true:=by simp;omega
  have s0:=bitLen_shift x 32 (by omega)
  obtain⟨y,hy⟩:∃y,x/4294967296=y:=⟨_,rfl⟩
  have e0:(x:Int)/4294967296=(y:Int):=by omega
  rw[show x/2 ^ 32=y from hy]at s0
  have b0:y<2147483648:=by omega
  by_cases h1:65536<=y
  ·have d1:decide ((65536:Int)<=(y:Int))=true:=by simp;omega
   have s1:=bitLen_shift y 16 (by omega)
   obtain⟨z,hz⟩:∃z,y/65536=z:=⟨_,rfl⟩
   have e1:(y:Int)/65536=(z:Int):=by omega
   rw[show y/2 ^ 16=z from hz]at s1
   have b1:z<32768:=by omega
   by_cases h2:256<=z
   ·have d2:decide ((256:Int)<=(z:Int))=true:=by simp;omega
    have s2:=bitLen_shift z 8 (by omega)
    obtain⟨u,hu⟩:∃u,z/256=u:=⟨_,rfl⟩
    have e2:(z:Int)/256=(u:Int):=by omega
    rw[show z/2 ^ 8=u from hu]at s2
    have b2:u<128:=by omega
    have u0:(0:Int)<=(u:Int):=by omega
    have u1:(u:Int)<=255:=by omega
    have w8:IntKind.u8.wrap (u:Int)=(u:Int):=by rw[IntKind.wrap_u8'];omega
    obtain⟨l0,l8⟩:=qGa u (by omega)
    have HF:=hide (show(bitLen x:Int)=56+Lib.len8 (u:Int) by rw[s0,s1,s2,qFw u (by omega)];omega)
    go_enter Tryz.func241,Tryz.ntmps241
    go_wp2
    go_ret
    exact⟨qA6 (by rw[uh HF];try omega),rfl⟩
   ·have d2:decide ((256:Int)<=(z:Int))=false:=by simp;omega
    have u0:(0:Int)<=(z:Int):=by omega
    have u1:(z:Int)<=255:=by omega
    have w8:IntKind.u8.wrap (z:Int)=(z:Int):=by rw[IntKind.wrap_u8'];omega
    obtain⟨l0,l8⟩:=qGa z (by omega)
    have HF:=hide (show(bitLen x:Int)=48+Lib.len8 (z:Int) by rw[s0,s1,qFw z (by omega)];omega)
    go_enter Tryz.func241,Tryz.ntmps241
    go_wp2
    go_ret
    exact⟨qA6 (by rw[uh HF];try omega),rfl⟩
  ·have d1:decide ((65536:Int)<=(y:Int))=false:=by simp;omega
   by_cases h2:256<=y
   ·have d2:decide ((256:Int)<=(y:Int))=true:=by simp;omega
    have s2:=bitLen_shift y 8 (by omega)
    obtain⟨u,hu⟩:∃u,y/256=u:=⟨_,rfl⟩
    have e2:(y:Int)/256=(u:Int):=by omega
    rw[show y/2 ^ 8=u from hu]at s2
    have b2:u<18446744073709551616:=by omega
    have u0:(0:Int)<=(u:Int):=by omega
    have u1:(u:Int)<=255:=by omega
    have w8:IntKind.u8.wrap (u:Int)=(u:Int):=by rw[IntKind.wrap_u8'];omega
    obtain⟨l0,l8⟩:=qGa u (by omega)
    have HF:=hide (show(bitLen x:Int)=40+Lib.len8 (u:Int) by rw[s0,s2,qFw u (by omega)];omega)
    go_enter Tryz.func241,Tryz.ntmps241
    go_wp2
    go_ret
    exact⟨qA6 (by rw[uh HF];try omega),rfl⟩
   ·have d2:decide ((256:Int)<=(y:Int))=false:=by simp;omega
    have u0:(0:Int)<=(y:Int):=by omega
    have u1:(y:Int)<=255:=by omega
    have w8:IntKind.u8.wrap (y:Int)=(y:Int):=by rw[IntKind.wrap_u8'];omega
    obtain⟨l0,l8⟩:=qGa y (by omega)
    have HF:=hide (show(bitLen x:Int)=32+Lib.len8 (y:Int) by rw[s0,qFw y (by omega)];omega)
    go_enter Tryz.func241,Tryz.ntmps241
    go_wp2
    go_ret
    exact⟨qA6 (by rw[uh HF];try omega),rfl⟩
 ·have d0:decide ((4294967296:Int)<=(x:Int))=false:=by simp;omega
  by_cases h1:65536<=x
  ·have d1:decide ((65536:Int)<=(x:Int))=true:=by simp;omega
   have s1:=bitLen_shift x 16 (by omega)
   obtain⟨z,hz⟩:∃z,x/65536=z:=⟨_,rfl⟩
   have e1:(x:Int)/65536=(z:Int):=by omega
   rw[show x/2 ^ 16=z from hz]at s1
   have b1:z<18446744073709551616:=by omega
   by_cases h2:256<=z
   ·have d2:decide ((256:Int)<=(z:Int))=true:=by simp;omega
    have s2:=bitLen_shift z 8 (by omega)
    obtain⟨u,hu⟩:∃u,z/256=u:=⟨_,rfl⟩
    have e2:(z:Int)/256=(u:Int):=by omega
    rw[show z/2 ^ 8=u from hu]at s2
    have b2:u<18446744073709551616:=by omega
    have u0:(0:Int)<=(u:Int):=by omega
    have u1:(u:Int)<=255:=by omega
    have w8:IntKind.u8.wrap (u:Int)=(u:Int):=by rw[IntKind.wrap_u8'];omega
    obtain⟨l0,l8⟩:=qGa u (by omega)
    have HF:=hide (show(bitLen x:Int)=24+Lib.len8 (u:Int) by rw[s1,s2,qFw u (by omega)];omega)
    go_enter Tryz.func241,Tryz.ntmps241
    go_wp2
    go_ret
    exact⟨qA6 (by rw[uh HF];try omega),rfl⟩
   ·have d2:decide ((256:Int)<=(z:Int))=false:=by simp;omega
    have u0:(0:Int)<=(z:Int):=by omega
    have u1:(z:Int)<=255:=by omega
    have w8:IntKind.u8.wrap (z:Int)=(z:Int):=by rw[IntKind.wrap_u8'];omega
    obtain⟨l0,l8⟩:=qGa z (by omega)
    have HF:=hide (show(bitLen x:Int)=16+Lib.len8 (z:Int) by rw[s1,qFw z (by omega)];omega)
    go_enter Tryz.func241,Tryz.ntmps241
    go_wp2
    go_ret
    exact⟨qA6 (by rw[uh HF];try omega),rfl⟩
  ·have d1:decide ((65536:Int)<=(x:Int))=false:=by simp;omega
   by_cases h2:256<=x
   ·have d2:decide ((256:Int)<=(x:Int))=true:=by simp;omega
    have s2:=bitLen_shift x 8 (by omega)
    obtain⟨u,hu⟩:∃u,x/256=u:=⟨_,rfl⟩
    have e2:(x:Int)/256=(u:Int):=by omega
    rw[show x/2 ^ 8=u from hu]at s2
    have b2:u<18446744073709551616:=by omega
    have u0:(0:Int)<=(u:Int):=by omega
    have u1:(u:Int)<=255:=by omega
    have w8:IntKind.u8.wrap (u:Int)=(u:Int):=by rw[IntKind.wrap_u8'];omega
    obtain⟨l0,l8⟩:=qGa u (by omega)
    have HF:=hide (show(bitLen x:Int)=8+Lib.len8 (u:Int) by rw[s2,qFw u (by omega)];omega)
    go_enter Tryz.func241,Tryz.ntmps241
    go_wp2
    go_ret
    exact⟨qA6 (by rw[uh HF];try omega),rfl⟩
   ·have d2:decide ((256:Int)<=(x:Int))=false:=by simp;omega
    have u0:(0:Int)<=(x:Int):=by omega
    have u1:(x:Int)<=255:=by omega
    have w8:IntKind.u8.wrap (x:Int)=(x:Int):=by rw[IntKind.wrap_u8'];omega
    obtain⟨l0,l8⟩:=qGa x (by omega)
    have HF:=hide (show(bitLen x:Int)=0+Lib.len8 (x:Int) by rw[qFw x (by omega)];omega)
    go_enter Tryz.func241,Tryz.ntmps241
    go_wp2
    go_ret
    exact⟨qA6 (by rw[uh HF];try omega),rfl⟩
theorem qR2(x:Nat)(w:World)(hx:x<9223372036854775808):
  Calls Tryz.prog 201 #[.int .u64 x] w λe w'=>e=.returned (.int .i64 (bitLen x))/\w'=w:=by
 have HL:=hide (qWk x w hx)
 go_enter Tryz.func201,Tryz.ntmps201
 go_wp2_with fail
 refine(uh HL).mono ?_
 rintro e w' ⟨rfl,rfl⟩
 go_wp2
 go_ret
 exact⟨rfl,rfl⟩
end
section
open Go.RowKit
def qW1(v:Value): Sem Next:=do pure (.value (<-Instr.field 211 v 1))
theorem qLl(ρ:Operand->Value)(dst:Option Tmp)(x:Operand)(ty:TypeId)(pos:String)(after:Array Edge)(guard:Option (Nat×Bool)):
  execOp ρ { dst,op:=.field 211 x 1,type:=ty,pos,after,guard }=qW1 (ρ x):=rfl
theorem qSj(a b:Value)(w:World): (qW1 (.agg #[a,b])).run Tryz.prog w=.ok (.value b) w:=by kernel_rfl
attribute [local go_sem ↓] qEa qLl
attribute [local go_sem] qFl qSj
def qLf(l:List Bk)(sz:Int)(s:Nat): Nat:=s+((l.drop s).takeWhile (λb=>decide (b.sz=sz))).length
theorem qX9(l:List Bk)(sz:Int)(s:Nat)(h:s<=l.length): s<=qLf l sz s/\qLf l sz s<=l.length:=by
 unfold qLf
 have:=(List.takeWhile_prefix (l:=l.drop s) (λb=>decide (b.sz=sz))).length_le
 rw[List.length_drop]at this
 omega
theorem qMd(l:List Bk)(i:Nat)(h:i<l.length): l.drop i=qB8 l i::l.drop (i+1):=by
 rw[List.drop_eq_getElem_cons h]
 simp[qB8,List.getD_eq_getElem?_getD,List.getElem?_eq_getElem h]
theorem qZm(l:List Bk)(sz:Int)(s:Nat)(h:s<l.length)(he:(qB8 l s).sz=sz): qLf l sz s=qLf l sz (s+1):=by
 unfold qLf
 rw[qMd l s h,List.takeWhile_cons_of_pos (by simpa using he),List.length_cons]
 omega
theorem zB0(l:List Bk)(sz:Int)(s:Nat)(h:s<l.length)(he:(qB8 l s).sz≠sz): qLf l sz s=s:=by
 unfold qLf
 rw[qMd l s h,List.takeWhile_cons_of_neg (by simpa using he)]
 rfl
theorem zAi(l:List Bk)(sz:Int): qLf l sz l.length=l.length:=by
 unfold qLf
 rw[List.drop_length]
 rfl
theorem qV9(d r:Nat)(og:Option Nat)(c:Cfg)(l:List Bk)(sz:Int)(s:Nat)(w:World)(h:CRep w d r og c l)(hl:l.length<=4398046511104)(hs:s<=l.length):
  Calls Tryz.prog 203 #[.pointer (some ⟨d,0,none⟩),.int .i64 sz,.int .i64 s] w λr w'=>r=.returned (.int .i64 (qLf l sz s))/\Keeps (λ_=>False) w w':=by
 have HR:=hide h
 clear h
 obtain⟨n,hn⟩:∃n,l.length=n:=⟨_,rfl⟩
 rw[hn]at hl hs
 have HN:=hide hn
 clear hn
 go_enter Tryz.func203,Tryz.ntmps203
 go_wp2
 go_loopw [7] (λx wr=>∃k:Nat,x=.int .i64 k/\k<=n/\Hid (Keeps (λ_=>False) w wr)/\Hid (qLf l sz s=qLf l sz k)) (λx _=>n-(intOf x).toNat)
 case atStart=>exact⟨s,rfl,hs,Keeps.refl _ _,rfl⟩
 case round =>
  obtain⟨k,rfl,hk,HK,HE⟩:=hrel
  have HC:=hide ((uh HR).still (uh HK))
  have hc20:wr.cell? ⟨d,20,none⟩=some (.pointer (some ⟨r,0,none⟩)):=(uh HC).blk.cell rfl
  have HLen:=hide (show Calls Tryz.prog 200 #[.pointer (some ⟨r,0,none⟩)] wr λe w'=>e=.returned (.int .i64 n)/\w'=wr by
     have:=rowLen_any r og l wr (uh HC).row
     rw[uh HN]at this
     exact this)
  by_cases hlk:k<n
  ·have hkl:k<l.length:=by rw[uh HN];exact hlk
   have hlt:(k:Int)<(n:Int):=by omega
   have HAt:=hide (qD1 r og l k wr (uh HC).row hkl)
   have HY:=hide (qZm l sz k hkl)
   have HNo:=hide (zB0 l sz k hkl)
   clear hkl
   generalize qB8 l k=x at *
   unfold Bk.val at HAt
   go_wp2_with fail
   refine(uh HLen).mono ?_
   rintro e w1 ⟨rfl,hw1⟩
   rw[hw1]
   clear hw1 w1
   go_wp2_with fail
   refine(uh HAt).mono ?_
   rintro e w2 ⟨rfl,hk2⟩
   have HK2:=hide ((uh HK).then hk2)
   clear hk2
   by_cases hx:x.sz=sz
   ·have hx':(x.sz==sz)=true:=by simpa using hx
    have HX:=hide hx
    clear hx
    go_wp2
    go_roundw
    case rel=>exact⟨k+1,by go_num,by omega,HK2,by show _=_;rw[uh HE,uh HY (uh HX)]⟩
    case measure=>simp[intOf];omega
   ·have hx':(x.sz==sz)=false:=by simpa using hx
    have HX:=hide hx
    clear hx
    go_wp2
    go_ret
    exact⟨by rw[uh HE,uh HNo (uh HX)];rfl,uh HK2⟩
  ·have hkn:k=n:=by omega
   subst hkn
   have hf:decide ((k:Int)<(k:Int))=false:=by simp
   go_wp2_with fail
   refine(uh HLen).mono ?_
   rintro e w1 ⟨rfl,hw1⟩
   rw[hw1]
   clear hw1 w1
   go_wp2
   go_ret
   refine⟨?_,uh HK⟩
   rw[uh HE,<-uh HN,zAi]
   rfl
def qWt(l:List Bk): Nat->Nat->List Int
 | 0,_=>[]
 | f+1,s=>((qLf l (2 ^ f) s-s:Nat):Int)::(((l.drop s).take (qLf l (2 ^ f) s-s)).map (·.t)++qWt l f (qLf l (2 ^ f) s))
def qEy(l:List Bk): Nat:=if l.length=0 then 0 else bitLen (qB8 l 0).sz.toNat
def savC(l:List Bk): List Int:=(qEy l:Int)::qWt l (qEy l) 0
theorem qUp(l:List Bk)(s j:Nat)(x:Bk)(h:s+j<l.length)(hx:qB8 l (s+j)=x): ((l.drop s).take (j+1)).map (·.t)=((l.drop s).take j).map (·.t)++[x.t]:=by
 have hj:j<(l.drop s).length:=by rw[List.length_drop];omega
 rw[List.take_add_one,List.map_append,List.getElem?_eq_getElem hj]
 subst hx
 simp[qB8,List.getD_eq_getElem?_getD,List.getElem?_eq_getElem h]
theorem qPs(l:List Bk)(f s:Nat): qWt l (f+1) s=((qLf l (2 ^ f) s-s:Nat):Int)::(((l.drop s).take (qLf l (2 ^ f) s-s)).map (·.t)++qWt l f (qLf l (2 ^ f) s)):=rfl
theorem qRx(d r:Nat)(og:Option Nat)(c:Cfg)(l:List Bk)(b:Nat)(v:Value)(bs:List Nat)(m:Int)(w:World)(h:CRep w d r og c l)(hw:WRep w b v bs)(hf:∀i,qBz b v i->i≠d/\i≠r/\og≠some i)(hl:l.length<=1000000000000)(hsz:∀x∈l,1<=x.sz/\x.sz<4611686018427387904)(ht:∀x∈l,0<=x.t/\x.t<=9223372036854775807)(hbl:bs.length+10*l.length<=140737488350000):
  Calls Tryz.prog 161 #[.pointer (some ⟨d,0,none⟩),.pointer (some ⟨b,0,none⟩),.int .i64 m] w λe w'=>e=.returned (.tuple #[])/\Wrote w b v (bs++qC0 (savC l)) w':=by
 have HC:=hide (show ∀w',Keeps (qBz b v) w w'->CRep w' d r og c l from λw' hk=>h.keeps hk (λhi=>(hf d hi).1 rfl) (λhi=>(hf r hi).2.1 rfl) (λg hg hi=>(hf g hi).2.2 hg))
 have hc20:w.cell? ⟨d,20,none⟩=some (.pointer (some ⟨r,0,none⟩)):=h.blk.cell rfl
 obtain⟨n,hn⟩:∃n,l.length=n:=⟨_,rfl⟩
 have HLen:=hide (show ∀w',Keeps (qBz b v) w w'->Calls Tryz.prog 200 #[.pointer (some ⟨r,0,none⟩)] w' λe w1=>e=.returned (.int .i64 n)/\w1=w' from λw' hk=>by
    have:=rowLen_any r og l w' (uh HC w' hk).row
    rw[hn]at this
    exact this)
 have HW:=hide (Wrote.refl hw)
 have HT:=hide ht
 have HSZ:=hide (show qEy l<=62 by
    unfold qEy
    split
    ·omega
    ·rename_i h0
     have hb:=hsz (qB8 l 0) (qFr (by omega))
     have hs:=bitLen_spec (qB8 l 0).sz.toNat
     have h2:=hs.2 (by omega)
     rcases Nat.lt_or_ge (bitLen (qB8 l 0).sz.toNat-1) 62 with h3 | h3
     ·omega
     ·have:=Nat.pow_le_pow_right (show 1<=2 by omega) h3
      have e:(2:Nat) ^ 62=4611686018427387904:=by decide
      omega)
 have HSC:=hide (show savC l=(qEy l:Int)::qWt l (qEy l) 0 from rfl)
 have HB0:=hide (show n≠0->∃x:Bk,qB8 l 0=x/\0<=x.sz/\x.sz<4611686018427387904/\(qEy l:Int)=(bitLen x.sz.toNat:Int)/\0<l.length from λh0=>by
    have hb:=hsz (qB8 l 0) (qFr (by omega))
    exact⟨_,rfl,by omega,by omega,by unfold qEy;rw[if_neg (by omega)],by omega⟩)
 have HB1:=hide (show n=0->qEy l=0 from λh0=>by unfold qEy;rw[if_pos (by omega)])
 have HN:=hide hn
 rw[hn]at hl hbl
 clear h hw hf hsz ht hn
 generalize hS:qEy l=S at *
 clear hS
 have hS62:S<=62:=uh HSZ
 have HC20:=hide (show ∀w',Keeps (qBz b v) w w'->w'.cell? ⟨d,20,none⟩=some (.pointer (some ⟨r,0,none⟩)) from λw' hk=>(uh HC w' hk).blk.cell rfl)
 by_cases hn0:n=0
 ·have hS0:=uh HB1 hn0
  subst hS0
  subst hn0
  go_enter Tryz.func161,Tryz.ntmps161
  go_wp2_with fail
  refine(uh HLen w (Keeps.refl _ _)).mono ?_
  rintro e w1 ⟨rfl,hw1⟩
  rw[hw1]
  clear hw1 w1
  go_wp2_with fail
  refine(qBt b v bs 0 w w (uh HW) (by omega) (by omega) (by omega)).mono ?_
  rintro e w1 ⟨rfl,hw1⟩
  have HO:=hide hw1
  clear hw1
  go_wp2_with fail
  go_loopw [7,8] (λx y wr=>x=.int .i64 0/\y=.int .i64 (-1)/\Hid (Wrote w b v (bs++enc 0) wr)) (λ_ _ _=>0)
  case atStart=>exact⟨rfl,rfl,HO⟩
  case round =>
   obtain⟨rfl,rfl,HO2⟩:=hrel
   go_wp2
   go_end0
   refine⟨rfl,?_⟩
   have:=uh HO2
   rw[uh HSC,qB0]
   simpa[qWt,qC8] using this
 ·obtain⟨x,hx,x0,x1,hSx,hl0⟩:=uh HB0 hn0
  have HAt:=hide (qD1 r og l 0 w (uh HC w (Keeps.refl _ _)).row hl0)
  rw[hx]at HAt
  unfold Bk.val at HAt
  obtain⟨y,hy⟩:=Int.eq_ofNat_of_zero_le x0
  rw[hy]at x1 hSx HAt
  have wq:IntKind.u64.wrap (y:Int)=(y:Int):=by rw[IntKind.wrap_u64];omega
  have HLN:=hide (qR2 y)
  rw[Int.toNat_natCast]at hSx
  have hSy:bitLen y=S:=by omega
  rw[hSy]at HLN
  have hn1:(0:Int)<(n:Int):=by omega
  have hn2:0<n:=by omega
  clear hx hSx hSy hy x0 hn0 hl0 hn1
  go_enter Tryz.func161,Tryz.ntmps161
  go_wp2_with fail
  refine(uh HLen w (Keeps.refl _ _)).mono ?_
  rintro e w1 ⟨rfl,hw1⟩
  rw[hw1]
  clear hw1 w1
  go_wp2_with fail
  refine(uh HAt).mono ?_
  rintro e w1 ⟨rfl,hk1⟩
  have HW1:=hide ((uh HW).still hk1)
  clear hk1 hc20
  go_wp2_with fail
  refine(uh HLN w1 (by omega)).mono ?_
  rintro e w2 ⟨rfl,hw2⟩
  rw[hw2]
  clear hw2 w2
  go_wp2_with fail
  refine(qBt b v bs S w w1 (uh HW1) (by omega) (by omega) (by omega)).mono ?_
  rintro e w2 ⟨rfl,hw2⟩
  have HO:=hide hw2
  clear hw2 HW1
  have hwS:IntKind.i64.wrap ((S:Int)-1)=(S:Int)-1:=by rw[IntKind.wrap_i64];omega
  have hlS:(bs++enc (S:Int)).length+10*n<=140737488350010:=by have:=qBj (S:Int);rw[List.length_append];omega
  obtain⟨bs0,hbs0⟩:∃bs0,bs++enc (S:Int)=bs0:=⟨_,rfl⟩
  rw[hbs0]at hlS HO
  have HBS:=hide hbs0
  clear hbs0 hn2 HAt HLN wq x1
  go_wp2_with fail
  go_loopw [7,8] (λx y wr=>∃(f s:Nat) (pre:List Int),x=.int .i64 s/\y=.int .i64 ((f:Int)-1)/\f<=S/\s<=n/\pre.length+f<=S+s/\Hid (qWt l S 0=pre++qWt l f s)/\Hid (Wrote w b v (bs0++qC0 pre) wr)) (λ_ y _=>(intOf y+1).toNat)
  case atStart=>exact⟨S,0,[],rfl,rfl,by omega,by omega,by simp,by show _=_;rfl,by show Wrote _ _ _ _ _;rw[qC8,List.append_nil];exact uh HO⟩
  case round =>
   obtain⟨f,s,pre,rfl,rfl,hf,hs,hpl,HEQ,HOr⟩:=hrel
   cases f with
   | zero =>
    go_wp2
    go_end0
    refine⟨rfl,?_⟩
    have:=uh HOr
    rw[uh HSC,qB0,uh HEQ]
    simp only[qWt,List.append_nil]
    rw[<-List.append_assoc,uh HBS]
    exact this
   | succ f =>
    have e1:((f+1:Nat):Int)-1=(f:Int):=by omega
    rw[e1]
    have p2:=qIq f (by omega)
    obtain⟨P,hP⟩:∃P,(2:Int) ^ f=P:=⟨_,rfl⟩
    have HE:=hide (qV9 d r og c l P s wr (uh HC wr (uh HOr).kp) (by rw[uh HN];omega) (by rw[uh HN];exact hs))
    have HSB:=hide (qPs l f s)
    rw[hP]at p2 HSB
    have hle:=qX9 l P s (by rw[uh HN];exact hs)
    obtain⟨e,he⟩:∃e,qLf l P s=e:=⟨_,rfl⟩
    rw[he]at HE HSB hle
    rw[uh HN]at hle
    obtain⟨hle1,hle2⟩:=hle
    obtain⟨p21,p22⟩:=p2
    clear he
    have hk0:(0:Int)<=(f:Int):=by omega
    have hf62:(f:Int)<=61:=by omega
    obtain⟨q,hq⟩:∃q:Nat,e-s=q:=⟨_,rfl⟩
    rw[hq]at HSB
    have hwq:IntKind.i64.wrap ((e:Int)-(s:Int))=(q:Int):=by rw[IntKind.wrap_i64];omega
    have hlp:(bs0++qC0 pre).length<=140737488350010+10*62-10*n+10*s/\10*n<=140737488350010:=by
     have:=qAv pre
     rw[List.length_append];omega
    obtain⟨hlp1,hlp2⟩:=hlp
    go_wp2_with fail
    refine(uh HE).mono ?_
    rintro e' w3 ⟨rfl,hk3⟩
    have HO3:=hide ((uh HOr).still hk3)
    clear hk3 HE
    go_wp2_with fail
    refine(qBt b v _ q w w3 (uh HO3) (by omega) (by omega) (by omega)).mono ?_
    rintro e' w4 ⟨rfl,hw4⟩
    have HO4:=hide hw4
    clear hw4 HO3 hwq
    go_wp2_with fail
    go_loopw [7] (λx wr=>∃j:Nat,x=.int .i64 ((s+j:Nat):Int)/\j<=q/\Hid (Wrote w b v (bs0++qC0 pre++enc q++qC0 (((l.drop s).take j).map (·.t))) wr)) (λx _=>e-(intOf x).toNat)
    case atStart=>exact⟨0,rfl,Nat.zero_le _,by show Wrote _ _ _ _ _;simp only[List.take_zero,List.map_nil,qC8,List.append_nil];exact uh HO4⟩
    case round =>
     obtain⟨j,rfl,hj,HOj⟩:=hrel
     obtain⟨k,hk⟩:∃k,s+j=k:=⟨_,rfl⟩
     rw[hk]
     by_cases hjq:j<q
     ·have hkl:k<l.length:=by rw[uh HN];omega
      have hke:(k:Int)<(e:Int):=by omega
      obtain⟨x,hx⟩:∃x,qB8 l k=x:=⟨_,rfl⟩
      have HAt:=hide (qD1 r og l k wr (uh HC wr (uh HOj).kp).row hkl)
      have HNX:=hide (qUp l s j x (by rw[hk];exact hkl) (by rw[hk];exact hx))
      obtain⟨t0,t1⟩:=uh HT x (by rw[<-hx];exact qFr hkl)
      have hc2:wr.cell? ⟨d,20,none⟩=some (.pointer (some ⟨r,0,none⟩)):=uh HC20 wr (uh HOj).kp
      rw[hx]at HAt
      unfold Bk.val at HAt
      have hlb:(bs0++qC0 pre++enc q++qC0 (((l.drop s).take j).map (·.t))).length<=140737488351000:=by
       have h1:=qAv (((l.drop s).take j).map (·.t))
       have h2:=qBj q
       rw[List.length_map,List.length_take,List.length_drop,uh HN]at h1
       rw[List.length_append,List.length_append]
       omega
      clear hx hkl
      go_wp2_with fail
      refine(uh HAt).mono ?_
      rintro e' w5 ⟨rfl,hk5⟩
      have HO5:=hide ((uh HOj).still hk5)
      clear hk5 HAt hc2
      go_wp2_with fail
      refine(qBt b v _ x.t w w5 (uh HO5) t0 t1 (by omega)).mono ?_
      rintro e' w6 ⟨rfl,hw6⟩
      have HO6:=hide hw6
      clear hw6 HO5
      go_wp2
      go_roundw
      case rel =>
       refine⟨j+1,by go_num,by omega,?_⟩
       show Wrote _ _ _ _ _
       have:=uh HO6
       rw[uh HNX,qAx,qCv,<-List.append_assoc]
       exact this
      case measure=>simp[intOf];omega
     ·have hjE:j=q:=by omega
      have hkE:k=e:=by omega
      clear hk
      subst hkE
      have hf':decide ((k:Int)<(k:Int))=false:=by simp
      go_wp2
      go_roundw
      case rel =>
       refine⟨f,k,pre++((q:Int)::((l.drop s).take q).map (·.t)),rfl,by go_num,by omega,by omega,?_,?_,?_⟩
       ·have h1:(((l.drop s).take q).map (·.t)).length<=q:=by rw[List.length_map,List.length_take];omega
        rw[List.length_append,List.length_cons];omega
       ·show _=_
        rw[uh HEQ,uh HSB]
        simp
       ·show Wrote _ _ _ _ _
        have:=uh HOj
        rw[hjE]at this
        rw[qAx,qB0]
        simp only[List.append_assoc]at this ⊢
        exact this
      case measure=>simp[intOf]
end
section
open Go.RowKit
def zD2(k:Nat)(c:Cfg)(nt:Note)(m:Int): List Int :=
 if k=4 then[nt.q,nt.r] else if k=1 then savC nt.bs else if k=2 then qVs nt.rg (qMi c) (m-c.window)
 else if k=3 then savO c nt.op nt.cl (m-c.window) else if k=5 then qK4 (Dr.allL (nt.tk.length+1) nt.tk) else[]
structure SavOk (k:Nat) (c:Cfg) (nt:Note):Prop where
 q0:0<=nt.q/\nt.q<=9223372036854775807
 r0:0<=nt.r/\nt.r<=9223372036854775807
 bn:nt.bs.length<=1000000000000
 bz:∀x∈nt.bs,1<=x.sz/\x.sz<4611686018427387904
 bt:∀x∈nt.bs,0<=x.t/\x.t<=9223372036854775807
 rl:∀i,(nt.rg i).length<=40
 rb:∀i,∀b∈nt.rg i,0<=b.sz/\b.sz<=4611686018427387904/\1<=b.t/\b.t<=40
 oc:k=3->nt.cl.length<=1000/\(∀p∈nt.cl,OkP c p)/\OkP c nt.op/\(∀x∈nt.op.cs,0<=x/\x<=4611686018427387904)/\(∀p∈nt.cl,∀x∈p.cs,0<=x/\x<=4611686018427387904)
 tl:k=5->nt.tk.length<=6
 tb:k=5->∀n∈qK4 (Dr.allL (nt.tk.length+1) nt.tk),0<=n/\n<=9223372036854775807
theorem zBo(k:Nat)(nb:NB)(c:Cfg)(nt:Note)(b:Nat)(v:Value)(bs:List Nat)(m:Int)(args:Array Value)(w:World)(ha:args=qHs nb.d++#[.pointer (some ⟨b,0,none⟩),.int .i64 m])(h:NRep w k nb c nt)(hw:WRep w b v bs)(hf:∀i,qBz b v i->¬qD2 k nb i)(hi:SavOk k c nt)(hv:qBg c=true)(hk:c.kind=k)(k1:1<=k)(k5:k<=5)(m0:-100<=m)(m1:m<=4611686018427387904)(hbl:bs.length+10*nt.bs.length<=140737480000000):
  Calls Tryz.prog (zDn k) args w λe w'=>e=.returned (.tuple #[])/\Wrote w b v (bs++qC0 (zD2 k c nt m)) w':=by
 subst ha
 rcases five k1 k5 with e | e | e | e | e
 ·subst e
  exact qRx nb.d nb.r nb.g c nt.bs b v bs m w (h.cnt rfl) hw (λi hi'=>⟨λe=>hf i hi' (.inl ⟨rfl,.inl e⟩),λe=>hf i hi' (.inl ⟨rfl,.inr (.inl e)⟩),λe=>hf i hi' (.inl ⟨rfl,.inr (.inr e)⟩)⟩) hi.bn hi.bz hi.bt (by omega)
 ·subst e
  obtain⟨a1,a2,a3,a4,a5⟩:=qBx hv hk rfl
  obtain⟨hd,hq⟩:=h.dis rfl
  have hq2:nb.qs.length<=16:=by rw[hq];exact Nat.pow_le_pow_right (n:=2) (by omega) (show c.bits.toNat<=4 by omega)
  have:=qSw nb.d nb.r nb.qs c nt.rg b v bs m w hd hw (λi hi'=>⟨λe=>hf i hi' (.inr (.inr (.inl ⟨rfl,.inl e⟩))),λe=>hf i hi' (.inr (.inr (.inl ⟨rfl,.inr (.inl e)⟩))),λj hj hq=>hf i hi' (.inr (.inr (.inl ⟨rfl,.inr (.inr ⟨j,hj,hq⟩)⟩)))⟩) hq2 (by omega) a5 m0 m1 hi.rl hi.rb (by omega)
  rw[hq]at this
  exact this
 ·subst e
  obtain⟨o1,o2,o3,o4,o5⟩:=hi.oc rfl
  obtain⟨hc,hrw,_⟩:=qB9 hv hk rfl
  exact qRr nb.d nb.r nb.g c nt.op nt.cl b v bs m w (h.oft rfl) hw (λe=>hf _ e (.inr (.inr (.inr (.inl ⟨rfl,.inl rfl⟩))))) hc o1 o2 o3 o4 o5 (by have:=hrw.r0;omega) hrw.r1 (by have:=hrw.w0;omega) hrw.w1 m0 m1 (by omega)
 ·subst e
  exact qQ2 nb.d b c nt.q nt.r m v bs w (h.dec rfl) hw (λe=>hf _ e (.inr (.inl ⟨rfl,rfl⟩))) hi.q0.1 hi.q0.2 hi.r0.1 hi.r0.2 (by omega)
 ·subst e
  exact qQ4 nb.d nb.r nb.g c nt.tk b v bs m w (h.drw rfl) hw (hi.tl rfl) (hi.tb rfl) (by omega)
end
end Go.Proofs.YtahnliehdjncdaaGreatDoor
