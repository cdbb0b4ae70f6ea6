import Derived.Test.YtahnliehdjncdaaGreatDoorXAW
import Derived.Test.YtahnliehdjncdaaGreatDoorXAQ
import Derived.Test.YtahnliehdjncdaaGreatDoorXAL
import Derived.Test.YtahnliehdjncdaaGreatDoorXAN
import Derived.Test.YtahnliehdjncdaaGreatDoorXAD
set_option maxRecDepth 100000
set_option maxHeartbeats 16000000
namespace Go.Proofs.YtahnliehdjncdaaGreatDoor.Dr
open Go.RowKit
theorem all_none(q:Nat)(w:World)(h:QRep w q none []):
  Calls Tryz.prog 232 #[.pointer (some ⟨q,0,none⟩)] w λe w'=>∃g cp,e=.returned (.slice (some ⟨g,0,none⟩) 0 cp)/\w.heap.size<=g/\IRow w' g cp []/\Keeps (λ_=>False) w w':=by
 obtain⟨i0,hi0,hz0,hz1,hz2⟩:=info_parts qG2
 have HQ:=hide h
 have hb:=h.2
 have hq0:w.cell? ⟨q,0,none⟩=some (.func (.func 228) #[] #[]):=hb.cell rfl
 have hq1:w.cell? ⟨q,1,none⟩=some (.slice none 0 0):=hb.cell rfl
 clear hb h
 go_enter Tryz.func232,Tryz.ntmps232
 go_wp2_with fail
 go_region_held3 (λw'=>w'.cell? ⟨q,0,none⟩=some (.func (.func 228) #[] #[])/\w'.cell? ⟨q,1,none⟩=some (.slice none 0 0))
  (first | (go_split_ands;exact⟨by assumption,by assumption⟩) | (go_split_ands;exact⟨((Keeps.refl (λ_=>False) _).alloc _).cell (by assumption) (λh=>h),((Keeps.refl (λ_=>False) _).alloc _).cell (by assumption) (λh=>h)⟩))
  (first | (go_at_call 256;refine(qGp _).mono ?_;rintro e w' ⟨rfl,rfl⟩))
 obtain⟨W2,hW2⟩:∃W2,W2=(w.alloc (.cells #[.func (.func 228) #[] #[],.slice none 0 0] 282)).drew:=⟨_,rfl⟩
 have HB2:=hide (show Blk W2 w.heap.size [qCh,.slice none 0 0] 282 by rw[hW2];exact(Blk.new w _ _).drew)
 have HK2:=hide (show Keeps (λ_=>False) w W2 by rw[hW2];exact((Keeps.refl (λ_=>False) w).alloc _).drew)
 have HW2:=hide hW2
 clear hW2
 have HQR:=hide (show QRep W2 w.heap.size none [] from⟨rfl,uh HB2⟩)
 obtain⟨wm,hmk,hown,hgr⟩:=run_make_own (P:=Tryz.prog) W2 w.heap.size 258 251 i0 _ 5 Tryz.underlying258 hi0 hz0 hz1 .i64 .i64 0 (by rw[hz2];omega) (by unfold maxLen;omega) (uh HK2).size
 have HKM:=hide (show Keeps (λ_=>False) W2 wm from(Keeps.refl (λ_=>False) W2).grown hgr (λk hk=>by cases hk))
 have HOM:=hide (show Own wm w.heap.size (.slice (some ⟨W2.heap.size,0,none⟩) 0 0) [] from hown)
 have hmk2:(Instr.makeSlice 258 (.int .i64 0) (.int .i64 0)).run Tryz.prog W2=.ok (.slice (some ⟨W2.heap.size,0,none⟩) 0 0) wm:=hmk
 clear hown hgr hmk
 go_wp2_with fail
 rw[show(w.alloc (.cells #[.func (.func 228) #[] #[],.slice none 0 0] 282)).drew=W2 from(uh HW2).symm]
 refine(qEv q none [] 0 W2 ((uh HQ).keeps (uh HK2) (λh=>h) (λ_ h=>by cases h)) rfl).mono ?_
 rintro e w' ⟨rfl,hw'⟩
 rw[hw']
 clear hw' w'
 generalize hrb:w.heap.size=rb at *
 go_wp2_with fail
 go_loopg [4] (0) (λgk v wr=>v=.slice (some ⟨W2.heap.size,0,none⟩) 0 0/\wr=wm)
 case atStart=>exact⟨rfl,rfl⟩
 case round =>
  obtain⟨rfl,hwr⟩:=hrel
  rw[hwr]
  clear hwr wr
  go_wp2_with (go_at_call 230;refine(qEv rb none [] 0 _ ((uh HQR).keeps (uh HKM) (λh=>h) (λ_ h=>by cases h)) rfl).mono ?_;rintro e w' ⟨rfl,hw'⟩;rw[hw'];clear hw' w')
  go_ret
  have ho:=Own.row rfl (uh HOM)
  exact⟨W2.heap.size,0,rfl,by rw[hrb];exact ho.2,ho.1,(uh HK2).then (uh HKM)⟩
theorem qU3(l:List It)(i j:Nat)(x:It)(hi:i<l.length): itAt (l.set i x) j=if j=i then x else itAt l j:=by
 unfold itAt
 simp only[List.getD_eq_getElem?_getD,List.getElem?_set]
 by_cases h:i=j
 ·subst h;simp[hi]
 ·simp[h,Ne.symm h]
theorem qDl(l:List It)(i j t:Nat)(hi:i<l.length)(hj:j<l.length): itAt (swapL l i j) t=if t=j then itAt l i else if t=i then itAt l j else itAt l t:=by
 unfold swapL
 rw[qU3 _ _ _ _ (by simpa using hj)]
 by_cases h:t=j
 ·rw[if_pos h,if_pos h]
 ·rw[if_neg h,if_neg h,qU3 _ _ _ _ hi]
theorem qZ6{a b:List It}(h:a.length=b.length)(hh:∀t,t<a.length->itAt a t=itAt b t): a=b:=by
 apply List.ext_getElem h
 intro i h1 h2
 have:=hh i h1
 simpa[itAt,List.getD_eq_getElem?_getD,List.getElem?_eq_getElem h1,List.getElem?_eq_getElem h2] using this
theorem qRm(l:List It)(t:Nat)(h:t<l.length): itAt l.reverse t=itAt l (l.length-1-t):=by
 unfold itAt
 simp only[List.getD_eq_getElem?_getD]
 rw[List.getElem?_reverse h]
theorem reverse_any(g cap n:Nat)(l:List It)(w:World)(hn:l.length=n)(hn9:n<=900)(hr:IRow w g cap l):
  Calls Tryz.prog 233 #[.slice (some ⟨g,0,none⟩) n cap] w λe w'=>e=.returned (.tuple #[])/\IRow w' g cap l.reverse/\Keeps (·=g) w w':=by
 have HR:=hide hr
 have HN:=hide hn
 clear hr hn
 go_enter Tryz.func233,Tryz.ntmps233
 go_wp2_with fail
 go_loopw [2,3] (λa b wr=>∃(k:Nat) (jj:Int) (m:List It),a=.int .i64 k/\b=.int .i64 jj/\k<=n/\-900<=jj/\jj<=900/\Hid (jj=(n:Int)-1-k)/\Hid (m.length=n)/\Hid (∀t,t<n->itAt m t=if t<k\/n<=t+k then itAt l (n-1-t) else itAt l t)/\Hid (IRow wr g cap m)/\Hid (Keeps (·=g) w wr)) (λa _ _=>n-(intOf a).toNat)
 case atStart=>exact⟨0,(n:Int)-1,l,rfl,rfl,Nat.zero_le _,by omega,by omega,by show _=_;simp,HN,λt ht=>by rw[if_neg (by omega)],HR,Keeps.refl _ _⟩
 case round =>
  obtain⟨k,jj,m,rfl,rfl,hk,j0,j1,HJ,HL,HM,HI,HK⟩:=hrel
  by_cases hlt:(k:Int)<jj
  ·obtain⟨j,rfl⟩:∃j:Nat,jj=(j:Int):=⟨jj.toNat,by omega⟩
   have hjn:j<n:=by have:=uh HJ;omega
   have hkn:k<n:=by omega
   have hij:k≠j:=by omega
   have hj9:j<=900:=by omega
   have hi0:(0:Int)<=(k:Int):=by omega
   have hin:(k:Int)<(n:Int):=by omega
   have hjz:(0:Int)<=(j:Int):=by omega
   have hjn2:(j:Int)<(n:Int):=by omega
   obtain⟨x0,x1,x2,x3,x4⟩:=(uh HI).cells k (by rw[uh HL];exact hkn)
   obtain⟨y0,y1,y2,y3,y4⟩:=(uh HI).cells j (by rw[uh HL];exact hjn)
   have hf:=(uh HI).frozen
   have hne:k*5≠j*5:=by omega
   have HS:=hide (show swapL m k j=(m.set k (itAt m j)).set j (itAt m k) from rfl)
   have HSW:=hide (λt=>qDl m k j t (by rw[uh HL];exact hkn) (by rw[uh HL];exact hjn))
   have HE1:=hide (uh HM k hkn)
   have HE2:=hide (uh HM j hjn)
   generalize itAt m k=x at *
   generalize itAt m j=y at *
   go_wp2_with fail
   go_region
   have HP:=hide (((uh HI).put k y).put j x)
   have HKP:=hide ((((Keeps.refl (λi=>i=g) wr).putTk (Or.inl rfl) k y).putTk (Or.inl rfl) j x))
   have HD:=hide (show ∀t,t<n->itAt (swapL m k j) t=if t<k+1\/n<=t+(k+1) then itAt l (n-1-t) else itAt l t from λt ht=>by
      have hJ:=uh HJ
      have hjk:j=n-1-k:=by omega
      rw[uh HSW t]
      by_cases h1:t=j
      ·rw[if_pos h1,if_pos (by omega),uh HE1,if_neg (by omega),h1]
       congr 1;omega
      ·rw[if_neg h1]
       by_cases h2:t=k
       ·rw[if_pos h2,if_pos (by omega),uh HE2,if_neg (by omega),h2]
        congr 1
       ·rw[if_neg h2,uh HM t ht]
        by_cases h3:t<k\/n<=t+k
        ·rw[if_pos h3,if_pos (by omega)]
        ·rw[if_neg h3,if_neg (by omega)])
   have hw1:IntKind.i64.wrap ((k:Int)+1)=(k:Int)+1:=by rw[IntKind.wrap_i64];omega
   have hw2:IntKind.i64.wrap ((j:Int)-1)=(j:Int)-1:=by rw[IntKind.wrap_i64];omega
   go_wp2_with fail
   refine⟨⟨k+1,(j:Int)-1,swapL m k j,by go_num,rfl,by omega,by omega,by omega,?_,?_,HD,?_,?_⟩,by simp[intOf];omega⟩
   ·show _=_;have:=uh HJ;omega
   ·show _=_;rw[qA6];exact uh HL
   ·show IRow _ _ _ _;rw[uh HS];exact(uh HP).drew
   ·exact((uh HK).then (uh HKP)).drew
  ·have hd:decide ((k:Int)<jj)=false:=by simp;omega
   go_wp2
   go_end0
   refine⟨rfl,?_,uh HK⟩
   have hlm:=uh HL
   have hln:=uh HN
   have hJ:=uh HJ
   have:m=l.reverse:=qZ6 (by simp;omega) (λt ht=>by
      rw[uh HM t (by omega),qRm l t (by omega),hln]
      by_cases h3:t<k\/n<=t+k
      ·rw[if_pos h3]
      ·rw[if_neg h3];congr 1;omega)
   rw[<-this];exact uh HI
end Go.Proofs.YtahnliehdjncdaaGreatDoor.Dr
namespace Go.Proofs.YtahnliehdjncdaaGreatDoor
section
open Go.RowKit
theorem qY9(q:Nat)(og:Option Nat)(l:List Dr.It)(w:World)(h:Dr.QRep w q og l)(hl:l.length<=900):
  Calls Tryz.prog 232 #[.pointer (some ⟨q,0,none⟩)] w λe w'=>∃g cp,e=.returned (.slice (some ⟨g,0,none⟩) l.length cp)/\w.heap.size<=g/\Dr.IRow w' g cp (Dr.allL (l.length+1) l)/\(Dr.allL (l.length+1) l).length=l.length/\Keeps (λ_=>False) w w':=by
 cases og with
 | none =>
  obtain⟨rfl,hb⟩:=h
  refine(Dr.all_none q w ⟨rfl,hb⟩).mono ?_
  rintro e w' ⟨g,cp,rfl,hg,hr,hk⟩
  exact⟨g,cp,rfl,hg,hr,rfl,hk⟩
 | some g=>exact Dr.all_some q g l w h hl
theorem qIu{w:World}{base base':Nat}{v:Value}{n:Nat}{xs:List Value}(h:w.ownsRow base 3 1 v n xs)(hb:base'<=base): w.ownsRow base' 3 1 v n xs:=by
 rcases h.2 with ⟨h1,h2⟩ | ⟨g,cap,cur,h1,h2,h3⟩
 ·exact⟨h.1,.inl ⟨h1,h2⟩⟩
 ·exact⟨h.1,.inr ⟨g,cap,cur,h1,Nat.le_trans hb h2,h3⟩⟩
def three(l:List Dr.It): List Int:=l.flatMap λx=>[x.t,x.k,x.d]
theorem qGj(a b:List Dr.It): three (a++b)=three a++three b:=by simp[three]
theorem qC5(l:List Dr.It): (three l).length=3*l.length:=by
 induction l with
 | nil=>rfl
 | cons x l ih=>simp[three]at ih ⊢;omega
def qS6(s:Nat)(r:List Dr.It): Dr.It:=if s<r.length then Dr.itAt r s else⟨0,0,0,0,0⟩
def qSe(c:Cfg)(l:List Dr.It): List Int :=
 let r:=(Dr.allL (l.length+1) l).reverse
 three (r.take (min c.size.toNat r.length))++[(qS6 c.size.toNat r).v,(qS6 c.size.toNat r).d]
theorem qPr(d q:Nat)(og:Option Nat)(c:Cfg)(l:List Dr.It)(a m:Int)(w:World)(h:TRep w d q og c l)(s0:1<=c.size)(s1:c.size<=5)(hl:l.length<=6):
  Calls Tryz.prog 184 #[.pointer (some ⟨d,0,none⟩),.int .i64 a,.int .i64 m] w λe w'=>∃g cp,e=.returned (.tuple #[.slice (some ⟨g,0,none⟩) (qSe c l).length cp,.int .i64 0]) /\
   w'.ownsRow w.heap.size 3 1 (.slice (some ⟨g,0,none⟩) (qSe c l).length cp) (qSe c l).length (qAs (qSe c l))/\Keeps (λ_=>False) w w':=by
 have HT:=hide h
 have c20:w.cell? ⟨d,20,none⟩=some (.pointer (some ⟨q,0,none⟩)):=h.blk.cell rfl
 have hqr:=h.que
 clear h
 go_enter Tryz.func184,Tryz.ntmps184
 go_wp2_with fail
 refine(qY9 q og l w hqr (by omega)).mono ?_
 rintro e W1 ⟨g,cp,rfl,hg,hr1,hlen,hk1⟩
 obtain⟨n,hn⟩:∃n,n=l.length:=⟨_,rfl⟩
 rw[<-hn]at hr1 hlen ⊢
 have HRev:=hide (Dr.reverse_any g cp n (Dr.allL (n+1) l) W1 hlen (by omega) hr1)
 have HK1:=hide hk1
 have HN:=hide hn
 have HLEN:=hide hlen
 have hn6:n<=6:=by omega
 clear hr1 hk1 hqr c20 hn hlen
 go_wp2_with fail
 refine(uh HRev).mono ?_
 rintro e W2 ⟨rfl,hr2,hk2⟩
 have HK2:=hide ((uh HK1).trans hk2 (λi hi hlt=>by omega))
 obtain⟨r,hr⟩:∃r,r=(Dr.allL (n+1) l).reverse:=⟨_,rfl⟩
 rw[<-hr]at hr2
 have HQ:=hide (show qSe c l=three (r.take (min c.size.toNat r.length))++[(qS6 c.size.toNat r).v,(qS6 c.size.toNat r).d] by unfold qSe;rw[<-uh HN,<-hr])
 have HRL:=hide (show r.length=n by rw[hr];simp[uh HLEN])
 have HR2:=hide hr2
 have c10:W2.cell? ⟨d,10,none⟩=some (.int .i64 c.size):=((uh HT).blk.keeps (uh HK2) (λh=>h)).cell rfl
 have HG:=hide hg
 have HTL:=hide (show d<W2.heap.size from Nat.lt_of_lt_of_le (uh HT).blk.lt (uh HK2).size)
 clear hk2 hr2 hr HRev hg
 obtain⟨s,hs⟩:∃s:Nat,c.size=(s:Int):=⟨c.size.toNat,by omega⟩
 rw[hs]at c10 s0 s1
 have HS:=hide hs
 clear hs
 have hncp:n<=cp:=by have:=(uh HR2).le;rw[uh HRL]at this;exact this
 have hs0N:1<=s:=by omega
 have hs5:s<=5:=by omega
 by_cases hsn:(s:Int)<(n:Int)
 ·have hscp:s<=cp:=by omega
  have hscpI:(s:Int)<=(cp:Int):=by omega
  have hcp0:¬cp=0:=by omega
  go_wp2_with fail
  go_loopw [9,31] (λv i wr=>∃k:Nat,i=.int .i64 k/\k<=s/\Hid (wr.ownsRow W2.heap.size 3 1 v (3*k) (qAs (three (r.take k))))/\Hid (Keeps (λ_=>False) W2 wr)) (λ_ i _=>s-(intOf i).toNat)
  case atStart=>exact⟨0,rfl,Nat.zero_le _,World.ownsRow_nil _ _ _ _,Keeps.refl _ _⟩
  case round =>
   obtain⟨k,rfl,hk,HO,HK⟩:=hrel
   generalize u9=v at *
   have HIr:=hide ((uh HR2).keeps (uh HK) (λh=>h))
   have hk0:(0:Int)<=(k:Int):=by omega
   have HFT:=hide (qHd (uh HO))
   by_cases hlt:k<s
   ·have hkE:(k:Int)<(s:Int):=by omega
    obtain⟨x0,x1,x2,x3,x4⟩:=(uh HIr).cells k (by rw[uh HRL];omega)
    have HTK:=hide (show three (r.take (k+1))=three (r.take k)++[(Dr.itAt r k).t,(Dr.itAt r k).k,(Dr.itAt r k).d] by
       have hkr:k<r.length:=by rw[uh HRL];omega
       rw[List.take_add_one,qGj,List.getElem?_eq_getElem hkr]
       simp[three,Dr.itAt,List.getD_eq_getElem?_getD,List.getElem?_eq_getElem hkr])
    generalize Dr.itAt r k=x at *
    have hszr:=(uh HK).size
    have HL3:=hide (show(three (r.take k)).length=3*k by rw[qC5,List.length_take,uh HRL,Nat.min_eq_left (by omega)])
    go_wp2_with (at_builtin;refine qBe rfl _ _ rfl W2.heap.size _ (3*k) (three (r.take k)) rfl (by exact qCe (uh HO) (((Keeps.refl (λ_=>False) wr).alloc _).alloc _) (λ_ _ h=>h)) (wr.heap.size+1) 3 [x.t,x.k,x.d] rfl rfl (by exact Blk.newAt (by simp) [.int .i64 x.t,.int .i64 x.k,.int .i64 x.d] 3) (by omega) (by omega) (by simp;omega) ?_;intro g2 c2 W4 hown4 hk4 hat4)
    have HK4:=hide ((((uh HK).alloc (.cells #[.int .i64 x.t,.int .i64 x.k,.int .i64 x.d,.int .i64 x.n,.int .i64 x.v] 251)).alloc (.cells #[.int .i64 x.t,.int .i64 x.k,.int .i64 x.d] 3)).trans hk4 (λi hi hlt=>by have:=uh HFT i hi;omega))
    have HO4:=hide hown4
    clear hown4 hk4 hat4
    refine⟨⟨k+1,by go_num,by omega,?_,HK4⟩,by simp[intOf];omega⟩
    show World.ownsRow _ _ _ _ _ _ _
    rw[uh HTK];exact uh HO4
   ·have hkE:k=s:=by omega
    subst hkE
    have hkf:decide ((k:Int)<(k:Int))=false:=by simp
    have hszr:=(uh HK).size
    obtain⟨x0,x1,x2,x3,x4⟩:=(uh HIr).cells k (by rw[uh HRL];omega)
    have HQ2:=hide (show qSe c l=three (r.take k)++[(Dr.itAt r k).v,(Dr.itAt r k).d] by
       rw[uh HQ,uh HS,Int.toNat_natCast,uh HRL,Nat.min_eq_left (by omega)]
       unfold qS6
       rw[if_pos (by rw[uh HRL];omega)])
    generalize Dr.itAt r k=x at *
    have hgt:decide ((k:Int)<(n:Int))=true:=by simp;omega
    have hd10:wr.cell? ⟨d,10,none⟩=some (.int .i64 k):=(uh HK).cell c10 (λh=>h)
    have hdlt:d<wr.heap.size:=by have:=uh HTL;omega
    have hglt:g<wr.heap.size:=(uh HIr).lt
    have hdne:d≠wr.heap.size:=by omega
    have hgne:g≠wr.heap.size:=by omega
    have HL3:=hide (show(three (r.take k)).length=3*k by rw[qC5,List.length_take,uh HRL,Nat.min_eq_left (by omega)])
    go_wp2_with (at_builtin;refine qBe rfl _ _ rfl W2.heap.size _ (3*k) (three (r.take k)) rfl (by exact qCe (uh HO) (((Keeps.refl (λ_=>False) wr).alloc _).alloc _) (λ_ _ h=>h)) (wr.heap.size+1) 2 [x.v,x.d] rfl rfl (by exact Blk.newAt (by simp) [.int .i64 x.v,.int .i64 x.d] 3) (by omega) (by omega) (by simp;omega) ?_;intro g2 c2 W4 hown4 hk4 hat4)
    go_ret2
    have hlq:(qSe c l).length=3*k+2:=by rw[uh HQ2];simp[uh HL3]
    refine⟨g2,c2,by rw[hlq];rfl,?_,?_⟩
    ·rw[hlq,uh HQ2]
     exact qIu hown4 (uh HK2).size
    ·exact(uh HK2).then ((((uh HK).alloc _).alloc _).trans hk4 (λi hi hlt=>by have:=uh HFT i hi;omega))
 ·by_cases hns:(n:Int)<(s:Int)
  ·go_wp2_with fail
   go_loopw [9,31] (λv i wr=>∃k:Nat,i=.int .i64 k/\k<=n/\Hid (wr.ownsRow W2.heap.size 3 1 v (3*k) (qAs (three (r.take k))))/\Hid (Keeps (λ_=>False) W2 wr)) (λ_ i _=>n-(intOf i).toNat)
   case atStart=>exact⟨0,rfl,Nat.zero_le _,World.ownsRow_nil _ _ _ _,Keeps.refl _ _⟩
   case round =>
    obtain⟨k,rfl,hk,HO,HK⟩:=hrel
    generalize u9=v at *
    have HIr:=hide ((uh HR2).keeps (uh HK) (λh=>h))
    have hk0:(0:Int)<=(k:Int):=by omega
    have HFT:=hide (qHd (uh HO))
    by_cases hlt:k<n
    ·have hkE:(k:Int)<(n:Int):=by omega
     obtain⟨x0,x1,x2,x3,x4⟩:=(uh HIr).cells k (by rw[uh HRL];omega)
     have HTK:=hide (show three (r.take (k+1))=three (r.take k)++[(Dr.itAt r k).t,(Dr.itAt r k).k,(Dr.itAt r k).d] by
        have hkr:k<r.length:=by rw[uh HRL];omega
        rw[List.take_add_one,qGj,List.getElem?_eq_getElem hkr]
        simp[three,Dr.itAt,List.getD_eq_getElem?_getD,List.getElem?_eq_getElem hkr])
     generalize Dr.itAt r k=x at *
     have hszr:=(uh HK).size
     have HL3:=hide (show(three (r.take k)).length=3*k by rw[qC5,List.length_take,uh HRL,Nat.min_eq_left (by omega)])
     go_wp2_with (at_builtin;refine qBe rfl _ _ rfl W2.heap.size _ (3*k) (three (r.take k)) rfl (by exact qCe (uh HO) (((Keeps.refl (λ_=>False) wr).alloc _).alloc _) (λ_ _ h=>h)) (wr.heap.size+1) 3 [x.t,x.k,x.d] rfl rfl (by exact Blk.newAt (by simp) [.int .i64 x.t,.int .i64 x.k,.int .i64 x.d] 3) (by omega) (by omega) (by simp;omega) ?_;intro g2 c2 W4 hown4 hk4 hat4)
     have HK4:=hide ((((uh HK).alloc (.cells #[.int .i64 x.t,.int .i64 x.k,.int .i64 x.d,.int .i64 x.n,.int .i64 x.v] 251)).alloc (.cells #[.int .i64 x.t,.int .i64 x.k,.int .i64 x.d] 3)).trans hk4 (λi hi hlt=>by have:=uh HFT i hi;omega))
     have HO4:=hide hown4
     clear hown4 hk4 hat4
     refine⟨⟨k+1,by go_num,by omega,?_,HK4⟩,by simp[intOf];omega⟩
     show World.ownsRow _ _ _ _ _ _ _
     rw[uh HTK];exact uh HO4
    ·have hkE:k=n:=by omega
     subst hkE
     have hkf:decide ((k:Int)<(k:Int))=false:=by simp
     have hszr:=(uh HK).size
     have HQ2:=hide (show qSe c l=three (r.take k)++[0,0] by
        rw[uh HQ,uh HS,Int.toNat_natCast,uh HRL,Nat.min_eq_right (by omega)]
        unfold qS6
        rw[if_neg (by rw[uh HRL];omega)])
     have hgt:decide ((s:Int)<(k:Int))=false:=by simp;omega
     have hd10:wr.cell? ⟨d,10,none⟩=some (.int .i64 s):=(uh HK).cell c10 (λh=>h)
     have hdlt:d<wr.heap.size:=by have:=uh HTL;omega
     have hdne:d≠wr.heap.size:=by omega
     have HL3:=hide (show(three (r.take k)).length=3*k by rw[qC5,List.length_take,uh HRL,Nat.min_eq_left (by omega)])
     go_wp2_with (at_builtin;refine qBe rfl _ _ rfl W2.heap.size _ (3*k) (three (r.take k)) rfl (by exact qCe (uh HO) (((Keeps.refl (λ_=>False) wr).alloc _).alloc _) (λ_ _ h=>h)) (wr.heap.size+1) 2 [0,0] rfl rfl (by exact Blk.newAt (by simp) [.int .i64 0,.int .i64 0] 3) (by omega) (by omega) (by simp;omega) ?_;intro g2 c2 W4 hown4 hk4 hat4)
     go_ret2
     have hlq:(qSe c l).length=3*k+2:=by rw[uh HQ2];simp[uh HL3]
     refine⟨g2,c2,by rw[hlq];rfl,?_,?_⟩
     ·rw[hlq,uh HQ2]
      exact qIu hown4 (uh HK2).size
     ·exact(uh HK2).then ((((uh HK).alloc _).alloc _).trans hk4 (λi hi hlt=>by have:=uh HFT i hi;omega))
  ·have hsE:n=s:=by omega
   subst hsE
   go_wp2_with fail
   go_loopw [9,31] (λv i wr=>∃k:Nat,i=.int .i64 k/\k<=n/\Hid (wr.ownsRow W2.heap.size 3 1 v (3*k) (qAs (three (r.take k))))/\Hid (Keeps (λ_=>False) W2 wr)) (λ_ i _=>n-(intOf i).toNat)
   case atStart=>exact⟨0,rfl,Nat.zero_le _,World.ownsRow_nil _ _ _ _,Keeps.refl _ _⟩
   case round =>
    obtain⟨k,rfl,hk,HO,HK⟩:=hrel
    generalize u9=v at *
    have HIr:=hide ((uh HR2).keeps (uh HK) (λh=>h))
    have hk0:(0:Int)<=(k:Int):=by omega
    have HFT:=hide (qHd (uh HO))
    by_cases hlt:k<n
    ·have hkE:(k:Int)<(n:Int):=by omega
     obtain⟨x0,x1,x2,x3,x4⟩:=(uh HIr).cells k (by rw[uh HRL];omega)
     have HTK:=hide (show three (r.take (k+1))=three (r.take k)++[(Dr.itAt r k).t,(Dr.itAt r k).k,(Dr.itAt r k).d] by
        have hkr:k<r.length:=by rw[uh HRL];omega
        rw[List.take_add_one,qGj,List.getElem?_eq_getElem hkr]
        simp[three,Dr.itAt,List.getD_eq_getElem?_getD,List.getElem?_eq_getElem hkr])
     generalize Dr.itAt r k=x at *
     have hszr:=(uh HK).size
     have HL3:=hide (show(three (r.take k)).length=3*k by rw[qC5,List.length_take,uh HRL,Nat.min_eq_left (by omega)])
     go_wp2_with (at_builtin;refine qBe rfl _ _ rfl W2.heap.size _ (3*k) (three (r.take k)) rfl (by exact qCe (uh HO) (((Keeps.refl (λ_=>False) wr).alloc _).alloc _) (λ_ _ h=>h)) (wr.heap.size+1) 3 [x.t,x.k,x.d] rfl rfl (by exact Blk.newAt (by simp) [.int .i64 x.t,.int .i64 x.k,.int .i64 x.d] 3) (by omega) (by omega) (by simp;omega) ?_;intro g2 c2 W4 hown4 hk4 hat4)
     have HK4:=hide ((((uh HK).alloc (.cells #[.int .i64 x.t,.int .i64 x.k,.int .i64 x.d,.int .i64 x.n,.int .i64 x.v] 251)).alloc (.cells #[.int .i64 x.t,.int .i64 x.k,.int .i64 x.d] 3)).trans hk4 (λi hi hlt=>by have:=uh HFT i hi;omega))
     have HO4:=hide hown4
     clear hown4 hk4 hat4
     refine⟨⟨k+1,by go_num,by omega,?_,HK4⟩,by simp[intOf];omega⟩
     show World.ownsRow _ _ _ _ _ _ _
     rw[uh HTK];exact uh HO4
    ·have hkE:k=n:=by omega
     subst hkE
     have hkf:decide ((k:Int)<(k:Int))=false:=by simp
     have hszr:=(uh HK).size
     have HQ2:=hide (show qSe c l=three (r.take k)++[0,0] by
        rw[uh HQ,uh HS,Int.toNat_natCast,uh HRL,Nat.min_eq_right (by omega)]
        unfold qS6
        rw[if_neg (by rw[uh HRL];omega)])
     have hgt:decide ((k:Int)<(k:Int))=false:=by simp
     have hd10:wr.cell? ⟨d,10,none⟩=some (.int .i64 k):=(uh HK).cell c10 (λh=>h)
     have hdlt:d<wr.heap.size:=by have:=uh HTL;omega
     have hdne:d≠wr.heap.size:=by omega
     have HL3:=hide (show(three (r.take k)).length=3*k by rw[qC5,List.length_take,uh HRL,Nat.min_eq_left (by omega)])
     go_wp2_with (at_builtin;refine qBe rfl _ _ rfl W2.heap.size _ (3*k) (three (r.take k)) rfl (by exact qCe (uh HO) (((Keeps.refl (λ_=>False) wr).alloc _).alloc _) (λ_ _ h=>h)) (wr.heap.size+1) 2 [0,0] rfl rfl (by exact Blk.newAt (by simp) [.int .i64 0,.int .i64 0] 3) (by omega) (by omega) (by simp;omega) ?_;intro g2 c2 W4 hown4 hk4 hat4)
     go_ret2
     have hlq:(qSe c l).length=3*k+2:=by rw[uh HQ2];simp[uh HL3]
     refine⟨g2,c2,by rw[hlq];rfl,?_,?_⟩
     ·rw[hlq,uh HQ2]
      exact qIu hown4 (uh HK2).size
     ·exact(uh HK2).then ((((uh HK).alloc _).alloc _).trans hk4 (λi hi hlt=>by have:=uh HFT i hi;omega))
end
section
open Go.RowKit
attribute [local go_sem ↓] qAd qAe
attribute [local go_sem] qAf qAl qAc qAb qAn qAm qAg qAk
def qZi(ty:TypeId)(ps:Array (Nat×Value)): Sem Next:=do pure (.value (<-Instr.build ty ps))
theorem qMf(ρ:Operand->Value)(dst:Option Tmp)(x:Array (Nat×Operand))(ty:TypeId)(pos:String)(after:Array Edge)(guard:Option (Nat×Bool)):
  execOp ρ { dst,op:=.build 254 x,type:=ty,pos,after,guard }=qZi 254 (x.map λ(i,y)=>(i,ρ y)):=rfl
theorem qTh(c:Cfg)(q:Nat)(w:World):
  (qZi 254 #[(0,.agg c.cells.toArray),(1,.pointer (some ⟨q,0,none⟩))]).run Tryz.prog w=.ok (.value (.agg (qO7 c q).toArray)) w:=by kernel_rfl
attribute [local go_sem ↓] qMf
attribute [local go_sem] qTh
theorem qQy(c:Cfg)(w:World):
  Calls Tryz.prog 182 #[c.val] w λe w'=>∃d q,e=.returned (.pointer (some ⟨d,0,none⟩))/\w.heap.size<=d/\w.heap.size<=q/\TRep w' d q none c []/\Keeps (λ_=>False) w w':=by
 obtain⟨W,hW⟩:∃W,W=w.alloc (.cells c.cells.toArray 38):=⟨_,rfl⟩
 have HB:=hide (show Blk W w.heap.size c.cells 38 by rw[hW];exact Blk.new w _ _)
 have HK:=hide (show Keeps (λ_=>False) w W by rw[hW];exact(Keeps.refl (λ_=>False) w).alloc _)
 have HW:=hide hW
 clear hW
 unfold Cfg.val
 go_enter Tryz.func182,Tryz.ntmps182
 go_wp2_with fail
 rw[show w.alloc (.cells #[.int .i64 c.kind,.int .i64 c.lag,.int .i64 c.skew,.int .i64 c.cap,.int .i64 c.k,.int .i64 c.window,.int .i64 c.bits,.int .i64 c.rows,.int .i64 c.width,.int .i64 c.panes,.int .i64 c.size,.int .i64 c.degree,.int .i64 c.half,.int .i64 c.mark,.int .i64 c.s00,.int .i64 c.s01,.int .i64 c.s10,.int .i64 c.s11,.int .i64 c.s20,.int .i64 c.s21] 38)=W from(uh HW).symm]
 generalize hcb:w.heap.size=cb at *
 have HCB:=hide hcb
 clear hcb
 have hsz0:cb<W.heap.size:=(uh HB).lt
 obtain⟨hv,hh⟩:=qBf (uh HB) 20 rfl
 go_region_held3 (λw'=>qAp w' cb 0 20=.agg c.cells.toArray/\qAu w' cb 0 20=true)
  (first | (simp[*,qAc,qAb,qAi,qAj];done) | (go_split_ands;exact⟨(qDj hk1 (by simpa using hsz0)).1.trans (by assumption),(qDj hk1 (by simpa using hsz0)).2.trans (by assumption)⟩))
  (first | (go_at_call 227;refine(Dr.new_any _).mono ?_;rintro e W1 ⟨rfl,hr1,hk1,hz1⟩))
 go_wp2
 go_ret
 have hk1':Keeps (λ_=>False) W W1:=((Keeps.refl _ _).drew).then hk1
 have hka:∀O,Keeps (λ_=>False) W1 (W1.alloc O):=λO=>(Keeps.refl (λ_=>False) W1).alloc O
 have h2:=(uh HK).size
 have h3:=uh HCB
 have hz2:W1.heap.size=W.heap.size+1:=by simpa using hz1
 exact⟨W.heap.size+1,W.heap.size,rfl,by omega,by omega,⟨Blk.newAt hz2 (qO7 c W.heap.size) 254,hr1.keeps (hka _) (λh=>h) (λ_ h=>by cases h),by omega,λg hg=>by cases hg⟩,((uh HK).then hk1').alloc _⟩
def qO6(d:Nat): Value:=.func (.func 183) #[.pointer (some ⟨d,0,none⟩)] #[]
def qOl(d:Nat): Value:=.func (.func 186) #[.pointer (some ⟨d,0,none⟩)] #[]
def qOq(d:Nat): Value:=.func (.func 185) #[.pointer (some ⟨d,0,none⟩)] #[]
def qOx(d:Nat): Value:=.func (.func 184) #[.pointer (some ⟨d,0,none⟩)] #[]
theorem qL3(c:Cfg)(w:World):
  Calls Tryz.prog 139 #[c.val] w λe w'=>∃d q,e=.returned (.agg #[qO6 d,qOx d,qF2,qOq d,qOl d])/\w.heap.size<=d/\w.heap.size<=q/\TRep w' d q none c []/\Keeps (λ_=>False) w w':=by
 obtain⟨W,hW⟩:∃W,W=(w.alloc (.cells c.cells.toArray 38)).alloc (.cells #[.nilFunc,.nilFunc,.nilFunc,.nilFunc,.nilFunc] 100):=⟨_,rfl⟩
 have HT:=hide (show Blk W (w.heap.size+1) [.nilFunc,.nilFunc,.nilFunc,.nilFunc,.nilFunc] 100 by rw[hW];exact Blk.newAt (by simp) _ _)
 have HK:=hide (show Keeps (λ_=>False) w W by rw[hW];exact((Keeps.refl (λ_=>False) w).alloc _).alloc _)
 have HW:=hide hW
 have HN:=hide (qQy c W)
 clear hW
 unfold Cfg.val at *
 go_enter Tryz.func139,Tryz.ntmps139
 go_wp2_with fail
 rw[show(w.alloc (.cells #[.int .i64 c.kind,.int .i64 c.lag,.int .i64 c.skew,.int .i64 c.cap,.int .i64 c.k,.int .i64 c.window,.int .i64 c.bits,.int .i64 c.rows,.int .i64 c.width,.int .i64 c.panes,.int .i64 c.size,.int .i64 c.degree,.int .i64 c.half,.int .i64 c.mark,.int .i64 c.s00,.int .i64 c.s01,.int .i64 c.s10,.int .i64 c.s11,.int .i64 c.s20,.int .i64 c.s21] 38)).alloc (.cells #[.nilFunc,.nilFunc,.nilFunc,.nilFunc,.nilFunc] 100)=W from(uh HW).symm]
 generalize hcb:w.heap.size=cb at *
 have HCB:=hide hcb
 clear hcb
 refine(uh HN).mono ?_
 rintro e w2 ⟨d,q,rfl,hd,hq,hc2,hk2⟩
 have HC2:=hide hc2
 have HT2:=hide ((uh HT).keeps hk2 (λh=>h))
 have HK2:=hide ((uh HK).then hk2)
 have HSZ:=hide (uh HK).size
 have HLT:=hide (uh HT).lt
 clear hc2 hk2 HT HK HN
 have f0:=(uh HT2).frozen
 have q0:w2.cell? ⟨cb+1,0,none⟩=some .nilFunc:=(uh HT2).cell rfl
 have q1:w2.cell? ⟨cb+1,1,none⟩=some .nilFunc:=(uh HT2).cell rfl
 have q2:w2.cell? ⟨cb+1,2,none⟩=some .nilFunc:=(uh HT2).cell rfl
 have q3:w2.cell? ⟨cb+1,3,none⟩=some .nilFunc:=(uh HT2).cell rfl
 have q4:w2.cell? ⟨cb+1,4,none⟩=some .nilFunc:=(uh HT2).cell rfl
 go_wp2
 have hcb:=uh HCB
 have hsz:=uh HSZ
 have hkf:Keeps (λi=>i=cb+1) w2 (((((w2.setCell ⟨cb+1,0,none⟩ (qO6 d)).setCell ⟨cb+1,1,none⟩ (qOx d)).setCell ⟨cb+1,2,none⟩ qF2).setCell ⟨cb+1,3,none⟩ (qOq d)).setCell ⟨cb+1,4,none⟩ (qOl d)):=(((((Keeps.refl (λi=>i=cb+1) w2).setCell (p:=⟨cb+1,0,none⟩) (Or.inl rfl) _).setCell (p:=⟨cb+1,1,none⟩) (Or.inl rfl) _).setCell (p:=⟨cb+1,2,none⟩) (Or.inl rfl) _).setCell (p:=⟨cb+1,3,none⟩) (Or.inl rfl) _).setCell (p:=⟨cb+1,4,none⟩) (Or.inl rfl) _
 refine bodyPost_ret (v:=.agg #[qO6 d,qOx d,qF2,qOq d,qOl d]) (by simp[results,Tryz.results139,go_sem,q0,q1,q2,q3,q4,qO6,qOx,qF2,qOq,qOl]) rfl ⟨d,q,rfl,by omega,by omega,?_,?_⟩
 ·exact(uh HC2).keeps hkf (λh=>by have:=uh HLT;omega) (λh=>by have:=uh HLT;omega) (λg hg=>by cases hg)
 ·exact(uh HK2).trans hkf (λi hi hlt=>by omega)
end
section
open Go.RowKit
theorem qOu(c:Cfg): ∀(n s j:Nat),qFl c n s=true->s<=j->j<s+n->c.seed j=true
 | 0,s,j,_,h1,h2=>by omega
 | n+1,s,j,h,h1,h2=>by
  unfold qFl at h
  rw[Bool.and_eq_true]at h
  by_cases e:j=s
  ·rw[e];exact h.1
  ·exact qOu c n (s+1) j h.2 (by omega) (by omega)
theorem qY0{c:Cfg}{j:Nat}(h:c.seed j=true): 0<=sdA c j/\sdA c j<2305843009213693951/\0<=sdB c j/\sdB c j<2305843009213693951:=by
 match j with
 | 0=>simp only[Cfg.seed,qTr,inB,Bool.and_eq_true,decide_eq_true_eq]at h;show 0<=c.s00/\c.s00<_/\0<=c.s01/\c.s01<_;omega
 | 1=>simp only[Cfg.seed,qTr,inB,Bool.and_eq_true,decide_eq_true_eq]at h;show 0<=c.s10/\c.s10<_/\0<=c.s11/\c.s11<_;omega
 | j+2=>simp only[Cfg.seed,qTr,inB,Bool.and_eq_true,decide_eq_true_eq]at h;show 0<=c.s20/\c.s20<_/\0<=c.s21/\c.s21<_;omega
theorem qCd{c:Cfg}{k:Nat}(h:qBg c=true)(hk:c.kind=k)(h3:k=3): c.paned/\c.rowed/\1<=qBp c/\qBp c<=1000/\c.panes*qBp c=c.window:=by
 subst h3
 simp only[qBg,hk,Bool.and_eq_true]at h
 have h2:qRk c=true:=h.2.2
 simp only[qRk,qEb,inB,Bool.and_eq_true,decide_eq_true_eq,beq_iff_eq]at h2
 obtain⟨⟨r0,r1⟩,⟨w0,w1⟩,⟨p0,p1⟩,⟨n0,n1⟩,hm,hs⟩:=h2
 have hd:c.panes*(c.window/c.panes)=c.window:=by have:=Int.mul_ediv_add_emod c.window c.panes;omega
 have hl0:1<=c.window/c.panes:=by
  rcases Int.lt_or_le (c.window/c.panes) 1 with h | h
  ·have h0:0<=c.window/c.panes:=Int.ediv_nonneg (by omega) (by omega)
   have h1:c.window/c.panes=0:=by omega
   rw[h1]at hd;omega
  ·exact h
 have hl1:c.window/c.panes<=c.window:=Int.ediv_le_self _ (by omega)
 refine⟨⟨n0,n1,p0,p1⟩,⟨r0,r1,w0,w1,λj hj=>qY0 (qOu c c.rows.toNat 0 j hs (Nat.zero_le _) (by omega))⟩,hl0,by show c.window/c.panes<=1000;omega,hd⟩
theorem qB0{c:Cfg}{k:Nat}(h:qBg c=true)(hk:c.kind=k)(h2:k=2): c.pair0/\1<=c.bits/\c.bits<=4/\1<=c.window/\c.window<=1000:=by
 subst h2
 simp only[qBg,hk,Bool.and_eq_true]at h
 have h2:qGm c=true:=h.2.2
 simp only[qGm,qEb,inB,Bool.and_eq_true,decide_eq_true_eq]at h2
 obtain⟨⟨b0,b1⟩,⟨n0,n1⟩,hs⟩:=h2
 have:=qY0 (qOu c 1 0 0 hs (Nat.le_refl _) (by omega))
 obtain⟨a0,a1,a2,a3⟩:=this
 exact⟨⟨a0,a1,a2,a3⟩,b0,b1,n0,n1⟩
theorem qDr{c:Cfg}{k:Nat}(h:qBg c=true)(hk:c.kind=k)(h5:k=5): 1<=c.size/\c.size<=5:=by
 subst h5
 simp only[qBg,hk,Bool.and_eq_true]at h
 have h2:qJg c=true:=h.2.2
 simp only[qJg,inB,Bool.and_eq_true,decide_eq_true_eq]at h2
 omega
theorem qSs{c:Cfg}{l:List Dr.It}(y:It)(h:(l.length:Int)<=c.size+1): ((qPa c l y).length:Int)<=c.size+1:=by
 unfold qPa
 split
 ·rw[Dr.takeL_length,Dr.riseL_length,List.length_append]
  simp only[List.length_singleton]
  omega
 ·rename_i h1
  rw[Dr.riseL_length,List.length_append]
  simp only[List.length_singleton]
  omega
theorem qTi(c:Cfg)(n:Nat)(ls:Nat->List Bk)(y:It)(m:Int)(j:Nat): (qUs c n ls y m j).length<=(ls j).length+1:=by
 unfold qUs
 split
 ·have:=qPv ((ls j).drop (Mk.pastN (ls j) (m-c.window))) ⟨y.t,qJx (qDp c.s00 c.s01 y.k/n)⟩
  rw[List.length_drop]at this
  omega
 ·omega
theorem qVc{c:Cfg}{n:Nat}{ls:Nat->List Bk}(h:∀i,∀b∈ls i,1<=b.t/\b.t<=40)(y:It)(m:Int): ∀i,∀b∈qUs c n ls y m i,1<=b.t/\b.t<=40:=by
 intro i b hb
 unfold qUs at hb
 split at hb
 ·rcases qQj hb with h1 | h1
  ·exact h i b (List.mem_of_mem_drop h1)
  ·rw[h1];exact zBv _
 ·exact h i b hb
structure Note where
 q:Int
 r:Int
 bs:List Bk
 rg:Nat->List Bk
 op:Pa.Pn
 cl:List Pa.Pn
 tk:List Dr.It
def qGq: Note:=⟨0,0,[],λ_=>[],Pa.pn0,[],[]⟩
structure NB where
 d:Nat
 r:Nat
 g:Option Nat
 qs:List (Nat×Option Nat)
def qD4(k:Nat)(b:NB)(i:Nat): Prop :=
 (k=1/\(i=b.d\/i=b.r\/b.g=some i))\/(k=4/\i=b.d)\/(k=2/\(i=b.d\/i=b.r\/∃j,j<b.qs.length/\qf (qAt b.qs j) i)) \/
 (k=3/\(i=b.d\/i=b.r\/b.g=some i))\/(k=5/\(i=b.d\/i=b.r\/b.g=some i))
def qMm(c:Cfg): Nat:=2 ^ c.bits.toNat
structure NRep (w:World) (k:Nat) (b:NB) (c:Cfg) (nt:Note):Prop where
 dec:k=4->Blk w b.d (qCz c nt.q nt.r) 198
 cnt:k=1->CRep w b.d b.r b.g c nt.bs
 dis:k=2->DRep w b.d b.r b.qs c nt.rg/\b.qs.length=qMm c
 oft:k=3->ORep w b.d b.r b.g c nt.op nt.cl
 drw:k=5->TRep w b.d b.r b.g c nt.tk
def zDb(k:Nat)(c:Cfg)(nt:Note)(y:It)(m:Int): Note :=
 if k=4 then { nt with q:=nt.q+(nt.r+qCm (qBl c y.t))/2305843009213693952,r:=(nt.r+qCm (qBl c y.t))%2305843009213693952 }
 else if k=1 then { nt with bs:=zCe c nt.bs y.t m }
 else if k=2 then { nt with rg:=qUs c (qMm c) nt.rg y m }
 else if k=3 then { nt with op:=(zAa c nt.op nt.cl y m).1,cl:=(zAa c nt.op nt.cl y m).2 }
 else if k=5 then { nt with tk:=qPa c nt.tk y } else nt
def qJd(k:Nat)(c:Cfg)(nt:Note)(a m:Int): Int×List Int :=
 if k=4 then(0,[nt.q,nt.r,qCm (qBl c m)])
 else if k=1 then(if inB a 1 c.window=true then(0,[zEj nt.bs (m-a)]) else(13,[]))
 else if k=2 then zE7 c (qMm c) nt.rg a m
 else if k=3 then(if inB a 0 2147483648=true then(0,[qryO c nt.op nt.cl a m]) else(10,[]))
 else if k=5 then(0,qSe c nt.tk) else(1,[])
def qT9(k:Nat)(c:Cfg)(nt:Note)(m b:Int): Note×Int×Int :=
 if k=1 then({ nt with bs:=nt.bs.drop (qD1 c nt.bs m b).toNat },qD1 c nt.bs m b,(pastN nt.bs (m-c.window):Int)-qD1 c nt.bs m b) else(nt,0,0)
structure NInv (k:Nat) (c:Cfg) (rel last:Int) (nt:Note):Prop where
 q0:0<=nt.q
 qn:nt.q<=rel
 r0:0<=nt.r
 r1:nt.r<2305843009213693952
 one:∀b∈nt.bs,1<=b.sz
 sum:qD2 nt.bs<=rel
 rk:∀i,∀b∈nt.rg i,1<=b.t/\b.t<=40
 rl:∀i,((nt.rg i).length:Int)<=rel
 oi:k=3->OInv c rel last nt.op nt.cl
 tl:k=5->(nt.tk.length:Int)<=c.size+1
 lw:k=1->1<=c.k/\c.k<=10/\Lw c.k.toNat 0 nt.bs
 nb:k≠1->nt.bs=[]
 rf:∀i,Fall (nt.rg i)
theorem NInv.few{k:Nat}{c:Cfg}{rel last:Int}{nt:Note}(h:NInv k c rel last nt)(hr:rel<=4611686018427387904): nt.bs.length<=682/\∀b∈nt.bs,b.sz<4611686018427387904:=by
 by_cases e:k=1
 ·obtain⟨h1,h2,h3⟩:=h.lw e
  have h4:=h.sum
  have:=h3.few (by omega) (by omega)
  refine⟨?_,this.2⟩
  have h5:62*(c.k.toNat+1)<=62*11:=Nat.mul_le_mul_left _ (by omega)
  omega
 ·rw[h.nb e];exact⟨by simp,λb hb=>by cases hb⟩
theorem NInv.binv{k:Nat}{c:Cfg}{rel last:Int}{nt:Note}(h:NInv k c rel last nt)(hr:rel<=4611686018427387904): BInv nt.bs:=⟨h.one,by have:=h.sum;omega,by have:=(h.few hr).1;omega⟩
theorem NInv.forty{k:Nat}{c:Cfg}{rel last:Int}{nt:Note}(h:NInv k c rel last nt)(i:Nat): (nt.rg i).length<=40:=by
 have:=qHy (nt.rg i) 40 (h.rf i) (h.rk i)
 omega
theorem qXf{K:Int}(hK:0<=K)(f:Nat)(l:List Bk)(sz:Int)(e:Nat)(h1:∀b∈l,1<=b.sz)(he:e<=l.length)(z1:1<=sz): (∀b∈joinL K f l sz e,1<=b.sz)/\qD2 (joinL K f l sz e)=qD2 l:=by
 induction f generalizing l sz e with
 | zero=>exact⟨h1,rfl⟩
 | succ f ih =>
  unfold joinL
  split
  ·exact⟨h1,rfl⟩
  ·rename_i h
   have hs:qB4 l sz e+2<=e:=by omega
   have a1:(qCc l (qB4 l sz e)).sz=sz:=qIh l sz e _ (by omega) (by omega)
   have a2:(qCc l (qB4 l sz e+1)).sz=sz:=qIh l sz e _ (by omega) (by omega)
   have hsum:=qM5 l (qB4 l sz e) ⟨2*sz,(qCc l (qB4 l sz e+1)).t⟩ (by omega) (by show 2*sz=_;omega)
   have hlen:=qDe (⟨2*sz,(qCc l (qB4 l sz e+1)).t⟩:Bk) (l:=l) (i:=qB4 l sz e) (by omega)
   have:=ih (qCr l (qB4 l sz e) ⟨2*sz,(qCc l (qB4 l sz e+1)).t⟩) (2*sz) (qB4 l sz e+1) (qI4 l _ _ h1 (by show 1<=2*sz;omega)) (by omega) (by omega)
   exact⟨this.1,this.2.trans hsum⟩
theorem NInv.drop{k:Nat}{c:Cfg}{rel last:Int}{nt:Note}(h:NInv k c rel last nt)(j:Nat): NInv k c rel last { nt with bs:=nt.bs.drop j }:=by
 refine⟨h.q0,h.qn,h.r0,h.r1,λb hb=>h.one b (List.mem_of_mem_drop hb),?_,h.rk,h.rl,h.oi,h.tl,λe=>⟨(h.lw e).1,(h.lw e).2.1,(h.lw e).2.2.drop (by have:=(h.lw e).1;omega) j⟩,λe=>by show nt.bs.drop j=[];rw[h.nb e];exact List.drop_nil,h.rf⟩
 have h1:=qG6 nt.bs j
 have h2:=qDs (l:=nt.bs.take j) (λb hb=>h.one b (List.mem_of_mem_take hb))
 have h3:=h.sum
 show qD2 (nt.bs.drop j)<=rel
 omega
theorem zBn{k:Nat}{c:Cfg}{rel last:Int}{nt:Note}(h:NInv k c rel last nt)(m b:Int): NInv k c rel last (qT9 k c nt m b).1:=by
 unfold qT9
 split
 ·exact h.drop _
 ·exact h
theorem qCq{c:Cfg}{k:Nat}(h:qBg c=true)(hk:c.kind=k)(h1:k=1): 1<=c.k/\c.k<=10/\1<=c.window/\c.window<=1000:=by
 subst h1
 simp only[qBg,hk,Bool.and_eq_true]at h
 have h2:countB c=true:=h.2.2
 simp only[countB,qEb,inB,Bool.and_eq_true,decide_eq_true_eq]at h2
 omega
theorem qDt{c:Cfg}{k:Nat}(hv:qBg c=true)(hk:c.kind=k)(h4:4<=k)(h5:k<=5): c.weighs:=by
 have hd:qHl c=true:=by
  have:k=4\/k=5:=by omega
  simp only[qBg,hk,Int.toNat_natCast,Bool.and_eq_true]at hv
  rcases this with e | e
  ·have:=hv.2.2;rw[e]at this;exact this
  ·have:=hv.2.2;rw[e]at this
   simp only[qE7,qJg,Bool.and_eq_true]at this
   exact this.2
 simp only[qHl,inB,Bool.and_eq_true,decide_eq_true_eq]at hd
 exact⟨by omega,by omega,by omega,by omega,by omega,by omega⟩
theorem zBd(b:Int)(hb:1<=b)(n:Nat)(p:Int)(p1:1<=p)(p2:p<=2305843009213693952): 0<=qCm (qHh b n p)/\qCm (qHh b n p)<=2305843009213693952:=by
 induction n generalizing p with
 | zero=>simp only[qHh,qCm];omega
 | succ n ih =>
  unfold qHh
  split
  ·simp[qCm]
  ·rename_i h
   obtain⟨h1,h2⟩:=zB2 p b p1 hb h
   exact ih _ h1 h2
theorem qQg(c:Cfg)(t:Int): 0<=qCm (qBl c t)/\qCm (qBl c t)<=2305843009213693952:=by
 unfold qBl
 split
 ·simp[qCm]
 ·split
  ·exact zBd _ (by omega) _ 1 (by omega) (by omega)
  ·split
   ·simp[qCm]
   ·rename_i h1 h2 h3
    have:=qI9 ((t-c.mark)/c.half).toNat (by omega)
    simp only[qCm];omega
theorem zAj{k:Nat}{c:Cfg}{rel last:Int}{nt:Note}(h:NInv k c rel last nt)(hv:qBg c=true)(hk:c.kind=k)(y:It)(m:Int)(hy:last<=y.t)(hm:y.t<=m): NInv k c (rel+1) y.t (zDb k c nt y m):=by
 have hw:=qQg c y.t
 have a:=h.q0;have b:=h.qn;have r0:=h.r0;have r1:=h.r1;have hs:=h.sum
 have hrl:∀i,((nt.rg i).length:Int)<=rel+1:=λi=>by have:=h.rl i;omega
 unfold zDb
 split
 ·rename_i h4
  exact⟨by show 0<=nt.q+_;omega,by show nt.q+_<=_;omega,by show 0<=_%_;omega,by show _%_<_;omega,h.one,by show qD2 nt.bs<=_;omega,h.rk,hrl,λe=>by omega,h.tl,λe=>by omega,h.nb,h.rf⟩
 ·split
  ·rename_i h1
   obtain⟨k1,k2,w1,w2⟩:=qCq hv hk h1
   have hp:∀b∈qRq c nt.bs y.t m,1<=b.sz:=λb hb=>by
    unfold qRq at hb
    rcases List.mem_append.1 hb with hb | hb
    ·exact h.one b (List.mem_of_mem_drop hb)
    ·rw[List.mem_singleton]at hb;rw[hb];exact Int.le_refl _
   have hj:=qXf (K:=c.k) (by omega) ((qRq c nt.bs y.t m).length+1) (qRq c nt.bs y.t m) 1 _ hp (Nat.le_refl _) (by omega)
   refine⟨a,by show nt.q<=_;omega,r0,r1,hj.1,?_,h.rk,hrl,λe=>by omega,h.tl,λe=>⟨k1,k2,(zC8 (c:=c) (K:=c.k.toNat) (by omega) (by omega) nt.bs y.t m (h.lw e).2.2).1⟩,λe=>absurd h1 e,h.rf⟩
   show qD2 (zCe c nt.bs y.t m)<=_
   unfold zCe
   rw[hj.2]
   have h1:=qG6 nt.bs (pastN nt.bs (m-c.window))
   have h2:=qDs (l:=nt.bs.take (pastN nt.bs (m-c.window))) (λb hb=>h.one b (List.mem_of_mem_take hb))
   unfold qRq
   rw[qEc]
   unfold qNz
   simp only[qD2]
   omega
  ·split
   ·exact⟨a,by show nt.q<=_;omega,r0,r1,h.one,by show qD2 nt.bs<=_;omega,qVc h.rk y m,λi=>by
       have h1:=qTi c (qMm c) nt.rg y m i
       have h2:=h.rl i
       show((qUs c (qMm c) nt.rg y m i).length:Int)<=_
       omega,λe=>by omega,h.tl,λe=>by omega,h.nb,λi=>by
       show Fall (qUs c (qMm c) nt.rg y m i)
       unfold qUs
       split
       ·exact qM8 _ ((h.rf i).drop _)
       ·exact h.rf i⟩
   ·split
    ·rename_i h3
     obtain⟨hp,hr,hL,hL1,hpl⟩:=qCd hv hk h3
     exact⟨a,by show nt.q<=_;omega,r0,r1,h.one,by show qD2 nt.bs<=_;omega,h.rk,hrl,λ_=>zBj (h.oi h3) y m hL hpl hp.p0 hr hy hm,h.tl,λe=>by omega,h.nb,h.rf⟩
    ·rename_i h3
     split
     ·rename_i h5
      exact⟨a,by show nt.q<=_;omega,r0,r1,h.one,by show qD2 nt.bs<=_;omega,h.rk,hrl,λe=>(h3 e).elim,λe=>qSs y (h.tl e),λe=>by omega,h.nb,h.rf⟩
     ·rename_i h1 _ _
      exact⟨a,by omega,r0,r1,h.one,by omega,h.rk,hrl,λe=>(h3 e).elim,h.tl,λe=>absurd e (by omega),h.nb,h.rf⟩
theorem NInv.zero(k:Nat)(c:Cfg)(hv:qBg c=true)(hk:c.kind=k): NInv k c 0 0 qGq:=by
 refine⟨Int.le_refl _,Int.le_refl _,Int.le_refl _,by show(0:Int)<_;omega,(λb hb=>(List.not_mem_nil hb).elim),by show qD2 []<=0;simp[qD2],(λi b hb=>(List.not_mem_nil hb).elim),(λi=>by show((([]:List Bk).length:Nat):Int)<=0;simp),?_,?_,(λe=>⟨(qCq hv hk e).1,(qCq hv hk e).2.1,Lw.nil _ _⟩),(λ_=>rfl),(λ_=>List.Pairwise.nil)⟩
 ·intro e
  exact OInv.zero c (qCd hv hk e).1.p0
 ·intro e
  have:=(qDr hv hk e).1
  show(0:Int)<=_
  omega
theorem NRep.keeps{M:Nat->Prop}{w w':World}{k:Nat}{b:NB}{c:Cfg}{nt:Note}(h:NRep w k b c nt)(hk:Keeps M w w')(hn:∀i,qD4 k b i->¬M i): NRep w' k b c nt :=
 ⟨λh4=>(h.dec h4).keeps hk (hn _ (.inr (.inl ⟨h4,rfl⟩))),
    λh1=>(h.cnt h1).keeps hk (hn _ (.inl ⟨h1,.inl rfl⟩)) (hn _ (.inl ⟨h1,.inr (.inl rfl)⟩)) (λ_ hg=>hn _ (.inl ⟨h1,.inr (.inr hg)⟩)),
    λh2=>⟨(h.dis h2).1.keeps hk (hn _ (.inr (.inr (.inl ⟨h2,.inl rfl⟩)))) (hn _ (.inr (.inr (.inl ⟨h2,.inr (.inl rfl)⟩)))) (λi _ hi ha=>hn _ (.inr (.inr (.inl ⟨h2,.inr (.inr ⟨i,hi,ha⟩)⟩)))),(h.dis h2).2⟩,
    λh3=>(h.oft h3).keeps hk (hn _ (.inr (.inr (.inr (.inl ⟨h3,.inl rfl⟩))))) (hn _ (.inr (.inr (.inr (.inl ⟨h3,.inr (.inl rfl)⟩))))) (λ_ hg=>hn _ (.inr (.inr (.inr (.inl ⟨h3,.inr (.inr hg)⟩))))),
    λh5=>(h.drw h5).keeps hk (hn _ (.inr (.inr (.inr (.inr ⟨h5,.inl rfl⟩))))) (hn _ (.inr (.inr (.inr (.inr ⟨h5,.inr (.inl rfl)⟩))))) (λ_ hg=>hn _ (.inr (.inr (.inr (.inr ⟨h5,.inr (.inr hg)⟩)))))⟩
theorem NRep.still{w w':World}{k:Nat}{b:NB}{c:Cfg}{nt:Note}(h:NRep w k b c nt)(hk:Keeps (λ_=>False) w w'): NRep w' k b c nt:=h.keeps hk (λ_ _ h=>h)
theorem NRep.lt{w:World}{k:Nat}{b:NB}{c:Cfg}{nt:Note}(h:NRep w k b c nt)(i:Nat)(hi:qD4 k b i): i<w.heap.size:=by
 rcases hi with ⟨h1,hi | hi | hi⟩ | ⟨h4,hi⟩ | ⟨h2,hi | hi | ⟨j,hj,hi | hi⟩⟩ | ⟨h3,hi | hi | hi⟩ | ⟨h5,hi | hi | hi⟩
 ·rw[hi];exact(h.cnt h1).blk.lt
 ·rw[hi];exact(h.cnt h1).row.lt.1
 ·exact((h.cnt h1).row.lt.2 i hi).1
 ·rw[hi];exact(h.dec h4).lt
 ·rw[hi];exact(h.dis h2).1.blk.lt
 ·rw[hi];exact(h.dis h2).1.reg.lt
 ·rw[hi];exact((h.dis h2).1.row j hj).lt.1
 ·exact(((h.dis h2).1.row j hj).lt.2 i hi).1
 ·rw[hi];exact(h.oft h3).blk.lt
 ·rw[hi];exact(h.oft h3).row.lt.1
 ·exact((h.oft h3).row.lt.2 i hi).1
 ·rw[hi];exact(h.drw h5).blk.lt
 ·rw[hi];exact(h.drw h5).que.lt.1
 ·exact((h.drw h5).que.lt.2 i hi).1
def zFd: Nat->Nat | 1=>158 | 2=>166 | 3=>172 | 4=>177 | _=>183
def zEh: Nat->Nat | 1=>159 | 2=>167 | 3=>173 | 4=>178 | _=>184
def zEg: Nat->Nat | 1=>160 | _=>168
def zEi: Nat->Nat | 1=>161 | 2=>169 | 3=>174 | 4=>179 | _=>185
def zEy: Nat->Nat | 1=>162 | 2=>170 | 3=>175 | 4=>180 | _=>186
def qIs(d:Nat): Array Value:=#[.pointer (some ⟨d,0,none⟩)]
def zAz(k d:Nat): Array Value:=if k=1 then #[.pointer (some ⟨d,0,none⟩)] else #[]
def relV(k d:Nat): Value:=.func (.func (zFd k)) (qIs d) #[]
def qryV(k d:Nat): Value:=.func (.func (zEh k)) (qIs d) #[]
def savV(k d:Nat): Value:=.func (.func (zEi k)) (qIs d) #[]
def lodV(k d:Nat): Value:=.func (.func (zEy k)) (qIs d) #[]
def swpV(k d:Nat): Value:=.func (.func (zEg k)) (zAz k d) #[]
theorem ownCR(args:Array Value)(w:World): (callFunc 158 args).run Tryz.prog w=.ok (.enter 158 args) w:=qAy Tryz.func158 (by kernel_rfl) (by kernel_rfl) args w
theorem ownCQ(args:Array Value)(w:World): (callFunc 159 args).run Tryz.prog w=.ok (.enter 159 args) w:=qAy Tryz.func159 (by kernel_rfl) (by kernel_rfl) args w
theorem ownCS(args:Array Value)(w:World): (callFunc 160 args).run Tryz.prog w=.ok (.enter 160 args) w:=qAy Tryz.func160 (by kernel_rfl) (by kernel_rfl) args w
theorem ownDR(args:Array Value)(w:World): (callFunc 177 args).run Tryz.prog w=.ok (.enter 177 args) w:=qAy Tryz.func177 (by kernel_rfl) (by kernel_rfl) args w
theorem ownDQ(args:Array Value)(w:World): (callFunc 178 args).run Tryz.prog w=.ok (.enter 178 args) w:=qAy Tryz.func178 (by kernel_rfl) (by kernel_rfl) args w
theorem ownSR(args:Array Value)(w:World): (callFunc 166 args).run Tryz.prog w=.ok (.enter 166 args) w:=qAy Tryz.func166 (by kernel_rfl) (by kernel_rfl) args w
theorem ownSQ(args:Array Value)(w:World): (callFunc 167 args).run Tryz.prog w=.ok (.enter 167 args) w:=qAy Tryz.func167 (by kernel_rfl) (by kernel_rfl) args w
theorem ownOR(args:Array Value)(w:World): (callFunc 172 args).run Tryz.prog w=.ok (.enter 172 args) w:=qAy Tryz.func172 (by kernel_rfl) (by kernel_rfl) args w
theorem ownOQ(args:Array Value)(w:World): (callFunc 173 args).run Tryz.prog w=.ok (.enter 173 args) w:=qAy Tryz.func173 (by kernel_rfl) (by kernel_rfl) args w
theorem ownTR(args:Array Value)(w:World): (callFunc 183 args).run Tryz.prog w=.ok (.enter 183 args) w:=qAy Tryz.func183 (by kernel_rfl) (by kernel_rfl) args w
theorem ownTQ(args:Array Value)(w:World): (callFunc 184 args).run Tryz.prog w=.ok (.enter 184 args) w:=qAy Tryz.func184 (by kernel_rfl) (by kernel_rfl) args w
theorem ownSN(args:Array Value)(w:World): (callFunc 168 args).run Tryz.prog w=.ok (.enter 168 args) w:=qAy Tryz.func168 (by kernel_rfl) (by kernel_rfl) args w
theorem zFr(args:Array Value)(w:World): (callFunc 161 args).run Tryz.prog w=.ok (.enter 161 args) w:=qAy Tryz.func161 (by kernel_rfl) (by kernel_rfl) args w
theorem zEv(args:Array Value)(w:World): (callFunc 162 args).run Tryz.prog w=.ok (.enter 162 args) w:=qAy Tryz.func162 (by kernel_rfl) (by kernel_rfl) args w
theorem zFl(args:Array Value)(w:World): (callFunc 169 args).run Tryz.prog w=.ok (.enter 169 args) w:=qAy Tryz.func169 (by kernel_rfl) (by kernel_rfl) args w
theorem zEp(args:Array Value)(w:World): (callFunc 170 args).run Tryz.prog w=.ok (.enter 170 args) w:=qAy Tryz.func170 (by kernel_rfl) (by kernel_rfl) args w
theorem zEn(args:Array Value)(w:World): (callFunc 174 args).run Tryz.prog w=.ok (.enter 174 args) w:=qAy Tryz.func174 (by kernel_rfl) (by kernel_rfl) args w
theorem zEm(args:Array Value)(w:World): (callFunc 175 args).run Tryz.prog w=.ok (.enter 175 args) w:=qAy Tryz.func175 (by kernel_rfl) (by kernel_rfl) args w
theorem zEu(args:Array Value)(w:World): (callFunc 179 args).run Tryz.prog w=.ok (.enter 179 args) w:=qAy Tryz.func179 (by kernel_rfl) (by kernel_rfl) args w
theorem zE1(args:Array Value)(w:World): (callFunc 180 args).run Tryz.prog w=.ok (.enter 180 args) w:=qAy Tryz.func180 (by kernel_rfl) (by kernel_rfl) args w
theorem zFq(args:Array Value)(w:World): (callFunc 185 args).run Tryz.prog w=.ok (.enter 185 args) w:=qAy Tryz.func185 (by kernel_rfl) (by kernel_rfl) args w
theorem zFa(args:Array Value)(w:World): (callFunc 186 args).run Tryz.prog w=.ok (.enter 186 args) w:=qAy Tryz.func186 (by kernel_rfl) (by kernel_rfl) args w
theorem five{k:Nat}(h1:1<=k)(h5:k<=5): k=1\/k=2\/k=3\/k=4\/k=5:=by omega
theorem zDv(k:Nat)(h1:1<=k)(h5:k<=5)(args:Array Value)(w:World): (callFunc (zFd k) args).run Tryz.prog w=.ok (.enter (zFd k) args) w:=by
 rcases five h1 h5 with hk | hk | hk | hk | hk <;> subst hk
 ·exact ownCR args w
 ·exact ownSR args w
 ·exact ownOR args w
 ·exact ownDR args w
 ·exact ownTR args w
theorem zCu(k:Nat)(h1:1<=k)(h5:k<=5)(args:Array Value)(w:World): (callFunc (zEh k) args).run Tryz.prog w=.ok (.enter (zEh k) args) w:=by
 rcases five h1 h5 with hk | hk | hk | hk | hk <;> subst hk
 ·exact ownCQ args w
 ·exact ownSQ args w
 ·exact ownOQ args w
 ·exact ownDQ args w
 ·exact ownTQ args w
theorem zDy(k:Nat)(h1:1<=k)(h5:k<=5)(args:Array Value)(w:World): (callFunc (zEg k) args).run Tryz.prog w=.ok (.enter (zEg k) args) w:=by
 rcases five h1 h5 with hk | hk | hk | hk | hk <;> subst hk
 ·exact ownCS args w
 all_goals exact ownSN args w
theorem zCr(k:Nat)(h1:1<=k)(h5:k<=5)(args:Array Value)(w:World): (callFunc (zEi k) args).run Tryz.prog w=.ok (.enter (zEi k) args) w:=by
 rcases five h1 h5 with hk | hk | hk | hk | hk <;> subst hk
 ·exact zFr args w
 ·exact zFl args w
 ·exact zEn args w
 ·exact zEu args w
 ·exact zFq args w
theorem zCv(k:Nat)(h1:1<=k)(h5:k<=5)(args:Array Value)(w:World): (callFunc (zEy k) args).run Tryz.prog w=.ok (.enter (zEy k) args) w:=by
 rcases five h1 h5 with hk | hk | hk | hk | hk <;> subst hk
 ·exact zEv args w
 ·exact zEp args w
 ·exact zEm args w
 ·exact zE1 args w
 ·exact zFa args w
theorem zDm{rel last:Int}(k:Nat)(b:NB)(c:Cfg)(nt:Note)(y:It)(m:Int)(args:Array Value)(w:World)(ha:args=qIs b.d++#[y.val,.int .i64 m])(h:NRep w k b c nt)(hi:NInv k c rel last nt)(hr:rel+1<=4611686018427387904)(hv:qBg c=true)(hk:c.kind=k)(k1:1<=k)(k5:k<=5)(m0:-100<=m)(m1:m<=4611686018427387904)(t0:0<=y.t)(t1:y.t<=4611686018427387904)(hky:k=2\/k=3->0<=y.k/\y.k<=2147483648)(hT:Tab w)(hT0:¬qD4 k b 2)(hl:last<=4611686018427387904):
  Calls Tryz.prog (zFd k) args w λe w'=>e=.returned (.tuple #[])/\∃b':NB,NRep w' k b' c (zDb k c nt y m)/\b'.d=b.d/\(∀i,qD4 k b' i->qD4 k b i\/w.heap.size<=i)/\Keeps (qD4 k b) w w':=by
 subst ha
 rcases five k1 k5 with e | e | e | e | e
 ·subst e
  obtain⟨a1,a2,a3,a4⟩:=qCq hv hk rfl
  refine(qL9 b.d b.r b.g c nt.bs y m w (h.cnt rfl) (hi.binv (by omega)) (by have:=hi.sum;omega) (by have:=(hi.few (by omega)).1;omega) m0 m1 (by omega) a4 a1 a2).mono ?_
  rintro e w' ⟨rfl,og',hc,hk,hog⟩
  refine⟨rfl,⟨b.d,b.r,og',[]⟩,⟨(λh=>by omega),(λ_=>hc),(λh=>by omega),(λh=>by omega),(λh=>by omega)⟩,rfl,?_,hk.mono (λi _ hi=>.inl ⟨rfl,.inr hi⟩)⟩
  rintro i (⟨_,hi | hi | hi⟩ | ⟨h4,_⟩ | ⟨h4,_⟩ | ⟨h4,_⟩ | ⟨h4,_⟩)
  ·exact .inl (.inl ⟨rfl,.inl hi⟩)
  ·exact .inl (.inl ⟨rfl,.inr (.inl hi)⟩)
  ·rcases hog with h | ⟨j,h,hj⟩
   ·exact .inl (.inl ⟨rfl,.inr (.inr (by rw[<-h];exact hi))⟩)
   ·have hi':og'=some i:=hi
    rw[h]at hi'
    injection hi' with hi'
    exact .inr (by omega)
  all_goals omega
 ·subst e
  obtain⟨a1,a2,a3,a4,a5⟩:=qB0 hv hk rfl
  obtain⟨hd,hq⟩:=h.dis rfl
  obtain⟨y0,y1⟩:=hky (.inl rfl)
  have hq1:1<=b.qs.length:=by rw[hq];exact Nat.pow_pos (by omega)
  have hq2:b.qs.length<=16:=by rw[hq];exact Nat.pow_le_pow_right (n:=2) (by omega) (show c.bits.toNat<=4 by omega)
  refine(qMd b.d b.r b.qs c nt.rg y m w hd hT (λi hi h0=>hT0 (.inr (.inr (.inl ⟨rfl,.inr (.inr ⟨i,hi,h0⟩)⟩)))) hq1 hq2 a1 (by omega) a5 m0 m1 y0 y1 (λi=>by have:=hi.forty i;omega)).mono ?_
  rintro e w' ⟨rfl,qs',hd',hl',hf',hk'⟩
  refine⟨rfl,⟨b.d,b.r,b.g,qs'⟩,⟨(λh=>by omega),(λh=>by omega),(λ_=>⟨by rw[hq]at hd';exact hd',hl'.trans hq⟩),(λh=>by omega),(λh=>by omega)⟩,rfl,?_,hk'.mono (λi _ hi=>.inr (.inr (.inl ⟨rfl,.inr (.inr hi)⟩)))⟩
  rintro i (⟨h4,_⟩ | ⟨h4,_⟩ | ⟨_,hi | hi | ⟨j,hj,hi⟩⟩ | ⟨h4,_⟩ | ⟨h4,_⟩)
  ·omega
  ·omega
  ·exact .inl (.inr (.inr (.inl ⟨rfl,.inl hi⟩)))
  ·exact .inl (.inr (.inr (.inl ⟨rfl,.inr (.inl hi)⟩)))
  ·rcases hf' j i hj hi with h1 | h1
   ·exact .inl (.inr (.inr (.inl ⟨rfl,.inr (.inr h1)⟩)))
   ·exact .inr h1
  ·omega
  ·omega
 ·subst e
  obtain⟨a1,a2,a3,a4,a5⟩:=qCd hv hk rfl
  obtain⟨y0,y1⟩:=hky (.inr rfl)
  have ho:=hi.oi rfl
  have hcl:nt.cl.length<=8:=by have:=ho.len;have:=a1.p1;omega
  refine(qL5 b.d b.r b.g c nt.op nt.cl y m w (h.oft rfl) a1 a2 a3 t0 t1 y0 y1 (by omega) m1 (by omega) (ho.okC hl a3 a4) (ho.okO hl a3 a4) (λx hx=>by have:=ho.cel.1 x hx;omega)).mono ?_
  rintro e w' ⟨rfl,og',hc,hk',hog⟩
  refine⟨rfl,⟨b.d,b.r,og',[]⟩,⟨(λh=>by omega),(λh=>by omega),(λh=>by omega),(λ_=>hc),(λh=>by omega)⟩,rfl,?_,hk'.mono (λi _ hi=>.inr (.inr (.inr (.inl ⟨rfl,hi⟩))))⟩
  rintro i (⟨h4,_⟩ | ⟨h4,_⟩ | ⟨h4,_⟩ | ⟨_,hi | hi | hi⟩ | ⟨h4,_⟩)
  ·omega
  ·omega
  ·omega
  ·exact .inl (.inr (.inr (.inr (.inl ⟨rfl,.inl hi⟩))))
  ·exact .inl (.inr (.inr (.inr (.inl ⟨rfl,.inr (.inl hi)⟩))))
  ·have hi':og'=some i:=hi
   rcases hog with h | ⟨j,h,hj⟩
   ·exact .inl (.inr (.inr (.inr (.inl ⟨rfl,.inr (.inr (by rw[<-h];exact hi'))⟩))))
   ·rw[h]at hi'
    injection hi' with hi'
    exact .inr (by omega)
  ·omega
 ·subst e
  have hw:=qQg c y.t
  refine(qL8 b.d c nt.q nt.r y m w (h.dec rfl) (qDt hv hk (by omega) (by omega)) t0 t1 hi.r0 hi.r1 hi.q0 (by have:=hi.qn;omega) hw.1 hw.2).mono ?_
  rintro e w' ⟨rfl,hb,hk⟩
  exact⟨rfl,b,⟨(λ_=>hb),(λh=>by omega),(λh=>by omega),(λh=>by omega),(λh=>by omega)⟩,rfl,(λ_ h=>.inl h),hk.mono (λi _ hi=>.inr (.inl ⟨rfl,hi⟩))⟩
 ·subst e
  obtain⟨a1,a2⟩:=qDr hv hk rfl
  refine(qHm b.d b.r b.g c nt.tk y m w (h.drw rfl) (qDt hv hk (by omega) (by omega)) t0 t1 a1 a2 (by have:=hi.tl rfl;omega)).mono ?_
  rintro e w' ⟨rfl,og',hc,hk',hog⟩
  refine⟨rfl,⟨b.d,b.r,og',[]⟩,⟨(λh=>by omega),(λh=>by omega),(λh=>by omega),(λh=>by omega),(λ_=>hc)⟩,rfl,?_,hk'.mono (λi _ hi=>.inr (.inr (.inr (.inr ⟨rfl,.inr hi⟩))))⟩
  rintro i (⟨h4,_⟩ | ⟨h4,_⟩ | ⟨h4,_⟩ | ⟨h4,_⟩ | ⟨_,hi | hi | hi⟩)
  ·omega
  ·omega
  ·omega
  ·omega
  ·exact .inl (.inr (.inr (.inr (.inr ⟨rfl,.inl hi⟩))))
  ·exact .inl (.inr (.inr (.inr (.inr ⟨rfl,.inr (.inl hi)⟩))))
  ·have hi':og'=some i:=hi
   rcases hog with h | ⟨j,h,hj⟩
   ·exact .inl (.inr (.inr (.inr (.inr ⟨rfl,.inr (.inr (by rw[<-h];exact hi'))⟩))))
   ·rw[h]at hi'
    injection hi' with hi'
    exact .inr (by omega)
def qT6(w:World)(base:Nat)(v:Value)(l:List Int): Prop:=w.ownsRow base 3 1 v l.length (l.map (.int .i64 ·))
theorem zCo{rel last:Int}(k:Nat)(b:NB)(c:Cfg)(nt:Note)(a m:Int)(args:Array Value)(w:World)(ha:args=qIs b.d++#[.int .i64 a,.int .i64 m])(h:NRep w k b c nt)(hi:NInv k c rel last nt)(hr:rel<=4611686018427387904)(hlast:last<=4611686018427387904)(hv:qBg c=true)(hk:c.kind=k)(k1:1<=k)(k5:k<=5)(m0:-100<=m)(m1:m<=4611686018427387904):
  Calls Tryz.prog (zEh k) args w λe w'=>∃og n cp,e=.returned (.tuple #[.slice og n cp,.int .i64 (qJd k c nt a m).1])/\qT6 w' w.heap.size (.slice og n cp) (qJd k c nt a m).2/\Keeps (λ_=>False) w w':=by
 subst ha
 have hnil:∀w':World,qT6 w' w.heap.size (.slice none 0 0) []:=λw'=>World.ownsRow_nil _ _ _ _
 rcases five k1 k5 with e | e | e | e | e
 ·subst e
  obtain⟨a1,a2,a3,a4⟩:=qCq hv hk rfl
  cases hin:inB a 1 c.window
  ·refine(qSn b.d b.r b.g c nt.bs a m w (h.cnt rfl) hin).mono ?_
   rintro e w' ⟨rfl,hk⟩
   have hq:qJd 1 c nt a m=(13,[]):=by unfold qJd;rw[if_neg (by omega),if_pos rfl,if_neg (by rw[hin];simp)]
   rw[hq]
   exact⟨none,0,0,rfl,hnil _,hk⟩
  ·refine(qPz b.d b.r b.g c nt.bs a m w (h.cnt rfl) (hi.binv hr) hin m0 m1 a4).mono ?_
   rintro e w' ⟨g,rfl,hg,hb,hk⟩
   have hq:qJd 1 c nt a m=(0,[zEj nt.bs (m-a)]):=by unfold qJd;rw[if_neg (by omega),if_pos rfl,if_pos hin]
   rw[hq]
   exact⟨some ⟨g,0,none⟩,1,1,rfl,⟨rfl,.inr ⟨g,1,_,rfl,hg,hb,by simp,by unfold maxLen;omega,rfl,rfl⟩⟩,hk⟩
 ·subst e
  obtain⟨a1,a2,a3,a4,a5⟩:=qB0 hv hk rfl
  obtain⟨hd,hq⟩:=h.dis rfl
  have hq1:1<=b.qs.length:=by rw[hq];exact Nat.pow_pos (by omega)
  have hq2:b.qs.length<=16:=by rw[hq];exact Nat.pow_le_pow_right (n:=2) (by omega) (show c.bits.toNat<=4 by omega)
  cases hin:inB a 1 c.window
  ·refine(qSl b.d b.r b.qs c nt.rg a m w hd hin).mono ?_
   rintro e w' ⟨rfl,hk⟩
   have hqn:qJd 2 c nt a m=(13,[]):=by unfold qJd;rw[if_neg (by omega),if_neg (by omega),if_pos rfl];unfold zE7;rw[if_neg (by rw[hin];simp)]
   rw[hqn]
   exact⟨none,0,0,rfl,hnil _,hk⟩
  ·refine(qQ5 b.d b.r b.qs c nt.rg a m w hd hin hq1 hq2 a5 m0 m1 (λi=>by have:=hi.forty i;omega) hi.rk).mono ?_
   rintro e w' ⟨g,cp,rfl,ho,hk⟩
   have hqn:qJd 2 c nt a m=(0,qD7 nt.rg b.qs.length (m-a)++[7*b.qs.length*b.qs.length*1099511627776/(10*qS0 (qD7 nt.rg b.qs.length (m-a)))]):=by unfold qJd;rw[if_neg (by omega),if_neg (by omega),if_pos rfl];unfold zE7;rw[if_pos hin,hq]
   rw[hqn]
   refine⟨some ⟨g,0,none⟩,b.qs.length+1,cp,rfl,?_,hk⟩
   unfold qT6
   rw[List.length_append,qFt,List.length_singleton]
   exact ho
 ·subst e
  obtain⟨a1,a2,a3,a4,a5⟩:=qCd hv hk rfl
  have ho:=hi.oi rfl
  have hcl:nt.cl.length<=8:=by have:=ho.len;have:=a1.p1;omega
  cases hin:inB a 0 2147483648
  ·refine(qRw b.d a m w hin).mono ?_
   rintro e w' ⟨rfl,hk⟩
   have hqn:qJd 3 c nt a m=(10,[]):=by unfold qJd;rw[if_neg (by omega),if_neg (by omega),if_neg (by omega),if_pos rfl,if_neg (by rw[hin];simp)]
   rw[hqn]
   exact⟨none,0,0,rfl,hnil _,hk⟩
  ·refine(qPu b.d b.r b.g c nt.op nt.cl a m w (h.oft rfl) hin a1 a2 (by omega) m1 (by omega) (ho.okC hlast a3 a4) (ho.okO hlast a3 a4) ho.ocs ho.ccs (by have:=ho.tops;omega)).mono ?_
   rintro e w' ⟨g,rfl,hg,hb,hk⟩
   have hqn:qJd 3 c nt a m=(0,[qryO c nt.op nt.cl a m]):=by unfold qJd;rw[if_neg (by omega),if_neg (by omega),if_neg (by omega),if_pos rfl,if_pos hin]
   rw[hqn]
   exact⟨some ⟨g,0,none⟩,1,1,rfl,⟨rfl,.inr ⟨g,1,_,rfl,hg,hb,by simp,by unfold maxLen;omega,rfl,rfl⟩⟩,hk⟩
 ·subst e
  refine(qPl b.d c nt.q nt.r a m w (h.dec rfl) (qDt hv hk (by omega) (by omega)) m0 m1).mono ?_
  rintro e w' ⟨g,rfl,hg,hb,hk⟩
  exact⟨some ⟨g,0,none⟩,3,3,rfl,⟨rfl,.inr ⟨g,3,_,rfl,hg,hb,by simp[qJd],by unfold maxLen;omega,rfl,rfl⟩⟩,hk⟩
 ·subst e
  obtain⟨a1,a2⟩:=qDr hv hk rfl
  refine(qPr b.d b.r b.g c nt.tk a m w (h.drw rfl) a1 a2 (by have:=hi.tl rfl;omega)).mono ?_
  rintro e w' ⟨g,cp,rfl,ho,hk⟩
  exact⟨some ⟨g,0,none⟩,_,cp,rfl,ho,hk⟩
theorem zCj{rel last:Int}(k:Nat)(b:NB)(c:Cfg)(nt:Note)(m bu:Int)(args:Array Value)(w:World)(ha:args=zAz k b.d++#[.int .i64 m,.int .i64 bu])(h:NRep w k b c nt)(hi:NInv k c rel last nt)(hr:rel<=4611686018427387904)(hv:qBg c=true)(hk:c.kind=k)(k1:1<=k)(k5:k<=5)(m0:-100<=m)(m1:m<=4611686018427387904)(b0:0<=bu)(b1:bu<=100):
  Calls Tryz.prog (zEg k) args w λe w'=>e=.returned (.tuple #[.int .i64 (qT9 k c nt m bu).2.1,.int .i64 (qT9 k c nt m bu).2.2])/\NRep w' k b c (qT9 k c nt m bu).1/\Keeps (qD4 k b) w w':=by
 subst ha
 rcases five k1 k5 with e | e | e | e | e
 ·subst e
  obtain⟨a1,a2,a3,a4⟩:=qCq hv hk rfl
  refine(qPm b.d b.r b.g c nt.bs m bu w (h.cnt rfl) (hi.binv hr) m0 m1 (by omega) a4 b0 b1).mono ?_
  rintro e w' ⟨rfl,hc,hk⟩
  exact⟨rfl,⟨(λh=>by omega),(λ_=>hc),(λh=>by omega),(λh=>by omega),(λh=>by omega)⟩,hk.mono (λi _ hi=>.inl ⟨rfl,.inr hi⟩)⟩
 all_goals
  subst e
  refine(qJ1 m bu w).mono ?_
  rintro e w' ⟨rfl,rfl⟩
  exact⟨rfl,h,Keeps.refl _ _⟩
end
end Go.Proofs.YtahnliehdjncdaaGreatDoor
