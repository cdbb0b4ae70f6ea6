import Derived.Deep.LoopGhost
import Derived.Test.YtahnliehdjncdaaGreatDoorXAX
import Derived.Test.YtahnliehdjncdaaGreatDoorXAS
set_option maxRecDepth 100000
set_option maxHeartbeats 16000000
namespace Go.Proofs.YtahnliehdjncdaaGreatDoor.Dr
open Go.RowKit
theorem qEr(q:Nat)(og:Option Nat)(l:List It)(n:Int)(w:World)(h:QRep w q og l)(hn:(l.length:Int)=n):
  Calls Tryz.prog 230 #[.pointer (some ⟨q,0,none⟩)] w λe w'=>e=.returned (.int .i64 n)/\w'=w :=
 (len_any q og l w h).mono λ_ _ ⟨he,hw⟩=>⟨by rw[he,hn],hw⟩
theorem qS5(q g:Nat)(l:List It)(x:It)(w:World)(h:QRep w q (some g) l)(hl:l.length<=900)(hl0:0<l.length)(hx:itAt l 0=x):
  Calls Tryz.prog 231 #[.pointer (some ⟨q,0,none⟩)] w λe w'=>e=.returned (.tuple #[.agg #[.int .i64 x.t,.int .i64 x.k,.int .i64 x.d,.int .i64 x.n,.int .i64 x.v],.bool true])/\QRep w' q (some g) (takeL l)/\Keeps (λk=>k=q\/k=g) w w' :=
 (take_any q g l w h hl hl0).mono λ_ _ ⟨he,hw⟩=>⟨by rw[he,hx];rfl,hw⟩
theorem all_some(q g:Nat)(l:List It)(w:World)(h:QRep w q (some g) l)(hl:l.length<=900):
  Calls Tryz.prog 232 #[.pointer (some ⟨q,0,none⟩)] w λe w'=>∃g cp,e=.returned (.slice (some ⟨g,0,none⟩) l.length cp)/\w.heap.size<=g/\IRow w' g cp (allL (l.length+1) l)/\(allL (l.length+1) l).length=l.length/\Keeps (λ_=>False) w w':=by
 obtain⟨n,hn⟩:∃n,n=l.length:=⟨_,rfl⟩
 obtain⟨i0,hi0,hz0,hz1,hz2⟩:=info_parts qF4
 have HN:=hide hn
 have HQ:=hide h
 rw[<-hn]at hl ⊢
 obtain⟨hne,cap,hb,hr⟩:=h
 have hq0:w.cell? ⟨q,0,none⟩=some (.func (.func 228) #[] #[]):=hb.cell rfl
 have hq1:w.cell? ⟨q,1,none⟩=some (.slice (some ⟨g,0,none⟩) n cap):=by rw[hn];exact hb.cell rfl
 have HCL:=hide (show ∀W,Keeps (λ_=>False) w W->Calls Tryz.prog 256 #[.slice (some ⟨g,0,none⟩) n cap] W λe w'=>∃g1 c1,e=.returned (.slice (some ⟨g1,0,none⟩) n c1)/\W.heap.size<=g1/\IRow w' g1 c1 l/\Keeps (λ_=>False) W w' from λW hW=>by
    rw[hn];exact qJ5 g cap l W (hr.keeps hW (λh=>h)) (by omega))
 clear hb hr hn
 go_enter Tryz.func232,Tryz.ntmps232
 go_wp2_with fail
 go_region_held3 (λw'=>w'.cell? ⟨q,0,none⟩=some (.func (.func 228) #[] #[])/\w'.cell? ⟨q,1,none⟩=some (.slice (some ⟨g,0,none⟩) n cap))
  (first | (go_split_ands;exact⟨by assumption,by assumption⟩) | (go_split_ands;exact⟨((Keeps.refl (λ_=>False) _).alloc _).cell (by assumption) (λh=>h),((Keeps.refl (λ_=>False) _).alloc _).cell (by assumption) (λh=>h)⟩) | (go_split_ands;exact⟨hka.cell (by assumption) (λh=>h),hka.cell (by assumption) (λh=>h)⟩))
  (first | (go_at_call 256;refine(uh HCL _ (by exact(Keeps.refl _ _).drew)).mono ?_;rintro e W1 ⟨g1,c1,rfl,hg1,hrow,hka⟩))
 have HK1:=hide (((Keeps.refl (λ_=>False) w).drew).then hka)
 have HG1:=hide (show w.heap.size<=g1 from hg1)
 have HZ1:=hide (uh HK1).size
 have HGL:=hide hrow.lt
 have HROW:=hide hrow
 clear hrow hka HCL hg1
 obtain⟨W2,hW2⟩:∃W2,W2=W1.alloc (.cells #[.func (.func 228) #[] #[],.slice (some ⟨g1,0,none⟩) n c1] 282):=⟨_,rfl⟩
 have HB2:=hide (show Blk W2 W1.heap.size [qCi,.slice (some ⟨g1,0,none⟩) n c1] 282 by rw[hW2];exact Blk.new W1 _ _)
 have HA2:=hide (show Keeps (λ_=>False) W1 W2 by rw[hW2];exact(Keeps.refl (λ_=>False) W1).alloc _)
 have HW2:=hide hW2
 clear hW2
 have HQR:=hide (show QRep W2 W1.heap.size (some g1) l from⟨by have:=uh HGL;omega,c1,by rw[<-uh HN];exact uh HB2,(uh HROW).keeps (uh HA2) (λh=>h)⟩)
 have HK2:=hide ((uh HK1).then (uh HA2))
 obtain⟨wm,hmk,hown,hgr⟩:=run_make_own (P:=Tryz.prog) W2 w.heap.size 258 251 i0 _ 5 Tryz.underlying258 hi0 hz0 hz1 .i64 .i64 n (by rw[hz2];omega) (by unfold maxLen;omega) (uh HK2).size
 have HKM:=hide (show Keeps (λ_=>False) W2 wm from(Keeps.refl (λ_=>False) W2).grown hgr (λk hk=>by cases hk))
 have HOM:=hide (show Own wm w.heap.size (.slice (some ⟨W2.heap.size,0,none⟩) 0 n) [] from hown)
 clear hown hgr
 go_wp2_with fail
 rw[show W1.alloc (.cells #[.func (.func 228) #[] #[],.slice (some ⟨g1,0,none⟩) n c1] 282)=W2 from(uh HW2).symm]
 refine(qEr q (some g) l n W2 ((uh HQ).keeps (uh HK2) (λh=>h) (λ_ _ h=>h)) (by rw[uh HN])).mono ?_
 rintro e w' ⟨rfl,hw'⟩
 rw[hw']
 clear hw' w'
 have HRB:=hide (show W1.heap.size<W2.heap.size from(uh HB2).lt)
 have HGB:=hide (show g1<W2.heap.size from((uh HQR).lt.2 g1 rfl).1)
 have HRG:=hide (show W1.heap.size≠g1 from((uh HQR).lt.2 g1 rfl).2)
 have HRBW:=hide (show w.heap.size<=W1.heap.size from uh HZ1)
 generalize hrb:W1.heap.size=rb at *
 generalize hga:W2.heap.size=ga0 at *
 go_wp2_with fail
 go_loopg [4] (n) (λgk v wr=>∃(m dn:List It) (ga cp:Nat),v=.slice (some ⟨ga,0,none⟩) dn.length cp/\Hid (m.length=gk)/\Hid (dn.length+gk=n)/\Hid (ga≠rb/\ga≠g1)/\Hid (Own wr w.heap.size (.slice (some ⟨ga,0,none⟩) dn.length cp) dn)/\Hid (QRep wr rb (some g1) m)/\Hid (Keeps (λ_=>False) w wr)/\Hid (allL (n+1) l=dn++allL (gk+1) m))
 case atStart=>exact⟨l,[],ga0,n,rfl,(uh HN).symm,by show _=_;simp,⟨by have:=uh HRB;omega,by have:=uh HGB;omega⟩,HOM,(uh HQR).keeps (uh HKM) (λh=>h) (λ_ _ h=>h),(uh HK2).then (uh HKM),rfl⟩
 case round =>
  obtain⟨m,dn,ga,cp,rfl,HM,HDN,HGA,HO,HQr,HKr,HE⟩:=hrel
  obtain⟨k,hk⟩:∃k,dn.length=k:=⟨_,rfl⟩
  rw[hk]
  have HKE:=hide hk
  clear hk
  by_cases h0:gk=0
  ·go_wp2_with (go_at_call 230;refine(qEr rb (some g1) m 0 _ (uh HQr) (by have:=uh HM;omega)).mono ?_;rintro e w' ⟨rfl,hw'⟩;rw[hw'];clear hw' w')
   go_ret
   have hkn:k=n:=by have:=uh HDN;have:=uh HKE;omega
   subst hkn
   have ho:=Own.row rfl (uh HO)
   have hall:allL (k+1) l=dn:=by
    rw[uh HE,h0]
    unfold allL
    rw[if_pos (by have:=uh HM;omega),List.append_nil]
   refine⟨ga,cp,rfl,ho.2,?_,?_,uh HKr⟩
   ·rw[hall];exact ho.1
   ·rw[hall];exact uh HKE
  ·have hgt:(0:Int)<(gk:Int):=by omega
   have hgN:0<gk:=by omega
   obtain⟨x,hx⟩:∃x,itAt m 0=x:=⟨_,rfl⟩
   have HTK:=hide (qS5 rb g1 m x wr (uh HQr) (by have:=uh HM;have:=uh HDN;omega) (by have:=uh HM;omega) hx)
   have HX:=hide hx
   clear hx
   go_wp2_with (first | (go_at_call 230;refine(qEr rb (some g1) m gk _ (uh HQr) (by have:=uh HM;omega)).mono ?_;rintro e w' ⟨rfl,hw'⟩;rw[hw'];clear hw' w') | (go_at_call 231;refine(uh HTK).mono ?_;rintro e W3 ⟨rfl,hq3,hk3⟩;have HQ3:=hide hq3;have HK3:=hide hk3;clear hq3 hk3;have HO3:=hide (show Own W3 w.heap.size (.slice (some ⟨ga,0,none⟩) k cp) dn by rw[<-uh HKE];exact(uh HO).keeps (uh HK3) (λi hi h=>by
             have hi':ga=i:=by simpa[Value.ownBlock] using hi
             rcases h with h | h
             ·exact(uh HGA).1 (by omega)
             ·exact(uh HGA).2 (by omega)))) | (at_builtin;refine qCf rfl _ _ rfl w.heap.size _ dn k (uh HKE) rfl (by exact(uh HO3).keeps (((Keeps.refl (λ_=>False) W3).alloc _).alloc _) (λ_ _ h=>h)) (W3.heap.size+1) 1 1 [x] rfl rfl (by exact λj u hu=>(Blk.newAt (by simp) (flat [x]) 251).cell hu) (by omega) (by have:=uh HDN;have:=uh HKE;omega) (by have h1:=(uh HKr).size;have h2:=(uh HK3).size;simp;omega) ?_;intro g2 c2 W4 hown4 hk4 hat4))
   have HBND:=hide (show W3.heap.size<=W4.heap.size/\wr.heap.size<=W3.heap.size/\w.heap.size<=wr.heap.size from⟨by have:=hk4.size;simp at this;omega,(uh HK3).size,(uh HKr).size⟩)
   have hq3:=uh HQ3
   have hlt3:=hq3.lt
   have HK4:=hide (((Keeps.refl (λi=>i=ga) W3).alloc (.cells #[.int .i64 x.t,.int .i64 x.k,.int .i64 x.d,.int .i64 x.n,.int .i64 x.v] 251)).alloc (.cells #[.int .i64 x.t,.int .i64 x.k,.int .i64 x.d,.int .i64 x.n,.int .i64 x.v] 251) |>.trans hk4 (λi hi hlt=>by
         have hi':(Value.slice (some ⟨ga,0,none⟩) k cp).ownBlock=some i:=hi
         have:ga=i:=by simpa[Value.ownBlock] using hi'
         exact this.symm))
   have HO4:=hide hown4
   have HAT:=hide (show g2=ga\/W3.heap.size<=g2 from by
      rcases hat4 with h | h
      ·have h':(Value.slice (some ⟨ga,0,none⟩) k cp).ownBlock=some g2:=h
       exact .inl (by have:ga=g2:=(by simpa[Value.ownBlock] using h');exact this.symm)
      ·exact .inr (by simp at h;omega))
   clear hown4 hk4 hat4
   have HGN:=hide (show w.heap.size<=ga from(uh HO).base ga (by simp[Value.ownBlock]))
   go_wp2
   go_roundg (gk-1)
   case measure=>omega
   case rel =>
    have hgl:=(hlt3.2 g1 rfl).1
    have hgr:=hlt3.1
    have hGA:=uh HGA
    refine⟨takeL m,dn++[x],g2,c2,?_,?_,?_,?_,?_,?_,?_,?_⟩
    ·rw[List.length_append,uh HKE];rfl
    ·show _=_;rw[takeL_length];have:=uh HM;omega
    ·show _=_;rw[List.length_append];have:=uh HDN;simp;omega
    ·show _/\_
     rcases uh HAT with h | h
     ·rw[h];exact hGA
     ·exact⟨by omega,by omega⟩
    ·show Own _ _ _ _
     rw[List.length_append,uh HKE];exact uh HO4
    ·exact hq3.keeps (uh HK4) (λh=>hGA.1 h.symm) (λg hg h=>by injection hg with hg;exact hGA.2 (by rw[hg];exact h.symm))
    ·have hK3:Keeps (λ_=>False) w W3:=(uh HKr).trans (uh HK3) (λi hi hlt=>by
        rcases hi with hi | hi
        ·have:=uh HRBW;omega
        ·have:=uh HG1;omega)
     exact hK3.trans (uh HK4) (λi hi hlt=>by have:=uh HGN;omega)
    ·show _=_
     rw[uh HE]
     conv=>lhs;unfold allL
     rw[if_neg (by have:=uh HM;omega),uh HX,show gk-1+1=gk by omega]
     simp
end Go.Proofs.YtahnliehdjncdaaGreatDoor.Dr
namespace Go.Proofs.YtahnliehdjncdaaGreatDoor.Dr
open Go.RowKit
theorem all_none(q:Nat)(w:World)(h:QRep w q none []):
  Calls Tryz.prog 232 #[.pointer (some ⟨q,0,none⟩)] w λe w'=>∃g cp,e=.returned (.slice (some ⟨g,0,none⟩) 0 cp)/\w.heap.size<=g/\IRow w' g cp []/\Keeps (λ_=>False) w w':=by
 obtain⟨i0,hi0,hz0,hz1,hz2⟩:=info_parts qF4
 have HQ:=hide h
 have hb:=h.2
 have hq0:w.cell? ⟨q,0,none⟩=some (.func (.func 228) #[] #[]):=hb.cell rfl
 have hq1:w.cell? ⟨q,1,none⟩=some (.slice none 0 0):=hb.cell rfl
 clear hb h
 go_enter Tryz.func232,Tryz.ntmps232
 go_wp2_with fail
 go_region_held3 (λw'=>w'.cell? ⟨q,0,none⟩=some (.func (.func 228) #[] #[])/\w'.cell? ⟨q,1,none⟩=some (.slice none 0 0))
  (first | (go_split_ands;exact⟨by assumption,by assumption⟩) | (go_split_ands;exact⟨((Keeps.refl (λ_=>False) _).alloc _).cell (by assumption) (λh=>h),((Keeps.refl (λ_=>False) _).alloc _).cell (by assumption) (λh=>h)⟩))
  (first | (go_at_call 256;refine(qGf _).mono ?_;rintro e w' ⟨rfl,rfl⟩))
 obtain⟨W2,hW2⟩:∃W2,W2=(w.alloc (.cells #[.func (.func 228) #[] #[],.slice none 0 0] 282)).drew:=⟨_,rfl⟩
 have HB2:=hide (show Blk W2 w.heap.size [qCi,.slice none 0 0] 282 by rw[hW2];exact(Blk.new w _ _).drew)
 have HK2:=hide (show Keeps (λ_=>False) w W2 by rw[hW2];exact((Keeps.refl (λ_=>False) w).alloc _).drew)
 have HW2:=hide hW2
 clear hW2
 have HQR:=hide (show QRep W2 w.heap.size none [] from⟨rfl,uh HB2⟩)
 obtain⟨wm,hmk,hown,hgr⟩:=run_make_own (P:=Tryz.prog) W2 w.heap.size 258 251 i0 _ 5 Tryz.underlying258 hi0 hz0 hz1 .i64 .i64 0 (by rw[hz2];omega) (by unfold maxLen;omega) (uh HK2).size
 have HKM:=hide (show Keeps (λ_=>False) W2 wm from(Keeps.refl (λ_=>False) W2).grown hgr (λk hk=>by cases hk))
 have HOM:=hide (show Own wm w.heap.size (.slice (some ⟨W2.heap.size,0,none⟩) 0 0) [] from hown)
 have hmk2:(Instr.makeSlice 258 (.int .i64 0) (.int .i64 0)).run Tryz.prog W2=.ok (.slice (some ⟨W2.heap.size,0,none⟩) 0 0) wm:=hmk
 clear hown hgr hmk
 go_wp2_with fail
 rw[show(w.alloc (.cells #[.func (.func 228) #[] #[],.slice none 0 0] 282)).drew=W2 from(uh HW2).symm]
 refine(qEr q none [] 0 W2 ((uh HQ).keeps (uh HK2) (λh=>h) (λ_ h=>by cases h)) rfl).mono ?_
 rintro e w' ⟨rfl,hw'⟩
 rw[hw']
 clear hw' w'
 generalize hrb:w.heap.size=rb at *
 go_wp2_with fail
 go_loopg [4] (0) (λgk v wr=>v=.slice (some ⟨W2.heap.size,0,none⟩) 0 0/\wr=wm)
 case atStart=>exact⟨rfl,rfl⟩
 case round =>
  obtain⟨rfl,hwr⟩:=hrel
  rw[hwr]
  clear hwr wr
  go_wp2_with (go_at_call 230;refine(qEr rb none [] 0 _ ((uh HQR).keeps (uh HKM) (λh=>h) (λ_ h=>by cases h)) rfl).mono ?_;rintro e w' ⟨rfl,hw'⟩;rw[hw'];clear hw' w')
  go_ret
  have ho:=Own.row rfl (uh HOM)
  exact⟨W2.heap.size,0,rfl,by rw[hrb];exact ho.2,ho.1,(uh HK2).then (uh HKM)⟩
theorem qTd(l:List It)(i j:Nat)(x:It)(hi:i<l.length): itAt (l.set i x) j=if j=i then x else itAt l j:=by
 unfold itAt
 simp only[List.getD_eq_getElem?_getD,List.getElem?_set]
 by_cases h:i=j
 ·subst h;simp[hi]
 ·simp[h,Ne.symm h]
theorem qDj(l:List It)(i j t:Nat)(hi:i<l.length)(hj:j<l.length): itAt (swapL l i j) t=if t=j then itAt l i else if t=i then itAt l j else itAt l t:=by
 unfold swapL
 rw[qTd _ _ _ _ (by simpa using hj)]
 by_cases h:t=j
 ·rw[if_pos h,if_pos h]
 ·rw[if_neg h,if_neg h,qTd _ _ _ _ hi]
theorem qZg{a b:List It}(h:a.length=b.length)(hh:∀t,t<a.length->itAt a t=itAt b t): a=b:=by
 apply List.ext_getElem h
 intro i h1 h2
 have:=hh i h1
 simpa[itAt,List.getD_eq_getElem?_getD,List.getElem?_eq_getElem h1,List.getElem?_eq_getElem h2] using this
theorem qPa(l:List It)(t:Nat)(h:t<l.length): itAt l.reverse t=itAt l (l.length-1-t):=by
 unfold itAt
 simp only[List.getD_eq_getElem?_getD]
 rw[List.getElem?_reverse h]
theorem reverse_any(g cap n:Nat)(l:List It)(w:World)(hn:l.length=n)(hn9:n<=900)(hr:IRow w g cap l):
  Calls Tryz.prog 233 #[.slice (some ⟨g,0,none⟩) n cap] w λe w'=>e=.returned (.tuple #[])/\IRow w' g cap l.reverse/\Keeps (·=g) w w':=by
 have HR:=hide hr
 have HN:=hide hn
 clear hr hn
 go_enter Tryz.func233,Tryz.ntmps233
 go_wp2_with fail
 go_loopw [2,3] (λa b wr=>∃(k:Nat) (jj:Int) (m:List It),a=.int .i64 k/\b=.int .i64 jj/\k<=n/\-900<=jj/\jj<=900/\Hid (jj=(n:Int)-1-k)/\Hid (m.length=n)/\Hid (∀t,t<n->itAt m t=if t<k\/n<=t+k then itAt l (n-1-t) else itAt l t)/\Hid (IRow wr g cap m)/\Hid (Keeps (·=g) w wr)) (λa _ _=>n-(intOf a).toNat)
 case atStart=>exact⟨0,(n:Int)-1,l,rfl,rfl,Nat.zero_le _,by omega,by omega,by show _=_;simp,HN,λt ht=>by rw[if_neg (by omega)],HR,Keeps.refl _ _⟩
 case round =>
  obtain⟨k,jj,m,rfl,rfl,hk,j0,j1,HJ,HL,HM,HI,HK⟩:=hrel
  by_cases hlt:(k:Int)<jj
  ·obtain⟨j,rfl⟩:∃j:Nat,jj=(j:Int):=⟨jj.toNat,by omega⟩
   have hjn:j<n:=by have:=uh HJ;omega
   have hkn:k<n:=by omega
   have hij:k≠j:=by omega
   have hj9:j<=900:=by omega
   have hi0:(0:Int)<=(k:Int):=by omega
   have hin:(k:Int)<(n:Int):=by omega
   have hjz:(0:Int)<=(j:Int):=by omega
   have hjn2:(j:Int)<(n:Int):=by omega
   obtain⟨x0,x1,x2,x3,x4⟩:=(uh HI).cells k (by rw[uh HL];exact hkn)
   obtain⟨y0,y1,y2,y3,y4⟩:=(uh HI).cells j (by rw[uh HL];exact hjn)
   have hf:=(uh HI).frozen
   have hne:k*5≠j*5:=by omega
   have HS:=hide (show swapL m k j=(m.set k (itAt m j)).set j (itAt m k) from rfl)
   have HSW:=hide (λt=>qDj m k j t (by rw[uh HL];exact hkn) (by rw[uh HL];exact hjn))
   have HE1:=hide (uh HM k hkn)
   have HE2:=hide (uh HM j hjn)
   generalize itAt m k=x at *
   generalize itAt m j=y at *
   go_wp2_with fail
   go_region
   have HP:=hide (((uh HI).put k y).put j x)
   have HKP:=hide ((((Keeps.refl (λi=>i=g) wr).putTk (Or.inl rfl) k y).putTk (Or.inl rfl) j x))
   have HD:=hide (show ∀t,t<n->itAt (swapL m k j) t=if t<k+1\/n<=t+(k+1) then itAt l (n-1-t) else itAt l t from λt ht=>by
      have hJ:=uh HJ
      have hjk:j=n-1-k:=by omega
      rw[uh HSW t]
      by_cases h1:t=j
      ·rw[if_pos h1,if_pos (by omega),uh HE1,if_neg (by omega),h1]
       congr 1;omega
      ·rw[if_neg h1]
       by_cases h2:t=k
       ·rw[if_pos h2,if_pos (by omega),uh HE2,if_neg (by omega),h2]
        congr 1
       ·rw[if_neg h2,uh HM t ht]
        by_cases h3:t<k\/n<=t+k
        ·rw[if_pos h3,if_pos (by omega)]
        ·rw[if_neg h3,if_neg (by omega)])
   have hw1:IntKind.i64.wrap ((k:Int)+1)=(k:Int)+1:=by rw[IntKind.wrap_i64];omega
   have hw2:IntKind.i64.wrap ((j:Int)-1)=(j:Int)-1:=by rw[IntKind.wrap_i64];omega
   go_wp2_with fail
   refine⟨⟨k+1,(j:Int)-1,swapL m k j,by go_num,rfl,by omega,by omega,by omega,?_,?_,HD,?_,?_⟩,by simp[intOf];omega⟩
   ·show _=_;have:=uh HJ;omega
   ·show _=_;rw[qA4];exact uh HL
   ·show IRow _ _ _ _;rw[uh HS];exact(uh HP).drew
   ·exact((uh HK).then (uh HKP)).drew
  ·have hd:decide ((k:Int)<jj)=false:=by simp;omega
   go_wp2
   go_end0
   refine⟨rfl,?_,uh HK⟩
   have hlm:=uh HL
   have hln:=uh HN
   have hJ:=uh HJ
   have:m=l.reverse:=qZg (by simp;omega) (λt ht=>by
      rw[uh HM t (by omega),qPa l t (by omega),hln]
      by_cases h3:t<k\/n<=t+k
      ·rw[if_pos h3]
      ·rw[if_neg h3];congr 1;omega)
   rw[<-this];exact uh HI
end Go.Proofs.YtahnliehdjncdaaGreatDoor.Dr
namespace Go.Proofs.YtahnliehdjncdaaGreatDoor
section
open Go.RowKit
theorem qX4(q:Nat)(og:Option Nat)(l:List Dr.It)(w:World)(h:Dr.QRep w q og l)(hl:l.length<=900):
  Calls Tryz.prog 232 #[.pointer (some ⟨q,0,none⟩)] w λe w'=>∃g cp,e=.returned (.slice (some ⟨g,0,none⟩) l.length cp)/\w.heap.size<=g/\Dr.IRow w' g cp (Dr.allL (l.length+1) l)/\(Dr.allL (l.length+1) l).length=l.length/\Keeps (λ_=>False) w w':=by
 cases og with
 | none =>
  obtain⟨rfl,hb⟩:=h
  refine(Dr.all_none q w ⟨rfl,hb⟩).mono ?_
  rintro e w' ⟨g,cp,rfl,hg,hr,hk⟩
  exact⟨g,cp,rfl,hg,hr,rfl,hk⟩
 | some g=>exact Dr.all_some q g l w h hl
theorem qIw{w:World}{base base':Nat}{v:Value}{n:Nat}{xs:List Value}(h:w.ownsRow base 3 1 v n xs)(hb:base'<=base): w.ownsRow base' 3 1 v n xs:=by
 rcases h.2 with ⟨h1,h2⟩ | ⟨g,cap,cur,h1,h2,h3⟩
 ·exact⟨h.1,.inl ⟨h1,h2⟩⟩
 ·exact⟨h.1,.inr ⟨g,cap,cur,h1,Nat.le_trans hb h2,h3⟩⟩
def three(l:List Dr.It): List Int:=l.flatMap λx=>[x.t,x.k,x.d]
theorem qGi(a b:List Dr.It): three (a++b)=three a++three b:=by simp[three]
theorem qC2(l:List Dr.It): (three l).length=3*l.length:=by
 induction l with
 | nil=>rfl
 | cons x l ih=>simp[three]at ih ⊢;omega
def qSl(s:Nat)(r:List Dr.It): Dr.It:=if s<r.length then Dr.itAt r s else⟨0,0,0,0,0⟩
def qSd(c:Cfg)(l:List Dr.It): List Int :=
 let r:=(Dr.allL (l.length+1) l).reverse
 three (r.take (min c.size.toNat r.length))++[(qSl c.size.toNat r).v,(qSl c.size.toNat r).d]
theorem qQi(d q:Nat)(og:Option Nat)(c:Cfg)(l:List Dr.It)(a m:Int)(w:World)(h:TRep w d q og c l)(s0:1<=c.size)(s1:c.size<=5)(hl:l.length<=6):
  Calls Tryz.prog 184 #[.pointer (some ⟨d,0,none⟩),.int .i64 a,.int .i64 m] w λe w'=>∃g cp,e=.returned (.tuple #[.slice (some ⟨g,0,none⟩) (qSd c l).length cp,.int .i64 0]) /\
   w'.ownsRow w.heap.size 3 1 (.slice (some ⟨g,0,none⟩) (qSd c l).length cp) (qSd c l).length (qAs (qSd c l))/\Keeps (λ_=>False) w w':=by
 have HT:=hide h
 have c20:w.cell? ⟨d,20,none⟩=some (.pointer (some ⟨q,0,none⟩)):=h.blk.cell rfl
 have hqr:=h.que
 clear h
 go_enter Tryz.func184,Tryz.ntmps184
 go_wp2_with fail
 refine(qX4 q og l w hqr (by omega)).mono ?_
 rintro e W1 ⟨g,cp,rfl,hg,hr1,hlen,hk1⟩
 obtain⟨n,hn⟩:∃n,n=l.length:=⟨_,rfl⟩
 rw[<-hn]at hr1 hlen ⊢
 have HRev:=hide (Dr.reverse_any g cp n (Dr.allL (n+1) l) W1 hlen (by omega) hr1)
 have HK1:=hide hk1
 have HN:=hide hn
 have HLEN:=hide hlen
 have hn6:n<=6:=by omega
 clear hr1 hk1 hqr c20 hn hlen
 go_wp2_with fail
 refine(uh HRev).mono ?_
 rintro e W2 ⟨rfl,hr2,hk2⟩
 have HK2:=hide ((uh HK1).trans hk2 (λi hi hlt=>by omega))
 obtain⟨r,hr⟩:∃r,r=(Dr.allL (n+1) l).reverse:=⟨_,rfl⟩
 rw[<-hr]at hr2
 have HQ:=hide (show qSd c l=three (r.take (min c.size.toNat r.length))++[(qSl c.size.toNat r).v,(qSl c.size.toNat r).d] by unfold qSd;rw[<-uh HN,<-hr])
 have HRL:=hide (show r.length=n by rw[hr];simp[uh HLEN])
 have HR2:=hide hr2
 have c10:W2.cell? ⟨d,10,none⟩=some (.int .i64 c.size):=((uh HT).blk.keeps (uh HK2) (λh=>h)).cell rfl
 have HG:=hide hg
 have HTL:=hide (show d<W2.heap.size from Nat.lt_of_lt_of_le (uh HT).blk.lt (uh HK2).size)
 clear hk2 hr2 hr HRev hg
 obtain⟨s,hs⟩:∃s:Nat,c.size=(s:Int):=⟨c.size.toNat,by omega⟩
 rw[hs]at c10 s0 s1
 have HS:=hide hs
 clear hs
 have hncp:n<=cp:=by have:=(uh HR2).le;rw[uh HRL]at this;exact this
 have hs0N:1<=s:=by omega
 have hs5:s<=5:=by omega
 by_cases hsn:(s:Int)<(n:Int)
 ·have hscp:s<=cp:=by omega
  have hscpI:(s:Int)<=(cp:Int):=by omega
  have hcp0:¬cp=0:=by omega
  go_wp2_with fail
  go_loopw [9,31] (λv i wr=>∃k:Nat,i=.int .i64 k/\k<=s/\Hid (wr.ownsRow W2.heap.size 3 1 v (3*k) (qAs (three (r.take k))))/\Hid (Keeps (λ_=>False) W2 wr)) (λ_ i _=>s-(intOf i).toNat)
  case atStart=>exact⟨0,rfl,Nat.zero_le _,World.ownsRow_nil _ _ _ _,Keeps.refl _ _⟩
  case round =>
   obtain⟨k,rfl,hk,HO,HK⟩:=hrel
   generalize u9=v at *
   have HIr:=hide ((uh HR2).keeps (uh HK) (λh=>h))
   have hk0:(0:Int)<=(k:Int):=by omega
   have HFT:=hide (qGv (uh HO))
   by_cases hlt:k<s
   ·have hkE:(k:Int)<(s:Int):=by omega
    obtain⟨x0,x1,x2,x3,x4⟩:=(uh HIr).cells k (by rw[uh HRL];omega)
    have HTK:=hide (show three (r.take (k+1))=three (r.take k)++[(Dr.itAt r k).t,(Dr.itAt r k).k,(Dr.itAt r k).d] by
       have hkr:k<r.length:=by rw[uh HRL];omega
       rw[List.take_add_one,qGi,List.getElem?_eq_getElem hkr]
       simp[three,Dr.itAt,List.getD_eq_getElem?_getD,List.getElem?_eq_getElem hkr])
    generalize Dr.itAt r k=x at *
    have hszr:=(uh HK).size
    have HL3:=hide (show(three (r.take k)).length=3*k by rw[qC2,List.length_take,uh HRL,Nat.min_eq_left (by omega)])
    go_wp2_with (at_builtin;refine qBd rfl _ _ rfl W2.heap.size _ (3*k) (three (r.take k)) rfl (by exact qCa (uh HO) (((Keeps.refl (λ_=>False) wr).alloc _).alloc _) (λ_ _ h=>h)) (wr.heap.size+1) 3 [x.t,x.k,x.d] rfl rfl (by exact Blk.newAt (by simp) [.int .i64 x.t,.int .i64 x.k,.int .i64 x.d] 3) (by omega) (by omega) (by simp;omega) ?_;intro g2 c2 W4 hown4 hk4 hat4)
    have HK4:=hide ((((uh HK).alloc (.cells #[.int .i64 x.t,.int .i64 x.k,.int .i64 x.d,.int .i64 x.n,.int .i64 x.v] 251)).alloc (.cells #[.int .i64 x.t,.int .i64 x.k,.int .i64 x.d] 3)).trans hk4 (λi hi hlt=>by have:=uh HFT i hi;omega))
    have HO4:=hide hown4
    clear hown4 hk4 hat4
    refine⟨⟨k+1,by go_num,by omega,?_,HK4⟩,by simp[intOf];omega⟩
    show World.ownsRow _ _ _ _ _ _ _
    rw[uh HTK];exact uh HO4
   ·have hkE:k=s:=by omega
    subst hkE
    have hkf:decide ((k:Int)<(k:Int))=false:=by simp
    have hszr:=(uh HK).size
    obtain⟨x0,x1,x2,x3,x4⟩:=(uh HIr).cells k (by rw[uh HRL];omega)
    have HQ2:=hide (show qSd c l=three (r.take k)++[(Dr.itAt r k).v,(Dr.itAt r k).d] by
       rw[uh HQ,uh HS,Int.toNat_natCast,uh HRL,Nat.min_eq_left (by omega)]
       unfold qSl
       rw[if_pos (by rw[uh HRL];omega)])
    generalize Dr.itAt r k=x at *
    have hgt:decide ((k:Int)<(n:Int))=true:=by simp;omega
    have hd10:wr.cell? ⟨d,10,none⟩=some (.int .i64 k):=(uh HK).cell c10 (λh=>h)
    have hdlt:d<wr.heap.size:=by have:=uh HTL;omega
    have hglt:g<wr.heap.size:=(uh HIr).lt
    have hdne:d≠wr.heap.size:=by omega
    have hgne:g≠wr.heap.size:=by omega
    have HL3:=hide (show(three (r.take k)).length=3*k by rw[qC2,List.length_take,uh HRL,Nat.min_eq_left (by omega)])
    go_wp2_with (at_builtin;refine qBd rfl _ _ rfl W2.heap.size _ (3*k) (three (r.take k)) rfl (by exact qCa (uh HO) (((Keeps.refl (λ_=>False) wr).alloc _).alloc _) (λ_ _ h=>h)) (wr.heap.size+1) 2 [x.v,x.d] rfl rfl (by exact Blk.newAt (by simp) [.int .i64 x.v,.int .i64 x.d] 3) (by omega) (by omega) (by simp;omega) ?_;intro g2 c2 W4 hown4 hk4 hat4)
    go_ret2
    have hlq:(qSd c l).length=3*k+2:=by rw[uh HQ2];simp[uh HL3]
    refine⟨g2,c2,by rw[hlq];rfl,?_,?_⟩
    ·rw[hlq,uh HQ2]
     exact qIw hown4 (uh HK2).size
    ·exact(uh HK2).then ((((uh HK).alloc _).alloc _).trans hk4 (λi hi hlt=>by have:=uh HFT i hi;omega))
 ·by_cases hns:(n:Int)<(s:Int)
  ·go_wp2_with fail
   go_loopw [9,31] (λv i wr=>∃k:Nat,i=.int .i64 k/\k<=n/\Hid (wr.ownsRow W2.heap.size 3 1 v (3*k) (qAs (three (r.take k))))/\Hid (Keeps (λ_=>False) W2 wr)) (λ_ i _=>n-(intOf i).toNat)
   case atStart=>exact⟨0,rfl,Nat.zero_le _,World.ownsRow_nil _ _ _ _,Keeps.refl _ _⟩
   case round =>
    obtain⟨k,rfl,hk,HO,HK⟩:=hrel
    generalize u9=v at *
    have HIr:=hide ((uh HR2).keeps (uh HK) (λh=>h))
    have hk0:(0:Int)<=(k:Int):=by omega
    have HFT:=hide (qGv (uh HO))
    by_cases hlt:k<n
    ·have hkE:(k:Int)<(n:Int):=by omega
     obtain⟨x0,x1,x2,x3,x4⟩:=(uh HIr).cells k (by rw[uh HRL];omega)
     have HTK:=hide (show three (r.take (k+1))=three (r.take k)++[(Dr.itAt r k).t,(Dr.itAt r k).k,(Dr.itAt r k).d] by
        have hkr:k<r.length:=by rw[uh HRL];omega
        rw[List.take_add_one,qGi,List.getElem?_eq_getElem hkr]
        simp[three,Dr.itAt,List.getD_eq_getElem?_getD,List.getElem?_eq_getElem hkr])
     generalize Dr.itAt r k=x at *
     have hszr:=(uh HK).size
     have HL3:=hide (show(three (r.take k)).length=3*k by rw[qC2,List.length_take,uh HRL,Nat.min_eq_left (by omega)])
     go_wp2_with (at_builtin;refine qBd rfl _ _ rfl W2.heap.size _ (3*k) (three (r.take k)) rfl (by exact qCa (uh HO) (((Keeps.refl (λ_=>False) wr).alloc _).alloc _) (λ_ _ h=>h)) (wr.heap.size+1) 3 [x.t,x.k,x.d] rfl rfl (by exact Blk.newAt (by simp) [.int .i64 x.t,.int .i64 x.k,.int .i64 x.d] 3) (by omega) (by omega) (by simp;omega) ?_;intro g2 c2 W4 hown4 hk4 hat4)
     have HK4:=hide ((((uh HK).alloc (.cells #[.int .i64 x.t,.int .i64 x.k,.int .i64 x.d,.int .i64 x.n,.int .i64 x.v] 251)).alloc (.cells #[.int .i64 x.t,.int .i64 x.k,.int .i64 x.d] 3)).trans hk4 (λi hi hlt=>by have:=uh HFT i hi;omega))
     have HO4:=hide hown4
     clear hown4 hk4 hat4
     refine⟨⟨k+1,by go_num,by omega,?_,HK4⟩,by simp[intOf];omega⟩
     show World.ownsRow _ _ _ _ _ _ _
     rw[uh HTK];exact uh HO4
    ·have hkE:k=n:=by omega
     subst hkE
     have hkf:decide ((k:Int)<(k:Int))=false:=by simp
     have hszr:=(uh HK).size
     have HQ2:=hide (show qSd c l=three (r.take k)++[0,0] by
        rw[uh HQ,uh HS,Int.toNat_natCast,uh HRL,Nat.min_eq_right (by omega)]
        unfold qSl
        rw[if_neg (by rw[uh HRL];omega)])
     have hgt:decide ((s:Int)<(k:Int))=false:=by simp;omega
     have hd10:wr.cell? ⟨d,10,none⟩=some (.int .i64 s):=(uh HK).cell c10 (λh=>h)
     have hdlt:d<wr.heap.size:=by have:=uh HTL;omega
     have hdne:d≠wr.heap.size:=by omega
     have HL3:=hide (show(three (r.take k)).length=3*k by rw[qC2,List.length_take,uh HRL,Nat.min_eq_left (by omega)])
     go_wp2_with (at_builtin;refine qBd rfl _ _ rfl W2.heap.size _ (3*k) (three (r.take k)) rfl (by exact qCa (uh HO) (((Keeps.refl (λ_=>False) wr).alloc _).alloc _) (λ_ _ h=>h)) (wr.heap.size+1) 2 [0,0] rfl rfl (by exact Blk.newAt (by simp) [.int .i64 0,.int .i64 0] 3) (by omega) (by omega) (by simp;omega) ?_;intro g2 c2 W4 hown4 hk4 hat4)
     go_ret2
     have hlq:(qSd c l).length=3*k+2:=by rw[uh HQ2];simp[uh HL3]
     refine⟨g2,c2,by rw[hlq];rfl,?_,?_⟩
     ·rw[hlq,uh HQ2]
      exact qIw hown4 (uh HK2).size
     ·exact(uh HK2).then ((((uh HK).alloc _).alloc _).trans hk4 (λi hi hlt=>by have:=uh HFT i hi;omega))
  ·have hsE:n=s:=by omega
   subst hsE
   go_wp2_with fail
   go_loopw [9,31] (λv i wr=>∃k:Nat,i=.int .i64 k/\k<=n/\Hid (wr.ownsRow W2.heap.size 3 1 v (3*k) (qAs (three (r.take k))))/\Hid (Keeps (λ_=>False) W2 wr)) (λ_ i _=>n-(intOf i).toNat)
   case atStart=>exact⟨0,rfl,Nat.zero_le _,World.ownsRow_nil _ _ _ _,Keeps.refl _ _⟩
   case round =>
    obtain⟨k,rfl,hk,HO,HK⟩:=hrel
    generalize u9=v at *
    have HIr:=hide ((uh HR2).keeps (uh HK) (λh=>h))
    have hk0:(0:Int)<=(k:Int):=by omega
    have HFT:=hide (qGv (uh HO))
    by_cases hlt:k<n
    ·have hkE:(k:Int)<(n:Int):=by omega
     obtain⟨x0,x1,x2,x3,x4⟩:=(uh HIr).cells k (by rw[uh HRL];omega)
     have HTK:=hide (show three (r.take (k+1))=three (r.take k)++[(Dr.itAt r k).t,(Dr.itAt r k).k,(Dr.itAt r k).d] by
        have hkr:k<r.length:=by rw[uh HRL];omega
        rw[List.take_add_one,qGi,List.getElem?_eq_getElem hkr]
        simp[three,Dr.itAt,List.getD_eq_getElem?_getD,List.getElem?_eq_getElem hkr])
     generalize Dr.itAt r k=x at *
     have hszr:=(uh HK).size
     have HL3:=hide (show(three (r.take k)).length=3*k by rw[qC2,List.length_take,uh HRL,Nat.min_eq_left (by omega)])
     go_wp2_with (at_builtin;refine qBd rfl _ _ rfl W2.heap.size _ (3*k) (three (r.take k)) rfl (by exact qCa (uh HO) (((Keeps.refl (λ_=>False) wr).alloc _).alloc _) (λ_ _ h=>h)) (wr.heap.size+1) 3 [x.t,x.k,x.d] rfl rfl (by exact Blk.newAt (by simp) [.int .i64 x.t,.int .i64 x.k,.int .i64 x.d] 3) (by omega) (by omega) (by simp;omega) ?_;intro g2 c2 W4 hown4 hk4 hat4)
     have HK4:=hide ((((uh HK).alloc (.cells #[.int .i64 x.t,.int .i64 x.k,.int .i64 x.d,.int .i64 x.n,.int .i64 x.v] 251)).alloc (.cells #[.int .i64 x.t,.int .i64 x.k,.int .i64 x.d] 3)).trans hk4 (λi hi hlt=>by have:=uh HFT i hi;omega))
     have HO4:=hide hown4
     clear hown4 hk4 hat4
     refine⟨⟨k+1,by go_num,by omega,?_,HK4⟩,by simp[intOf];omega⟩
     show World.ownsRow _ _ _ _ _ _ _
     rw[uh HTK];exact uh HO4
    ·have hkE:k=n:=by omega
     subst hkE
     have hkf:decide ((k:Int)<(k:Int))=false:=by simp
     have hszr:=(uh HK).size
     have HQ2:=hide (show qSd c l=three (r.take k)++[0,0] by
        rw[uh HQ,uh HS,Int.toNat_natCast,uh HRL,Nat.min_eq_right (by omega)]
        unfold qSl
        rw[if_neg (by rw[uh HRL];omega)])
     have hgt:decide ((k:Int)<(k:Int))=false:=by simp
     have hd10:wr.cell? ⟨d,10,none⟩=some (.int .i64 k):=(uh HK).cell c10 (λh=>h)
     have hdlt:d<wr.heap.size:=by have:=uh HTL;omega
     have hdne:d≠wr.heap.size:=by omega
     have HL3:=hide (show(three (r.take k)).length=3*k by rw[qC2,List.length_take,uh HRL,Nat.min_eq_left (by omega)])
     go_wp2_with (at_builtin;refine qBd rfl _ _ rfl W2.heap.size _ (3*k) (three (r.take k)) rfl (by exact qCa (uh HO) (((Keeps.refl (λ_=>False) wr).alloc _).alloc _) (λ_ _ h=>h)) (wr.heap.size+1) 2 [0,0] rfl rfl (by exact Blk.newAt (by simp) [.int .i64 0,.int .i64 0] 3) (by omega) (by omega) (by simp;omega) ?_;intro g2 c2 W4 hown4 hk4 hat4)
     go_ret2
     have hlq:(qSd c l).length=3*k+2:=by rw[uh HQ2];simp[uh HL3]
     refine⟨g2,c2,by rw[hlq];rfl,?_,?_⟩
     ·rw[hlq,uh HQ2]
      exact qIw hown4 (uh HK2).size
     ·exact(uh HK2).then ((((uh HK).alloc _).alloc _).trans hk4 (λi hi hlt=>by have:=uh HFT i hi;omega))
end
end Go.Proofs.YtahnliehdjncdaaGreatDoor
