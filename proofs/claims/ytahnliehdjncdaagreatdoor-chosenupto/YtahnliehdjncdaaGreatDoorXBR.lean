import Derived.Deep.DeepCutAuto
import Derived.Test.YtahnliehdjncdaaGreatDoorXBQ
set_option maxRecDepth 100000
set_option maxHeartbeats 16000000
namespace Go.Proofs.YtahnliehdjncdaaGreatDoor
section
open Go.RowKit
attribute [local go_sem ↓] qAd
attribute [local go_sem] qAh qAb qAc qAp qAo qAk qAj
theorem bK_at{w:World}{sb so:Nat}{ops:List OpM}(h:ScriptAt w sb so ops){i:Nat}(hi:i<ops.length): w.cell? ⟨sb,so+i*26+3,none⟩=some (.int .i64 (opAt ops i).b):=by
 have e:opAt ops i=ops[i]:=by simp[opAt,List.getD_eq_getElem?_getD,List.getElem?_eq_getElem hi]
 rw[e]
 exact h i ops[i] (List.getElem?_eq_getElem hi) 3 _ rfl
theorem c_at{w:World}{sb so:Nat}{ops:List OpM}(h:ScriptAt w sb so ops){i:Nat}(hi:i<ops.length): w.cell? ⟨sb,so+i*26+4,none⟩=some (.int .i64 (opAt ops i).c):=by
 have e:opAt ops i=ops[i]:=by simp[opAt,List.getD_eq_getElem?_getD,List.getElem?_eq_getElem hi]
 rw[e]
 exact h i ops[i] (List.getElem?_eq_getElem hi) 4 _ rfl
theorem info4: (Tryz.prog.info? 4).map (λi=>(i.zero,i.size,i.bytes))=some (some (.bool false),1,1):=by kernel_rfl
theorem qV8(w:World)(n:Nat)(hn:n<=651562446000): (Instr.makeSlice 58 (.int .i64 n) (.int .i64 n)).run Tryz.prog w=.ok (.slice (some ⟨w.heap.size,0,none⟩) n n) (w.alloc (.cells (Array.replicate n (Value.bool false)) 4)):=by
 obtain⟨i0,hi0,hz0,hz1,hz2⟩:=info_parts info4
 have:=run_make (P:=Tryz.prog) w 58 4 i0 _ Tryz.underlying58 hi0 hz0 .i64 .i64 n n (by omega) (by omega) (by rw[hz2];omega) (by omega)
 rw[hz1]at this
 simpa[Value.cells,qTb] using this
structure NumC (w:World) (gn kk:Nat) (told:List Tri) (tv td:Int):Prop where
 at3:∀i,i<kk->w.cell? ⟨gn,3*i,none⟩=some (.int .i64 (tAt told i).1)/\w.cell? ⟨gn,3*i+1,none⟩=some (.int .i64 (tAt told i).2.1)/\w.cell? ⟨gn,3*i+2,none⟩=some (.int .i64 (tAt told i).2.2)
 v:w.cell? ⟨gn,3*kk,none⟩=some (.int .i64 tv)
 d:w.cell? ⟨gn,3*kk+1,none⟩=some (.int .i64 td)
theorem NumC.keeps{M:Nat->Prop}{w w':World}{gn kk:Nat}{told:List Tri}{tv td:Int}(h:NumC w gn kk told tv td)(hk:Keeps M w w')(hn:¬M gn): NumC w' gn kk told tv td :=
 ⟨λi hi=>⟨hk.cell (h.at3 i hi).1 hn,hk.cell (h.at3 i hi).2.1 hn,hk.cell (h.at3 i hi).2.2 hn⟩,hk.cell h.v hn,hk.cell h.d hn⟩
structure ChD (c:Cfg) (l:List OpM) (kk:Nat) (told rest:List Tri) (tv td:Int):Prop where
 len:told.length=kk
 s0:1<=c.size
 s1:c.size<=5
 m0:0<=c.mark
 m1:c.mark<=4611686018427387904
 min:(kk:Int)=if decide (c.size<(l.length:Int))=true then c.size else(l.length:Int)
 bd:∀x∈l.map qM9,(0<=x.1/\x.1<=4611686018427387904)/\0<=x.2.2/\x.2.2<=2147483648
 perm:(told++rest).Perm (l.map qM9)
 down:∀i,i+1<kk->wtK c (tAt told (i+1)).1*(tAt told i).2.2<=wtK c (tAt told i).1*(tAt told (i+1)).2.2
 none:rest=[]->tv=0/\td=0
 some:rest≠[]->(0<=tv/\tv<=2305843009213693952/\1<=td/\td<=2147483648)/\(∀y∈rest,wtK c y.1*td<=tv*y.2.2/\wtK c y.1*(tAt told (kk-1)).2.2<=wtK c (tAt told (kk-1)).1*y.2.2)/\∃y∈rest,tv=wtK c y.1/\td=y.2.2
def FInv(l:List OpM)(tb:List Bool)(n:Nat)(x:Tri)(f:Bool)(j:Nat)(tc:List Bool): Prop :=
 (f=false/\tc=tb/\∀j',j'<j->tb.getD j' true=false->qM9 (opAt l j')≠x)\/(f=true/\∃j0,j0<n/\tb.getD j0 true=false/\qM9 (opAt l j0)=x/\tc=tb.set j0 true)
theorem FInv.next{l:List OpM}{tb tc:List Bool}{n j:Nat}{x:Tri}(h:FInv l tb n x false j tc)(hx:tb.getD j true=false->qM9 (opAt l j)≠x): FInv l tb n x false (j+1) tc:=by
 rcases h with ⟨_,h2,h3⟩ | ⟨h1,_⟩
 ·refine .inl ⟨rfl,h2,λj' hj'=>?_⟩
  by_cases he:j'=j
  ·rw[he];exact hx
  ·exact h3 j' (by omega)
 ·cases h1
theorem FInv.same{l:List OpM}{tb tc:List Bool}{n j:Nat}{x:Tri}(h:FInv l tb n x false j tc): tc=tb:=by
 rcases h with ⟨_,h2,_⟩ | ⟨h1,_⟩
 ·exact h2
 ·cases h1
theorem qSe(c:Cfg)(g n lc gn nc kk m:Nat)(la:Option Addr)(l:List OpM)(told rest:List Tri)(tv td:Int)(bs:ByteArray)(w:World)(hla:0<n->la=some ⟨g,0,none⟩)(hsc:ScriptAt w g 0 l)(hn:l.length=n)(hlen:n<=651562446000)(hm:m=3*kk+2)(hD:ChD c l kk told rest tv td)(hN:NumC w gn kk told tv td):
  Calls Tryz.prog 31 #[.agg c.cells.toArray,.slice la n lc,.agg #[.int .i64 0,.slice (some ⟨gn,0,none⟩) m nc,.string bs]] w λe w'=>e=.returned (.bool true)/\Keeps (λ_=>False) w w':=by
 have HSC:=hide hsc
 have HD:=hide hD
 have HN:=hide hN
 have HLL:=hide hn
 have s0:=hD.s0
 have s1:=hD.s1
 have hmin:=hD.min
 have hkn:kk<=n:=by rw[<-hn];have:=hD.perm.length_eq;rw[List.length_append,List.length_map,hD.len]at this;omega
 rw[hn]at hmin
 have HK0:=hide (show Keeps (λ_=>False) w ((w.alloc (.cells c.cells.toArray 38)).alloc (.cells #[.int .i64 0,.slice (some ⟨gn,0,none⟩) m nc,.string bs] 33)) from((Keeps.refl _ _).alloc _).alloc _)
 have HB0:=hide (show Blk ((w.alloc (.cells c.cells.toArray 38)).alloc (.cells #[.int .i64 0,.slice (some ⟨gn,0,none⟩) m nc,.string bs] 33)) w.heap.size c.cells 38 from(Blk.new w _ _).alloc _)
 have HA0:=hide (show Blk ((w.alloc (.cells c.cells.toArray 38)).alloc (.cells #[.int .i64 0,.slice (some ⟨gn,0,none⟩) m nc,.string bs] 33)) (w.heap.size+1) [.int .i64 0,.slice (some ⟨gn,0,none⟩) m nc,.string bs] 33 from Blk.newAt (by simp) _ _)
 have hz0:((w.alloc (.cells c.cells.toArray 38)).alloc (.cells #[.int .i64 0,.slice (some ⟨gn,0,none⟩) m nc,.string bs] 33)).heap.size=w.heap.size+2:=by simp
 have HM:=hide hm
 clear hsc hD hN hn hm
 have f10:((w.alloc (.cells c.cells.toArray 38)).alloc (.cells #[.int .i64 0,.slice (some ⟨gn,0,none⟩) m nc,.string bs] 33)).cell? ⟨w.heap.size,10,none⟩=some (.int .i64 c.size):=(uh HB0).cell rfl
 go_enter Tryz.func31,Tryz.ntmps31
 go_upto_if 25 with fail
 generalize(w.alloc (.cells c.cells.toArray 38)).alloc (.cells #[.int .i64 0,.slice (some ⟨gn,0,none⟩) m nc,.string bs] 33)=W0 at *
 go_cut [7] (λv wq=>v=.int .i64 kk/\wq=W0)
 case first =>
  cases hcs:decide (c.size<(n:Int))
  ·rw[hcs]at hmin
   go_wp2
   go_meet
   exact⟨by rw[hmin];rfl,rfl⟩
  ·rw[hcs]at hmin
   go_wp2
   go_meet
   exact⟨by rw[hmin];rfl,rfl⟩
 case rest =>
  obtain⟨rfl,rfl⟩:=hcut
  clear hmin
  have f0:wc.cell? ⟨w.heap.size+1,0,none⟩=some (.int .i64 0):=(uh HA0).cell rfl
  have f1:wc.cell? ⟨w.heap.size+1,1,none⟩=some (.slice (some ⟨gn,0,none⟩) m nc):=(uh HA0).cell rfl
  have hs1:decide (c.size<1)=false:=by simp;omega
  have hw3:IntKind.i64.wrap (3*(kk:Int))=3*(kk:Int):=by rw[IntKind.wrap_i64];omega
  have hw2:IntKind.i64.wrap (3*(kk:Int)+2)=3*(kk:Int)+2:=by rw[IntKind.wrap_i64];omega
  have hmn:((m:Int) !=3*(kk:Int)+2)=false:=by have:=uh HM;simp;omega
  have hmk:=qV8 wc n hlen
  have HT0:=hide (show Blk (wc.alloc (.cells (Array.replicate n (Value.bool false)) 4)) (w.heap.size+2) ((List.replicate n false).map Value.bool) 4 by
     have:=Blk.newAt hz0 ((List.replicate n false).map Value.bool) 4
     simpa using this)
  have HK1:=hide (show Keeps (λi=>i=w.heap.size+2) wc (wc.alloc (.cells (Array.replicate n (Value.bool false)) 4)) from(Keeps.refl _ _).alloc _)
  have HP0:=hide (show(unt l (List.replicate n false)).Perm (told.drop 0++rest) by rw[<-uh HLL,qYx];exact(uh HD).perm.symm)
  have HH:=hide (show ∀w',Keeps (λi=>i=w.heap.size+2) wc w'->Blk w' w.heap.size c.cells 38/\w'.cell? ⟨w.heap.size+1,1,none⟩=some (.slice (some ⟨gn,0,none⟩) m nc)/\NumC w' gn kk told tv td/\ScriptAt w' g 0 l/\Keeps (λ_=>False) w w' from λw' hk=>by
     have hkw:Keeps (λ_=>False) w w':=(uh HK0).trans hk (λi hi hlt=>by omega)
     exact⟨(uh HB0).keeps hk (by omega),hk.cell f1 (by show ¬(w.heap.size+1=w.heap.size+2);omega),(uh HN).keeps hkw (λh=>h),(uh HSC).keepsM hkw (λh=>h),hkw⟩)
  rw[hz0]at hmk
  go_wp2_with fail
  clear hs1 hw3 hw2 hmn hmk f0 f10 f1 s0 s1
  have hW1:=(uh HK1).size
  generalize wc.alloc (.cells (Array.replicate n (Value.bool false)) 4)=W1 at *
  generalize hW0:wc=W0 at *
  generalize hgT:w.heap.size+2=gT at *
  go_loopw [9] (λiv wr=>∃(i:Nat) (tb:List Bool),i<=kk/\iv=.int .i64 i/\Hid (Blk wr gT (tb.map Value.bool) 4)/\Hid (tb.length=n)/\Hid ((unt l tb).Perm (told.drop i++rest))/\Hid (Keeps (λi=>i=gT) W0 wr)) (λiv _=>kk-(intOf iv).toNat)
  case atStart=>exact⟨0,List.replicate n false,by omega,rfl,HT0,List.length_replicate,HP0,HK1⟩
  case round =>
   clear HT0 HP0 HK1
   obtain⟨i,tb,hi,rfl,HT,HTL,HPM,HK⟩:=hrel
   generalize wr=wo at *
   by_cases hik:i<kk
   ·have hla':=hla (by omega)
    subst hla'
    have hi0:(0:Int)<=(i:Int):=by omega
    have hi1:(i:Int)<(kk:Int):=by omega
    go_wp2_with fail
    go_loopw [10,11] (λfv jv wr=>∃(j:Nat) (f:Bool) (tc:List Bool),j<=n/\jv=.int .i64 j/\fv=.bool f/\Hid (Blk wr gT (tc.map Value.bool) 4)/\Hid (FInv l tb n (tAt told i) f j tc)/\Hid (Keeps (λi=>i=gT) W0 wr)) (λ_ jv _=>n-(intOf jv).toNat)
    case atStart=>exact⟨0,false,tb,by omega,rfl,rfl,HT,.inl ⟨rfl,rfl,λj' h=>by omega⟩,HK⟩
    case round=>as_aux_lemma =>
     clear HT HK
     obtain⟨j,f,tc,hj,rfl,rfl,HT,HF,HK⟩:=hrel
     generalize wr=wj at *
     obtain⟨hBc,hA1,hNm,hSc,hKw⟩:=uh HH wj (uh HK)
     have hjl0:(0:Int)<=(j:Int):=by omega
     cases f
     ·have htc:=(uh HF).same
      subst htc
      by_cases hjn:j<n
      ·have hjn':(j:Int)<(n:Int):=by omega
       have hjL:j<l.length:=by rw[uh HLL];exact hjn
       have hjT:j<tc.length:=by rw[uh HTL];exact hjn
       have t0:=(uh HT).cell (qLz hjT)
       have tfz:=(uh HT).frozen j
       obtain⟨_,_,o1⟩:=qEe hSc hjL
       have o2:=bK_at hSc hjL
       have o3:=c_at hSc hjL
       rw[Nat.zero_add]at o1 o2 o3
       obtain⟨n1,n2,n3⟩:=hNm.at3 i hik
       have HTRI:=hide (show qM9 (opAt l j)=((opAt l j).a,(opAt l j).b,(opAt l j).c) from rfl)
       obtain⟨xx,hxx⟩:∃xx,tAt told i=xx:=⟨_,rfl⟩
       rw[hxx]at n1 n2 n3 HF ⊢
       obtain⟨x1,x2,x3⟩:=xx
       obtain⟨p0,hp0⟩:∃p0:Nat,p0=3*i:=⟨_,rfl⟩
       obtain⟨p1,hp1⟩:∃p1:Nat,p1=3*i+1:=⟨_,rfl⟩
       obtain⟨p2,hp2⟩:∃p2:Nat,p2=3*i+2:=⟨_,rfl⟩
       rw[<-hp0]at n1
       rw[<-hp1]at n2
       rw[<-hp2]at n3
       have w0:IntKind.i64.wrap (3*(i:Int))=(p0:Int):=by rw[IntKind.wrap_i64];omega
       have w1:IntKind.i64.wrap ((p0:Int)+1)=(p1:Int):=by rw[IntKind.wrap_i64];omega
       have w2:IntKind.i64.wrap ((p0:Int)+2)=(p2:Int):=by rw[IntKind.wrap_i64];omega
       have hmm:=uh HM
       have q0:(0:Int)<=(p0:Int)/\(p0:Int)<(m:Int):=by omega
       have q1:(0:Int)<=(p1:Int)/\(p1:Int)<(m:Int):=by omega
       have q2:(0:Int)<=(p2:Int)/\(p2:Int)<(m:Int):=by omega
       obtain⟨q00,q01⟩:=q0
       obtain⟨q10,q11⟩:=q1
       obtain⟨q20,q21⟩:=q2
       have HGD:=hide (show ∀b,tc.getD j true=b->tc.getD j true=b from λ_ h=>h)
       generalize hoj:opAt l j=o at *
       generalize htk:tc.getD j true=tk at *
       clear hmm hp0 hp1 hp2 hSc hNm hBc hjL hxx HGD
       have HNX:=hide (show(tk=false->(o.a,o.b,o.c)≠(x1,x2,x3))->FInv l tc n (x1,x2,x3) false (j+1) tc from λh=>(uh HF).next (λh1=>by rw[hoj];exact h (htk ▸ h1)))
       have HFD:=hide (show tk=false->(o.a,o.b,o.c)=(x1,x2,x3)->FInv l tc n (x1,x2,x3) true (j+1) (tc.set j true) from λh1 h2=>.inr ⟨rfl,j,hjn,htk.trans h1,by rw[hoj];exact h2,rfl⟩)
       clear hoj htk HTRI HF
       cases tk
       ·cases e1:(o.a==x1)
        ·have HN2:=hide (uh HNX (λ_ h=>by injection h with h _;rw[h]at e1;simp at e1))
         go_wp2_with fail
         go_quiet (fail)
         go_wp2
         go_roundw
         case rel=>exact⟨j+1,false,tc,by omega,by go_num,rfl,hide ((uh HT).keeps (Keeps.drewN (λ_=>False) wj nq) (λh=>h)),HN2,hide ((uh HK).then (Keeps.drewN _ wj nq))⟩
         case measure=>simp[intOf];omega
        ·cases e2:(o.b==x2)
         ·have HN2:=hide (uh HNX (λ_ h=>by injection h with _ h;injection h with h _;rw[h]at e2;simp at e2))
          go_wp2_with fail
          go_quiet (fail)
          go_wp2
          go_roundw
          case rel=>exact⟨j+1,false,tc,by omega,by go_num,rfl,hide ((uh HT).keeps (Keeps.drewN (λ_=>False) wj nq) (λh=>h)),HN2,hide ((uh HK).then (Keeps.drewN _ wj nq))⟩
          case measure=>simp[intOf];omega
         ·cases e3:(o.c==x3)
          ·have HN2:=hide (uh HNX (λ_ h=>by injection h with _ h;injection h with _ h;rw[h]at e3;simp at e3))
           go_wp2_with fail
           go_quiet (fail)
           go_wp2
           go_roundw
           case rel=>exact⟨j+1,false,tc,by omega,by go_num,rfl,hide ((uh HT).keeps (Keeps.drewN (λ_=>False) wj nq) (λh=>h)),HN2,hide ((uh HK).then (Keeps.drewN _ wj nq))⟩
           case measure=>simp[intOf];omega
          ·have HF2:=hide (uh HFD rfl (by rw[beq_iff_eq]at e1 e2 e3;rw[e1,e2,e3]))
           have HT2:=hide (show ∀nq,Blk ((wj.drewN nq).setCell ⟨gT,j,none⟩ (.bool true)) gT ((tc.set j true).map Value.bool) 4 from λnq=>by
              rw[<-qWr];exact((uh HT).keeps (Keeps.drewN (λ_=>False) wj nq) (λh=>h)).setCell j _)
           have HK2:=hide (show ∀nq,Keeps (λi=>i=gT) W0 ((wj.drewN nq).setCell ⟨gT,j,none⟩ (.bool true)) from λnq=>((uh HK).then (Keeps.drewN _ wj nq)).setCell (p:=⟨gT,j,none⟩) (Or.inl rfl) _)
           have tfz2:∀nq,(wj.drewN nq).frozen? ⟨gT,j,none⟩=false:=λnq=>((uh HT).keeps (Keeps.drewN (λ_=>False) wj nq) (λh=>h)).frozen j
           have t02:∀nq,(wj.drewN nq).cell? ⟨gT,j,none⟩=some (.bool false):=λnq=>(Keeps.drewN (λ_=>False) wj nq).cell t0 (λh=>h)
           go_wp2_with fail
           go_quiet (fail)
           go_wp2
           go_roundw
           case rel=>exact⟨j+1,true,tc.set j true,by omega,by go_num,rfl,hide (uh HT2 nq),HF2,hide (uh HK2 nq)⟩
           case measure=>simp[intOf];omega
       ·have HN2:=hide (uh HNX (λh=>by cases h))
        go_wp2_with fail
        go_quiet (fail)
        go_wp2
        go_roundw
        case rel=>exact⟨j+1,false,tc,by omega,by go_num,rfl,hide ((uh HT).keeps (Keeps.drewN (λ_=>False) wj nq) (λh=>h)),HN2,hide ((uh HK).then (Keeps.drewN _ wj nq))⟩
        case measure=>simp[intOf];omega
      ·exfalso
       obtain⟨j',h1,h2,h3⟩:=qXw (by rw[(uh HD).len];exact hik) (uh HPM)
       rcases uh HF with ⟨_,_,h4⟩ | ⟨h4,_⟩
       ·exact h4 j' (by rw[uh HLL]at h1;omega) h2 h3
       ·cases h4
     ·obtain⟨j0,hj0,hb0,he0,htc⟩:∃j0,j0<n/\tb.getD j0 true=false/\qM9 (opAt l j0)=tAt told i/\tc=tb.set j0 true:=by
       rcases uh HF with ⟨h,_⟩ | ⟨_,h⟩
       ·cases h
       ·exact h
      subst htc
      have HTL2:=hide (show(tb.set j0 true).length=n by rw[List.length_set];exact uh HTL)
      have HPM2:=hide (qXl (by rw[(uh HD).len];exact hik) (uh HPM) (by rw[uh HLL];exact hj0) (by rw[uh HTL,uh HLL]) hb0 he0)
      generalize tb.set j0 true=tn at *
      have HIN:=hide (show ∀w',Keeps (λ_=>False) wj w'->Hid (Blk w' gT (tn.map Value.bool) 4)/\Hid (tn.length=n)/\Hid ((unt l tn).Perm (told.drop (i+1)++rest))/\Hid (Keeps (λi=>i=gT) W0 w') from λw' hk=>⟨(uh HT).keeps hk (λh=>h),uh HTL2,uh HPM2,(uh HK).trans hk (λ_ h _=>h.elim)⟩)
      clear HF hb0 he0 HPM HTL HT HTL2 HPM2 hj0 j0
      by_cases hi00:0<i
      ·have HDN:=hide ((uh HD).down (i-1) (by omega))
       obtain⟨n1,n2,n3⟩:=hNm.at3 (i-1) (by omega)
       obtain⟨n4,n5,n6⟩:=hNm.at3 i hik
       have HB1:=hide ((uh HD).bd _ ((uh HD).perm.mem_iff.1 (List.mem_append.2 (.inl (qQd (l:=told) (i:=i-1) (by rw[(uh HD).len];omega))))))
       have HB2:=hide ((uh HD).bd _ ((uh HD).perm.mem_iff.1 (List.mem_append.2 (.inl (qQd (l:=told) (i:=i) (by rw[(uh HD).len];omega))))))
       rw[show i-1+1=i by omega]at HDN
       generalize tAt told (i-1)=xx at *
       generalize tAt told i=yy at *
       obtain⟨x1,x2,x3⟩:=xx
       obtain⟨y1,y2,y3⟩:=yy
       obtain⟨p0,hp0⟩:∃p0:Nat,p0=3*i:=⟨_,rfl⟩
       obtain⟨pa,hpa⟩:∃pa:Nat,pa=3*(i-1):=⟨_,rfl⟩
       obtain⟨pc,hpc⟩:∃pc:Nat,pc=3*(i-1)+2:=⟨_,rfl⟩
       obtain⟨p2,hp2⟩:∃p2:Nat,p2=3*i+2:=⟨_,rfl⟩
       rw[<-hpa]at n1
       rw[<-hpc]at n3
       rw[<-hp0]at n4
       rw[<-hp2]at n6
       have w0:IntKind.i64.wrap (3*(i:Int))=(p0:Int):=by rw[IntKind.wrap_i64];omega
       have w1:IntKind.i64.wrap ((p0:Int)-3)=(pa:Int):=by rw[IntKind.wrap_i64];omega
       have w2:IntKind.i64.wrap ((p0:Int)-1)=(pc:Int):=by rw[IntKind.wrap_i64];omega
       have w3:IntKind.i64.wrap ((p0:Int)+2)=(p2:Int):=by rw[IntKind.wrap_i64];omega
       have hmm:=uh HM
       have q0:(0:Int)<=(p0:Int)/\(p0:Int)<(m:Int):=by omega
       have q1:(0:Int)<=(pa:Int)/\(pa:Int)<(m:Int):=by omega
       have q2:(0:Int)<=(pc:Int)/\(pc:Int)<(m:Int):=by omega
       have q3:(0:Int)<=(p2:Int)/\(p2:Int)<(m:Int):=by omega
       obtain⟨q00,q01⟩:=q0
       obtain⟨q10,q11⟩:=q1
       obtain⟨q20,q21⟩:=q2
       obtain⟨q30,q31⟩:=q3
       clear hmm hp0 hpa hpc hp2 n2 n5
       obtain⟨bv,hbv⟩:=qA0 hBc 0 20 c.cells rfl rfl
       have hbl:=hBc.lt
       have HH2:=hide (show ∀w',Keeps (λ_=>False) wj w'->qAn w' w.heap.size 0 20=.agg c.cells.toArray/\qAr w' w.heap.size 0 20=true/\w'.cell? ⟨w.heap.size+1,1,none⟩=some (.slice (some ⟨gn,0,none⟩) m nc)/\w'.cell? ⟨gn,pa,none⟩=some (.int .i64 x1)/\w'.cell? ⟨gn,pc,none⟩=some (.int .i64 x3)/\w'.cell? ⟨gn,p0,none⟩=some (.int .i64 y1)/\w'.cell? ⟨gn,p2,none⟩=some (.int .i64 y3) from λw' hk=>⟨(qBi hk (λh=>h) hbl).1.trans bv,(qBi hk (λh=>h) hbl).2.trans hbv,hk.cell hA1 (λh=>h),hk.cell n1 (λh=>h),hk.cell n3 (λh=>h),hk.cell n4 (λh=>h),hk.cell n6 (λh=>h)⟩)
       have HWT:=hide (show ∀w0 t,t=x1\/t=y1->Calls Tryz.prog 37 #[.agg c.cells.toArray,.int .i64 t] w0 λe w'=>e=.returned (.int .i64 (wtK c t))/\Keeps (λ_=>False) w0 w' from λw0 t ht=>by
          have h1:=uh HB1
          have h2:=uh HB2
          have h3:0<=t/\t<=4611686018427387904:=by
           rcases ht with e | e
           ·rw[e];exact h1.1
           ·rw[e];exact h2.1
          exact qHc c t w0 h3.1 h3.2 (uh HD).m0 (uh HD).m1)
       have HNL:=hide (show ∀w0,Calls Tryz.prog 36 #[.int .i64 (wtK c x1),.int .i64 x3,.int .i64 (wtK c y1),.int .i64 y3] w0 λe w'=>e=.returned (.bool true)/\w'=w0 from λw0=>by
          have:=qHg (wtK c x1) x3 (wtK c y1) y3 w0 (qFf c x1).1 (qFf c x1).2 (qFf c y1).1 (qFf c y1).2 (uh HB1).2.1 (uh HB1).2.2 (uh HB2).2.1 (uh HB2).2.2
          rw[decide_eq_true (uh HDN)]at this
          exact this)
       clear HB1 HB2 HDN hNm hSc hBc
       have hi01:(0:Int)<(i:Int):=by omega
       have hjc:(((j:Int)<(n:Int))/\decide ((j:Int)<(n:Int))=true)\/(¬(j<n)/\decide ((j:Int)<(n:Int))=false):=by
        by_cases h:j<n
        ·exact .inl ⟨by omega,by simp;omega⟩
        ·exact .inr ⟨h,by simp;omega⟩
       rcases hjc with ⟨hj1,hj2⟩ | ⟨hj1,hj2⟩
       all_goals
        go_wp2_with fail
        go_region_held3 (λw'=>qAn w' w.heap.size 0 20=.agg c.cells.toArray/\qAr w' w.heap.size 0 20=true/\w'.cell? ⟨w.heap.size+1,1,none⟩=some (.slice (some ⟨gn,0,none⟩) m nc)/\w'.cell? ⟨gn,pa,none⟩=some (.int .i64 x1)/\w'.cell? ⟨gn,pc,none⟩=some (.int .i64 x3)/\w'.cell? ⟨gn,p0,none⟩=some (.int .i64 y1)/\w'.cell? ⟨gn,p2,none⟩=some (.int .i64 y3))
         (first | exact uh HH2 _ (uh HKa) | exact uh HH2 _ ((Keeps.refl (λ_=>False) wj).drew) | exact uh HH2 _ (Keeps.refl (λ_=>False) wj) | (simp[*];done))
         (first
            | (go_at_call 37
               refine(uh HWT _ _ (by first | exact .inl rfl | exact .inr rfl)).mono ?_
               rintro r w1 ⟨rfl,hk1⟩
               have HKa:=hide (show Keeps (λ_=>False) wj w1 by first | exact(uh HKa).then hk1 | exact((Keeps.refl (λ_=>False) wj).drew).then hk1))
            | (go_at_call 36;refine(uh HNL _).mono ?_;rintro r w3 ⟨rfl,rfl⟩))
        all_goals
         go_wp2
         go_roundw
         case rel=>exact⟨i+1,tn,by omega,by go_num,(uh HIN _ (uh HKa)).1,(uh HIN _ (uh HKa)).2.1,(uh HIN _ (uh HKa)).2.2.1,(uh HIN _ (uh HKa)).2.2.2⟩
         case measure=>simp[intOf];omega
      ·have hi01:decide (0<i)=false:=by simp;omega
       have hi02:decide ((0:Int)<(i:Int))=false:=by simp;omega
       obtain⟨r1,r2,r3,r4⟩:=uh HIN wj (Keeps.refl _ _)
       have hjc:(((j:Int)<(n:Int))/\decide ((j:Int)<(n:Int))=true)\/(¬(j<n)/\decide ((j:Int)<(n:Int))=false):=by
        by_cases h:j<n
        ·exact .inl ⟨by omega,by simp;omega⟩
        ·exact .inr ⟨h,by simp;omega⟩
       rcases hjc with ⟨hj1,hj2⟩ | ⟨hj1,hj2⟩
       all_goals
        go_wp2
        go_roundw
        case rel=>exact⟨i+1,tn,by omega,by go_num,r1,r2,r3,r4⟩
        case measure=>simp[intOf];omega
   ·have hiE:i=kk:=by omega
    subst hiE
    have hff:decide ((i:Int)<(i:Int))=false:=by simp
    obtain⟨hBc,hA1,hNm,hSc,hKw⟩:=uh HH wo (uh HK)
    have nv:=hNm.v
    have nd:=hNm.d
    have HDR:=hide (show told.drop i=[] from List.drop_eq_nil_iff.2 (by rw[(uh HD).len];exact Nat.le_refl _))
    have HPR:=hide (show(unt l tb).Perm rest by have:=uh HPM;rw[uh HDR,List.nil_append]at this;exact this)
    have HRL:=hide (show i+rest.length=n by have:=(uh HD).perm.length_eq;rw[List.length_append,List.length_map,(uh HD).len,uh HLL]at this;exact this)
    obtain⟨p0,hp0⟩:∃p0:Nat,p0=3*i:=⟨_,rfl⟩
    obtain⟨p1,hp1⟩:∃p1:Nat,p1=3*i+1:=⟨_,rfl⟩
    rw[<-hp0]at nv
    rw[<-hp1]at nd
    have w0:IntKind.i64.wrap (3*(i:Int))=(p0:Int):=by rw[IntKind.wrap_i64];omega
    have w1:IntKind.i64.wrap ((p0:Int)+1)=(p1:Int):=by rw[IntKind.wrap_i64];omega
    have hmm:=uh HM
    have q0:(0:Int)<=(p0:Int)/\(p0:Int)<(m:Int):=by omega
    have q1:(0:Int)<=(p1:Int)/\(p1:Int)<(m:Int):=by omega
    obtain⟨q00,q01⟩:=q0
    obtain⟨q10,q11⟩:=q1
    by_cases hin:i=n
    ·have hr0:rest=[]:=List.eq_nil_of_length_eq_zero (by have:=uh HRL;omega)
     obtain⟨rfl,rfl⟩:=(uh HD).none hr0
     have hEQ:((i:Int)==(n:Int))=true:=by simp;omega
     clear hmm hp0 hp1 hSc hNm hBc hr0 hin
     go_wp2
     go_ret
     exact⟨rfl,hKw⟩
    ·have hEQ:((i:Int)==(n:Int))=false:=by simp;omega
     have hne:rest≠[]:=λh=>by have:=uh HRL;rw[h]at this;simp at this;omega
     obtain⟨⟨v0,v1,d0,d1⟩,hall,hex⟩:=(uh HD).some hne
     have hd1:decide (td<1)=false:=by simp;omega
     have HALL:=hide hall
     have HEX:=hide hex
     have HKW:=hide hKw
     clear hmm hp0 hp1 hSc hNm hBc hne hall hex hKw
     go_wp2_with fail
     go_loopw [15,16] (λbv jv wr=>∃(j:Nat) (b:Bool),j<=n/\jv=.int .i64 j/\bv=.bool b/\Hid (b=true\/∀j',j'<j->tb.getD j' true=false->¬(tv=wtK c (opAt l j').a/\td=(opAt l j').c))/\Hid (Keeps (λ_=>False) wo wr)) (λ_ jv _=>n-(intOf jv).toNat)
     case atStart=>exact⟨0,false,by omega,rfl,rfl,.inr (λj' h=>by omega),Keeps.refl _ _⟩
     case round=>as_aux_lemma =>
      obtain⟨j,b,hj,rfl,rfl,HI,HKr⟩:=hrel
      generalize wr=wj at *
      clear nv nd hA1
      by_cases hjn:j<n
      ·have hla':=hla (by omega)
       subst hla'
       have hjl0:(0:Int)<=(j:Int):=by omega
       have hjn':(j:Int)<(n:Int):=by omega
       have hjL:j<l.length:=by rw[uh HLL];exact hjn
       have hjT:j<tb.length:=by rw[uh HTL];exact hjn
       have hTb:=(uh HT).keeps (uh HKr) (λh=>h)
       have t0:=hTb.cell (qLz hjT)
       have HGE:=hide (show tb.getD j true=false->qM9 (opAt l j)∈rest from λh=>(uh HPR).mem_iff.1 (zA5 hjL (by rw[uh HTL,uh HLL]) h))
       have HNXT:=hide (show ∀b',(b'=true\/(b=false/\(tb.getD j true=false->¬(tv=wtK c (opAt l j).a/\td=(opAt l j).c))))\/(b'=b/\tb.getD j true=true)->(b'=true\/∀j',j'<j+1->tb.getD j' true=false->¬(tv=wtK c (opAt l j').a/\td=(opAt l j').c)) from λb' h=>by
          rcases h with (h | ⟨h1,h2⟩) | ⟨h1,h2⟩
          ·exact .inl h
          ·rcases uh HI with h3 | h3
           ·rw[h1]at h3;cases h3
           ·refine .inr (λj' hj'=>?_)
            by_cases he:j'=j
            ·rw[he];exact h2
            ·exact h3 j' (by omega)
          ·rcases uh HI with h3 | h3
           ·exact .inl (h1.trans h3)
           ·refine .inr (λj' hj' hg=>?_)
            by_cases he:j'=j
            ·rw[he,h2]at hg;cases hg
            ·exact h3 j' (by omega) hg)
       obtain⟨hBc,hA1,hNm,hSc,hKw⟩:=uh HH wj ((uh HK).trans (uh HKr) (λ_ h _=>h.elim))
       generalize htk:tb.getD j true=tk at *
       cases tk
       ·have hmem:=uh HGE rfl
        have HBD:=hide ((uh HD).bd _ ((uh HD).perm.mem_iff.1 (List.mem_append.2 (.inr hmem))))
        have HUA:=hide (uh HALL _ hmem)
        obtain⟨_,_,o1⟩:=qEe hSc hjL
        have o3:=c_at hSc hjL
        rw[Nat.zero_add]at o1 o3
        have HB1:=hide ((uh HD).bd _ ((uh HD).perm.mem_iff.1 (List.mem_append.2 (.inl (qQd (l:=told) (i:=i-1) (by rw[(uh HD).len];have:=(uh HD).s0;have:=(uh HD).min;rw[uh HLL]at this;have h9:0<i:=(by split at this <;> omega);omega))))))
        have hi1:1<=i:=by
         have h1:=(uh HD).s0
         have h2:=(uh HD).min
         rw[uh HLL]at h2
         split at h2 <;> omega
        obtain⟨n1,n2,n3⟩:=hNm.at3 (i-1) (by omega)
        generalize tAt told (i-1)=xx at *
        obtain⟨x1,x2,x3⟩:=xx
        change Hid ((0<=(opAt l j).a/\(opAt l j).a<=4611686018427387904)/\0<=(opAt l j).c/\(opAt l j).c<=2147483648) at HBD
        change Hid (wtK c (opAt l j).a*td<=tv*(opAt l j).c/\wtK c (opAt l j).a*x3<=wtK c x1*(opAt l j).c) at HUA
        generalize(opAt l j).a=oa at *
        generalize(opAt l j).c=oc at *
        obtain⟨pa,hpa⟩:∃pa:Nat,pa=3*(i-1):=⟨_,rfl⟩
        obtain⟨pc,hpc⟩:∃pc:Nat,pc=3*(i-1)+2:=⟨_,rfl⟩
        obtain⟨pz,hpz⟩:∃pz:Nat,pz=3*i:=⟨_,rfl⟩
        rw[<-hpa]at n1
        rw[<-hpc]at n3
        have u0:IntKind.i64.wrap (3*(i:Int))=(pz:Int):=by rw[IntKind.wrap_i64];omega
        have u1:IntKind.i64.wrap ((pz:Int)-3)=(pa:Int):=by rw[IntKind.wrap_i64];omega
        have u2:IntKind.i64.wrap ((pz:Int)-1)=(pc:Int):=by rw[IntKind.wrap_i64];omega
        have hmm:=uh HM
        have qa:(0:Int)<=(pa:Int)/\(pa:Int)<(m:Int):=by omega
        have qc:(0:Int)<=(pc:Int)/\(pc:Int)<(m:Int):=by omega
        obtain⟨qa0,qa1⟩:=qa
        obtain⟨qc0,qc1⟩:=qc
        clear hmm hpa hpc hpz w0 w1 q00 q01 q10 q11
        obtain⟨bv,hbv⟩:=qA0 hBc 0 20 c.cells rfl rfl
        have hbl:=hBc.lt
        have HH2:=hide (show ∀w',Keeps (λ_=>False) wj w'->qAn w' w.heap.size 0 20=.agg c.cells.toArray/\qAr w' w.heap.size 0 20=true/\w'.cell? ⟨w.heap.size+1,1,none⟩=some (.slice (some ⟨gn,0,none⟩) m nc)/\w'.cell? ⟨gn,pa,none⟩=some (.int .i64 x1)/\w'.cell? ⟨gn,pc,none⟩=some (.int .i64 x3)/\w'.cell? ⟨g,j*26+2,none⟩=some (.int .i64 oa)/\w'.cell? ⟨g,j*26+4,none⟩=some (.int .i64 oc) from λw' hk=>⟨(qBi hk (λh=>h) hbl).1.trans bv,(qBi hk (λh=>h) hbl).2.trans hbv,hk.cell hA1 (λh=>h),hk.cell n1 (λh=>h),hk.cell n3 (λh=>h),hk.cell o1 (λh=>h),hk.cell o3 (λh=>h)⟩)
        have HWA:=hide (show ∀w0,Calls Tryz.prog 37 #[.agg c.cells.toArray,.int .i64 oa] w0 λe w'=>e=.returned (.int .i64 (wtK c oa))/\Keeps (λ_=>False) w0 w' from λw0=>qHc c oa w0 (uh HBD).1.1 (uh HBD).1.2 (uh HD).m0 (uh HD).m1)
        have HWB:=hide (show ∀w0,Calls Tryz.prog 37 #[.agg c.cells.toArray,.int .i64 x1] w0 λe w'=>e=.returned (.int .i64 (wtK c x1))/\Keeps (λ_=>False) w0 w' from λw0=>qHc c x1 w0 (uh HB1).1.1 (uh HB1).1.2 (uh HD).m0 (uh HD).m1)
        have HNA:=hide (show ∀w0,Calls Tryz.prog 36 #[.int .i64 tv,.int .i64 td,.int .i64 (wtK c oa),.int .i64 oc] w0 λe w'=>e=.returned (.bool true)/\w'=w0 from λw0=>by
           have:=qHg tv td (wtK c oa) oc w0 v0 v1 (qFf c oa).1 (qFf c oa).2 (by omega) d1 (uh HBD).2.1 (uh HBD).2.2
           rw[decide_eq_true (uh HUA).1]at this
           exact this)
        have HNB:=hide (show ∀w0,Calls Tryz.prog 36 #[.int .i64 (wtK c x1),.int .i64 x3,.int .i64 (wtK c oa),.int .i64 oc] w0 λe w'=>e=.returned (.bool true)/\w'=w0 from λw0=>by
           have:=qHg (wtK c x1) x3 (wtK c oa) oc w0 (qFf c x1).1 (qFf c x1).2 (qFf c oa).1 (qFf c oa).2 (uh HB1).2.1 (uh HB1).2.2 (uh HBD).2.1 (uh HBD).2.2
           rw[decide_eq_true (uh HUA).2]at this
           exact this)
        generalize wtK c x1=wx at *
        generalize wtK c oa=wa at *
        clear HB1 HBD HUA hNm hSc hBc hmem n2 hi1 htk
        go_wp2_with fail
        go_region_held3 (λw'=>qAn w' w.heap.size 0 20=.agg c.cells.toArray/\qAr w' w.heap.size 0 20=true/\w'.cell? ⟨w.heap.size+1,1,none⟩=some (.slice (some ⟨gn,0,none⟩) m nc)/\w'.cell? ⟨gn,pa,none⟩=some (.int .i64 x1)/\w'.cell? ⟨gn,pc,none⟩=some (.int .i64 x3)/\w'.cell? ⟨g,j*26+2,none⟩=some (.int .i64 oa)/\w'.cell? ⟨g,j*26+4,none⟩=some (.int .i64 oc))
         (first | exact uh HH2 _ (uh HKa) | exact uh HH2 _ ((Keeps.refl (λ_=>False) wj).drew) | exact uh HH2 _ (Keeps.refl (λ_=>False) wj) | (simp[*];done))
         (first
            | (go_at_call 37
               refine(uh HWA _).mono ?_
               rintro r w1 ⟨rfl,hk1⟩
               have HKa:=hide (((Keeps.refl (λ_=>False) wj).drew).then hk1)))
        obtain⟨s1,s2,s3,s4,s5,s6,s7⟩:=uh HH2 _ (uh HKa)
        clear bv hbv hA1 n1 n3 o1 o3 t0
        go_wp2_with fail
        refine(uh HNA _).mono ?_
        rintro r w2 ⟨rfl,hw2⟩
        rw[hw2]
        clear hw2 w2
        have HH3:=hide (show ∀w',Keeps (λ_=>False) w1 w'->qAn w' w.heap.size 0 20=.agg c.cells.toArray/\qAr w' w.heap.size 0 20=true/\w'.cell? ⟨w.heap.size+1,1,none⟩=some (.slice (some ⟨gn,0,none⟩) m nc)/\w'.cell? ⟨gn,pa,none⟩=some (.int .i64 x1)/\w'.cell? ⟨gn,pc,none⟩=some (.int .i64 x3)/\w'.cell? ⟨g,j*26+2,none⟩=some (.int .i64 oa)/\w'.cell? ⟨g,j*26+4,none⟩=some (.int .i64 oc) from λw' hk=>uh HH2 w' ((uh HKa).then hk))
        go_wp2_with fail
        go_region_held3 (λw'=>qAn w' w.heap.size 0 20=.agg c.cells.toArray/\qAr w' w.heap.size 0 20=true/\w'.cell? ⟨w.heap.size+1,1,none⟩=some (.slice (some ⟨gn,0,none⟩) m nc)/\w'.cell? ⟨gn,pa,none⟩=some (.int .i64 x1)/\w'.cell? ⟨gn,pc,none⟩=some (.int .i64 x3)/\w'.cell? ⟨g,j*26+2,none⟩=some (.int .i64 oa)/\w'.cell? ⟨g,j*26+4,none⟩=some (.int .i64 oc))
         (first | exact uh HH3 _ (uh HKb) | exact uh HH3 _ ((Keeps.refl (λ_=>False) w1).drew) | exact uh HH3 _ (Keeps.refl (λ_=>False) w1) | (simp[*];done))
         (first
            | (go_at_call 37
               refine(uh HWB _).mono ?_
               rintro r w3 ⟨rfl,hk3⟩
               have HKb:=hide (((Keeps.refl (λ_=>False) w1).drew).then hk3))
            | (go_at_call 36;refine(uh HNB _).mono ?_;rintro r w4 ⟨rfl,rfl⟩))
        have HKc:=hide ((uh HKr).then ((uh HKa).then (uh HKb)))
        obtain⟨z1,z2,z3,z4,z5,z6,z7⟩:=uh HH3 _ (uh HKb)
        clear s1 s2 s3 s4 s5 s6 s7
        cases b
        ·cases e1:(tv==wa)
         ·go_wp2
          go_roundw
          case rel=>exact⟨j+1,false,by omega,by go_num,rfl,uh HNXT false (.inl (.inr ⟨rfl,λ_ h=>by rw[h.1]at e1;simp at e1⟩)),HKc⟩
          case measure=>simp[intOf];omega
         ·cases e2:(td==oc)
          ·go_wp2
           go_roundw
           case rel=>exact⟨j+1,false,by omega,by go_num,rfl,uh HNXT false (.inl (.inr ⟨rfl,λ_ h=>by rw[h.2]at e2;simp at e2⟩)),HKc⟩
           case measure=>simp[intOf];omega
          ·go_wp2
           go_roundw
           case rel=>exact⟨j+1,true,by omega,by go_num,rfl,.inl rfl,HKc⟩
           case measure=>simp[intOf];omega
        ·go_wp2
         go_roundw
         case rel=>exact⟨j+1,true,by omega,by go_num,rfl,.inl rfl,HKc⟩
         case measure=>simp[intOf];omega
       ·clear hSc hNm hBc hA1 htk
        go_wp2
        go_roundw
        case rel=>exact⟨j+1,b,by omega,by go_num,rfl,uh HNXT b (.inr ⟨rfl,rfl⟩),HKr⟩
        case measure=>simp[intOf];omega
      ·have hjE:j=n:=by omega
       subst hjE
       have hf2:decide ((j:Int)<(j:Int))=false:=by simp
       cases b
       ·exfalso
        rcases uh HI with h | h
        ·cases h
        ·obtain⟨y,hy,hy1,hy2⟩:=uh HEX
         obtain⟨j',h1,h2,h3⟩:=qVo ((uh HPR).mem_iff.2 hy)
         rw[uh HLL]at h1
         refine h j' h1 h2 ?_
         rw[<-h3]at hy1 hy2
         exact⟨hy1,hy2⟩
       ·go_wp2
        go_ret
        exact⟨rfl,(uh HKW).then (uh HKr)⟩
end
end Go.Proofs.YtahnliehdjncdaaGreatDoor
