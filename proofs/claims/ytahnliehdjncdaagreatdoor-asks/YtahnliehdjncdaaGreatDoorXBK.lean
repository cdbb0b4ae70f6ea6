import Derived.Test.YtahnliehdjncdaaGreatDoorXBB
import Derived.Test.YtahnliehdjncdaaGreatDoorXAU
import Derived.Test.YtahnliehdjncdaaGreatDoorXBJ
import Derived.Deep.DeepCutAuto
import Derived.Test.YtahnliehdjncdaaGreatDoorXBC
import Derived.Test.YtahnliehdjncdaaGreatDoorXAN
set_option maxRecDepth 100000
set_option maxHeartbeats 16000000
namespace Go.Proofs.YtahnliehdjncdaaGreatDoor
section
open Go.RowKit
attribute [local go_sem ↓] qAd qH1
attribute [local go_sem] qAi qAc qAb qAm qAn qAg qAh
def zCp(c:Cfg)(key:Int)(r:Nat)(z:RIt): Bool:=qBw c z.k r==qBw c key r
def qP4(c:Cfg)(l:List RIt)(key:Int)(r:Nat): Nat:=(l.filter (zCp c key r)).length
theorem qWo(c:Cfg)(l:List RIt)(key:Int)(r k:Nat)(hk:k<l.length): qP4 c (l.take (k+1)) key r=qP4 c (l.take k) key r+if (qBw c (rAt l k).k r==qBw c key r)=true then 1 else 0:=by
 rw[List.take_succ_eq_append_getElem hk,qCc _ _ hk]
 unfold qP4
 rw[List.filter_append,List.length_append,List.filter_cons]
 congr 1
 unfold zCp
 split <;> rfl
theorem qRz(c:Cfg)(l:List RIt)(key:Int)(r:Nat): qP4 c l key r<=l.length:=List.length_filter_le _ _
def qDy(c:Cfg)(l:List RIt)(key:Int): Nat->Int
 | 0=>(l.length:Int)
 | r+1=>if (qP4 c l key r:Int)<qDy c l key r then(qP4 c l key r:Int) else qDy c l key r
theorem qPw(c:Cfg)(l:List RIt)(key:Int): ∀r,0<=qDy c l key r/\qDy c l key r<=l.length
 | 0=>by unfold qDy;omega
 | r+1=>by
  have h1:=qPw c l key r
  have h2:=qRz c l key r
  unfold qDy
  split <;> omega
theorem qVi{w:World}{cb:Nat}{c:Cfg}(h:Blk w cb c.cells 38)(r:Nat)(hr:r<3): w.cell? ⟨cb,14+r*2,none⟩=some (.int .i64 (sdA c r))/\w.cell? ⟨cb,14+r*2+1,none⟩=some (.int .i64 (sdB c r)):=by
 have:r=0\/r=1\/r=2:=by omega
 rcases this with e | e | e <;> subst e <;> exact⟨h.cell rfl,h.cell rfl⟩
def qJj(c:Cfg)(m:Int): Int:=(m-c.window+1)/qA8 c*qA8 c
theorem qZb(c:Cfg)(m:Int)(hL:1<=qA8 c): m-c.window+1-qA8 c<qJj c m/\qJj c m<=m-c.window+1:=by
 have h1:=Int.emod_nonneg (m-c.window+1) (show qA8 c≠0 by omega)
 have h2:=Int.emod_lt_of_pos (m-c.window+1) (show 0<qA8 c by omega)
 have h3:=Int.emod_add_mul_ediv (m-c.window+1) (qA8 c)
 unfold qJj
 rw[Int.mul_comm]
 omega
theorem qTw(b:RB)(y:RSer)(key m:Int)(w:World)(h:RRep w b y)(hp:y.c.paned)(hrw:y.c.rowed)(hL:1<=qA8 y.c)(hL2:qA8 y.c<=1000)(hl:y.items.length<=651562446090)(hk:∀z,z∈qA5 y.items (qJj y.c m-1) m->0<=z.k/\z.k<=2147483648)(k0:0<=key)(k1:key<=2147483648)(m0:-100<=m)(m1:m<=4611686018427387904):
  Calls Tryz.prog 80 #[.pointer (some ⟨b.s,0,none⟩),.int .i64 key,.int .i64 m] w λr w'=>∃g,r=.returned (.slice (some ⟨g,0,none⟩) 1 1)/\w.heap.size<=g/\Blk w' g [.int .i64 (qDy y.c (qA5 y.items (qJj y.c m-1) m) key y.c.rows.toNat)] 3/\Keeps (λ_=>False) w w':=by
 obtain⟨R,hR⟩:∃R:Nat,y.c.rows=(R:Int):=⟨y.c.rows.toNat,by have:=hrw.r0;omega⟩
 have hRn:y.c.rows.toNat=R:=by omega
 have hR3:R<=3:=by have:=hrw.r1;omega
 have HR:=hide h
 have HKB:=hide hk
 obtain⟨w0,w1,p0,p1⟩:=hp
 have hbv:qAv w b.s 1 20=.agg y.c.cells.toArray/\qA2 w b.s 1 20=true:=by
  have hrg:w.rangeAt b.s 1 y.c.cells:=λj v hv=>h.blk.cell (by
     have hj:j<20:=(List.getElem?_eq_some_iff.1 hv).1
     have e:qDi b y=.int .i64 y.id::(y.c.cells++(b.iv::b.ev::y.ref.map (.int .i64 ·))):=rfl
     rw[e,Nat.add_comm 1 j,List.getElem?_cons_succ,List.getElem?_append_left hj]
     exact hv)
  have:=qAx hrg
  exact⟨by unfold qAv;have h1:=this.1;rw[show y.c.cells.length=20 from rfl]at h1;rw[h1],this.2⟩
 obtain⟨bv1,bv2⟩:=hbv
 have hst:∀zs:List Value,zs.length=20->(qD4 38 (.pointer (some ⟨w.heap.size,0,none⟩)) (.agg y.c.cells.toArray)).run Tryz.prog (w.alloc (.cells zs.toArray 38))=.ok .skip (w.alloc (.cells y.c.cells.toArray 38)):=λzs hz=>qRt w zs y.c.cells hz rfl (by simp[Cfg.cells,Value.oneCell'])
 have HB1:=hide (Blk.new w y.c.cells 38)
 have c5:(w.alloc (.cells y.c.cells.toArray 38)).cell? ⟨w.heap.size,5,none⟩=some (.int .i64 y.c.window):=(uh HB1).cell rfl
 have c9:(w.alloc (.cells y.c.cells.toArray 38)).cell? ⟨w.heap.size,9,none⟩=some (.int .i64 y.c.panes):=(uh HB1).cell rfl
 have hqz:(y.c.panes==0)=false:=by simp;omega
 have hlong:y.c.window/y.c.panes=qA8 y.c:=rfl
 have hwl:IntKind.i64.wrap (m-y.c.window)=m-y.c.window:=by rw[IntKind.wrap_i64];omega
 have hwl2:IntKind.i64.wrap (m-y.c.window+1)=m-y.c.window+1:=by rw[IntKind.wrap_i64];omega
 clear h hk
 go_enter Tryz.func80,Tryz.ntmps80
 go_wp2_with fail
 obtain⟨fb0,fb1⟩:=qZb y.c m hL
 have HFX:=hide (show(m-y.c.window+1)/qA8 y.c*qA8 y.c=qJj y.c m from rfl)
 refine(qTy (m-y.c.window+1) (qA8 y.c) _ (by omega) (by omega) hL hL2).mono ?_
 rintro r wq ⟨rfl,hwq⟩
 rw[hwq]
 clear hwq wq
 obtain⟨fl,hfl⟩:∃fl,(m-y.c.window+1)/qA8 y.c=fl:=⟨_,rfl⟩
 rw[hfl]at HFX ⊢
 obtain⟨fr,hfr⟩:∃fr,qJj y.c m=fr:=⟨_,rfl⟩
 have HFR:=hide hfr
 rw[hfr]at HFX fb0 fb1 HKB
 have hfm:IntKind.i64.wrap (fl*qA8 y.c)=fr:=by rw[uh HFX,IntKind.wrap_i64];omega
 have hfm2:IntKind.i64.wrap (fr-1)=fr-1:=by rw[IntKind.wrap_i64];omega
 clear hfl hfr hwl hwl2 c5 c9 hst bv1 bv2
 have HK1:=hide ((Keeps.refl (λ_=>False) w).alloc (.cells y.c.cells.toArray 38))
 have HR1:=hide ((uh HR).still (uh HK1))
 generalize w.alloc (.cells y.c.cells.toArray 38)=W1 at *
 go_wp2_with fail
 refine(qH8 b y (fr-1) m W1 (uh HR1) hl).mono ?_
 rintro r W2 ⟨lv,rfl,hL2',hk2⟩
 have HL2:=hide hL2'
 have hll:(qA5 y.items (fr-1) m).length<=651562446090:=by have:=qGn y.items (fr-1) m;omega
 have HK2:=hide ((uh HK1).then hk2)
 have HB2:=hide ((uh HB1).keeps hk2 (λh=>h))
 have HC0:=hide (show ∀z,z∈qA5 y.items (fr-1) m->0<=z.k/\z.k<=2147483648 from uh HKB)
 have HRW:=hide hrw
 have HRN:=hide hRn
 have ww0:=hrw.w0
 have ww1:=hrw.w1
 generalize hLL:qA5 y.items (fr-1) m=LL at *
 have HLL:=hide hLL
 generalize hcc:y.c=c at *
 have HCE:=hide hcc
 clear hcc
 obtain⟨la,lcap,elv⟩:=qC4 hL2'
 generalize hnl:LL.length=nl at *
 have HNL:=hide hnl
 subst elv
 obtain⟨cb,hcb⟩:∃cb,w.heap.size=cb:=⟨_,rfl⟩
 rw[hcb]at HB2 ⊢
 have HCB:=hide hcb
 clear hL2' hk2 HKB HR HR1 hnl hLL HK1 HB1 hcb hrw hRn
 have hwz:(c.width==0)=false:=by simp;omega
 go_wp2_with fail
 go_loopw [11,12] (λlv rv wr=>∃r:Nat,r<=R/\rv=.int .i64 r/\lv=.int .i64 (qDy c LL key r)/\Hid (Keeps (λ_=>False) W2 wr)) (λ_ rv _=>R-(intOf rv).toNat)
 case atStart=>exact⟨0,by omega,rfl,by show _=Value.int .i64 (LL.length:Int);rw[uh HNL],Keeps.refl _ _⟩
 case round =>
  obtain⟨r,hr,rfl,rfl,HK⟩:=hrel
  generalize wr=wo at *
  have c7:wo.cell? ⟨cb,7,none⟩=some (.int .i64 R):=by rw[<-hR];exact(uh HK).cell ((uh HB2).cell rfl) (λh=>h)
  have hlb:=qPw c LL key r
  rw[uh HNL]at hlb
  obtain⟨lb0,lb1⟩:=hlb
  by_cases hrR:r<R
  ·obtain⟨s0,s1⟩:=qVi ((uh HB2).keeps (uh HK) (λh=>h)) r (by omega)
   have c8:wo.cell? ⟨cb,8,none⟩=some (.int .i64 c.width):=(uh HK).cell ((uh HB2).cell rfl) (λh=>h)
   obtain⟨q1,q2,q3,q4⟩:=(uh HRW).sd r (by rw[hR];omega)
   have HH:=hide (show ∀(kz:Int) (w0:World),0<=kz->kz<=2147483648->Calls Tryz.prog 106 #[.int .i64 (sdA c r),.int .i64 (sdB c r),.int .i64 kz] w0 λe w'=>e=.returned (.int .i64 (qC0 (sdA c r) (sdB c r) kz))/\w'=w0 from λkz w0 z0 z1=>qQa _ _ _ w0 q1 q2 q3 q4 z0 z1)
   have HPL:=hide (show ∀kz,qC0 (sdA c r) (sdB c r) kz%c.width=qBw c kz r from λkz=>rfl)
   have HHB:=hide (λkz=>qHu (sdA c r) (sdB c r) kz)
   have HLS:=hide (show qDy c LL key (r+1)=if (qP4 c LL key r:Int)<qDy c LL key r then(qP4 c LL key r:Int) else qDy c LL key r from rfl)
   have hhb:=uh HHB key
   obtain⟨hh,hhe⟩:∃hh,qC0 (sdA c r) (sdB c r) key=hh:=⟨_,rfl⟩
   have HK0:=hide (uh HH key)
   rw[hhe]at HK0 hhb
   obtain⟨hh0,hh1⟩:=hhb
   obtain⟨wt,hwt⟩:∃wt,qBw c key r=wt:=⟨_,rfl⟩
   have hmod:hh%c.width=wt:=by rw[<-hwt,<-hhe];rfl
   have hr0:(0:Int)<=(r:Int):=by omega
   have hrR':(r:Int)<(R:Int):=by omega
   have hr3:(r:Int)<3:=by omega
   have HS0:=hide s0
   have HS1:=hide s1
   have HC8:=hide c8
   generalize sdA c r=sa at *
   generalize sdB c r=sb at *
   generalize hlr:qDy c LL key r=lr at *
   go_wp2_with fail
   go_quiet (first | (go_at_call 106;refine Calls.quiet_of_same (uh HK0 _ k0 k1)))
   have HKq:=hide ((uh HK).then (Keeps.drewN (λ_=>False) wo nq))
   have HSq:=hide (show ∀w',Keeps (λ_=>False) (wo.drewN nq) w'->w'.cell? ⟨cb,14+r*2,none⟩=some (.int .i64 sa)/\w'.cell? ⟨cb,14+r*2+1,none⟩=some (.int .i64 sb)/\w'.cell? ⟨cb,8,none⟩=some (.int .i64 c.width) from λw' hk'=>⟨((Keeps.drewN (λ_=>False) wo nq).then hk').cell (uh HS0) (λh=>h),((Keeps.drewN (λ_=>False) wo nq).then hk').cell (uh HS1) (λh=>h),((Keeps.drewN (λ_=>False) wo nq).then hk').cell (uh HC8) (λh=>h)⟩)
   clear s0 s1 c8 c7 HS0 HS1 HC8
   have HMOD:=hide hmod
   clear hmod
   generalize wo.drewN nq=W3 at *
   go_wp2_with fail
   go_loopw [13,15] (λnv iv wr=>∃k:Nat,k<=nl/\iv=.int .i64 k/\nv=.int .i64 (qP4 c (LL.take k) key r)/\Hid (Keeps (λ_=>False) W3 wr)) (λ_ iv _=>nl-(intOf iv).toNat)
   case atStart=>exact⟨0,by omega,rfl,rfl,Keeps.refl _ _⟩
   case round =>
    obtain⟨k,hk,rfl,rfl,HKz⟩:=hrel
    have hcl:=qRz c (LL.take k) key r
    rw[List.length_take]at hcl
    by_cases hkn:k<nl
    ·have hkl:k<LL.length:=by rw[uh HNL];exact hkn
     have hLr:zBa wr W1.heap.size (.slice la nl lcap) LL:=qAf (uh HL2) ((uh HKq).then (uh HKz)) (λ_ _ h=>h)
     obtain⟨la',lc',e1,_,hla,hcls⟩:=qCy hLr
     injection e1 with e2 e4 e3
     clear e4
     subst e2 e3
     obtain⟨gl,hgl⟩:=hla (by rw[uh HNL];omega)
     have ck:=(hcls gl hgl).1 (k*5+1) _ (by rw[qBl _ _ _ hkl (by omega)];rfl)
     subst hgl
     obtain⟨kb0,kb1⟩:=uh HC0 (rAt LL k) (by rw[qCc _ _ hkl];exact List.getElem_mem hkl)
     have HTK:=hide (qWo c LL key r k hkl)
     obtain⟨s0,s1,c8⟩:=uh HSq wr (uh HKz)
     generalize(rAt LL k).k=kk at *
     generalize qP4 c (LL.take k) key r=cn at *
     have hhb2:=uh HHB kk
     obtain⟨h2,h2e⟩:∃h2,qC0 sa sb kk=h2:=⟨_,rfl⟩
     have HKk:=hide (uh HH kk)
     rw[h2e]at HKk hhb2
     obtain⟨h20,h21⟩:=hhb2
     obtain⟨pk,hpk⟩:∃pk,qBw c kk r=pk:=⟨_,rfl⟩
     have hmod2:h2%c.width=pk:=by rw[<-hpk,<-h2e];exact uh HPL kk
     rw[hpk,hwt]at HTK
     have hk0':(0:Int)<=(k:Int):=by omega
     have hkn':(k:Int)<(nl:Int):=by omega
     clear hLr hcls hla hkl
     cases hb:(pk==wt)
     ·rw[hb]at HTK
      have hmod:=uh HMOD
      have hb':(h2%c.width==hh%c.width)=false:=by rw[hmod2,hmod];exact hb
      go_wp2_with fail
      go_quiet (first | (go_at_call 106;refine Calls.quiet_of_same (uh HKk _ kb0 kb1)))
      go_wp2
      go_roundw
      case rel=>exact⟨k+1,by omega,by go_num,by rw[uh HTK];simp,hide ((uh HKz).then (Keeps.drewN _ _ _))⟩
      case measure=>simp[intOf];omega
     ·rw[hb,if_pos rfl]at HTK
      have hmod:=uh HMOD
      have hb':(h2%c.width==hh%c.width)=true:=by rw[hmod2,hmod];exact hb
      go_wp2_with fail
      go_quiet (first | (go_at_call 106;refine Calls.quiet_of_same (uh HKk _ kb0 kb1)))
      go_wp2
      go_roundw
      case rel=>exact⟨k+1,by omega,by go_num,by rw[uh HTK];go_num,hide ((uh HKz).then (Keeps.drewN _ _ _))⟩
      case measure=>simp[intOf];omega
    ·have hkE:k=nl:=by omega
     subst hkE
     have hfl:LL.take k=LL:=List.take_of_length_le (by rw[uh HNL];exact Nat.le_refl _)
     rw[hfl]at hcl ⊢
     have hff:decide ((k:Int)<(k:Int))=false:=by simp
     generalize qP4 c LL key r=cn at *
     cases hd:decide ((cn:Int)<lr)
     ·have HN2:=hide (show qDy c LL key (r+1)=lr by rw[uh HLS,if_neg (by simpa using hd)])
      go_wp2_with fail
      go_roundw
      case rel=>exact⟨r+1,by omega,by go_num,by rw[uh HN2],hide ((uh HKq).then (uh HKz))⟩
      case measure=>simp[intOf];omega
     ·have HN2:=hide (show qDy c LL key (r+1)=(cn:Int) by rw[uh HLS,if_pos (by simpa using hd)])
      go_wp2_with fail
      go_roundw
      case rel=>exact⟨r+1,by omega,by go_num,by rw[uh HN2],hide ((uh HKq).then (uh HKz))⟩
      case measure=>simp[intOf];omega
  ·have hrE:r=R:=by omega
   subst hrE
   have hff:decide ((r:Int)<(r:Int))=false:=by simp
   obtain⟨lr,hlr⟩:∃lr,qDy c LL key r=lr:=⟨_,rfl⟩
   rw[hlr]
   have HB9:=hide (Blk.new wo [.int .i64 lr] 3)
   go_wp2
   go_ret
   refine⟨_,rfl,?_,?_,?_⟩
   ·have:=(uh HK2).size;have:=(uh HK).size;omega
   ·rw[uh HCE,uh HFR,uh HLL,uh HRN,hlr];exact uh HB9
   ·exact((uh HK2).then (uh HK)).alloc _
end
section
open Go.RowKit
theorem qZz(a d:Int): a/2147483648*d+a%2147483648*d/2147483648=a*d/2147483648:=by
 have h:=Int.emod_add_mul_ediv a 2147483648
 have e:a*d=a%2147483648*d+2147483648*(a/2147483648*d):=by
  conv=>lhs;rw[<-h]
  rw[Int.add_mul,Int.mul_assoc]
 rw[e,Int.add_mul_ediv_left _ _ (by omega)]
 omega
theorem zA5(a d:Int): a%2147483648*d%2147483648=a*d%2147483648:=by
 have h:=Int.emod_add_mul_ediv a 2147483648
 have e:a*d=a%2147483648*d+2147483648*(a/2147483648*d):=by
  conv=>lhs;rw[<-h]
  rw[Int.add_mul,Int.mul_assoc]
 rw[e,Int.add_mul_emod_self_left]
def qC1(p:Int): List Value:=[.int .i64 (p/2147483648),.int .i64 (p%2147483648)]
theorem qM3(a d:Int)(w:World)(a0:0<=a)(a1:a<=2305843009213693952)(d0:0<=d)(d1:d<=2147483648):
  Calls Tryz.prog 154 #[.int .i64 a,.int .i64 d] w λe w'=>e=.returned (.agg (qC1 (a*d)).toArray)/\Keeps (λ_=>False) w w':=by
 have hlo0:0<=a%2147483648*d:=Int.mul_nonneg (by omega) d0
 have hlo1:a%2147483648*d<=2147483648*2147483648:=Int.mul_le_mul (by omega) d1 d0 (by omega)
 have hhi0:0<=a/2147483648*d:=Int.mul_nonneg (by omega) d0
 have hhi1:a/2147483648*d<=1073741824*2147483648:=Int.mul_le_mul (by omega) d1 d0 (by omega)
 have t1:=qZz a d
 have t2:=zA5 a d
 have HT1:=hide t1
 have HT2:=hide t2
 clear t1 t2
 obtain⟨lo,hlo⟩:∃lo,a%2147483648*d=lo:=⟨_,rfl⟩
 obtain⟨hi,hhi⟩:∃hi,a/2147483648*d=hi:=⟨_,rfl⟩
 rw[hlo]at hlo0 hlo1 HT1 HT2
 rw[hhi]at hhi0 hhi1 HT1
 have hw1:IntKind.i64.wrap (a%2147483648*d)=lo:=by rw[hlo,IntKind.wrap_i64];omega
 have hw2:IntKind.i64.wrap (a/2147483648*d)=hi:=by rw[hhi,IntKind.wrap_i64];omega
 have hw3:IntKind.i64.wrap (hi+lo/2147483648)=hi+lo/2147483648:=by rw[IntKind.wrap_i64];omega
 have HB:=hide (show Keeps (λ_=>False) w (w.alloc (.cells #[.int .i64 (hi+lo/2147483648),.int .i64 (lo%2147483648)] 185)) from(Keeps.refl _ _).alloc _)
 go_enter Tryz.func154,Tryz.ntmps154
 go_wp2
 have HQ:=hide (Blk.new w [.int .i64 (hi+lo/2147483648),.int .i64 (lo%2147483648)] 185)
 have q0:(w.alloc (.cells #[.int .i64 (hi+lo/2147483648),.int .i64 (lo%2147483648)] 185)).cell? ⟨w.heap.size,0,none⟩=some (.int .i64 (hi+lo/2147483648)):=(uh HQ).cell rfl
 have q1:(w.alloc (.cells #[.int .i64 (hi+lo/2147483648),.int .i64 (lo%2147483648)] 185)).cell? ⟨w.heap.size,1,none⟩=some (.int .i64 (lo%2147483648)):=(uh HQ).cell rfl
 refine bodyPost_ret (v:=.agg #[.int .i64 (hi+lo/2147483648),.int .i64 (lo%2147483648)]) (by simp[results,Tryz.results154,go_sem,q0,q1]) rfl ?_
 refine⟨?_,uh HB⟩
 unfold qC1
 rw[<-uh HT1,<-uh HT2]
theorem qUk(p q:Int)(w:World):
  Calls Tryz.prog 155 #[.agg (qC1 p).toArray,.agg (qC1 q).toArray] w λe w'=>e=.returned (.bool (decide (q<p)))/\Keeps (λ_=>False) w w':=by
 unfold qC1
 have HX:=hide (show decide (q<p)=(decide (q/2147483648<p/2147483648)||((p/2147483648==q/2147483648)&&decide (q%2147483648<p%2147483648))) by
    rw[Bool.eq_iff_iff]
    simp only[Bool.or_eq_true,Bool.and_eq_true,decide_eq_true_eq,beq_iff_eq]
    omega)
 generalize p/2147483648=a at *
 generalize p%2147483648=b at *
 generalize q/2147483648=c at *
 generalize q%2147483648=d at *
 have HK:=hide (show Keeps (λ_=>False) w ((w.alloc (.cells #[.int .i64 a,.int .i64 b] 185)).alloc (.cells #[.int .i64 c,.int .i64 d] 185)) from((Keeps.refl _ _).alloc _).alloc _)
 cases h1:decide (c<a)
 ·cases h2:(a==c)
  ·go_enter Tryz.func155,Tryz.ntmps155
   go_wp2
   go_ret
   exact⟨by rw[uh HX,h1,h2];rfl,uh HK⟩
  ·cases h3:decide (d<b)
   all_goals
    go_enter Tryz.func155,Tryz.ntmps155
    go_wp2
    go_ret
    exact⟨by rw[uh HX,h1,h2,h3];rfl,uh HK⟩
 ·go_enter Tryz.func155,Tryz.ntmps155
  go_wp2
  go_ret
  exact⟨by rw[uh HX,h1];rfl,uh HK⟩
end
section
open Go.RowKit
attribute [local go_sem ↓] qAd
attribute [local go_sem] qAi qAc qAb qAm qAn qAg qAh
def wtR(c:Cfg)(x:RIt): Int:=qA3 (qAr c x.t)
def qNq(c:Cfg)(x z:RIt): Bool:=decide (wtR c z*x.d<wtR c x*z.d)||(decide (wtR c x*z.d=wtR c z*x.d)&&decide (x.n<z.n))
theorem qRn(b:RB)(y:RSer)(x z:RIt)(w:World)(h:RRep w b y)(hc:y.c.weighs)(x0:0<=x.t)(x1:x.t<=4611686018427387904)(z0:0<=z.t)(z1:z.t<=4611686018427387904)(xd0:0<=x.d)(xd1:x.d<=2147483648)(zd0:0<=z.d)(zd1:z.d<=2147483648):
  Calls Tryz.prog 110 #[.pointer (some ⟨b.s,0,none⟩),.agg x.cells.toArray,.agg z.cells.toArray] w λe w'=>e=.returned (.bool (qNq y.c x z))/\Keeps (λ_=>False) w w':=by
 have hbx:=qFw y.c x.t
 have hbz:=qFw y.c z.t
 obtain⟨bx0,bx1⟩:=hbx
 obtain⟨bz0,bz1⟩:=hbz
 have HWX:=hide (show ∀w0,Calls Tryz.prog 109 #[.agg y.c.cells.toArray,.int .i64 x.t] w0 λe w'=>e=.returned (.int .i64 (qA3 (qAr y.c x.t)))/\Keeps (λ_=>False) w0 w' from λw0=>qD5 y.c x.t w0 hc (by omega) x1)
 have HWZ:=hide (show ∀w0,Calls Tryz.prog 109 #[.agg y.c.cells.toArray,.int .i64 z.t] w0 λe w'=>e=.returned (.int .i64 (qA3 (qAr y.c z.t)))/\Keeps (λ_=>False) w0 w' from λw0=>qD5 y.c z.t w0 hc (by omega) z1)
 have HSN:=hide (show qNq y.c x z=(decide (qA3 (qAr y.c z.t)*x.d<qA3 (qAr y.c x.t)*z.d)||(decide (qA3 (qAr y.c x.t)*z.d=qA3 (qAr y.c z.t)*x.d)&&decide (x.n<z.n))) from rfl)
 have HK0:=hide (show Keeps (λ_=>False) w ((w.alloc (.cells x.cells.toArray 155)).alloc (.cells z.cells.toArray 155)) from((Keeps.refl _ _).alloc _).alloc _)
 have HX0:=hide (show Blk ((w.alloc (.cells x.cells.toArray 155)).alloc (.cells z.cells.toArray 155)) w.heap.size x.cells 155 from(Blk.new w _ _).alloc _)
 have HZ0:=hide (show Blk ((w.alloc (.cells x.cells.toArray 155)).alloc (.cells z.cells.toArray 155)) (w.heap.size+1) z.cells 155 from Blk.newAt (by simp) _ _)
 have HR0:=hide (h.still (uh HK0))
 generalize qA3 (qAr y.c x.t)=wx at *
 generalize qA3 (qAr y.c z.t)=wz at *
 clear h hc
 obtain⟨xt,xk,xd,xn,xi⟩:=x
 obtain⟨zt,zk,zd,zn,zi⟩:=z
 go_enter Tryz.func110,Tryz.ntmps110
 go_wp2_with fail
 have fx:((w.alloc (.cells (RIt.cells ⟨xt,xk,xd,xn,xi⟩).toArray 155)).alloc (.cells (RIt.cells ⟨zt,zk,zd,zn,zi⟩).toArray 155)).cell? ⟨w.heap.size,0,none⟩=some (.int .i64 xt):=(uh HX0).cell rfl
 have fz:((w.alloc (.cells (RIt.cells ⟨xt,xk,xd,xn,xi⟩).toArray 155)).alloc (.cells (RIt.cells ⟨zt,zk,zd,zn,zi⟩).toArray 155)).cell? ⟨w.heap.size+1,2,none⟩=some (.int .i64 zd):=(uh HZ0).cell rfl
 obtain⟨bg1,bg2⟩:=qEi (uh HR0).blk
 have hbs:=(uh HR0).blk.lt
 have hxl:=(uh HX0).lt
 have hzl:=(uh HZ0).lt
 generalize(w.alloc (.cells (RIt.cells ⟨xt,xk,xd,xn,xi⟩).toArray 155)).alloc (.cells (RIt.cells ⟨zt,zk,zd,zn,zi⟩).toArray 155)=W0 at *
 go_cut [7] (λv wq=>∃p:Nat,v=.pointer (some ⟨p,0,none⟩)/\Hid (Blk wq p (qC1 (wx*zd)) 185)/\Hid (Keeps (λ_=>False) W0 wq))
 case first =>
  have HH:=hide (show ∀w',Keeps (λ_=>False) W0 w'->qAv w' b.s 1 20=.agg y.c.cells.toArray/\qA2 w' b.s 1 20=true/\w'.cell? ⟨w.heap.size,0,none⟩=some (.int .i64 xt)/\w'.cell? ⟨w.heap.size+1,2,none⟩=some (.int .i64 zd) from λw' hk=>⟨(qAp hk (λh=>h) hbs).1.trans bg1,(qAp hk (λh=>h) hbs).2.trans bg2,hk.cell fx (λh=>h),hk.cell fz (λh=>h)⟩)
  obtain⟨ph,hph⟩:∃ph,wx*zd/2147483648=ph:=⟨_,rfl⟩
  obtain⟨pl,hpl⟩:∃pl,wx*zd%2147483648=pl:=⟨_,rfl⟩
  have HTM:=hide (show ∀w0,Calls Tryz.prog 154 #[.int .i64 wx,.int .i64 zd] w0 λe w'=>e=.returned (.agg #[.int .i64 ph,.int .i64 pl])/\Keeps (λ_=>False) w0 w' from λw0=>by
     have:=qM3 wx zd w0 bx0 bx1 zd0 zd1
     unfold qC1 at this
     rw[hph,hpl]at this
     exact this)
  have HBC:=hide (show qC1 (wx*zd)=[.int .i64 ph,.int .i64 pl] by unfold qC1;rw[hph,hpl])
  clear hph hpl
  go_region_held3 (λw'=>qAv w' b.s 1 20=.agg y.c.cells.toArray/\qA2 w' b.s 1 20=true/\w'.cell? ⟨w.heap.size,0,none⟩=some (.int .i64 xt)/\w'.cell? ⟨w.heap.size+1,2,none⟩=some (.int .i64 zd))
   (first
      | exact uh HH _ (uh HKb)
      | exact uh HH _ ((uh HKb).alloc _)
      | exact uh HH _ (uh HKa)
      | exact uh HH _ ((uh HKa).alloc _)
      | exact uh HH _ ((Keeps.refl (λ_=>False) W0).drew)
      | exact uh HH _ (((Keeps.refl (λ_=>False) W0).drew).alloc _)
      | exact uh HH _ (Keeps.refl (λ_=>False) W0)
      | exact uh HH _ (((uh HKb).setCell (p:=⟨w1.heap.size,0,none⟩) (Or.inr (uh HKa).size) _).setCell (p:=⟨w1.heap.size,1,none⟩) (Or.inr (uh HKa).size) _)
      | exact uh HH _ (((uh HKb).setCell (p:=⟨W0.heap.size,0,none⟩) (Or.inr (Nat.le_refl _)) _).setCell (p:=⟨W0.heap.size,1,none⟩) (Or.inr (Nat.le_refl _)) _)
      | (simp[*,qAc,qAb];done))
   (first
      | (go_at_call 109
         refine(uh HWX _).mono ?_
         rintro r w1 ⟨rfl,hk1⟩
         have HKa:=hide (show Keeps (λ_=>False) W0 w1 by first | exact((Keeps.refl (λ_=>False) W0).drew).then hk1 | exact(((Keeps.refl (λ_=>False) W0).drew).alloc _).then hk1)
         first
          | (have hB1:=(Blk.new W0.drew [.int .i64 0,.int .i64 0] 185).keeps hk1 (λh=>h)
             have HB1:=hide hB1)
          | skip)
      | (go_at_call 154
         refine(uh HTM _).mono ?_
         rintro r w2 ⟨rfl,hk2⟩
         have HKb:=hide (show Keeps (λ_=>False) W0 w2 by first | exact(uh HKa).then hk2 | exact((uh HKa).alloc _).then hk2)
         first
          | (have hB2:Blk w2 W0.heap.size [.int .i64 0,.int .i64 0] 185:=(uh HB1).keeps hk2 (λh=>h)
             have HB2:=hide hB2
             have a0:=hB2.cell (i:=0) rfl
             have a1:=hB2.cell (i:=1) rfl
             have af:=hB2.frozen)
          | (have hB2:=(Blk.new w1 [.int .i64 0,.int .i64 0] 185).keeps hk2 (λh=>h)
             have HB2:=hide hB2
             have a0:=hB2.cell (i:=0) rfl
             have a1:=hB2.cell (i:=1) rfl
             have af:=hB2.frozen)
          | skip))
  all_goals
   go_wp2_with fail
   go_meet
   first
    | exact⟨_,rfl,hide (by rw[uh HBC];exact Blk.new w2 _ _),hide ((uh HKb).alloc _)⟩
    | exact⟨_,rfl,hide (by rw[uh HBC];exact((uh HB2).setCell 0 (.int .i64 ph)).setCell 1 (.int .i64 pl)),hide (((uh HKb).setCell (p:=⟨w1.heap.size,0,none⟩) (Or.inr (uh HKa).size) _).setCell (p:=⟨w1.heap.size,1,none⟩) (Or.inr (uh HKa).size) _)⟩
    | exact⟨_,rfl,hide (by rw[uh HBC];exact((uh HB2).setCell 0 (.int .i64 ph)).setCell 1 (.int .i64 pl)),hide (((uh HKb).setCell (p:=⟨W0.heap.size,0,none⟩) (Or.inr (Nat.le_refl _)) _).setCell (p:=⟨W0.heap.size,1,none⟩) (Or.inr (Nat.le_refl _)) _)⟩
 case rest =>
  obtain⟨p,rfl,HP,HKP⟩:=hcut
  have HX1:=hide ((uh HX0).keeps (uh HKP) (λh=>h))
  have HZ1:=hide ((uh HZ0).keeps (uh HKP) (λh=>h))
  have HR1:=hide ((uh HR0).still (uh HKP))
  have HK1:=hide ((uh HK0).then (uh HKP))
  clear fx fz bg1 bg2 hbs hxl hzl HX0 HZ0 HR0 HKP HK0 HWX
  obtain⟨bg1,bg2⟩:=qEi (uh HR1).blk
  have hbs:=(uh HR1).blk.lt
  have fx:wc.cell? ⟨w.heap.size+1,0,none⟩=some (.int .i64 zt):=(uh HZ1).cell rfl
  have fz:wc.cell? ⟨w.heap.size,2,none⟩=some (.int .i64 xd):=(uh HX1).cell rfl
  generalize wc=W1 at *
  go_wp2_with fail
  go_cut [8] (λv wq=>∃p:Nat,v=.pointer (some ⟨p,0,none⟩)/\Hid (Blk wq p (qC1 (wz*xd)) 185)/\Hid (Keeps (λ_=>False) W1 wq))
  case first =>
   have HH:=hide (show ∀w',Keeps (λ_=>False) W1 w'->qAv w' b.s 1 20=.agg y.c.cells.toArray/\qA2 w' b.s 1 20=true/\w'.cell? ⟨w.heap.size+1,0,none⟩=some (.int .i64 zt)/\w'.cell? ⟨w.heap.size,2,none⟩=some (.int .i64 xd) from λw' hk=>⟨(qAp hk (λh=>h) hbs).1.trans bg1,(qAp hk (λh=>h) hbs).2.trans bg2,hk.cell fx (λh=>h),hk.cell fz (λh=>h)⟩)
   obtain⟨ph,hph⟩:∃ph,wz*xd/2147483648=ph:=⟨_,rfl⟩
   obtain⟨pl,hpl⟩:∃pl,wz*xd%2147483648=pl:=⟨_,rfl⟩
   have HTM:=hide (show ∀w0,Calls Tryz.prog 154 #[.int .i64 wz,.int .i64 xd] w0 λe w'=>e=.returned (.agg #[.int .i64 ph,.int .i64 pl])/\Keeps (λ_=>False) w0 w' from λw0=>by
      have:=qM3 wz xd w0 bz0 bz1 xd0 xd1
      unfold qC1 at this
      rw[hph,hpl]at this
      exact this)
   have HBC:=hide (show qC1 (wz*xd)=[.int .i64 ph,.int .i64 pl] by unfold qC1;rw[hph,hpl])
   clear hph hpl
   go_region_held3 (λw'=>qAv w' b.s 1 20=.agg y.c.cells.toArray/\qA2 w' b.s 1 20=true/\w'.cell? ⟨w.heap.size+1,0,none⟩=some (.int .i64 zt)/\w'.cell? ⟨w.heap.size,2,none⟩=some (.int .i64 xd))
    (first
       | exact uh HH _ (uh HKb)
       | exact uh HH _ ((uh HKb).alloc _)
       | exact uh HH _ (uh HKa)
       | exact uh HH _ ((uh HKa).alloc _)
       | exact uh HH _ ((Keeps.refl (λ_=>False) W1).drew)
       | exact uh HH _ (((Keeps.refl (λ_=>False) W1).drew).alloc _)
       | exact uh HH _ (Keeps.refl (λ_=>False) W1)
       | exact uh HH _ (((uh HKb).setCell (p:=⟨w1.heap.size,0,none⟩) (Or.inr (uh HKa).size) _).setCell (p:=⟨w1.heap.size,1,none⟩) (Or.inr (uh HKa).size) _)
       | exact uh HH _ (((uh HKb).setCell (p:=⟨W1.heap.size,0,none⟩) (Or.inr (Nat.le_refl _)) _).setCell (p:=⟨W1.heap.size,1,none⟩) (Or.inr (Nat.le_refl _)) _)
       | (simp[*,qAc,qAb];done))
    (first
       | (go_at_call 109
          refine(uh HWZ _).mono ?_
          rintro r w1 ⟨rfl,hk1⟩
          have HKa:=hide (show Keeps (λ_=>False) W1 w1 by first | exact((Keeps.refl (λ_=>False) W1).drew).then hk1 | exact(((Keeps.refl (λ_=>False) W1).drew).alloc _).then hk1)
          first
           | (have hB1:=(Blk.new W1.drew [.int .i64 0,.int .i64 0] 185).keeps hk1 (λh=>h)
              have HB1:=hide hB1)
           | skip)
       | (go_at_call 154
          refine(uh HTM _).mono ?_
          rintro r w2 ⟨rfl,hk2⟩
          have HKb:=hide (show Keeps (λ_=>False) W1 w2 by first | exact(uh HKa).then hk2 | exact((uh HKa).alloc _).then hk2)
          first
           | (have hB2:Blk w2 W1.heap.size [.int .i64 0,.int .i64 0] 185:=(uh HB1).keeps hk2 (λh=>h)
              have HB2:=hide hB2
              have a0:=hB2.cell (i:=0) rfl
              have a1:=hB2.cell (i:=1) rfl
              have af:=hB2.frozen)
           | (have hB2:=(Blk.new w1 [.int .i64 0,.int .i64 0] 185).keeps hk2 (λh=>h)
              have HB2:=hide hB2
              have a0:=hB2.cell (i:=0) rfl
              have a1:=hB2.cell (i:=1) rfl
              have af:=hB2.frozen)
           | skip))
   all_goals
    go_wp2_with fail
    go_meet
    first
     | exact⟨_,rfl,hide (by rw[uh HBC];exact Blk.new w2 _ _),hide ((uh HKb).alloc _)⟩
     | exact⟨_,rfl,hide (by rw[uh HBC];exact((uh HB2).setCell 0 (.int .i64 ph)).setCell 1 (.int .i64 pl)),hide (((uh HKb).setCell (p:=⟨w1.heap.size,0,none⟩) (Or.inr (uh HKa).size) _).setCell (p:=⟨w1.heap.size,1,none⟩) (Or.inr (uh HKa).size) _)⟩
     | exact⟨_,rfl,hide (by rw[uh HBC];exact((uh HB2).setCell 0 (.int .i64 ph)).setCell 1 (.int .i64 pl)),hide (((uh HKb).setCell (p:=⟨W1.heap.size,0,none⟩) (Or.inr (Nat.le_refl _)) _).setCell (p:=⟨W1.heap.size,1,none⟩) (Or.inr (Nat.le_refl _)) _)⟩
  case rest =>
   obtain⟨q,rfl,HQ,HKQ⟩:=hcut
   have HP2:=hide ((uh HP).keeps (uh HKQ) (λh=>h))
   have HX2:=hide ((uh HX1).keeps (uh HKQ) (λh=>h))
   have HZ2:=hide ((uh HZ1).keeps (uh HKQ) (λh=>h))
   have HK2:=hide ((uh HK1).then (uh HKQ))
   clear fx fz bg1 bg2 hbs HX1 HZ1 HR1 HKQ HK1 HWZ HP
   generalize wc=W2 at *
   obtain⟨P1,hP1⟩:∃P1,wx*zd=P1:=⟨_,rfl⟩
   obtain⟨P2,hP2⟩:∃P2,wz*xd=P2:=⟨_,rfl⟩
   have HSN2:=hide (show qNq y.c ⟨xt,xk,xd,xn,xi⟩ ⟨zt,zk,zd,zn,zi⟩=(decide (P2<P1)||(decide (P1=P2)&&decide (xn<zn))) by
      rw[<-hP1,<-hP2];exact uh HSN)
   rw[hP1]at HP2
   rw[hP2]at HQ
   clear hP1 hP2 HSN
   have p0:W2.cell? ⟨p,0,none⟩=some (.int .i64 (P1/2147483648)):=(uh HP2).cell rfl
   have p1:W2.cell? ⟨p,1,none⟩=some (.int .i64 (P1%2147483648)):=(uh HP2).cell rfl
   have q0:W2.cell? ⟨q,0,none⟩=some (.int .i64 (P2/2147483648)):=(uh HQ).cell rfl
   have q1:W2.cell? ⟨q,1,none⟩=some (.int .i64 (P2%2147483648)):=(uh HQ).cell rfl
   go_wp2_with fail
   refine(qUk P1 P2 W2).mono ?_
   rintro r w3 ⟨rfl,hk3⟩
   have HK3:=hide ((uh HK2).then hk3)
   have r0:=hk3.cell p0 (λh=>h)
   have r1:=hk3.cell p1 (λh=>h)
   have s0:=hk3.cell q0 (λh=>h)
   have s1:=hk3.cell q1 (λh=>h)
   have n1:w3.cell? ⟨w.heap.size,3,none⟩=some (.int .i64 xn):=hk3.cell ((uh HX2).cell rfl) (λh=>h)
   have n2:w3.cell? ⟨w.heap.size+1,3,none⟩=some (.int .i64 zn):=hk3.cell ((uh HZ2).cell rfl) (λh=>h)
   clear hk3 p0 p1 q0 q1
   have HEQ:=hide (show P1=P2↔(P1/2147483648=P2/2147483648/\P1%2147483648=P2%2147483648) by omega)
   generalize P1/2147483648=a1 at *
   generalize P1%2147483648=a2 at *
   generalize P2/2147483648=b1 at *
   generalize P2%2147483648=b2 at *
   cases hd:decide (P2<P1)
   ·cases hn:decide (xn<zn)
    all_goals
     by_cases he1:a1=b1
     ·by_cases he2:a2=b2
      ·have hE:decide (P1=P2)=true:=decide_eq_true ((uh HEQ).2 ⟨he1,he2⟩)
       subst he1 he2
       go_wp2
       go_ret
       exact⟨by rw[uh HSN2,hd,hE,hn];rfl,uh HK3⟩
      ·have hE:decide (P1=P2)=false:=decide_eq_false (λh=>he2 ((uh HEQ).1 h).2)
       go_wp2
       go_ret
       exact⟨by rw[uh HSN2,hd,hE];rfl,uh HK3⟩
     ·have hE:decide (P1=P2)=false:=decide_eq_false (λh=>he1 ((uh HEQ).1 h).1)
      go_wp2
      go_ret
      exact⟨by rw[uh HSN2,hd,hE];rfl,uh HK3⟩
   ·go_wp2
    go_ret
    exact⟨by rw[uh HSN2,hd];rfl,uh HK3⟩
def qCn(c:Cfg)(l:List RIt)(z:RIt): Nat:=(l.filter (λx=>qNq c x z)).length
theorem qSw(c:Cfg)(l:List RIt)(z:RIt)(k:Nat)(hk:k<l.length): qCn c (l.take (k+1)) z=qCn c (l.take k) z+if qNq c (rAt l k) z=true then 1 else 0:=by
 rw[List.take_succ_eq_append_getElem hk,qCc _ _ hk]
 unfold qCn
 rw[List.filter_append,List.length_append,List.filter_cons]
 congr 1
 split <;> rfl
theorem qV6(c:Cfg)(l:List RIt)(z:RIt): qCn c l z<=l.length:=List.length_filter_le _ _
def qF4(c:Cfg)(l:List RIt)(p:Nat)(st:List Int×Int×Int)(z:RIt): List Int×Int×Int :=
 if qCn c l z=p then(if (p:Int)<c.size then(st.1++[z.t,z.k,z.d],st.2) else if (p:Int)=c.size then(st.1,wtR c z,z.d) else st) else st
def qCi(c:Cfg)(l:List RIt): Nat->List Int×Int×Int
 | 0=>([],0,0)
 | p+1=>l.foldl (qF4 c l p) (qCi c l p)
def qGy(c:Cfg)(l:List RIt)(p i:Nat): List Int×Int×Int:=(l.take i).foldl (qF4 c l p) (qCi c l p)
theorem qWr(c:Cfg)(l:List RIt)(p i:Nat)(hi:i<l.length): qGy c l p (i+1)=qF4 c l p (qGy c l p i) (rAt l i):=by
 unfold qGy
 rw[List.take_succ_eq_append_getElem hi,qCc _ _ hi,List.foldl_append];rfl
theorem qTo(c:Cfg)(l:List RIt)(p i:Nat)(hi:l.length<=i): qGy c l p i=qCi c l (p+1):=by
 unfold qGy;rw[List.take_of_length_le hi];rfl
def qFv(c:Cfg)(l:List RIt): List Int:=(qCi c l (c.size.toNat+1)).1++[(qCi c l (c.size.toNat+1)).2.1,(qCi c l (c.size.toNat+1)).2.2]
def zFb(t:TypeId)(x y:Value): Sem Next:=do pure (.value (<-Builtin.append_ #[31,31] t #[x,y]))
theorem qRl(ρ:Operand->Value)(dst:Option Tmp)(x y:Operand)(ty:TypeId)(pos:String)(after:Array Edge)(guard:Option (Nat×Bool)):
  execOp ρ { dst,op:=.call { callee:=.builtin .append,args:=#[x,y],argTypes:=#[31,31] },type:=ty,pos,after,guard }=zFb ty (ρ x) (ρ y):=by
 rw[BigFrame.execOp_builtin,BigFrame.builtin_append]
 simp[zFb]
theorem qZ9(w:World)(base:Nat)(v:Value)(n:Nat)(A:List Int)(g0:Nat)(x y z:Int)(hn:A.length=n)(hown:w.ownsRow base 3 1 v n (qAy A))(hu:w.heap[g0]?=some (.cells #[.int .i64 x,.int .i64 y,.int .i64 z] 3))(hm:n+3<=1099511627776)(hb:base<=w.heap.size):
  ∃gg cap' w3,(∀t,(zFb t v (.slice (some ⟨g0,0,none⟩) 3 3)).run Tryz.prog w=.ok (.value (.slice (some ⟨gg,0,none⟩) (n+3) cap')) w3) /\
   w3.ownsRow base 3 1 (.slice (some ⟨gg,0,none⟩) (n+3) cap') (n+3) (qAy (A++[x,y,z]))/\w.grownBy w3 v.ownBlock/\(v.ownBlock=some gg\/w.heap.size<=gg):=by
 obtain⟨i0,hi0,hz0,hz1,hz2⟩:=info_parts zBc
 subst hn
 obtain⟨gg,cap',w3,e1,e2,e3,e4,_⟩:=run_append_lies (P:=Tryz.prog) w 31 31 base 3 i0 _ 1 8 Tryz.underlying31 hi0 hz0 hz1 hz2 rfl (by omega) v A.length (qAy A) hown ⟨g0,0,none⟩ 3 3 (qAy [x,y,z]) rfl (World.news_of_block (by exact hu)) (λu hu'=>by
    simp only[qAy,List.mem_map]at hu'
    obtain⟨q,_,rfl⟩:=hu'
    rfl) (by omega) (by unfold maxLen;omega) (by omega) hb w.heap.size rfl
 refine⟨gg,cap',w3,λt=>?_,?_,e3,?_⟩
 ·unfold zFb
  rw[Sem.run_bind]
  have ht:Builtin.append_ #[31,31] t #[v,.slice (some ⟨g0,0,none⟩) 3 3]=Builtin.append_ #[31,31] 31 #[v,.slice (some ⟨g0,0,none⟩) 3 3]:=rfl
  rw[ht,e1]
  rfl
 ·rw[qJw];exact e2
 ·rcases e4 with h | h
  ·exact .inl h
  ·exact .inr (by omega)
end
end Go.Proofs.YtahnliehdjncdaaGreatDoor
