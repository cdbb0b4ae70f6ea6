import Derived.Test.YtahnliehdjncdabGreatDoorXAB
import Derived.Test.YtahnliehdjncdabGreatDoorXAG
import Derived.Test.YtahnliehdjncdabGreatDoorXAT
import Derived.Test.YtahnliehdjncdabGreatDoorXAS
import Derived.Laws.MakeOwn
import Derived.Laws.Cover2
import Derived.Laws.StructEq
import Derived.Laws.Tables
import Derived.BigQuiet
import Derived.BigRegion
import Derived.Deep.AppendLies
import Derived.Deep.QuietTactic
import Derived.Deep.RegionHeld3
import Derived.Deep.RegionLaw
import Derived.Laws.EntriesVeiled
import Derived.Test.YtahnliehdjncdabGreatDoorXAA
set_option maxRecDepth 100000
set_option maxHeartbeats 16000000
namespace Go.Proofs.YtahnliehdjncdabGreatDoor
section
open Go.RowKit
theorem Mk.drop_says: Mk.DropSays:=λq og l w h h0 hl=>Mk.rowDrop_any q og l w h h0 hl
theorem Mk.keep_any(q:Nat)(og:Option Nat)(l:List Bk)(x:Bk)(w:World)(h:Mk.RowRep w q og l)(hl:l.length<=4398046511103):
  Calls Tryz.prog 195 #[.pointer (some ⟨q,0,none⟩),x.val] w λe w'=>e=.returned (.tuple #[])/\∃og',Mk.RowRep w' q og' (qHe l x)/\Keeps (λk=>k=q\/og=some k) w w'/\(og'=og\/∃k,og'=some k/\w.heap.size<=k) :=
 Mk.keep_of Mk.drop_says q og l x w h hl
attribute [local go_sem ↓] Mk.execOp_fieldMk
attribute [local go_sem] Mk.run_fieldMk0 Mk.run_fieldMk1
def qHl(l:List Bk)(t:Int): Int:=if Mk.pastN l t=l.length then 0 else(qBi l (Mk.pastN l t)).t
theorem qP6(q:Nat)(og:Option Nat)(l:List Bk)(t:Int)(w:World)(h:Mk.RowRep w q og l)(hl:l.length<=4398046511104):
  Calls Tryz.prog 197 #[.pointer (some ⟨q,0,none⟩),.int .i64 t] w λe w'=>e=.returned (.int .i64 (qHl l t))/\Keeps (λ_=>False) w w':=by
 have HR:=hide h
 have HP:=hide (Mk.past_any q og l t w h hl)
 have hle:=Mk.pastN_le l t
 have HG:=hide (show qHl l t=if Mk.pastN l t=l.length then 0 else(qBi l (Mk.pastN l t)).t from rfl)
 clear h
 generalize hp:Mk.pastN l t=p at *
 clear hp
 go_enter Tryz.func197,Tryz.ntmps197
 go_wp2_with fail
 refine(uh HP).mono ?_
 rintro e w1 ⟨rfl,hk⟩
 have HR1:=hide ((uh HR).still hk)
 have HK:=hide hk
 clear hk HP
 obtain⟨n,hn⟩:∃n,l.length=n:=⟨_,rfl⟩
 have HN:=hide hn
 rw[hn]at hle hl
 by_cases hc:p=n
 ·have hb:((p:Int)==(n:Int))=true:=by simp[hc]
  have HF:=hide (show qHl l t=0 by rw[uh HG,if_pos (by rw[uh HN];exact hc)])
  clear hn hc
  go_wp2_with (go_at_call 198;refine(Mk.rowLen_int q og l n _ (uh HR1) (by rw[uh HN])).mono ?_;rintro e w' ⟨rfl,rfl⟩)
  go_ret
  exact⟨qBc (uh HF).symm,uh HK⟩
 ·have hb:((p:Int)==(n:Int))=false:=by simp;omega
  obtain⟨x,hx⟩:∃x,qBi l p=x:=⟨_,rfl⟩
  have HF:=hide (show qHl l t=x.t by rw[uh HG,if_neg (by rw[uh HN];exact hc),hx])
  have HX:=hide hx
  have hpn:p<n:=by omega
  clear hn hc hx
  go_wp2_with (first | (go_at_call 198;refine(Mk.rowLen_int q og l n _ (uh HR1) (by rw[uh HN])).mono ?_;rintro e w' ⟨rfl,rfl⟩) | (go_at_call 199;refine(Mk.rowAt_is q og l p x _ (uh HR1) (by rw[uh HN];exact hpn) (uh HX)).mono ?_;rintro e w2 ⟨rfl,hk2⟩;have HK2:=hide ((uh HK).then hk2);clear hk2))
  go_ret
  exact⟨qBc (uh HF).symm,uh HK2⟩
def qAt(qs:List (Nat×Option Nat))(i:Nat): Nat×Option Nat:=qs.getD i (0,none)
def qf(p:Nat×Option Nat)(a:Nat): Prop:=a=p.1\/p.2=some a
def qNm(c:Cfg)(rg n:Nat): List Value:=c.cells++[.slice (some ⟨rg,0,none⟩) n n]
def qGu(qs:List (Nat×Option Nat)): List Value:=qs.map λp=>.pointer (some ⟨p.1,0,none⟩)
structure DRep (w:World) (d rg:Nat) (qs:List (Nat×Option Nat)) (c:Cfg) (ls:Nat->List Bk):Prop where
 blk:Blk w d (qNm c rg qs.length) 228
 reg:Blk w rg (qGu qs) 222
 row:∀i,i<qs.length->Mk.RowRep w (qAt qs i).1 (qAt qs i).2 (ls i)
 dj:∀i j a,i<qs.length->j<qs.length->qf (qAt qs i) a->qf (qAt qs j) a->i=j
 nd:∀i,i<qs.length->¬qf (qAt qs i) d/\¬qf (qAt qs i) rg
 dr:d≠rg
theorem qIi{qs:List (Nat×Option Nat)}{i:Nat}(h:i<qs.length): (qGu qs)[i]?=some (.pointer (some ⟨(qAt qs i).1,0,none⟩)):=by
 simp[qGu,qAt,List.getD_eq_getElem?_getD,List.getElem?_eq_getElem h]
theorem DRep.keeps{M:Nat->Prop}{w w':World}{d rg:Nat}{qs:List (Nat×Option Nat)}{c:Cfg}{ls:Nat->List Bk}(h:DRep w d rg qs c ls)(hk:Keeps M w w')(hd:¬M d)(hr:¬M rg)(hq:∀i a,i<qs.length->qf (qAt qs i) a->¬M a): DRep w' d rg qs c ls :=
 ⟨h.blk.keeps hk hd,h.reg.keeps hk hr,λi hi=>(h.row i hi).keeps hk (hq i _ hi (.inl rfl)) (λg hg=>hq i g hi (.inr hg)),h.dj,h.nd,h.dr⟩
theorem DRep.still{w w':World}{d rg:Nat}{qs:List (Nat×Option Nat)}{c:Cfg}{ls:Nat->List Bk}(h:DRep w d rg qs c ls)(hk:Keeps (λ_=>False) w w'): DRep w' d rg qs c ls:=h.keeps hk (λh=>h) (λh=>h) (λ_ _ _ _ h=>h)
end
section
open Go.RowKit
def regI(c:Cfg)(n:Nat)(key:Int): Nat:=(qDn c.s00 c.s01 key%n).toNat
def qV0(c:Cfg)(n:Nat)(ls:Nat->List Bk)(y:It)(m:Int): Nat->List Bk:=λj =>
 if j=regI c n y.k then qHe ((ls j).drop (Mk.pastN (ls j) (m-c.window))) ⟨y.t,qJm (qDn c.s00 c.s01 y.k/n)⟩ else ls j
structure Cfg.pair0 (c:Cfg):Prop where
 a0:0<=c.s00
 a1:c.s00<2305843009213693951
 b0:0<=c.s01
 b1:c.s01<2305843009213693951
theorem qLi(d rg:Nat)(qs:List (Nat×Option Nat))(c:Cfg)(ls:Nat->List Bk)(y:It)(m:Int)(w:World)(h:DRep w d rg qs c ls)(hT:Tab w)(hT0:∀i,i<qs.length->¬qf (qAt qs i) 2)(hq:1<=qs.length)(hq2:qs.length<=16)(hc:c.pair0)(w0:0<=c.window)(w1:c.window<=1000)(m0:-100<=m)(m1:m<=4611686018427387904)(k0:0<=y.k)(k1:y.k<=2147483648)(hl:∀i,(ls i).length<=4398046511103):
  Calls Tryz.prog 153 #[.pointer (some ⟨d,0,none⟩),y.val,.int .i64 m] w λe w'=>e=.returned (.tuple #[])/\∃qs',DRep w' d rg qs' c (qV0 c qs.length ls y m)/\qs'.length=qs.length /\
   (∀i a,i<qs'.length->qf (qAt qs' i) a->(∃j,j<qs.length/\qf (qAt qs j) a)\/w.heap.size<=a)/\Keeps (λa=>∃j,j<qs.length/\qf (qAt qs j) a) w w':=by
 obtain⟨W,hW⟩:∃W,W=w.alloc (.cells y.cells 88):=⟨_,rfl⟩
 have HKW:=hide (show Keeps (λ_=>False) w W by rw[hW];exact(Keeps.refl _ _).alloc _)
 have hyW:Blk W w.heap.size [.int .i64 y.t,.int .i64 y.k,.int .i64 y.d,.int .i64 y.n] 88:=by rw[hW];exact Blk.new w _ _
 have HW0:=hide hW
 have HD:=hide (h.still (uh HKW))
 have HT:=hide (hT.keeps (uh HKW) (λh=>h))
 clear hW
 have hb:=(uh HD).blk
 have c14:W.cell? ⟨d,14,none⟩=some (.int .i64 c.s00):=hb.cell rfl
 have c15:W.cell? ⟨d,15,none⟩=some (.int .i64 c.s01):=hb.cell rfl
 have c20:W.cell? ⟨d,20,none⟩=some (.slice (some ⟨rg,0,none⟩) qs.length qs.length):=hb.cell rfl
 have x1:W.cell? ⟨w.heap.size,1,none⟩=some (.int .i64 y.k):=hyW.cell rfl
 have HYW:=hide hyW
 have HC:=hide hc
 have HH:=hide hl
 have HDW:=hide h
 have HT0:=hide hT0
 clear hT0
 clear hb h hT hyW hc hl
 obtain⟨n,hn⟩:∃n,n=qs.length:=⟨_,rfl⟩
 rw[<-hn]at hq hq2 c20
 have HN:=hide hn
 clear hn
 unfold It.val
 go_enter Tryz.func153,Tryz.ntmps153
 go_wp2_with fail
 rw[show w.alloc (.cells #[.int .i64 y.t,.int .i64 y.k,.int .i64 y.d,.int .i64 y.n] 88)=W from(uh HW0).symm]
 generalize hyb:w.heap.size=yb at *
 have HYB:=hide hyb
 clear hyb
 go_region_held3 (λw'=>w'.cell? ⟨d,14,none⟩=some (.int .i64 c.s00)/\w'.cell? ⟨d,15,none⟩=some (.int .i64 c.s01)/\w'.cell? ⟨d,20,none⟩=some (.slice (some ⟨rg,0,none⟩) n n)/\w'.cell? ⟨yb,1,none⟩=some (.int .i64 y.k))
  (first | (go_split_ands;exact⟨by assumption,by assumption,by assumption,by assumption⟩) | (go_split_ands;exact⟨hka.cell (by assumption) (λh=>h),hka.cell (by assumption) (λh=>h),hka.cell (by assumption) (λh=>h),hka.cell (by assumption) (λh=>h)⟩))
  (first | (go_at_call 132;refine(qJx c.s00 c.s01 y.k _ (uh HC).a0 (uh HC).a1 (uh HC).b0 (uh HC).b1 k0 k1).mono ?_;rintro e W1 ⟨rfl,hka⟩))
 have HK1:=hide (((Keeps.refl (λ_=>False) W).drew).then hka)
 have HD1:=hide ((uh HD).still (uh HK1))
 have HT1:=hide ((uh HT).keeps (uh HK1) (λh=>h))
 have HY1:=hide ((uh HYW).keeps (uh HK1) (λh=>h))
 have HKA:=hide ((uh HKW).then (uh HK1))
 clear hka c14 c15 c20 x1 HD HT HYW HK1 HKW
 obtain⟨hb0,hb1⟩:=qIj c.s00 c.s01 y.k
 have HREL:=hide (show ∀j,qV0 c n ls y m j=if j=(qDn c.s00 c.s01 y.k%n).toNat then qHe ((ls j).drop (Mk.pastN (ls j) (m-c.window))) ⟨y.t,qJm (qDn c.s00 c.s01 y.k/n)⟩ else ls j from λ_=>rfl)
 generalize qDn c.s00 c.s01 y.k=hv at *
 have hn0:(0:Int)<(n:Int):=by omega
 obtain⟨i,hi⟩:∃i:Nat,hv%(n:Int)=(i:Int):=⟨(hv%(n:Int)).toNat,by have:=Int.emod_nonneg hv (show(n:Int)≠0 by omega);omega⟩
 have hin:i<n:=by have:=Int.emod_lt_of_pos hv hn0;omega
 have hi2:(i:Int)<(n:Int):=by omega
 have hi0:(0:Int)<=(i:Int):=by omega
 have hmod:hv.tmod (n:Int)=(i:Int):=by rw[Int.tmod_eq_emod_of_nonneg hb0];exact hi
 have hqb0:0<=hv/(n:Int):=Int.ediv_nonneg hb0 (by omega)
 have hqb1:hv/(n:Int)<=hv:=Int.ediv_le_self _ hb0
 have hquo:hv.tdiv (n:Int)=hv/(n:Int):=Int.tdiv_eq_ediv_of_nonneg hb0
 have hn0b:((n:Int)==0)=false:=by simp;omega
 have hnz:¬n=0:=by omega
 have hnz2:¬(n:Int)=0:=by omega
 have hnz3:(n==0)=false:=by simp;omega
 have hwq2:IntKind.i64.wrap (hv.tdiv (n:Int))=hv/(n:Int):=by rw[hquo];rw[IntKind.wrap_i64];omega
 have hwq:IntKind.i64.wrap (hv/(n:Int))=hv/(n:Int):=by rw[IntKind.wrap_i64];omega
 have hwm:IntKind.i64.wrap (m-c.window)=m-c.window:=by rw[IntKind.wrap_i64];omega
 have HI:=hide hi
 obtain⟨q,hq'⟩:∃q,(qAt qs i)=q:=⟨_,rfl⟩
 have HQ:=hide hq'
 have hiq:i<qs.length:=by have:=uh HN;omega
 have HIQ:=hide hiq
 have c20:W1.cell? ⟨d,20,none⟩=some (.slice (some ⟨rg,0,none⟩) n n):=by rw[uh HN];exact(uh HD1).blk.cell rfl
 have cr:W1.cell? ⟨rg,i,none⟩=some (.pointer (some ⟨q.1,0,none⟩)):=by rw[<-hq'];exact(uh HD1).reg.cell (qIi hiq)
 have c5:W1.cell? ⟨d,5,none⟩=some (.int .i64 c.window):=(uh HD1).blk.cell rfl
 have x0:W1.cell? ⟨yb,0,none⟩=some (.int .i64 y.t):=(uh HY1).cell rfl
 have HR1:=hide (show Mk.RowRep W1 q.1 q.2 (ls i) by rw[<-hq'];exact(uh HD1).row i hiq)
 clear hq' hi hiq
 go_wp2_with fail
 go_quiet (fail)
 have HQ2:=hide (Keeps.drewN (λ_=>False) W1 nq)
 have d5:(W1.drewN nq).cell? ⟨d,5,none⟩=some (.int .i64 c.window):=c5
 have y0:(W1.drewN nq).cell? ⟨yb,0,none⟩=some (.int .i64 y.t):=x0
 generalize W1.drewN nq=W2 at *
 have HR2:=hide ((uh HR1).still (uh HQ2))
 have HT2:=hide ((uh HT1).keeps (uh HQ2) (λh=>h))
 clear c20 cr c5 x0
 obtain⟨p,hp⟩:∃p,Mk.pastN (ls i) (m-c.window)=p:=⟨_,rfl⟩
 have HP:=hide hp
 have hple:p<=(ls i).length:=by rw[<-hp];exact Mk.pastN_le _ _
 have HPL:=hide hple
 have HTQ:=hide (show ¬(2=q.1\/q.2=some 2) by rw[<-uh HQ];exact λh=>uh HT0 i (uh HIQ) h)
 have HLI:=hide (uh HH i)
 have HND:=hide (show ¬(d=q.1\/q.2=some d) by rw[<-uh HQ];exact((uh HD1).nd i (uh HIQ)).1)
 have HYN:=hide (show ¬(yb=q.1\/q.2=some yb) from λh=>by
    have h1:=uh HYB
    have hrow:=(uh HDW).row i (uh HIQ)
    rw[uh HQ]at hrow
    rcases h with h | h
    ·have:=hrow.lt.1;omega
    ·have:=(hrow.lt.2 yb h).1;omega)
 clear hp hple
 go_wp2_with fail
 refine(Mk.past_any q.1 q.2 (ls i) (m-c.window) W2 (uh HR2) (by have:=uh HLI;omega)).mono ?_
 rintro e W3 ⟨rfl,hkp⟩
 rw[uh HP]
 have HR3:=hide ((uh HR2).still hkp)
 have HK3:=hide ((uh HQ2).then hkp)
 have HT3:=hide ((uh HT2).keeps hkp (λh=>h))
 have z0:W3.cell? ⟨yb,0,none⟩=some (.int .i64 y.t):=hkp.cell y0 (λh=>h)
 clear hkp d5 y0
 go_wp2_with fail
 refine(Mk.lose_any q.1 q.2 (ls i) p W3 (uh HR3) (uh HPL)).mono ?_
 rintro e W4 ⟨rfl,hr4,hkl⟩
 have HR4:=hide hr4
 have HK4:=hide (((uh HK3).mono (M':=λa=>a=q.1\/q.2=some a) (λ_ _ h=>h.elim)).then hkl)
 have HQ0:=hide (show ¬(2=q.1\/q.2=some 2) from uh HTQ)
 have HT4:=hide ((uh HT3).keeps hkl (uh HQ0))
 have u0:W4.cell? ⟨yb,0,none⟩=some (.int .i64 y.t):=hkl.cell z0 (uh HYN)
 clear hr4 hkl z0
 obtain⟨rk,hrk⟩:∃rk,qJm (hv/(n:Int))=rk:=⟨_,rfl⟩
 have HRK:=hide hrk
 clear hrk
 have HKP:=hide (Mk.keep_any q.1 q.2 ((ls i).drop p) ⟨y.t,rk⟩)
 go_wp2_with fail
 go_region_held3 (λw'=>w'.cell? ⟨yb,0,none⟩=some (.int .i64 y.t)) (first | (exact by assumption) | (exact hkk.cell (by assumption) (uh HYN)))
  (first | (go_at_call 196;refine(qY4 (hv/(n:Int)) _ hqb0 (by omega) (by exact(uh HT4).keeps ((Keeps.refl (λ_=>False) _).drew) (λh=>h))).mono ?_;rintro e w' ⟨rfl,rfl⟩;rw[uh HRK]) | (go_at_call 195;refine(uh HKP _ (by exact(uh HR4).still (Keeps.refl _ _).drew) (by have:=uh HLI;simp;omega)).mono ?_;rintro e W5 ⟨rfl,og',hr5,hkk,hog⟩))
 have HK5:=hide ((uh HK4).drew.then hkk)
 have HR5:=hide hr5
 have HKA5:=hide ((uh HKA).size)
 have HS4:=hide (uh HK4).size
 clear hr5 hkk
 go_wp2
 go_end0
 have hQ:=uh HQ
 have hN:=uh HN
 have hIQ:=uh HIQ
 have hset:∀j,j<qs.length->qAt (qs.set i (q.1,og')) j=if j=i then(q.1,og') else qAt qs j:=λj hj=>by
  unfold qAt
  simp only[List.getD_eq_getElem?_getD,List.getElem?_set]
  by_cases h:i=j
  ·subst h;simp[hj]
  ·simp[h,Ne.symm h]
 have hD1:=uh HD1
 have hfoot:∀a,qf (q.1,og') a->qf q a\/w.heap.size<=a:=λa ha=>by
  rcases ha with ha | ha
  ·exact .inl (.inl ha)
  ·rcases hog with h | ⟨k,h,hk⟩
   ·exact .inl (.inr (by rw[<-h];exact ha))
   ·have ha':og'=some a:=ha
    rw[h]at ha'
    injection ha' with ha'
    have h1:=uh HKA5;have h2:=uh HS4
    have h3:W4.heap.size<=k:=hk
    exact .inr (by omega)
 have hfresh:∀a,w.heap.size<=a->a≠d/\a≠rg/\∀j,j<qs.length->¬qf (qAt qs j) a:=λa ha=>by
  have hw:=uh HDW
  refine⟨λh=>?_,λh=>?_,λj hj h=>?_⟩
  ·have:=hw.blk.lt;omega
  ·have:=hw.reg.lt;omega
  ·rcases h with h | h
   ·have:=(hw.row j hj).lt.1;omega
   ·have:=((hw.row j hj).lt.2 a h).1;omega
 have hqi:∀a,qf q a->qf (qAt qs i) a:=λa h=>by rw[hQ];exact h
 have hM:∀a,¬qf q a->¬(a=q.1\/q.2=some a):=λa h h'=>h h'
 refine⟨rfl,qs.set i (q.1,og'),⟨?_,?_,?_,?_,?_,hD1.dr⟩,by simp,?_,?_⟩
 ·rw[List.length_set]
  exact hD1.blk.keeps (uh HK5) (hM d (λh=>(hD1.nd i hIQ).1 (hqi d h)))
 ·have:qGu (qs.set i (q.1,og'))=qGu qs:=by
   unfold qGu
   rw[List.map_set]
   apply List.ext_getElem?
   intro j
   rw[List.getElem?_set]
   split
   ·rename_i h;subst h
    split
    ·rename_i h2
     have:=qIi hIQ
     unfold qGu at this
     rw[this,hQ]
    ·rename_i h2;simp at h2;omega
   ·rfl
  rw[this]
  exact hD1.reg.keeps (uh HK5) (hM rg (λh=>(hD1.nd i hIQ).2 (hqi rg h)))
 ·intro j hj
  rw[List.length_set]at hj
  rw[hset j hj,<-hN,uh HREL j]
  have hii:(hv%(n:Int)).toNat=i:=by rw[uh HI];simp
  rw[hii]
  by_cases hji:j=i
  ·subst hji
   rw[if_pos rfl,if_pos rfl,uh HP,uh HRK]
   exact uh HR5
  ·rw[if_neg hji,if_neg hji]
   exact(hD1.row j hj).keeps (uh HK5) (λh=>hji (hD1.dj j i _ hj hIQ (.inl rfl) (hqi _ h))) (λg hg h=>hji (hD1.dj j i g hj hIQ (.inr hg) (hqi _ h)))
 ·intro j1 j2 a h1 h2 f1 f2
  rw[List.length_set]at h1 h2
  rw[hset j1 h1]at f1
  rw[hset j2 h2]at f2
  by_cases e1:j1=i <;> by_cases e2:j2=i
  ·omega
  ·rw[if_pos e1]at f1;rw[if_neg e2]at f2
   rcases hfoot a f1 with h | h
   ·exact e1.trans (hD1.dj i j2 a hIQ h2 (hqi a h) f2)
   ·exact((hfresh a h).2.2 j2 h2 f2).elim
  ·rw[if_neg e1]at f1;rw[if_pos e2]at f2
   rcases hfoot a f2 with h | h
   ·exact(hD1.dj j1 i a h1 hIQ f1 (hqi a h)).trans e2.symm
   ·exact((hfresh a h).2.2 j1 h1 f1).elim
  ·rw[if_neg e1]at f1;rw[if_neg e2]at f2
   exact hD1.dj j1 j2 a h1 h2 f1 f2
 ·intro j hj
  rw[List.length_set]at hj
  rw[hset j hj]
  by_cases e1:j=i
  ·rw[if_pos e1]
   refine⟨λf=>?_,λf=>?_⟩
   ·rcases hfoot d f with h | h
    ·exact(hD1.nd i hIQ).1 (hqi d h)
    ·exact(hfresh d h).1 rfl
   ·rcases hfoot rg f with h | h
    ·exact(hD1.nd i hIQ).2 (hqi rg h)
    ·exact(hfresh rg h).2.1 rfl
  ·rw[if_neg e1];exact hD1.nd j hj
 ·intro j a hj f
  rw[List.length_set]at hj
  rw[hset j hj]at f
  by_cases e1:j=i
  ·rw[if_pos e1]at f
   rcases hfoot a f with h | h
   ·exact .inl ⟨i,hIQ,hqi a h⟩
   ·exact .inr h
  ·rw[if_neg e1]at f;exact .inl ⟨j,hj,f⟩
 ·exact((uh HKA).mono (λ_ _ h=>h.elim)).then ((uh HK5).mono (λa _ h=>⟨i,hIQ,hqi a h⟩))
def qAu(l:List Int): List Value:=l.map (.int .i64 ·)
theorem qPx(l:List Int): (qAu l).length=l.length:=by simp[qAu]
theorem qQc(a b:List Int): qAu (a++b)=qAu a++qAu b:=by simp[qAu]
theorem zEg: (Tryz.prog.info? 3).map (λi=>(i.zero,i.size,i.bytes))=some (some (.int .i64 0),1,8):=by kernel_rfl
theorem qBh{w:World}{ops:Array Oper}{rest:List Oper}{o:Oper}{a:Act}{Q:Exit->Act->World->Prop}(hgd:o.guard=none)(s x:Operand)(ho:o.op=.call { callee:=.builtin .append,args:=#[s,x],argTypes:=#[36,36] })(base:Nat)(v:Value)(n:Nat)(l:List Int)(hs:a.eval s=v)(hown:w.ownsRow base 3 1 v n (qAu l))(b m:Nat)(z:List Int)(hm:z.length=m)(hx:a.eval x=.slice (some ⟨b,0,none⟩) m m)(hb:Blk w b (qAu z) 3)(hz:0<m)(hl:n+m<=1099511627776)(hbase:base<=w.heap.size)(h:∀g c w1,w1.ownsRow base 3 1 (.slice (some ⟨g,0,none⟩) (n+m) c) (n+m) (qAu (l++z))->Keeps (λi=>v.ownBlock=some i) w w1->(v.ownBlock=some g\/w.heap.size<=g)->wpList Tryz.prog ops Q rest (a.put o.dst (.slice (some ⟨g,0,none⟩) (n+m) c)) w1): wpList Tryz.prog ops Q (o::rest) a w:=by
 obtain⟨i0,hi0,hz0,hz1,hz2⟩:=info_parts zEg
 refine wpList_append_lies w hgd s x 36 ho base 3 i0 (.int .i64 0) 1 8 Tryz.underlying36 hi0 hz0 hz1 hz2 (by rfl) (by omega) v n (qAu l) hs hown ⟨b,0,none⟩ m m (qAu z) hx (by rw[qPx];omega) ?_ ?_ hz (by unfold maxLen;omega) (by omega) hbase w.heap.size rfl ?_
 ·intro j u hu
  rw[Addr.add_lit,Nat.zero_add]
  exact hb.cell hu
 ·intro u hu
  simp only[qAu,List.mem_map]at hu
  obtain⟨y,_,rfl⟩:=hu
  rfl
 ·intro g c w' hown' hgrow hat hlt'
  refine h g c w' (by rw[qQc];exact hown') ⟨hgrow.os,hgrow.tape,hgrow.output,hgrow.size,λk hk hn=>hgrow.block k hk (λh=>hn h.symm)⟩ ?_
  rcases hat with h1 | h1
  ·exact .inl h1
  ·exact .inr (by omega)
theorem qCr{M:Nat->Prop}{w w':World}{base:Nat}{v:Value}{n:Nat}{xs:List Value}(h:w.ownsRow base 3 1 v n xs)(hk:Keeps M w w')(hn:∀i,v.ownBlock=some i->¬M i): w'.ownsRow base 3 1 v n xs:=by
 rcases h.2 with ⟨h1,h2⟩ | ⟨g,cap,cur,h1,h2,h3,h4⟩
 ·exact⟨h.1,.inl ⟨h1,h2⟩⟩
 ·refine⟨h.1,.inr ⟨g,cap,cur,h1,h2,?_,h4⟩⟩
  have hlt:g<w.heap.size:=(Array.getElem?_eq_some_iff.1 h3).1
  rw[hk.block g hlt (hn g (by rw[h1];simp[Value.ownBlock]))]
  exact h3
theorem qG4{w:World}{base:Nat}{v:Value}{n:Nat}{xs:List Value}(h:w.ownsRow base 3 1 v n xs)(i:Nat)(hi:v.ownBlock=some i): base<=i:=by
 rcases h.2 with ⟨h1,_⟩ | ⟨g,cap,cur,h1,h2,_⟩
 ·rw[h1]at hi;simp[Value.ownBlock]at hi
 ·rw[h1]at hi
  have:g=i:=by simpa[Value.ownBlock] using hi
  omega
def qEe(ls:Nat->List Bk)(n:Nat)(t:Int): List Int:=(List.range n).map λi=>qHl (ls i) t
def qRq: List Int->Int
 | []=>0
 | g::l=>2 ^ (40-g).toNat+qRq l
theorem qSi(a b:List Int): qRq (a++b)=qRq a+qRq b:=by
 induction a with
 | nil=>simp[qRq]
 | cons x l ih=>simp[qRq,ih];omega
def qryD(c:Cfg)(n:Nat)(ls:Nat->List Bk)(a m:Int): Int×List Int :=
 if inB a 1 c.window=true then(0,qEe ls n (m-a)++[7*n*n*1099511627776/(10*qRq (qEe ls n (m-a)))]) else(13,[])
theorem qSv(ls:Nat->List Bk)(n:Nat)(t:Int): qEe ls (n+1) t=qEe ls n t++[qHl (ls n) t]:=by
 simp[qEe,List.range_succ]
theorem qIf(ls:Nat->List Bk)(n:Nat)(t:Int): (qEe ls n t).length=n:=by simp[qEe]
theorem qP5{l:List Bk}(h:∀b∈l,1<=b.t/\b.t<=40)(t:Int): 0<=qHl l t/\qHl l t<=40:=by
 unfold qHl
 split
 ·omega
 ·rename_i hne
  have hle:=Mk.pastN_le l t
  have hm:qBi l (Mk.pastN l t)∈l:=by
   have hi:Mk.pastN l t<l.length:=by omega
   have:qBi l (Mk.pastN l t)=l[Mk.pastN l t]:=by simp[qBi,List.getD_eq_getElem?_getD,List.getElem?_eq_getElem hi]
   rw[this];exact List.getElem_mem hi
  have:=h _ hm
  omega
theorem zBb{l:List Int}(h:∀g∈l,0<=g/\g<=40): (l.length:Int)<=qRq l/\qRq l<=1099511627776*l.length:=by
 induction l with
 | nil=>simp[qRq]
 | cons x l ih =>
  have h1:=h x (by simp)
  have h2:=ih (λg hg=>h g (by simp[hg]))
  have e:(2:Int) ^ (40-x).toNat=((2 ^ (40-x).toNat:Nat):Int):=by simp
  have h3:1<=2 ^ (40-x).toNat:=Nat.one_le_two_pow
  have h4:2 ^ (40-x).toNat<=2 ^ 40:=Nat.pow_le_pow_right (by omega) (by omega)
  have h5:(2:Nat) ^ 40=1099511627776:=by decide
  simp only[qRq,List.length_cons]
  rw[e]
  omega
theorem qSq(d rg:Nat)(qs:List (Nat×Option Nat))(c:Cfg)(ls:Nat->List Bk)(a m:Int)(w:World)(h:DRep w d rg qs c ls)(ha:inB a 1 c.window=false):
  Calls Tryz.prog 154 #[.pointer (some ⟨d,0,none⟩),.int .i64 a,.int .i64 m] w λe w'=>e=.returned (.tuple #[.slice none 0 0,.int .i64 13])/\Keeps (λ_=>False) w w':=by
 have hc5:w.cell? ⟨d,5,none⟩=some (.int .i64 c.window):=h.blk.cell rfl
 clear h
 go_enter Tryz.func154,Tryz.ntmps154
 go_wp2_with (go_at_call 45;refine(qAh _ _ _ _).mono ?_;rintro e w' ⟨rfl,rfl⟩)
 go_ret2
 exact⟨rfl,Keeps.refl _ _⟩
theorem qQd(d rg:Nat)(qs:List (Nat×Option Nat))(c:Cfg)(ls:Nat->List Bk)(a m:Int)(w:World)(h:DRep w d rg qs c ls)(ha:inB a 1 c.window=true)(hq:1<=qs.length)(hq2:qs.length<=16)(w1:c.window<=1000)(m0:-100<=m)(m1:m<=4611686018427387904)(hl:∀i,(ls i).length<=4398046511103)(hr:∀i,∀b∈ls i,1<=b.t/\b.t<=40):
  Calls Tryz.prog 154 #[.pointer (some ⟨d,0,none⟩),.int .i64 a,.int .i64 m] w λe w'=>∃g cp,e=.returned (.tuple #[.slice (some ⟨g,0,none⟩) (qs.length+1) cp,.int .i64 0]) /\
   w'.ownsRow w.heap.size 3 1 (.slice (some ⟨g,0,none⟩) (qs.length+1) cp) (qs.length+1) (qAu (qEe ls qs.length (m-a)++[7*qs.length*qs.length*1099511627776/(10*qRq (qEe ls qs.length (m-a)))]))/\Keeps (λ_=>False) w w':=by
 have hc5:w.cell? ⟨d,5,none⟩=some (.int .i64 c.window):=h.blk.cell rfl
 have ha1:1<=a/\a<=c.window:=by simpa[inB] using ha
 obtain⟨a1,a2⟩:=ha1
 have hwr:IntKind.i64.wrap (m-a)=m-a:=by rw[IntKind.wrap_i64];omega
 obtain⟨n,hn⟩:∃n,n=qs.length:=⟨_,rfl⟩
 have HD:=hide h
 have HN:=hide hn
 have HL:=hide hl
 have HR:=hide hr
 rw[<-hn]at hq hq2 ⊢
 have c20:w.cell? ⟨d,20,none⟩=some (.slice (some ⟨rg,0,none⟩) n n):=by rw[hn];exact h.blk.cell rfl
 obtain⟨i0,hi0,hz0,hz1,hz2⟩:=info_parts zEg
 clear h hl hr hn
 have hn0:(0:Int)<=(n:Int):=by omega
 obtain⟨wm,hmk,hown,hgr⟩:=run_make_own (P:=Tryz.prog) w w.heap.size 36 3 i0 (.int .i64 0) 1 Tryz.underlying36 hi0 hz0 hz1 .i64 .i64 (n+1) (by rw[hz2];omega) (by unfold maxLen;omega) (Nat.le_refl _)
 rw[Int.natCast_add,Int.natCast_one]at hmk
 have HKM:=hide (show Keeps (λ_=>False) w wm from(Keeps.refl (λ_=>False) w).grown hgr (λk hk=>by cases hk))
 have HOM:=hide hown
 have dm20:wm.cell? ⟨d,20,none⟩=some (.slice (some ⟨rg,0,none⟩) n n):=(uh HKM).cell c20 (λh=>h)
 have HDM:=hide ((uh HD).still (uh HKM))
 clear hown hgr
 go_enter Tryz.func154,Tryz.ntmps154
 go_wp2_with (first | (go_at_call 45;refine(qAh _ _ _ _).mono ?_;rintro e w' ⟨rfl,hw'⟩;rw[hw'];clear hw' w') | fail)
 obtain⟨t,ht⟩:∃t,m-a=t:=⟨_,rfl⟩
 rw[ht]at hwr
 have HT:=hide ht
 have hsub:IntKind.i64.wrap (m-a)=t:=by rw[IntKind.wrap_i64];omega
 clear hwr dm20 c20 hc5 hmk
 go_loopw [9,10,35] (λs v i wr=>∃(k:Nat) (S:Int) (g cp:Nat),i=.int .i64 k/\k<=n/\s=.int .i64 S/\0<=S/\S<=1099511627776*(k:Int)/\v=.slice (some ⟨g,0,none⟩) k cp/\Hid (S=qRq (qEe ls k t))/\Hid (wr.ownsRow w.heap.size 3 1 (.slice (some ⟨g,0,none⟩) k cp) k (qAu (qEe ls k t)))/\Hid (Keeps (λ_=>False) w wr)) (λ_ _ i _=>n-(intOf i).toNat)
 case atStart=>exact⟨0,0,w.heap.size,n+1,rfl,Nat.zero_le _,rfl,by omega,by omega,rfl,rfl,HOM,HKM⟩
 case round =>
  obtain⟨k,S,g,cp,rfl,hk,rfl,hS0,hS1,rfl,HS,HO,HK⟩:=hrel
  have HDr:=hide ((uh HD).still (uh HK))
  have hk0:(0:Int)<=(k:Int):=by omega
  have hfoot:∀i,(Value.slice (some ⟨g,0,none⟩) k cp).ownBlock=some i->w.heap.size<=i:=qG4 (uh HO)
  have HFT:=hide hfoot
  clear hfoot
  by_cases hlt:k<n
  ·have hkn:(k:Int)<(n:Int):=by omega
   have hkq:k<qs.length:=by have:=uh HN;omega
   obtain⟨q,hq'⟩:∃q,qAt qs k=q:=⟨_,rfl⟩
   have cr:wr.cell? ⟨rg,k,none⟩=some (.pointer (some ⟨q.1,0,none⟩)):=by rw[<-hq'];exact(uh HDr).reg.cell (qIi hkq)
   have HG:=hide (qP6 q.1 q.2 (ls k) t wr (by rw[<-hq'];exact(uh HDr).row k hkq) (by have:=uh HL k;omega))
   obtain⟨gb0,gb1⟩:=qP5 (uh HR k) t
   have HGS:=hide (qSv ls k t)
   obtain⟨G,hG⟩:∃G,qHl (ls k) t=G:=⟨_,rfl⟩
   rw[hG]at gb0 gb1
   have HGE:=hide hG
   clear hG hq' hkq
   have p2:=qOk (40-G).toNat (by omega)
   have p3:(2:Int) ^ (40-G).toNat<=1099511627776:=by
    have h4:2 ^ (40-G).toNat<=2 ^ 40:=Nat.pow_le_pow_right (by omega) (by omega)
    have e:(2:Int) ^ (40-G).toNat=((2 ^ (40-G).toNat:Nat):Int):=by simp
    have h5:(2:Nat) ^ 40=1099511627776:=by decide
    rw[e];omega
   obtain⟨P,hP⟩:∃P,(2:Int) ^ (40-G).toNat=P:=⟨_,rfl⟩
   have HP:=hide hP
   rw[hP]at p2 p3
   obtain⟨p21,p22⟩:=p2
   go_wp2_with fail
   refine(uh HG).mono ?_
   rintro e W1 ⟨rfl,hk1⟩
   rw[uh HGE]
   have HK1:=hide ((uh HK).then hk1)
   have HO1:=hide (qCr (uh HO) hk1 (λ_ _ h=>h))
   have hsz1:=(uh HK1).size
   have HB:=hide (Blk.new W1 [.int .i64 G] 3)
   clear hk1 cr
   go_wp2_with (at_builtin;refine qBh rfl _ _ rfl w.heap.size _ k (qEe ls k t) rfl (by exact qCr (uh HO1) ((Keeps.refl (λ_=>False) W1).alloc _) (λ_ _ h=>h)) W1.heap.size 1 [G] rfl rfl (uh HB) (by omega) (by omega) (by simp;omega) ?_;intro g2 c2 W2 hown2 hk2 hat2)
   have HK2:=hide ((((uh HK1).alloc (.cells #[.int .i64 G] 3))).trans hk2 (λi hi hlt=>by have:=uh HFT i hi;omega))
   have HO2:=hide hown2
   clear hown2 hk2 hat2
   refine⟨⟨k+1,S+P,g2,c2,by go_num,by omega,rfl,by omega,by omega,rfl,?_,?_,HK2⟩,by simp[intOf];omega⟩
   ·show _=_
    rw[uh HGS,qSi,<-uh HS,uh HGE]
    simp only[qRq]
    rw[uh HP];omega
   ·show World.ownsRow _ _ _ _ _ _ _
    rw[uh HGS,uh HGE];exact uh HO2
  ·have hkn:k=n:=by omega
   subst hkn
   have hkf:decide ((k:Int)<(k:Int))=false:=by simp
   have hk1:1<=(k:Int):=by omega
   have hk16:(k:Int)<=16:=by omega
   have hsq0:0<=(k:Int)*(k:Int):=Int.mul_nonneg (by omega) (by omega)
   have hsq1:(k:Int)*(k:Int)<=16*16:=Int.mul_le_mul hk16 hk16 (by omega) (by omega)
   have hassoc:7*(k:Int)*(k:Int)=7*((k:Int)*(k:Int)):=Int.mul_assoc _ _ _
   have hw1:IntKind.i64.wrap (7*(k:Int))=7*(k:Int):=by rw[IntKind.wrap_i64];omega
   have hw2:IntKind.i64.wrap (7*(k:Int)*(k:Int))=7*(k:Int)*(k:Int):=by rw[IntKind.wrap_i64];omega
   have hw3:IntKind.i64.wrap (7*(k:Int)*(k:Int)*1099511627776)=7*(k:Int)*(k:Int)*1099511627776:=by rw[IntKind.wrap_i64];omega
   have hw4:IntKind.i64.wrap (10*S)=10*S:=by rw[IntKind.wrap_i64];omega
   have hSb:=(zBb (l:=qEe ls k t) (λz hz=>by
        simp only[qEe,List.mem_map]at hz
        obtain⟨i,_,rfl⟩:=hz
        exact qP5 (uh HR i) t)).1
   rw[qIf,<-uh HS]at hSb
   have hS1:1<=S:=by omega
   clear hSb
   obtain⟨N,hN⟩:∃N,7*(k:Int)*(k:Int)*1099511627776=N:=⟨_,rfl⟩
   have hN0:0<=N:=by omega
   have hN1:N<=1970324836974592:=by omega
   have hd:N.tdiv (10*S)=N/(10*S):=Int.tdiv_eq_ediv_of_nonneg hN0
   have hd0:0<=N/(10*S):=Int.ediv_nonneg hN0 (by omega)
   have hd1:N/(10*S)<=N:=Int.ediv_le_self _ hN0
   have hwd:IntKind.i64.wrap (N/(10*S))=N/(10*S):=by rw[IntKind.wrap_i64];omega
   rw[hN]at hw3
   have HNE:=hide hN
   obtain⟨R,hR⟩:∃R,N/(10*S)=R:=⟨_,rfl⟩
   have HRE:=hide hR
   clear hassoc
   rw[hR]at hd hd0 hd1 hwd
   have hwd2:IntKind.i64.wrap (N.tdiv (10*S))=R:=by rw[hd];rw[IntKind.wrap_i64];omega
   have HB:=hide (Blk.new wr [.int .i64 R] 3)
   have hszr:=(uh HK).size
   go_wp2_with (at_builtin;refine qBh rfl _ _ rfl w.heap.size _ k (qEe ls k t) rfl (by exact qCr (uh HO) ((Keeps.refl (λ_=>False) wr).alloc _) (λ_ _ h=>h)) wr.heap.size 1 [R] rfl rfl (uh HB) (by omega) (by omega) (by simp;omega) ?_;intro g2 c2 W2 hown2 hk2 hat2)
   go_ret2
   refine⟨g2,c2,rfl,?_,?_⟩
   ·have:=hown2
    rw[uh HT,<-uh HS,uh HNE,uh HRE]
    exact this
   ·exact((uh HK).alloc (.cells #[.int .i64 R] 3)).trans hk2 (λi hi hlt=>by have:=uh HFT i hi;omega)
def addN(a b:List Int)(t:Nat): List Int:=(List.zipWith (·+·) a b).take t++a.drop t
theorem zCq{a b:List Int}(h:a.length=b.length)(t:Nat)(ht:t<a.length): (addN a b t)[t]?=some a[t]:=by
 unfold addN
 have hl:((List.zipWith (·+·) a b).take t).length=t:=by simp[<-h];omega
 rw[List.getElem?_append_right (by omega),hl,Nat.sub_self,List.getElem?_drop,Nat.add_zero,List.getElem?_eq_getElem ht]
theorem qYg{a b:List Int}(h:a.length=b.length)(t:Nat)(ht:t<a.length): (addN a b t).set t (a[t]+b[t]'(by omega))=addN a b (t+1):=by
 have hl:((List.zipWith (·+·) a b).take t).length=t:=by simp[<-h];omega
 have hz:t<(List.zipWith (·+·) a b).length:=by simp[<-h];exact ht
 unfold addN
 rw[List.set_append_right _ _ (by omega),hl,Nat.sub_self,List.drop_eq_getElem_cons ht,List.set_cons_zero,List.take_succ_eq_append_getElem hz]
 simp
theorem qX9(a b:List Int): addN a b 0=a:=by simp[addN]
theorem qY9{a b:List Int}(h:a.length=b.length): addN a b a.length=List.zipWith (·+·) a b:=by
 unfold addN
 rw[List.drop_length,List.append_nil,List.take_of_length_le (by simp[<-h])]
theorem zB2(cb:Nat)(a b:List Int)(w:World)(ha:a.length=48)(hb:b.length=48)(hc:Blk w cb (qAu a) 235)(hab:∀x∈a,0<=x/\x<=2305843009213693952)(hbb:∀x∈b,0<=x/\x<=2305843009213693952):
  Calls Tryz.prog 236 #[.pointer (some ⟨cb,0,none⟩),.agg (qAu b).toArray] w λe w'=>e=.returned (.tuple #[])/\Blk w' cb (qAu (List.zipWith (·+·) a b)) 235/\Keeps (λi=>i=cb) w w':=by
 obtain⟨W,hW⟩:∃W,W=w.alloc (.cells (qAu b).toArray 235):=⟨_,rfl⟩
 have HKW:=hide (show Keeps (λi=>i=cb) w W by rw[hW];exact(Keeps.refl _ _).alloc _)
 have HO:=hide (show Blk W w.heap.size (qAu b) 235 by rw[hW];exact Blk.new w _ _)
 have HC:=hide (show Blk W cb (qAu a) 235 by rw[hW];exact hc.alloc _)
 have hlt:=hc.lt
 have HW:=hide hW
 have HA:=hide hab
 have HB:=hide hbb
 have HAL:=hide ha
 have HBL:=hide hb
 clear hW hc hab hbb ha hb
 go_enter Tryz.func236,Tryz.ntmps236
 go_wp2_with fail
 rw[show w.alloc (.cells (qAu b).toArray 235)=W from(uh HW).symm]
 generalize hob:w.heap.size=ob at *
 have HNX:=hide (show ∀t,t<48->∃x y,a[t]?=some x/\b[t]?=some y/\0<=x/\x<=2305843009213693952/\0<=y/\y<=2305843009213693952/\(addN a b t)[t]?=some x/\(addN a b t).set t (x+y)=addN a b (t+1) from λt ht=>by
    have h1:t<a.length:=by rw[uh HAL];exact ht
    have h2:t<b.length:=by rw[uh HBL];exact ht
    have hab:a.length=b.length:=by rw[uh HAL,uh HBL]
    have g1:=uh HA a[t] (List.getElem_mem h1)
    have g2:=uh HB b[t] (List.getElem_mem h2)
    exact⟨a[t],b[t],List.getElem?_eq_getElem h1,List.getElem?_eq_getElem h2,g1.1,g1.2,g2.1,g2.2,zCq hab t h1,qYg hab t h1⟩)
 go_loopw [6] (λi wr=>∃k:Nat,i=.int .i64 k/\k<=3/\Hid (Blk wr cb (qAu (addN a b (k*16))) 235)/\Hid (Keeps (λi=>i=cb) W wr)) (λi _=>3-(intOf i).toNat)
 case atStart=>exact⟨0,rfl,by omega,by show Blk _ _ _ _;rw[Nat.zero_mul,qX9];exact uh HC,Keeps.refl _ _⟩
 case round =>
  obtain⟨k,rfl,hk,HBr,HKr⟩:=hrel
  obtain⟨wo,hwo⟩:∃wo,wo=wr:=⟨_,rfl⟩
  subst hwo
  have hk0:(0:Int)<=(k:Int):=by omega
  by_cases hlt:k<3
  ·have hk3:(k:Int)<3:=by omega
   go_wp2_with fail
   go_loopw [9] (λj wr=>∃p:Nat,j=.int .i64 p/\p<=16/\Hid (Blk wr cb (qAu (addN a b (k*16+p))) 235)/\Hid (Keeps (λi=>i=cb) W wr)) (λj _=>16-(intOf j).toNat)
   case atStart=>exact⟨0,rfl,by omega,HBr,HKr⟩
   case round =>
    obtain⟨p,rfl,hp,HB2,HK2⟩:=hrel
    have hp0:(0:Int)<=(p:Int):=by omega
    by_cases hpl:p<16
    ·have hp16:(p:Int)<16:=by omega
     obtain⟨x,y,hx,hy,x0,x1,y0,y1,hat,hnext⟩:=uh HNX (k*16+p) (by omega)
     have cx:wr.cell? ⟨cb,k*16+p,none⟩=some (.int .i64 x):=(uh HB2).cell (by unfold qAu;rw[List.getElem?_map,hat];rfl)
     have cy:wr.cell? ⟨ob,k*16+p,none⟩=some (.int .i64 y):=(uh HK2).cell ((uh HO).cell (by unfold qAu;rw[List.getElem?_map,hy];rfl)) (λh=>by have h':ob=cb:=h;omega)
     have cf:=(uh HB2).frozen
     have HNE:=hide hnext
     have hwxy:IntKind.i64.wrap (x+y)=x+y:=by rw[IntKind.wrap_i64];omega
     clear hx hy hat hnext
     go_wp2_with fail
     go_region
     go_wp2
     go_roundw
     case rel =>
      refine⟨p+1,by go_num,by omega,?_,?_⟩
      ·show Blk _ _ _ _
       rw[show k*16+(p+1)=k*16+p+1 by omega,<-uh HNE]
       have:=((uh HB2).setCell (k*16+p) (.int .i64 (x+y))).drew
       unfold qAu at this ⊢
       rw[List.map_set]
       exact this
      ·exact((uh HK2).setCell (p:=⟨cb,k*16+p,none⟩) (Or.inl rfl) _).drew
     case measure=>simp[intOf];omega
    ·have hp16:p=16:=by omega
     subst hp16
     go_wp2
     go_roundw
     case rel=>exact⟨k+1,by go_num,by omega,by show Blk _ _ _ _;rw[show(k+1)*16=k*16+16 by omega];exact uh HB2,HK2⟩
     case measure=>simp[intOf];omega
  ·have hk3:k=3:=by omega
   subst hk3
   go_wp2
   go_end0
   refine⟨rfl,?_,(uh HKW).then (uh HKr)⟩
   have:=uh HBr
   rw[show 3*16=a.length by rw[uh HAL],qY9 (by rw[uh HAL,uh HBL])]at this
   exact this
theorem qOq{P:Program}(w:World)(F:Nat->Option Bool×Unit->Sem (ForInStep (Option Bool×Unit)))(g:Nat->Bool): ∀(n s:Nat),(∀i,s<=i->i<s+n->(F i (none,())).run P w=.ok (if g i=true then .yield (none,()) else .done (some false,())) w) ->
  (forIn (List.range' s n) (none,()) F).run P w=.ok (if (List.range' s n).all g=true then(none,()) else(some false,())) w
 | 0,s,_=>rfl
 | n+1,s,h=>by
  rw[List.range'_succ,List.forIn_cons,Sem.run_bind,h s (Nat.le_refl _) (by omega)]
  by_cases hg:g s=true
  ·simp only[hg,if_true,Result.andThen_ok,List.all_cons,Bool.true_and]
   exact qOq w F g n (s+1) (λi h1 h2=>h i (by omega) (by omega))
  ·simp[hg]
theorem eqRow(d:Nat)(xs ys:List Int)(hx:xs.length=16)(hy:ys.length=16)(w:World): (Op.equalIn (d+1+1) 233 (.agg (qAu xs).toArray) (.agg (qAu ys).toArray)).run Tryz.prog w=.ok (decide (xs=ys)) w:=by
 have u3:=Tryz.underlying3
 have a3:=Tryz.isAgg3
 have z3:=Tryz.sizeOf3
 rw[Op.equalIn]
 simp only[Sem.run_bind,run_underlying Tryz.underlying233,Result.andThen_ok,z3]
 simp only[Std.Legacy.Range.forIn_eq_forIn_range',Std.Legacy.Range.size,Nat.sub_zero,Nat.add_sub_cancel,Nat.div_one]
 refine(congrArg (λr=>Result.andThen r _) (qOq w _ (λi=>decide (xs.getD i 0=ys.getD i 0)) 16 0 ?_)).trans ?_
 ·intro i _ hi
  have h1:i<xs.length:=by omega
  have h2:i<ys.length:=by omega
  have e1:(qAu xs).toArray[i*1]?=some (.int .i64 xs[i]):=by simp[qAu,h1]
  have e2:(qAu ys).toArray[i*1]?=some (.int .i64 ys[i]):=by simp[qAu,h2]
  have hp1:(part 3 (qAu xs).toArray (i*1)).run Tryz.prog w=.ok (.int .i64 xs[i]) w:=by simp only[part,Sem.run_bind,a3,Result.andThen_ok,e1];rfl
  have hp2:(part 3 (qAu ys).toArray (i*1)).run Tryz.prog w=.ok (.int .i64 ys[i]) w:=by simp only[part,Sem.run_bind,a3,Result.andThen_ok,e2];rfl
  have he:(Op.equalIn (d+1) 3 (.int .i64 xs[i]) (.int .i64 ys[i])).run Tryz.prog w=.ok (xs[i]==ys[i]) w:=by simp[Op.equalIn,run_underlying u3]
  simp only[Sem.run_bind,hp1,hp2,Result.andThen_ok,he]
  have g1:xs.getD i 0=xs[i]:=by simp[List.getD_eq_getElem?_getD,h1]
  have g2:ys.getD i 0=ys[i]:=by simp[List.getD_eq_getElem?_getD,h2]
  rw[g1,g2]
  by_cases hc:xs[i]=ys[i]
  ·simp[hc]
  ·simp[hc]
 simp only[Result.andThen_ok]
 have hall:(List.range' 0 16).all (λi=>decide (xs.getD i 0=ys.getD i 0))=decide (xs=ys):=by
  rw[Bool.eq_iff_iff]
  simp only[List.all_eq_true,decide_eq_true_eq,List.mem_range'_1]
  constructor
  ·intro h
   apply List.ext_getElem (by omega)
   intro i h1 h2
   have:=h i ⟨by omega,by omega⟩
   simpa[List.getD_eq_getElem?_getD,h1,h2] using this
  ·intro h i _;rw[h]
 rw[hall]
 by_cases hc:xs=ys
 ·simp[hc]
 ·simp[hc]
theorem zEk(w:World): (isAgg 233).run Tryz.prog w=.ok true w:=by kernel_rfl
theorem zCk(w:World): (sizeOf 233).run Tryz.prog w=.ok 16 w:=by kernel_rfl
theorem qUh(e:Nat)(hrow:∀xs ys:List Int,xs.length=16->ys.length=16->∀w,(Op.equalIn e 233 (.agg (qAu xs).toArray) (.agg (qAu ys).toArray)).run Tryz.prog w=.ok (decide (xs=ys)) w)(xs ys:List Int)(hx:xs.length=48)(hy:ys.length=48)(w:World): (Op.equalIn (e+1) 235 (.agg (qAu xs).toArray) (.agg (qAu ys).toArray)).run Tryz.prog w=.ok (decide (xs=ys)) w:=by
 have u3:=Tryz.underlying233
 have a3:=zEk w
 have z3:=zCk w
 rw[Op.equalIn]
 simp only[Sem.run_bind,run_underlying Tryz.underlying235,Result.andThen_ok,z3]
 simp only[Std.Legacy.Range.forIn_eq_forIn_range',Std.Legacy.Range.size,Nat.sub_zero,Nat.add_sub_cancel,Nat.div_one]
 refine(congrArg (λr=>Result.andThen r _) (qOq w _ (λi=>decide ((xs.drop (i*16)).take 16=(ys.drop (i*16)).take 16)) 3 0 ?_)).trans ?_
 ·intro i _ hi
  have ex:∀zs:List Int,(qAu zs).toArray.extract (i*16) (i*16+16)=(qAu ((zs.drop (i*16)).take 16)).toArray:=λzs=>by
   simp[qAu]
  have hp1:(part 233 (qAu xs).toArray (i*16)).run Tryz.prog w=.ok (.agg (qAu ((xs.drop (i*16)).take 16)).toArray) w:=by simp only[part,Sem.run_bind,a3,Result.andThen_ok,z3,if_true,ex];rfl
  have hp2:(part 233 (qAu ys).toArray (i*16)).run Tryz.prog w=.ok (.agg (qAu ((ys.drop (i*16)).take 16)).toArray) w:=by simp only[part,Sem.run_bind,a3,Result.andThen_ok,z3,if_true,ex];rfl
  have he:(Op.equalIn e 233 (.agg (qAu ((xs.drop (i*16)).take 16)).toArray) (.agg (qAu ((ys.drop (i*16)).take 16)).toArray)).run Tryz.prog w=.ok (decide ((xs.drop (i*16)).take 16=(ys.drop (i*16)).take 16)) w :=
   hrow ((xs.drop (i*16)).take 16) ((ys.drop (i*16)).take 16) (by simp;omega) (by simp;omega) w
  simp only[Sem.run_bind,hp1,hp2,Result.andThen_ok,he]
  generalize decide ((xs.drop (i*16)).take 16=(ys.drop (i*16)).take 16)=b
  cases b <;> rfl
 simp only[Result.andThen_ok]
 have hsp:∀zs:List Int,zs.length=48->zs=(zs.drop (0*16)).take 16++((zs.drop (1*16)).take 16++(zs.drop (2*16)).take 16):=λzs hz=>by
  have h3:(zs.drop (2*16)).take 16=zs.drop 32:=List.take_of_length_le (by simp;omega)
  rw[h3]
  have h2:zs.drop 16=(zs.drop 16).take 16++zs.drop 32:=by conv=>lhs;rw[<-List.take_append_drop 16 (zs.drop 16)];simp[List.drop_drop]
  conv=>lhs;rw[<-List.take_append_drop 16 zs,h2]
  simp
 have hall:(List.range' 0 3).all (λi=>decide ((xs.drop (i*16)).take 16=(ys.drop (i*16)).take 16))=decide (xs=ys):=by
  rw[Bool.eq_iff_iff]
  simp only[List.all_eq_true,decide_eq_true_eq,List.mem_range'_1]
  constructor
  ·intro h
   rw[hsp xs hx,hsp ys hy,h 0 (by omega),h 1 (by omega),h 2 (by omega)]
  ·intro h i _;rw[h]
 rw[hall]
 generalize decide (xs=ys)=b
 cases b <;> rfl
theorem zCv(xs ys:List Int)(hx:xs.length=48)(hy:ys.length=48)(w:World): (Op.equalIn 10000 235 (.agg (qAu xs).toArray) (.agg (qAu ys).toArray)).run Tryz.prog w=.ok (decide (xs=ys)) w :=
 qUh 9999 (λxs ys hx hy w=>eqRow 9997 xs ys hx hy w) xs ys hx hy w
end
end Go.Proofs.YtahnliehdjncdabGreatDoor
namespace Go.Proofs.YtahnliehdjncdabGreatDoor.Dr
open Go.RowKit
structure It where
 t:Int
 k:Int
 d:Int
 n:Int
 v:Int
def It.cells(x:It): Array Value:=#[.int .i64 x.t,.int .i64 x.k,.int .i64 x.d,.int .i64 x.n,.int .i64 x.v]
def It.val(x:It): Value:=.agg #[.int .i64 x.t,.int .i64 x.k,.int .i64 x.d,.int .i64 x.n,.int .i64 x.v]
def qMk(a b:It): Bool :=
 if a.v%18446744073709551616*(b.d%18446744073709551616)=b.v%18446744073709551616*(a.d%18446744073709551616) then decide (a.n<b.n)
 else decide (b.v%18446744073709551616*(a.d%18446744073709551616)<a.v%18446744073709551616*(b.d%18446744073709551616))
def qCl(a b:It): Bool:=qMk b a
theorem qUc(a b:It)(w:World):
  Calls Tryz.prog 239 #[a.val,b.val] w λe w'=>e=.returned (.bool (qMk a b))/\w'=(w.alloc (.cells a.cells 254)).alloc (.cells b.cells 254):=by
 unfold It.val It.cells
 have wr:∀n:Int,IntKind.u64.wrap n=n%18446744073709551616:=λn=>IntKind.wrap_u64 n
 have HM:=hide (show ∀(x y:Int) (w:World),Calls Tryz.prog 176 #[.int .u64 (x%18446744073709551616),.int .u64 (y%18446744073709551616)] w λe w'=>e=.returned (.tuple #[.int .u64 (x%18446744073709551616*(y%18446744073709551616)/18446744073709551616),.int .u64 (x%18446744073709551616*(y%18446744073709551616)%18446744073709551616)])/\w'=w from
    λx y w=>qK1 _ _ (by omega) (by omega) (by omega) (by omega) w)
 have HA:=hide (show qMk a b=if a.v%18446744073709551616*(b.d%18446744073709551616)=b.v%18446744073709551616*(a.d%18446744073709551616) then decide (a.n<b.n) else decide (b.v%18446744073709551616*(a.d%18446744073709551616)<a.v%18446744073709551616*(b.d%18446744073709551616)) from rfl)
 go_enter Tryz.func239,Tryz.ntmps239
 go_wp2_with fail
 refine(uh HM a.v b.d _).mono ?_
 rintro e w' ⟨rfl,rfl⟩
 go_wp2_with fail
 refine(uh HM b.v a.d _).mono ?_
 rintro e w' ⟨rfl,rfl⟩
 generalize a.v%18446744073709551616*(b.d%18446744073709551616)=p at *
 generalize b.v%18446744073709551616*(a.d%18446744073709551616)=q at *
 by_cases h1:p/18446744073709551616=q/18446744073709551616
 ·have hb1:(p/18446744073709551616 !=q/18446744073709551616)=false:=by simp[h1]
  by_cases h2:p%18446744073709551616=q%18446744073709551616
  ·have hb2:(p%18446744073709551616 !=q%18446744073709551616)=false:=by simp[h2]
   have HR:=hide (show decide (a.n<b.n)=qMk a b by rw[uh HA,if_pos (by omega)])
   clear h1 h2
   go_wp2
   go_ret
   exact⟨qA8 (uh HR),rfl⟩
  ·have hb2:(p%18446744073709551616 !=q%18446744073709551616)=true:=by simp[h2]
   have HR:=hide (show decide (q%18446744073709551616<p%18446744073709551616)=qMk a b by rw[uh HA,if_neg (by omega)];simp only[decide_eq_decide];omega)
   clear h1 h2
   go_wp2
   go_ret
   exact⟨qA8 (uh HR),rfl⟩
 ·have hb1:(p/18446744073709551616 !=q/18446744073709551616)=true:=by simp[h1]
  have HR:=hide (show decide (q/18446744073709551616<p/18446744073709551616)=qMk a b by rw[uh HA,if_neg (by omega)];simp only[decide_eq_decide];omega)
  clear h1
  go_wp2
  go_ret
  exact⟨qA8 (uh HR),rfl⟩
theorem qFq(a b:It)(w:World):
  Calls Tryz.prog 215 #[a.val,b.val] w λe w'=>e=.returned (.bool (qCl a b))/\w'=(((w.alloc (.cells a.cells 254)).alloc (.cells b.cells 254)).alloc (.cells b.cells 254)).alloc (.cells a.cells 254):=by
 have HT:=hide (qUc b a ((w.alloc (.cells a.cells 254)).alloc (.cells b.cells 254)))
 unfold It.val It.cells at *
 go_enter Tryz.func215,Tryz.ntmps215
 go_wp2_with fail
 refine(uh HT).mono ?_
 rintro e w' ⟨rfl,rfl⟩
 go_wp2
 go_ret
 exact⟨rfl,rfl⟩
theorem qFr(a b:It)(w:World):
  Calls Tryz.prog 215 #[a.val,b.val] w λe w'=>e=.returned (.bool (qCl a b))/\Keeps (λ_=>False) w w' :=
 (qFq a b w).mono λ_ _ ⟨he,hw⟩=>⟨he,by rw[hw];exact((((Keeps.refl _ _).alloc _).alloc _).alloc _).alloc _⟩
def itAt(l:List It)(i:Nat): It:=l.getD i ⟨0,0,0,0,0⟩
def flat: List It->List Value
 | []=>[]
 | x::l=>.int .i64 x.t::.int .i64 x.k::.int .i64 x.d::.int .i64 x.n::.int .i64 x.v::flat l
theorem qDo(l:List It): (flat l).length=l.length*5:=by
 induction l with
 | nil=>rfl
 | cons x l ih=>simp[flat,ih];omega
theorem qEv(a b:List It): flat (a++b)=flat a++flat b:=by
 induction a with
 | nil=>rfl
 | cons x l ih=>simp[flat,ih]
theorem flat_get(l:List It)(i:Nat)(h:i<l.length): (flat l)[i*5]?=some (.int .i64 (itAt l i).t)/\(flat l)[i*5+1]?=some (.int .i64 (itAt l i).k)/\(flat l)[i*5+2]?=some (.int .i64 (itAt l i).d)/\(flat l)[i*5+3]?=some (.int .i64 (itAt l i).n)/\(flat l)[i*5+4]?=some (.int .i64 (itAt l i).v):=by
 induction l generalizing i with
 | nil=>simp at h
 | cons x l ih =>
  cases i with
  | zero=>simp[flat,itAt]
  | succ i =>
   have:=ih i (by simpa using h)
   rw[show(i+1)*5=i*5+5 by omega]
   simpa[flat,itAt] using this
theorem qOr(l:List It)(i:Nat)(x:It): flat (l.set i x)=(((((flat l).set (i*5) (.int .i64 x.t)).set (i*5+1) (.int .i64 x.k)).set (i*5+2) (.int .i64 x.d)).set (i*5+3) (.int .i64 x.n)).set (i*5+4) (.int .i64 x.v):=by
 induction l generalizing i with
 | nil=>simp[flat]
 | cons y l ih =>
  cases i with
  | zero=>simp[flat]
  | succ i=>rw[show(i+1)*5=i*5+5 by omega];simp[flat,ih]
structure IRow (w:World) (g cap:Nat) (l:List It):Prop where
 ex:∃cur:List Value,Blk w g cur 254/\cur.length=cap*5/\cur.take (l.length*5)=flat l
 le:l.length<=cap
 max:cap<=maxLen
theorem IRow.lt{w:World}{g cap:Nat}{l:List It}(h:IRow w g cap l): g<w.heap.size:=by obtain⟨cur,hb,_⟩:=h.ex;exact hb.lt
theorem IRow.frozen{w:World}{g cap:Nat}{l:List It}(h:IRow w g cap l)(o:Nat): w.frozen? ⟨g,o,none⟩=false:=by obtain⟨cur,hb,_⟩:=h.ex;exact hb.frozen o
theorem IRow.cells{w:World}{g cap:Nat}{l:List It}(h:IRow w g cap l)(i:Nat)(hi:i<l.length):
  w.cell? ⟨g,i*5,none⟩=some (.int .i64 (itAt l i).t)/\w.cell? ⟨g,i*5+1,none⟩=some (.int .i64 (itAt l i).k)/\w.cell? ⟨g,i*5+2,none⟩=some (.int .i64 (itAt l i).d)/\w.cell? ⟨g,i*5+3,none⟩=some (.int .i64 (itAt l i).n)/\w.cell? ⟨g,i*5+4,none⟩=some (.int .i64 (itAt l i).v):=by
 obtain⟨cur,hb,hl,ht⟩:=h.ex
 have hg:∀k,k<l.length*5->cur[k]?=(flat l)[k]?:=λk hk=>by rw[<-ht,List.getElem?_take,if_pos hk]
 obtain⟨a,b,c,d,e⟩:=flat_get l i hi
 exact⟨hb.cell (by rw[hg _ (by omega)];exact a),hb.cell (by rw[hg _ (by omega)];exact b),hb.cell (by rw[hg _ (by omega)];exact c),hb.cell (by rw[hg _ (by omega)];exact d),hb.cell (by rw[hg _ (by omega)];exact e)⟩
theorem IRow.keeps{M:Nat->Prop}{w w':World}{g cap:Nat}{l:List It}(h:IRow w g cap l)(k:Keeps M w w')(hn:¬M g): IRow w' g cap l:=by
 obtain⟨cur,hb,r⟩:=h.ex;exact⟨⟨cur,hb.keeps k hn,r⟩,h.le,h.max⟩
theorem IRow.drew{w:World}{g cap:Nat}{l:List It}(h:IRow w g cap l): IRow w.drew g cap l:=by
 obtain⟨cur,hb,r⟩:=h.ex;exact⟨⟨cur,hb.drew,r⟩,h.le,h.max⟩
def putIt(w:World)(g i:Nat)(x:It): World :=
 ((((w.setCell ⟨g,i*5,none⟩ (.int .i64 x.t)).setCell ⟨g,i*5+1,none⟩ (.int .i64 x.k)).setCell ⟨g,i*5+2,none⟩ (.int .i64 x.d)).setCell ⟨g,i*5+3,none⟩ (.int .i64 x.n)).setCell ⟨g,i*5+4,none⟩ (.int .i64 x.v)
theorem IRow.put{w:World}{g cap:Nat}{l:List It}(h:IRow w g cap l)(i:Nat)(x:It): IRow (putIt w g i x) g cap (l.set i x):=by
 obtain⟨cur,hb,hl,ht⟩:=h.ex
 refine⟨⟨_,((((hb.setCell _ _).setCell _ _).setCell _ _).setCell _ _).setCell _ _,by simp[hl],?_⟩,by simpa using h.le,h.max⟩
 rw[qOr,<-ht,List.length_set]
 simp only[List.take_set]
theorem _root_.Go.Proofs.YtahnliehdjncdabGreatDoor.Keeps.putTk{M:Nat->Prop}{a w:World}(h:Keeps M a w){g:Nat}(hp:M g\/a.heap.size<=g)(i:Nat)(x:It): Keeps M a (putIt w g i x) :=
 ((((h.setCell hp _).setCell hp _).setCell hp _).setCell hp _).setCell hp _
end Go.Proofs.YtahnliehdjncdabGreatDoor.Dr
