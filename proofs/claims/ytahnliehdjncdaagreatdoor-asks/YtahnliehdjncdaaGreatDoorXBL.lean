import Derived.Test.YtahnliehdjncdaaGreatDoorXBK
set_option maxRecDepth 100000
set_option maxHeartbeats 16000000
namespace Go.Proofs.YtahnliehdjncdaaGreatDoor
section
open Go.RowKit
attribute [local go_sem ↓] qAd
attribute [local go_sem] qAi qAc qAb qAm qAn qAg qAh
attribute [local go_sem ↓ 2000] qRl
theorem qLv{w:World}{base base':Nat}{v:Value}{n:Nat}{xs:List Value}(h:w.ownsRow base 3 1 v n xs)(hb:base'<=base): w.ownsRow base' 3 1 v n xs :=
 ⟨h.1,h.2.imp id λ⟨g,cap,cur,h1,h2,h3⟩=>⟨g,cap,cur,h1,Nat.le_trans hb h2,h3⟩⟩
def ItC(w:World)(g i:Nat)(z:RIt): Prop:=w.cell? ⟨g,i*5,none⟩=some (.int .i64 z.t)/\w.cell? ⟨g,i*5+1,none⟩=some (.int .i64 z.k)/\w.cell? ⟨g,i*5+2,none⟩=some (.int .i64 z.d)/\w.cell? ⟨g,i*5+3,none⟩=some (.int .i64 z.n)/\w.cell? ⟨g,i*5+4,none⟩=some (.int .i64 z.tick)
theorem ItC.keeps{w w':World}{g i:Nat}{z:RIt}(h:ItC w g i z)(hk:Keeps (λ_=>False) w w'): ItC w' g i z :=
 ⟨hk.cell h.1 (λh=>h),hk.cell h.2.1 (λh=>h),hk.cell h.2.2.1 (λh=>h),hk.cell h.2.2.2.1 (λh=>h),hk.cell h.2.2.2.2 (λh=>h)⟩
theorem zEr{w:World}{base g n cap:Nat}{l:List RIt}(h:zBa w base (.slice (some ⟨g,0,none⟩) n cap) l)(i:Nat)(hi:i<l.length): ItC w g i (rAt l i):=by
 obtain⟨a,c,e,_,_,hc⟩:=qCy h
 injection e with e1 _ _
 subst e1
 have hr:=(hc g rfl).1
 refine⟨?_,?_,?_,?_,?_⟩
 ·have:=hr (i*5+0) _ (by rw[qBl _ _ _ hi (by omega)];rfl)
  simpa using this
 ·exact hr (i*5+1) _ (by rw[qBl _ _ _ hi (by omega)];rfl)
 ·exact hr (i*5+2) _ (by rw[qBl _ _ _ hi (by omega)];rfl)
 ·exact hr (i*5+3) _ (by rw[qBl _ _ _ hi (by omega)];rfl)
 ·exact hr (i*5+4) _ (by rw[qBl _ _ _ hi (by omega)];rfl)
theorem qU5(b:RB)(y:RSer)(m:Int)(w:World)(h:RRep w b y)(hc:y.c.weighs)(s0:1<=y.c.size)(s1:y.c.size<=5)(hl:y.items.length<=651562446090)(hz:∀z,z∈qA5 y.items (-1) m->(0<=z.t/\z.t<=4611686018427387904)/\0<=z.d/\z.d<=2147483648)(hB:∀p i,(qGy y.c (qA5 y.items (-1) m) p i).1.length<=100):
  Calls Tryz.prog 82 #[.pointer (some ⟨b.s,0,none⟩),.int .i64 m] w λr w'=>∃v,r=.returned v/\w'.ownsRow w.heap.size 3 1 v (qFv y.c (qA5 y.items (-1) m)).length (qAy (qFv y.c (qA5 y.items (-1) m)))/\Keeps (λ_=>False) w w':=by
 obtain⟨S,hS⟩:∃S:Nat,y.c.size=(S:Int):=⟨y.c.size.toNat,by omega⟩
 have hS5:S<=5:=by omega
 have HR:=hide h
 have HCW:=hide hc
 have HZ:=hide hz
 have HB:=hide hB
 clear h hc hz hB
 go_enter Tryz.func82,Tryz.ntmps82
 go_wp2_with fail
 refine(qH8 b y (-1) m w (uh HR) hl).mono ?_
 rintro r W2 ⟨lv,rfl,hL,hk2⟩
 have HL2:=hide hL
 have hll:(qA5 y.items (-1) m).length<=651562446090:=by have:=qGn y.items (-1) m;omega
 have HK2:=hide hk2
 have HR2:=hide ((uh HR).still hk2)
 generalize hLL:qA5 y.items (-1) m=LL at *
 have HLL:=hide hLL
 obtain⟨la,lcap,elv⟩:=qC4 hL
 generalize hnl:LL.length=nl at *
 have HNL:=hide hnl
 subst elv
 have hz2:=(uh HK2).size
 clear hL hk2 HR hnl hLL
 have HBN:=hide (Blk.new W2 [.int .i64 0,.int .i64 0] 3)
 go_wp2_with fail
 go_loopw [6,7,8] (λo nx pl wr=>∃(p mo cp:Nat) (ad:Option Addr) (gn:Nat),p<=S+1/\pl=.int .i64 p/\o=.slice ad mo cp/\nx=.slice (some ⟨gn,0,none⟩) 2 2/\Hid (wr.ownsRow W2.heap.size 3 1 o (qCi y.c LL p).1.length (qAy (qCi y.c LL p).1))/\Hid (Blk wr gn [.int .i64 (qCi y.c LL p).2.1,.int .i64 (qCi y.c LL p).2.2] 3)/\Hid (W2.heap.size<=gn/\o.ownBlock≠some gn)/\Hid (Keeps (λ_=>False) W2 wr)) (λ_ _ pl _=>S+1-(intOf pl).toNat)
 case atStart=>exact⟨0,0,0,none,W2.heap.size,by omega,rfl,rfl,rfl,World.ownsRow_nil _ _ _ _,HBN,⟨Nat.le_refl _,λh=>by cases h⟩,(Keeps.refl _ _).alloc _⟩
 case round=>as_aux_lemma =>
  obtain⟨p,mo,cp,ad,gn,hp,rfl,rfl,rfl,HO,HN,HG,HK⟩:=hrel
  generalize wr=wo at *
  have HRo:=hide ((uh HR2).still (uh HK))
  have c11:wo.cell? ⟨b.s,11,none⟩=some (.int .i64 S):=by rw[<-hS];exact(uh HRo).blk.cell rfl
  by_cases hpS:p<S+1
  ·have hd:decide ((p:Int)<=(S:Int))=true:=by simp;omega
   have hdn:decide (p<=S)=true:=by simp;omega
   have HO2:=hide (show wo.ownsRow W2.heap.size 3 1 (.slice ad mo cp) (qGy y.c LL p 0).1.length (qAy (qGy y.c LL p 0).1) from uh HO)
   have HN2:=hide (show Blk wo gn [.int .i64 (qGy y.c LL p 0).2.1,.int .i64 (qGy y.c LL p 0).2.2] 3 from uh HN)
   clear HO HN HRo
   go_wp2_with fail
   go_loopw [6,7,9] (λo nx iv wr=>∃(i mo cp:Nat) (ad:Option Addr) (gn:Nat),i<=nl/\iv=.int .i64 i/\o=.slice ad mo cp/\nx=.slice (some ⟨gn,0,none⟩) 2 2/\Hid (wr.ownsRow W2.heap.size 3 1 o (qGy y.c LL p i).1.length (qAy (qGy y.c LL p i).1))/\Hid (Blk wr gn [.int .i64 (qGy y.c LL p i).2.1,.int .i64 (qGy y.c LL p i).2.2] 3)/\Hid (W2.heap.size<=gn/\o.ownBlock≠some gn)/\Hid (Keeps (λ_=>False) W2 wr)) (λ_ _ iv _=>nl-(intOf iv).toNat)
   case atStart=>exact⟨0,mo,cp,ad,gn,by omega,rfl,rfl,rfl,HO2,HN2,HG,HK⟩
   case round=>as_aux_lemma =>
    clear HO2 HN2 HG HK c11
    obtain⟨i,mo,cp,ad,gn,hi,rfl,rfl,rfl,HO,HN,HG,HK⟩:=hrel
    generalize wr=wi at *
    by_cases hin:i<nl
    ·have hil:i<LL.length:=by rw[uh HNL];exact hin
     have hi0:(0:Int)<=(i:Int):=by omega
     have hin':(i:Int)<(nl:Int):=by omega
     have HSC:=hide (qWr y.c LL p i hil)
     have hLi:zBa wi w.heap.size (.slice la nl lcap) LL:=qAf (uh HL2) (uh HK) (λ_ _ h=>h)
     obtain⟨gl,hgl⟩:∃gl,la=some ⟨gl,0,none⟩:=by
      obtain⟨a',c',e,_,hp',_⟩:=qCy hLi
      injection e with e1 _ _
      subst e1
      exact hp' (by rw[uh HNL];omega)
     subst hgl
     have HIT:=hide (show ∀k,k<nl->ItC wi gl k (rAt LL k) from λk hk=>zEr hLi k (by rw[uh HNL];exact hk))
     have HMZ:=hide (show ∀k,k<nl->rAt LL k∈LL from λk hk=>by
        have hkl:k<LL.length:=by rw[uh HNL];exact hk
        rw[qCc _ _ hkl];exact List.getElem_mem hkl)
     have HRi:=hide ((uh HR2).still (uh HK))
     have HWI:=hide (uh HIT i hin)
     obtain⟨⟨zt0,zt1⟩,zd0,zd1⟩:=uh HZ _ (uh HMZ i hin)
     obtain⟨zz,hzz⟩:∃zz,rAt LL i=zz:=⟨_,rfl⟩
     rw[hzz]at HSC HWI zt0 zt1 zd0 zd1
     obtain⟨zt,zk,zd,zn,zi⟩:=zz
     clear hLi hzz
     go_wp2_with fail
     go_loopw [10,11] (λnv kv wr=>∃k:Nat,k<=nl/\kv=.int .i64 k/\nv=.int .i64 (qCn y.c (LL.take k) ⟨zt,zk,zd,zn,zi⟩)/\Hid (Keeps (λ_=>False) wi wr)) (λ_ kv _=>nl-(intOf kv).toNat)
     case atStart=>exact⟨0,by omega,rfl,rfl,Keeps.refl _ _⟩
     case round=>as_aux_lemma =>
      obtain⟨k,hk,rfl,rfl,HKk⟩:=hrel
      generalize wr=wk at *
      have hple:=qV6 y.c (LL.take k) ⟨zt,zk,zd,zn,zi⟩
      rw[List.length_take]at hple
      by_cases hkn:k<nl
      ·have hkl:k<LL.length:=by rw[uh HNL];exact hkn
       obtain⟨⟨xt0,xt1⟩,xd0,xd1⟩:=uh HZ _ (uh HMZ k hkn)
       have HIK:=hide (uh HIT k hkn)
       have HTK:=hide (qSw y.c LL ⟨zt,zk,zd,zn,zi⟩ k hkl)
       obtain⟨xx,hxx⟩:∃xx,rAt LL k=xx:=⟨_,rfl⟩
       rw[hxx]at HIK HTK xt0 xt1 xd0 xd1
       obtain⟨xt,xk,xd,xn,xi⟩:=xx
       have HH:=hide (show ∀w',Keeps (λ_=>False) wk w'->(w'.cell? ⟨gl,k*5,none⟩=some (.int .i64 xt)/\w'.cell? ⟨gl,k*5+1,none⟩=some (.int .i64 xk)/\w'.cell? ⟨gl,k*5+2,none⟩=some (.int .i64 xd)/\w'.cell? ⟨gl,k*5+3,none⟩=some (.int .i64 xn)/\w'.cell? ⟨gl,k*5+4,none⟩=some (.int .i64 xi))/\w'.cell? ⟨gl,i*5,none⟩=some (.int .i64 zt)/\w'.cell? ⟨gl,i*5+1,none⟩=some (.int .i64 zk)/\w'.cell? ⟨gl,i*5+2,none⟩=some (.int .i64 zd)/\w'.cell? ⟨gl,i*5+3,none⟩=some (.int .i64 zn)/\w'.cell? ⟨gl,i*5+4,none⟩=some (.int .i64 zi) from λw' hk'=>⟨(uh HIK).keeps ((uh HKk).then hk'),(uh HWI).keeps ((uh HKk).then hk')⟩)
       have HSO:=hide (show ∀w0,Keeps (λ_=>False) wk w0->Calls Tryz.prog 110 #[.pointer (some ⟨b.s,0,none⟩),.agg #[.int .i64 xt,.int .i64 xk,.int .i64 xd,.int .i64 xn,.int .i64 xi],.agg #[.int .i64 zt,.int .i64 zk,.int .i64 zd,.int .i64 zn,.int .i64 zi]] w0 λe w'=>e=.returned (.bool (qNq y.c ⟨xt,xk,xd,xn,xi⟩ ⟨zt,zk,zd,zn,zi⟩))/\Keeps (λ_=>False) w0 w' from λw0 hk0=>qRn b y ⟨xt,xk,xd,xn,xi⟩ ⟨zt,zk,zd,zn,zi⟩ w0 ((uh HRi).still ((uh HKk).then hk0)) (uh HCW) xt0 xt1 zt0 zt1 xd0 xd1 zd0 zd1)
       obtain⟨sb,hsb⟩:∃sb,qNq y.c ⟨xt,xk,xd,xn,xi⟩ ⟨zt,zk,zd,zn,zi⟩=sb:=⟨_,rfl⟩
       rw[hsb]at HSO HTK
       obtain⟨⟨g1,g2,g3,g4,g5⟩,g6,g7,g8,g9,g10⟩:=uh HH wk (Keeps.refl _ _)
       have hk0:(0:Int)<=(k:Int):=by omega
       have hkn':(k:Int)<(nl:Int):=by omega
       generalize qCn y.c (LL.take k) ⟨zt,zk,zd,zn,zi⟩=pn at *
       clear hkl hxx hsb
       go_wp2_with fail
       go_region_held3 (λw'=>(w'.cell? ⟨gl,k*5,none⟩=some (.int .i64 xt)/\w'.cell? ⟨gl,k*5+1,none⟩=some (.int .i64 xk)/\w'.cell? ⟨gl,k*5+2,none⟩=some (.int .i64 xd)/\w'.cell? ⟨gl,k*5+3,none⟩=some (.int .i64 xn)/\w'.cell? ⟨gl,k*5+4,none⟩=some (.int .i64 xi))/\w'.cell? ⟨gl,i*5,none⟩=some (.int .i64 zt)/\w'.cell? ⟨gl,i*5+1,none⟩=some (.int .i64 zk)/\w'.cell? ⟨gl,i*5+2,none⟩=some (.int .i64 zd)/\w'.cell? ⟨gl,i*5+3,none⟩=some (.int .i64 zn)/\w'.cell? ⟨gl,i*5+4,none⟩=some (.int .i64 zi))
        (first | exact uh HH _ (uh HKs) | exact uh HH _ ((Keeps.refl (λ_=>False) wk).drew) | exact uh HH _ (Keeps.refl (λ_=>False) wk) | (simp[*];done))
        (first | (go_at_call 110;refine(uh HSO _ ((Keeps.refl (λ_=>False) wk).drew)).mono ?_;rintro r ws ⟨rfl,hks⟩;have HKs:=hide (((Keeps.refl (λ_=>False) wk).drew).then hks)))
       cases sb
       ·go_wp2
        go_roundw
        case rel=>exact⟨k+1,by omega,by go_num,by rw[uh HTK];simp,hide ((uh HKk).then (uh HKs))⟩
        case measure=>simp[intOf];omega
       ·go_wp2
        go_roundw
        case rel=>exact⟨k+1,by omega,by go_num,by rw[uh HTK];go_num,hide ((uh HKk).then (uh HKs))⟩
        case measure=>simp[intOf];omega
      ·have hkE:k=nl:=by omega
       subst hkE
       have hff:decide ((k:Int)<(k:Int))=false:=by simp
       have hfl:LL.take k=LL:=List.take_of_length_le (by rw[uh HNL];exact Nat.le_refl _)
       rw[hfl]at hple ⊢
       have HSC2:=hide (show qGy y.c LL p (i+1)=if qCn y.c LL ⟨zt,zk,zd,zn,zi⟩=p then(if (p:Int)<y.c.size then((qGy y.c LL p i).1++[zt,zk,zd],(qGy y.c LL p i).2) else if (p:Int)=y.c.size then((qGy y.c LL p i).1,wtR y.c ⟨zt,zk,zd,zn,zi⟩,zd) else qGy y.c LL p i) else qGy y.c LL p i from uh HSC)
       have hBi:=uh HB p i
       have HKw:=hide ((uh HK).then (uh HKk))
       have hno:∀j,(Value.slice ad mo cp).ownBlock=some j->W2.heap.size<=j:=λj hj=>((uh HO).lt j hj).1
       have HOk:=hide (qBm (uh HO) (uh HKk) (λ_ _ h=>h))
       have HNk:=hide ((uh HN).keeps (uh HKk) (λh=>h))
       have HNO:=hide hno
       have HRk:=hide ((uh HRi).still (uh HKk))
       have c11:wk.cell? ⟨b.s,11,none⟩=some (.int .i64 S):=by rw[<-hS];exact(uh HRk).blk.cell rfl
       obtain⟨f1,f2,f3,f4,f5⟩:=(uh HWI).keeps (uh HKk)
       rw[hS]at HSC2
       generalize qCn y.c LL ⟨zt,zk,zd,zn,zi⟩=pn at *
       clear hno hfl HSC HO HN HRi HMZ HIT HWI
       by_cases hpn:pn=p
       ·subst hpn
        have hbe:((pn:Int)==(pn:Int))=true:=by simp
        by_cases hlt:pn<S
        ·have hd1:decide ((pn:Int)<(S:Int))=true:=by simp;omega
         have hd1n:decide (pn<S)=true:=by simp;omega
         have hd2:((pn:Int)==(S:Int))=false:=by simp;omega
         have hd2n:(pn==S)=false:=by simp;omega
         have HS3:=hide (show qGy y.c LL pn (i+1)=((qGy y.c LL pn i).1++[zt,zk,zd],(qGy y.c LL pn i).2) by rw[uh HSC2,if_pos rfl,if_pos (by omega)])
         have hzk:=(uh HKw).size
         have HAPP:=hide (show ∃gg cap' w9,(∀t,(zFb t (.slice ad mo cp) (.slice (some ⟨wk.heap.size,0,none⟩) 3 3)).run Tryz.prog (wk.alloc (.cells #[.int .i64 zt,.int .i64 zk,.int .i64 zd] 3)).drew=.ok (.value (.slice (some ⟨gg,0,none⟩) ((qGy y.c LL pn i).1.length+3) cap')) w9)/\w9.ownsRow W2.heap.size 3 1 (.slice (some ⟨gg,0,none⟩) ((qGy y.c LL pn i).1.length+3) cap') ((qGy y.c LL pn i).1.length+3) (qAy ((qGy y.c LL pn i).1++[zt,zk,zd]))/\Keeps (λ_=>False) W2 w9/\Blk w9 gn [.int .i64 (qGy y.c LL pn i).2.1,.int .i64 (qGy y.c LL pn i).2.2] 3/\gg≠gn by
            have hkk:Keeps (λ_=>False) wk (wk.alloc (.cells #[.int .i64 zt,.int .i64 zk,.int .i64 zd] 3)).drew:=((Keeps.refl _ _).alloc _).drew
            obtain⟨gg,cap',w9,h1,h2,h3,h4⟩:=qZ9 (wk.alloc (.cells #[.int .i64 zt,.int .i64 zk,.int .i64 zd] 3)).drew W2.heap.size (.slice ad mo cp) _ (qGy y.c LL pn i).1 wk.heap.size zt zk zd rfl (qBm (uh HOk) hkk (λ_ _ h=>h)) (heap_alloc_new wk _) (by omega) (by show W2.heap.size<=(wk.alloc _).heap.size;simp;omega)
            have hgk:Keeps (λj=>(Value.slice ad mo cp).ownBlock=some j) (wk.alloc (.cells #[.int .i64 zt,.int .i64 zk,.int .i64 zd] 3)).drew w9:=⟨h3.os,h3.tape,h3.output,h3.size,λk hk hn=>h3.block k hk (λh=>hn h.symm)⟩
            refine⟨gg,cap',w9,h1,h2,((uh HKw).then hkk).trans hgk (λj hj hlt=>by have:=uh HNO j hj;omega),((uh HNk).keeps hkk (λh=>h)).keeps hgk (uh HG).2,λe=>?_⟩
            rcases h4 with h | h
            ·exact(uh HG).2 (by rw[h,e])
            ·have:=(uh HNk).lt
             have hsz:(wk.alloc (.cells #[.int .i64 zt,.int .i64 zk,.int .i64 zd] 3)).drew.heap.size=wk.heap.size+1:=by show(wk.alloc _).heap.size=_;simp
             omega)
         obtain⟨gg,cap',w9,hrun,hown9,hk9,hb9,hne9⟩:=uh HAPP
         have HO9:=hide hown9
         have HK9:=hide hk9
         have HB9:=hide hb9
         have HNE9:=hide hne9
         have c119:w9.cell? ⟨b.s,11,none⟩=some (.int .i64 S):=by rw[<-hS];exact((uh HR2).still hk9).blk.cell rfl
         clear HAPP hown9 hk9 hb9 hne9
         go_wp2_with fail
         go_region
         go_wp2
         go_roundw
         case rel=>exact⟨i+1,_,_,_,gn,by omega,by go_num,rfl,rfl,hide (by rw[uh HS3];show World.ownsRow _ _ _ _ _ ((qGy y.c LL pn i).1++[zt,zk,zd]).length _;rw[List.length_append];exact uh HO9),hide (by rw[uh HS3];exact uh HB9),hide ⟨(uh HG).1,λh=>uh HNE9 (by injection h)⟩,HK9⟩
         case measure=>simp[intOf];omega
        ·have hd1:decide ((pn:Int)<(S:Int))=false:=by simp;omega
         have hd1n:decide (pn<S)=false:=by simp;omega
         have hES:pn=S:=by omega
         subst hES
         have HS3:=hide (show qGy y.c LL pn (i+1)=((qGy y.c LL pn i).1,wtR y.c ⟨zt,zk,zd,zn,zi⟩,zd) by rw[uh HSC2,if_pos rfl,if_neg (by omega),if_pos rfl])
         obtain⟨bg1,bg2⟩:=qEi (uh HRk).blk
         have hbs:=(uh HRk).blk.lt
         have HWT:=hide (show ∀w0,Calls Tryz.prog 109 #[.agg y.c.cells.toArray,.int .i64 zt] w0 λe w'=>e=.returned (.int .i64 (wtR y.c ⟨zt,zk,zd,zn,zi⟩))/\Keeps (λ_=>False) w0 w' from λw0=>qD5 y.c zt w0 (uh HCW) (by omega) zt1)
         have HH:=hide (show ∀w',Keeps (λ_=>False) wk w'->qAv w' b.s 1 20=.agg y.c.cells.toArray/\qA2 w' b.s 1 20=true/\w'.cell? ⟨gl,i*5,none⟩=some (.int .i64 zt) from λw' hk'=>⟨(qAp hk' (λh=>h) hbs).1.trans bg1,(qAp hk' (λh=>h) hbs).2.trans bg2,hk'.cell f1 (λh=>h)⟩)
         generalize wtR y.c ⟨zt,zk,zd,zn,zi⟩=wt at *
         have hself:((pn:Int)==(pn:Int))=true:=by simp
         go_wp2_with fail
         go_region_held3 (λw'=>qAv w' b.s 1 20=.agg y.c.cells.toArray/\qA2 w' b.s 1 20=true/\w'.cell? ⟨gl,i*5,none⟩=some (.int .i64 zt))
          (first | exact uh HH _ (uh HKs) | exact uh HH _ ((Keeps.refl (λ_=>False) wk).drew) | exact uh HH _ (Keeps.refl (λ_=>False) wk) | (simp[*,qAc,qAb];done))
          (first | (go_at_call 109;refine(uh HWT _).mono ?_;rintro r ws ⟨rfl,hks⟩;have HKs:=hide (((Keeps.refl (λ_=>False) wk).drew).then hks)))
         have f3s:=(uh HKs).cell f3 (λh=>h)
         have HOs:=hide (qBm (uh HOk) ((uh HKs).alloc (.cells #[.int .i64 wt,.int .i64 zd] 3)) (λ_ _ h=>h))
         have HBs:=hide (Blk.new ws [.int .i64 wt,.int .i64 zd] 3)
         have HKS:=hide (((uh HKw).then (uh HKs)).alloc (.cells #[.int .i64 wt,.int .i64 zd] 3))
         have HGs:=hide (show W2.heap.size<=ws.heap.size/\(Value.slice ad mo cp).ownBlock≠some ws.heap.size from⟨((uh HKw).then (uh HKs)).size,λh=>by have h1:=((uh HOk).lt _ h).2;have h2:=(uh HKs).size;omega⟩)
         clear bg1 bg2 hbs f1 f2 f4 f5
         go_wp2
         go_roundw
         case rel=>exact⟨i+1,mo,cp,ad,ws.heap.size,by omega,by go_num,rfl,rfl,hide (by rw[uh HS3];exact uh HOs),hide (by rw[uh HS3];exact uh HBs),HGs,HKS⟩
         case measure=>simp[intOf];omega
       ·have hbe:((pn:Int)==(p:Int))=false:=by simp;omega
        have hben:(pn==p)=false:=by simp;omega
        have HS3:=hide (show qGy y.c LL p (i+1)=qGy y.c LL p i by rw[uh HSC2,if_neg hpn])
        go_wp2_with fail
        go_roundw
        case rel=>exact⟨i+1,mo,cp,ad,gn,by omega,by go_num,rfl,rfl,by rw[uh HS3];exact HOk,by rw[uh HS3];exact HNk,HG,HKw⟩
        case measure=>simp[intOf];omega
    ·have hiE:i=nl:=by omega
     subst hiE
     have hff:decide ((i:Int)<(i:Int))=false:=by simp
     rw[qTo y.c LL p i (by rw[uh HNL];exact Nat.le_refl _)]at HO HN
     go_wp2_with fail
     go_roundw
     case rel=>exact⟨p+1,mo,cp,ad,gn,by omega,by go_num,rfl,rfl,HO,HN,HG,HK⟩
     case measure=>simp[intOf];omega
  ·have hpE:p=S+1:=by omega
   subst hpE
   have hd:decide (((S+1:Nat):Int)<=(S:Int))=false:=decide_eq_false (by omega)
   have hdn:decide (S+1<=S)=false:=by simp
   have hd2:decide ((S:Int)+1<=(S:Int))=false:=decide_eq_false (by omega)
   have hBl:=uh HB S nl
   rw[qTo y.c LL S nl (by rw[uh HNL];exact Nat.le_refl _)]at hBl
   have HDD:=hide (show qFv y.c LL=(qCi y.c LL (S+1)).1++[(qCi y.c LL (S+1)).2.1,(qCi y.c LL (S+1)).2.2] by unfold qFv;rw[show y.c.size.toNat=S by omega])
   have hzo:=(uh HK).size
   go_wp2_with (at_builtin;refine qBc rfl _ _ rfl W2.heap.size (.slice ad mo cp) (qCi y.c LL (S+1)).1.length (qCi y.c LL (S+1)).1 rfl (uh HO) gn 2 [(qCi y.c LL (S+1)).2.1,(qCi y.c LL (S+1)).2.2] rfl rfl (uh HN) (by omega) (by omega) (by omega) ?_;intro g2 c2 W5 hown2 hk3 hat2)
   go_ret
   refine⟨_,rfl,?_,?_⟩
   ·rw[uh HLL,uh HDD,List.length_append]
    exact qLv hown2 hz2
   ·exact(uh HK2).then ((uh HK).trans hk3 (λj hj hlt=>by have:=((uh HO).lt j hj).1;omega))
end
end Go.Proofs.YtahnliehdjncdaaGreatDoor
