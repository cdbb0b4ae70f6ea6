import Derived.Test.YtahnliehdjncdaaGreatDoorXAS
import Derived.Test.YtahnliehdjncdaaGreatDoorXBN
import Derived.Test.YtahnliehdjncdaaGreatDoorXBG
set_option maxRecDepth 100000
set_option maxHeartbeats 16000000
namespace Go.Proofs.YtahnliehdjncdaaGreatDoor
section
open Go.RowKit
theorem qJ1{w:World}{base:Nat}{v:Value}{l:List Int}(h:w.ownsRow base 3 1 v l.length (qAs l)): ∃a cap,v=.slice a l.length cap/\(0<l.length->∃g,a=some ⟨g,0,none⟩/\∀i,i<l.length->w.cell? ⟨g,i,none⟩=some (.int .i64 (l.getD i 0))):=by
 rcases qIm h with ⟨h1,h2⟩ | ⟨g,cap,h1,h2⟩
 ·exact⟨none,0,by rw[h2,h1],λh=>by omega⟩
 ·refine⟨_,cap,h1,λ_=>⟨g,rfl,λi hi=>h2 i _ ?_⟩⟩
  unfold qAs
  rw[List.getElem?_map,List.getElem?_eq_getElem hi,List.getD_eq_getElem?_getD,List.getElem?_eq_getElem hi]
  rfl
structure KnRep (w:World) (kn:Nat) (m acc rel:Int) (nv:Value) (ns:List Int):Prop where
 blk:Blk w kn (qFj m acc rel nv) 181
 row:w.ownsRow (kn+1) 3 1 nv ns.length (qAs ns)
theorem KnRep.keeps{M:Nat->Prop}{w w':World}{kn:Nat}{m acc rel:Int}{nv:Value}{ns:List Int}(h:KnRep w kn m acc rel nv ns)(hk:Keeps M w w')(h1:¬M kn)(h2:∀i,nv.ownBlock=some i->¬M i): KnRep w' kn m acc rel nv ns :=
 ⟨h.blk.keeps hk h1,qLg h.row hk h2⟩
theorem qW0(v:Value)(base:Nat)(l:List Int)(n:Int)(w:World)(h:w.ownsRow base 3 1 v l.length (qAs l))(hl:l.length<=1000):
  Calls Tryz.prog 235 #[v,.int .i64 n] w λe w'=>∃i:Int,e=.returned (.int .i64 i)/\w'=w/\(0<=i↔n∈l):=by
 obtain⟨a,cap,hv,hc⟩:=qJ1 h
 obtain⟨m,hm⟩:∃m,l.length=m:=⟨_,rfl⟩
 rw[hm]at hv hl
 subst hv
 have HC:=hide hc
 have HM:=hide hm
 clear h hc hm
 go_enter Tryz.func235,Tryz.ntmps235
 go_wp2
 go_loopw [8] (λiv wr=>∃i:Nat,i<=m/\iv=.int .i64 i/\wr=w/\Hid (n ∉ l.take i)) (λiv _=>m-(intOf iv).toNat)
 case atStart=>exact⟨0,by omega,rfl,rfl,by show n ∉ l.take 0;simp⟩
 case round =>
  obtain⟨i,hi,rfl,rfl,HT⟩:=hrel
  by_cases him:i<m
  ·obtain⟨g,hg,hcell⟩:=uh HC (by rw[uh HM];omega)
   subst hg
   have hil:i<l.length:=by rw[uh HM];exact him
   have hci:=hcell i hil
   have hmem:l.getD i 0∈l:=by rw[List.getD_eq_getElem?_getD,List.getElem?_eq_getElem hil];exact List.getElem_mem hil
   have htk:l.take (i+1)=l.take i++[l.getD i 0]:=by
    rw[List.take_add_one,List.getElem?_eq_getElem hil,List.getD_eq_getElem?_getD,List.getElem?_eq_getElem hil];rfl
   have HTK:=hide htk
   have HME:=hide hmem
   clear htk hmem
   generalize l.getD i 0=x at *
   have hi0:(0:Int)<=(i:Int):=by omega
   have hi1:(i:Int)<(m:Int):=by omega
   clear hcell hil
   cases hb:(n==x) with
   | false =>
    go_wp2
    go_roundw
    case rel =>
     refine⟨i+1,by omega,by go_num,by trivial,?_⟩
     show n ∉ l.take (i+1)
     rw[uh HTK]
     intro hm
     rcases List.mem_append.1 hm with hm | hm
     ·exact uh HT hm
     ·rw[List.mem_singleton]at hm;rw[hm]at hb;simp at hb
    case measure=>simp[intOf];omega
   | true =>
    have HE:=hide (show n=x by simpa using hb)
    go_wp2
    go_ret
    exact⟨(i:Int),rfl,rfl,⟨λ_=>by rw[uh HE];exact uh HME,λ_=>by omega⟩⟩
  ·have hie:i=m:=by omega
   subst hie
   have hf:decide ((i:Int)<(i:Int))=false:=by simp
   have HNL:=hide (show n ∉ l by have:=uh HT;rwa [List.take_of_length_le (by rw[uh HM];exact Nat.le_refl _)]at this)
   go_wp2
   go_ret
   exact⟨-1,rfl,rfl,⟨λh=>by omega,λh=>absurd h (uh HNL)⟩⟩
theorem qQo(v:Value)(base:Nat)(l:List Int)(n:Int)(w:World)(h:w.ownsRow base 3 1 v l.length (qAs l))(hl:l.length<=1000):
  Calls Tryz.prog 192 #[v,.int .i64 n] w λe w'=>e=.returned (.bool (decide (n∈l)))/\w'=w:=by
 have HI:=hide (qW0 v base l n w h hl)
 clear h
 go_enter Tryz.func192,Tryz.ntmps192
 go_wp2_with fail
 refine(uh HI).mono ?_
 rintro e w1 ⟨i,rfl,hw1,hiff⟩
 rw[hw1]
 clear hw1 w1
 have HIFF:=hide hiff
 clear hiff
 by_cases h0:0<=i
 ·have HD:=hide (show decide (n∈l)=true by simpa using(uh HIFF).1 h0)
  go_wp2
  go_ret
  exact⟨by rw[uh HD];rfl,rfl⟩
 ·have HD:=hide (show decide (n∈l)=false by simpa using(λh=>h0 ((uh HIFF).2 h)))
  have hd:decide (0<=i)=false:=by simpa using h0
  go_wp2
  go_ret
  exact⟨by rw[uh HD];rfl,rfl⟩
def knR(acc:Int)(ns:List Int)(st:Option (List Nat)): Int×Option (List Nat):=((qAr 1 acc st).1,qEv (!decide ((qAr 1 acc st).1∈ns)) (qAr 1 acc st).2)
theorem qJa(r kn:Nat)(m acc rel:Int)(nv:Value)(ns:List Int)(st:Option (List Nat))(w:World)(h:RdS w r st)(hk:KnRep w kn m acc rel nv ns)(hkr:r<kn)(hl:ns.length<=900):
  Calls Tryz.prog 151 #[.pointer (some ⟨kn,0,none⟩),.pointer (some ⟨r,0,none⟩)] w λe w'=>e=.returned (.int .i64 (knR acc ns st).1)/\RdS w' r (knR acc ns st).2/\(∃nv',KnRep w' kn m acc rel nv' (ns++[(knR acc ns st).1])/\(∀i,nv'.ownBlock=some i->nv.ownBlock=some i\/w.heap.size<=i))/\Keeps (λi=>i=r\/i=kn\/nv.ownBlock=some i) w w':=by
 have HK:=hide hk
 have k1:w.cell? ⟨kn,1,none⟩=some (.int .i64 acc):=hk.blk.cell rfl
 have HN:=hide (qBy r 1 acc st w h)
 have hb:=λi hi=>(hk.row.lt i hi).1
 have HBN:=hide (show ∀i,nv.ownBlock=some i->kn+1<=i from hb)
 clear h hk hb
 unfold knR
 generalize qAr 1 acc st=q0 at *
 obtain⟨n,st1⟩:=q0
 simp only at *
 go_enter Tryz.func151,Tryz.ntmps151
 go_wp2_with fail
 refine(uh HN).mono ?_
 rintro e w0 ⟨rfl,hr0,hk0⟩
 have HR0:=hide hr0
 have HK0:=hide hk0
 have HQ0:=hide ((uh HK).keeps hk0 (show ¬(kn=r) by omega) (λi hi=>show ¬(i=r) by have:=uh HBN i hi;omega))
 have k3:w0.cell? ⟨kn,3,none⟩=some nv:=(uh HQ0).blk.cell rfl
 clear hr0 hk0 k1 HN
 go_wp2_with fail
 refine(qQo nv (kn+1) ns n w0 (uh HQ0).row (by omega)).mono ?_
 rintro e w2 ⟨rfl,hw2⟩
 rw[hw2]
 clear hw2 w2 k3
 obtain⟨cb,hcb⟩:∃cb,decide (n∈ns)=cb:=⟨_,rfl⟩
 rw[hcb]
 have HCB:=hide hcb
 clear hcb
 go_wp2_with fail
 refine(qCy r (!cb) st1 w0 (uh HR0)).mono ?_
 rintro e w1 ⟨rfl,hr1,hk1⟩
 have HR1:=hide hr1
 have HQ1:=hide ((uh HQ0).keeps hk1 (show ¬(kn=r) by omega) (λi hi=>show ¬(i=r) by have:=uh HBN i hi;omega))
 have HK1:=hide ((uh HK0).then hk1)
 have k3:w1.cell? ⟨kn,3,none⟩=some nv:=(uh HQ1).blk.cell rfl
 clear hr1 hk1 HR0 HQ0 HK0
 obtain⟨a,cap,hv,_⟩:=qJ1 (uh HQ1).row
 obtain⟨q,hq⟩:∃q,ns.length=q:=⟨_,rfl⟩
 rw[hq]at hv hl
 subst hv
 have hklt:=(uh HQ1).blk.lt
 have HROW:=hide (show w1.ownsRow (kn+1) 3 1 (.slice a q cap) q (qAs ns) by have:=(uh HQ1).row;rw[hq]at this;exact this)
 have HQL:=hide hq
 have HBA:=hide ((uh HQ1).blk.alloc (.cells #[.int .i64 n] 3))
 clear hq
 go_wp2_with (at_builtin;refine qBd rfl _ _ rfl (kn+1) (.slice a q cap) q ns rfl (by exact qCa (uh HROW) ((Keeps.refl (λ_=>False) w1).alloc _) (λ_ _ h=>h)) w1.heap.size 1 [n] rfl rfl (by exact Blk.new w1 [.int .i64 n] 3) (by omega) (by omega) (by simp;omega) ?_;intro g2 c2 w3 hown3 hk3 hat3;have hB3:=(uh HBA).keeps hk3 (λh=>by have:=uh HBN kn h;omega);have hc3:=hB3.cell (i:=3) rfl;have hf3:=hB3.frozen)
 have hgk:g2≠kn:=by
  rcases hat3 with h | h
  ·have:=uh HBN g2 h;omega
  ·simp at h;omega
 have hs1:=(uh HK1).size
 have hk4:Keeps (λi=>i=kn) w3 (w3.setCell ⟨kn,3,none⟩ (.slice (some ⟨g2,0,none⟩) (q+1) c2)):=(Keeps.refl (λi=>i=kn) w3).setCell (p:=⟨kn,3,none⟩) (Or.inl rfl) _
 have HB4:=hide (hB3.setCell 3 (.slice (some ⟨g2,0,none⟩) (q+1) c2))
 have HO4:=hide (qLg hown3 hk4 (λi hi=>show ¬(i=kn) by have h2:g2=i:=(by simpa[Value.ownBlock] using hi);omega))
 have hk13:Keeps (λi=>(Value.slice a q cap).ownBlock=some i) w1 w3:=((Keeps.refl _ w1).alloc _).then hk3
 have HR4:=hide (((uh HR1).keeps hk13 (λh=>by have:=uh HBN r h;omega)).keeps hk4 (show ¬(r=kn) by omega))
 have HK4:=hide (show Keeps (λi=>i=r\/i=kn\/(Value.slice a q cap).ownBlock=some i) w (w3.setCell ⟨kn,3,none⟩ (.slice (some ⟨g2,0,none⟩) (q+1) c2)) from(((uh HK1).mono (λ_ _ h=>.inl h)).trans hk13 (λi hi _=>.inr (.inr hi))).trans hk4 (λi hi _=>.inr (.inl hi)))
 have HAT:=hide (show ∀i,(Value.slice (some ⟨g2,0,none⟩) (q+1) c2).ownBlock=some i->(Value.slice a q cap).ownBlock=some i\/w.heap.size<=i from λi hi=>by
    have h2:g2=i:=by simpa[Value.ownBlock] using hi
    subst h2
    rcases hat3 with h | h
    ·exact .inl h
    ·simp at h;exact .inr (by omega))
 clear hB3 hown3 hk3 hat3 hk4 hk13
 go_wp2
 go_ret
 exact⟨rfl,by rw[uh HCB];exact uh HR4,⟨_,⟨uh HB4,by rw[List.length_append,List.length_singleton,uh HQL];exact uh HO4⟩,uh HAT⟩,uh HK4⟩
def zBa(rel:Int)(st:Option (List Nat)): (Int×Int)×Option (List Nat) :=
 let q:=qAr 0 rel st
 let e:=qAr 0 2305843009213693951 q.2
 ((q.1,e.1),qEv (decide (0<q.1)||decide (rel<=e.1)) (qEv (decide (q.1<rel)||e.1==0) e.2))
theorem qTg(a b:Bool): (a=true/\(a||b)=true)\/(a=false/\b=true/\(a||b)=true)\/(a=false/\b=false/\(a||b)=false):=by
 cases a <;> cases b <;> simp
theorem qS7(d r kn:Nat)(c:Cfg)(m acc rel:Int)(nv:Value)(st:Option (List Nat))(w:World)(hb:Blk w d (qCw c 0 0) 198)(h:RdS w r st)(hk:Blk w kn (qFj m acc rel nv) 181)(hdr:d≠r)(hkr:kn≠r)(hkd:kn≠d):
  Calls Tryz.prog 180 #[.pointer (some ⟨d,0,none⟩),.pointer (some ⟨r,0,none⟩),.pointer (some ⟨kn,0,none⟩)] w λx w'=>x=.returned (.tuple #[])/\Blk w' d (qCw c (zBa rel st).1.1 (zBa rel st).1.2) 198/\RdS w' r (zBa rel st).2/\Keeps (λi=>i=r\/i=d) w w':=by
 have HB:=hide hb
 have HK:=hide hk
 have k2:w.cell? ⟨kn,2,none⟩=some (.int .i64 rel):=hk.cell rfl
 have HN:=hide (qBy r 0 rel st w h)
 unfold zBa
 generalize qAr 0 rel st=q0 at *
 obtain⟨q,st1⟩:=q0
 simp only at *
 have HNE:=hide (λw=>qBy r 0 2305843009213693951 st1 w)
 generalize qAr 0 2305843009213693951 st1=e0 at *
 obtain⟨e,st2⟩:=e0
 simp only at *
 have HG1:=hide (qTg (decide (q<rel)) (e==0))
 have HG2:=hide (qTg (decide (0<q)) (decide (rel<=e)))
 obtain⟨B1,hB1⟩:∃B1,(decide (q<rel)||e==0)=B1:=⟨_,rfl⟩
 obtain⟨B2,hB2⟩:∃B2,(decide (0<q)||decide (rel<=e))=B2:=⟨_,rfl⟩
 rw[hB1]at HG1 ⊢
 rw[hB2]at HG2 ⊢
 clear hB1 hB2
 have HC:=hide (show ∀W n,Calls Tryz.prog 148 #[.pointer (some ⟨r,0,none⟩),.bool true] (World.drewN W n) λe w''=>e=.returned (.tuple #[])/\w''=World.drewN W n from λW n=>qHv r _)
 obtain⟨st3,hst3⟩:∃st3,qEv B1 st2=st3:=⟨_,rfl⟩
 rw[hst3]
 obtain⟨st4,hst4⟩:∃st4,qEv B2 st3=st4:=⟨_,rfl⟩
 rw[hst4]
 have H4:=hide hst4
 have HCK:=hide (show ∀B w,B1=B->RdS w r st2->Calls Tryz.prog 148 #[.pointer (some ⟨r,0,none⟩),.bool B] w λe w'=>e=.returned (.tuple #[])/\RdS w' r st3/\Keeps (λi=>i=r) w w' from λB w hB h=>by subst hB;rw[<-hst3];exact qCy r _ st2 w h)
 have HS3:=hide (show B1=true->st2=st3 from λh=>by rw[<-hst3,h];rfl)
 clear hst3 hst4
 clear h hb hk
 go_enter Tryz.func180,Tryz.ntmps180
 go_wp2_with fail
 refine(uh HN).mono ?_
 rintro x w1 ⟨rfl,hr1,hk1⟩
 have HB1:=hide ((uh HB).keeps hk1 hdr)
 have HK1:=hide ((uh HK).keeps hk1 hkr)
 have hd20:w1.cell? ⟨d,20,none⟩=some (.int .i64 0):=(uh HB1).cell rfl
 have hf1:=(uh HB1).frozen
 have HB2:=hide (show Blk (w1.setCell ⟨d,20,none⟩ (.int .i64 q)) d (qCw c q 0) 198 from(uh HB1).setCell 20 (.int .i64 q))
 have HR2:=hide (hr1.keeps ((Keeps.refl (λi=>i=d) w1).setCell (p:=⟨d,20,none⟩) (Or.inl rfl) (.int .i64 q)) (λh=>hdr h.symm))
 have HK2:=hide ((uh HK1).setCell_far (p:=⟨d,20,none⟩) (λh=>hkd h.symm) (.int .i64 q))
 have HP2:=hide (show Keeps (λi=>i=r\/i=d) w (w1.setCell ⟨d,20,none⟩ (.int .i64 q)) from(hk1.mono (λ_ _ h=>.inl h)).setCell (p:=⟨d,20,none⟩) (Or.inl (.inr rfl)) _)
 clear hr1 hk1 k2 HN HB HK
 go_wp2_with fail
 clear hd20 hf1
 generalize w1.setCell ⟨d,20,none⟩ (.int .i64 q)=w2 at *
 refine(uh HNE w2 (uh HR2)).mono ?_
 rintro x w3 ⟨rfl,hr3,hk3⟩
 have HB3:=hide ((uh HB2).keeps hk3 hdr)
 have HK3:=hide ((uh HK2).keeps hk3 hkr)
 have hd21:w3.cell? ⟨d,21,none⟩=some (.int .i64 0):=(uh HB3).cell rfl
 have hf3:=(uh HB3).frozen
 have HB4:=hide (show Blk (w3.setCell ⟨d,21,none⟩ (.int .i64 e)) d (qCw c q e) 198 from(uh HB3).setCell 21 (.int .i64 e))
 have HR4:=hide (hr3.keeps ((Keeps.refl (λi=>i=d) w3).setCell (p:=⟨d,21,none⟩) (Or.inl rfl) (.int .i64 e)) (λh=>hdr h.symm))
 have HK4:=hide ((uh HK3).setCell_far (p:=⟨d,21,none⟩) (λh=>hkd h.symm) (.int .i64 e))
 have HP4:=hide (show Keeps (λi=>i=r\/i=d) w (w3.setCell ⟨d,21,none⟩ (.int .i64 e)) from((uh HP2).trans hk3 (λ_ h _=>.inl h)).setCell (p:=⟨d,21,none⟩) (Or.inl (.inr rfl)) _)
 clear hr3 hk3 HB2 HR2 HK2 HP2
 go_wp2_with fail
 clear hd21 hf3
 generalize w3.setCell ⟨d,21,none⟩ (.int .i64 e)=w4 at *
 have a1:w4.cell? ⟨d,20,none⟩=some (.int .i64 q):=(uh HB4).cell rfl
 have a2:w4.cell? ⟨d,21,none⟩=some (.int .i64 e):=(uh HB4).cell rfl
 have a3:w4.cell? ⟨kn,2,none⟩=some (.int .i64 rel):=(uh HK4).cell rfl
 rcases uh HG1 with ⟨g1,gb⟩ | ⟨g1,g1',gb⟩ | ⟨g1,g1',gb⟩
 case' inl =>
  clear HG1
  go_quiet (first | (go_at_call 148;refine Calls.quiet_of_same (uh HC w4 _)))
  have HB5:=hide (show Blk (w4.drewN nq) d (qCw c q e) 198 from uh HB4)
  have HK5:=hide ((uh HK4).keeps (Keeps.drewN (λ_=>False) w4 nq) (λh=>h))
  have HR5:=hide (show RdS (w4.drewN nq) r st3 from(uh HS3 gb) ▸ (uh HR4).keeps (Keeps.drewN (λ_=>False) w4 nq) (λh=>h))
  have HP5:=hide ((uh HP4).trans (Keeps.drewN (λ_=>False) w4 nq) (λ_ h _=>h.elim))
  generalize w4.drewN nq=w5 at *
 case' inr.inl =>
  clear HG1
  go_quiet (first | (go_at_call 148;refine Calls.quiet_of_same (uh HC w4 _)))
  have HB5:=hide (show Blk (w4.drewN nq) d (qCw c q e) 198 from uh HB4)
  have HK5:=hide ((uh HK4).keeps (Keeps.drewN (λ_=>False) w4 nq) (λh=>h))
  have HR5:=hide (show RdS (w4.drewN nq) r st3 from(uh HS3 gb) ▸ (uh HR4).keeps (Keeps.drewN (λ_=>False) w4 nq) (λh=>h))
  have HP5:=hide ((uh HP4).trans (Keeps.drewN (λ_=>False) w4 nq) (λ_ h _=>h.elim))
  generalize w4.drewN nq=w5 at *
 case' inr.inr =>
  clear HG1
  have HGB:=hide gb
  clear gb
  go_region_held3 (λw'=>w'.cell? ⟨d,20,none⟩=some (.int .i64 q)/\w'.cell? ⟨d,21,none⟩=some (.int .i64 e)/\w'.cell? ⟨kn,2,none⟩=some (.int .i64 rel))
   (first | (simp[*];done) | (go_split_ands;exact⟨hk5.cell (by assumption) (λh=>hdr h),hk5.cell (by assumption) (λh=>hdr h),hk5.cell (by assumption) (λh=>hkr h)⟩))
   (first | (go_at_call 148;refine(uh HCK _ _ (uh HGB) (by exact(uh HR4).keeps (Keeps.refl (λ_=>False) w4).drew (λh=>h))).mono ?_;rintro x w5 ⟨rfl,hr5,hk5⟩))
  rename_i hHeld
  clear hHeld
  have HB5:=hide (((uh HB4).keeps (Keeps.refl (λ_=>False) w4).drew (λh=>h)).keeps hk5 (λh=>hdr h))
  have HK5:=hide (((uh HK4).keeps (Keeps.refl (λ_=>False) w4).drew (λh=>h)).keeps hk5 (λh=>hkr h))
  have HR5:=hide hr5
  have HP5:=hide (((uh HP4).trans (Keeps.refl (λ_=>False) w4).drew (λ_ h _=>h.elim)).trans hk5 (λ_ h _=>.inl h))
  clear hr5 hk5
 all_goals
  clear a1 a2 a3 HB4 HK4 HR4 HP4 g1 HCK HS3
  have a1:w5.cell? ⟨d,20,none⟩=some (.int .i64 q):=(uh HB5).cell rfl
  have a2:w5.cell? ⟨d,21,none⟩=some (.int .i64 e):=(uh HB5).cell rfl
  have a3:w5.cell? ⟨kn,2,none⟩=some (.int .i64 rel):=(uh HK5).cell rfl
  go_wp2_with fail
  rcases uh HG2 with ⟨g2,gb⟩ | ⟨g2,g2',gb⟩ | ⟨g2,g2',gb⟩
  case inl =>
   go_quiet (first | (go_at_call 148;refine Calls.quiet_of_same (uh HC w5 _)))
   go_wp2
   go_end0
   exact⟨rfl,uh HB5,by rw[<-uh H4,gb];exact(uh HR5).keeps (Keeps.drewN (λ_=>False) w5 _) (λh=>h),(uh HP5).trans (Keeps.drewN (λ_=>False) w5 _) (λ_ h _=>h.elim)⟩
  case inr.inl =>
   go_quiet (first | (go_at_call 148;refine Calls.quiet_of_same (uh HC w5 _)))
   go_wp2
   go_end0
   exact⟨rfl,uh HB5,by rw[<-uh H4,gb];exact(uh HR5).keeps (Keeps.drewN (λ_=>False) w5 _) (λh=>h),(uh HP5).trans (Keeps.drewN (λ_=>False) w5 _) (λ_ h _=>h.elim)⟩
  case inr.inr =>
   have HGB2:=hide gb
   clear gb
   go_region_held3 (λw'=>w'.cell? ⟨d,20,none⟩=some (.int .i64 q)/\w'.cell? ⟨d,21,none⟩=some (.int .i64 e)/\w'.cell? ⟨kn,2,none⟩=some (.int .i64 rel))
    (first | (simp[*];done) | (go_split_ands;exact⟨hk6.cell (by assumption) (λh=>hdr h),hk6.cell (by assumption) (λh=>hdr h),hk6.cell (by assumption) (λh=>hkr h)⟩))
    (first | (go_at_call 148;refine(qCy r _ _ _ (by exact(uh HR5).keeps (Keeps.refl (λ_=>False) w5).drew (λh=>h))).mono ?_;rintro x w6 ⟨rfl,hr6,hk6⟩))
   rename_i hHeld
   clear hHeld
   have HB6:=hide (((uh HB5).keeps (Keeps.refl (λ_=>False) w5).drew (λh=>h)).keeps hk6 (λh=>hdr h))
   have HP6:=hide (((uh HP5).trans (Keeps.refl (λ_=>False) w5).drew (λ_ h _=>h.elim)).trans hk6 (λ_ h _=>.inl h))
   have HR6:=hide hr6
   clear hr6 hk6 a1 a2 a3
   go_wp2
   go_end0
   exact⟨rfl,uh HB6,by rw[<-uh H4,uh HGB2];exact uh HR6,uh HP6⟩
end
end Go.Proofs.YtahnliehdjncdaaGreatDoor
