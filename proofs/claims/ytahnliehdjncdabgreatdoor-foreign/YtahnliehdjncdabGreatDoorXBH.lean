import Derived.Test.YtahnliehdjncdabGreatDoorXBG
import Derived.Test.YtahnliehdjncdabGreatDoorXAJ
import Derived.Test.YtahnliehdjncdabGreatDoorXAZ
import Derived.Test.YtahnliehdjncdabGreatDoorXAN
import Derived.Test.YtahnliehdjncdabGreatDoorXAY
set_option maxRecDepth 100000
set_option maxHeartbeats 16000000
namespace Go.Proofs.YtahnliehdjncdabGreatDoor
section
open Go.RowKit
def qXc(rel:Int)(st:Option (List Nat)): (Int×Int)×Option (List Nat) :=
 let q:=qAs 0 rel st
 let e:=qAs 0 2305843009213693951 q.2
 ((q.1,e.1),qEm (decide (0<q.1)||decide (rel<=e.1)) (qEm (decide (q.1<rel)||e.1==0) e.2))
theorem qWi(a b:Bool): (a=true/\(a||b)=true)\/(a=false/\b=true/\(a||b)=true)\/(a=false/\b=false/\(a||b)=false):=by
 cases a <;> cases b <;> simp
theorem qU0(d r kn:Nat)(c:Cfg)(m acc rel:Int)(nv:Value)(st:Option (List Nat))(w:World)(hb:Blk w d (qDc c 0 0) 201)(h:RdS w r st)(hk:Blk w kn (qGb m acc rel nv) 184)(hdr:d≠r)(hkr:kn≠r)(hkd:kn≠d):
  Calls Tryz.prog 167 #[.pointer (some ⟨d,0,none⟩),.pointer (some ⟨r,0,none⟩),.pointer (some ⟨kn,0,none⟩)] w λx w'=>x=.returned (.tuple #[])/\Blk w' d (qDc c (qXc rel st).1.1 (qXc rel st).1.2) 201/\RdS w' r (qXc rel st).2/\Keeps (λi=>i=r\/i=d) w w':=by
 have HB:=hide hb;have HK:=hide hk;have k2:w.cell? ⟨kn,2,none⟩=some (.int .i64 rel):=hk.cell rfl;have HN:=hide (qCd r 0 rel st w h);unfold qXc;generalize qAs 0 rel st=q0 at *;obtain⟨q,st1⟩:=q0;simp only at *;have HNE:=hide (λw=>qCd r 0 2305843009213693951 st1 w);generalize qAs 0 2305843009213693951 st1=e0 at *;obtain⟨e,st2⟩:=e0;simp only at *;have HG1:=hide (qWi (decide (q<rel)) (e==0));have HG2:=hide (qWi (decide (0<q)) (decide (rel<=e)));obtain⟨B1,hB1⟩:∃B1,(decide (q<rel)||e==0)=B1:=⟨_,rfl⟩;obtain⟨B2,hB2⟩:∃B2,(decide (0<q)||decide (rel<=e))=B2:=⟨_,rfl⟩;rw[hB1]at HG1 ⊢;rw[hB2]at HG2 ⊢;clear hB1 hB2;have HC:=hide (show ∀W n,Calls Tryz.prog 135 #[.pointer (some ⟨r,0,none⟩),.bool true] (World.drewN W n) λe w''=>e=.returned (.tuple #[])/\w''=World.drewN W n from λW n=>qJb r _);obtain⟨st3,hst3⟩:∃st3,qEm B1 st2=st3:=⟨_,rfl⟩;rw[hst3];obtain⟨st4,hst4⟩:∃st4,qEm B2 st3=st4:=⟨_,rfl⟩;rw[hst4];have H4:=hide hst4;have HCK:=hide (show ∀B w,B1=B->RdS w r st2->Calls Tryz.prog 135 #[.pointer (some ⟨r,0,none⟩),.bool B] w λe w'=>e=.returned (.tuple #[])/\RdS w' r st3/\Keeps (λi=>i=r) w w' from λB w hB h=>by subst hB;rw[<-hst3];exact qDi r _ st2 w h);have HS3:=hide (show B1=true->st2=st3 from λh=>by rw[<-hst3,h];rfl);clear hst3 hst4;clear h hb hk;go_enter Tryz.func167,Tryz.ntmps167
 go_wp2_with fail
 refine(uh HN).mono ?_;rintro x w1 ⟨rfl,hr1,hk1⟩;have HB1:=hide ((uh HB).keeps hk1 hdr);have HK1:=hide ((uh HK).keeps hk1 hkr);have hd20:w1.cell? ⟨d,20,none⟩=some (.int .i64 0):=(uh HB1).cell rfl;have hf1:=(uh HB1).frozen;have HB2:=hide (show Blk (w1.setCell ⟨d,20,none⟩ (.int .i64 q)) d (qDc c q 0) 201 from(uh HB1).setCell 20 (.int .i64 q));have HR2:=hide (hr1.keeps ((Keeps.refl (λi=>i=d) w1).setCell (p:=⟨d,20,none⟩) (Or.inl rfl) (.int .i64 q)) (λh=>hdr h.symm));have HK2:=hide ((uh HK1).setCell_far (p:=⟨d,20,none⟩) (λh=>hkd h.symm) (.int .i64 q));have HP2:=hide (show Keeps (λi=>i=r\/i=d) w (w1.setCell ⟨d,20,none⟩ (.int .i64 q)) from(hk1.mono (λ_ _ h=>.inl h)).setCell (p:=⟨d,20,none⟩) (Or.inl (.inr rfl)) _);clear hr1 hk1 k2 HN HB HK;go_wp2_with fail
 clear hd20 hf1;generalize w1.setCell ⟨d,20,none⟩ (.int .i64 q)=w2 at *;refine(uh HNE w2 (uh HR2)).mono ?_;rintro x w3 ⟨rfl,hr3,hk3⟩;have HB3:=hide ((uh HB2).keeps hk3 hdr);have HK3:=hide ((uh HK2).keeps hk3 hkr);have hd21:w3.cell? ⟨d,21,none⟩=some (.int .i64 0):=(uh HB3).cell rfl;have hf3:=(uh HB3).frozen;have HB4:=hide (show Blk (w3.setCell ⟨d,21,none⟩ (.int .i64 e)) d (qDc c q e) 201 from(uh HB3).setCell 21 (.int .i64 e));have HR4:=hide (hr3.keeps ((Keeps.refl (λi=>i=d) w3).setCell (p:=⟨d,21,none⟩) (Or.inl rfl) (.int .i64 e)) (λh=>hdr h.symm));have HK4:=hide ((uh HK3).setCell_far (p:=⟨d,21,none⟩) (λh=>hkd h.symm) (.int .i64 e));have HP4:=hide (show Keeps (λi=>i=r\/i=d) w (w3.setCell ⟨d,21,none⟩ (.int .i64 e)) from((uh HP2).trans hk3 (λ_ h _=>.inl h)).setCell (p:=⟨d,21,none⟩) (Or.inl (.inr rfl)) _);clear hr3 hk3 HB2 HR2 HK2 HP2;go_wp2_with fail
 clear hd21 hf3;generalize w3.setCell ⟨d,21,none⟩ (.int .i64 e)=w4 at *;have a1:w4.cell? ⟨d,20,none⟩=some (.int .i64 q):=(uh HB4).cell rfl;have a2:w4.cell? ⟨d,21,none⟩=some (.int .i64 e):=(uh HB4).cell rfl;have a3:w4.cell? ⟨kn,2,none⟩=some (.int .i64 rel):=(uh HK4).cell rfl;rcases uh HG1 with ⟨g1,gb⟩ | ⟨g1,g1',gb⟩ | ⟨g1,g1',gb⟩
 case' inl =>
  clear HG1;go_quiet (first | (go_at_call 135;refine Calls.quiet_of_same (uh HC w4 _)))
  have HB5:=hide (show Blk (w4.drewN nq) d (qDc c q e) 201 from uh HB4);have HK5:=hide ((uh HK4).keeps (Keeps.drewN (λ_=>False) w4 nq) (λh=>h));have HR5:=hide (show RdS (w4.drewN nq) r st3 from(uh HS3 gb) ▸ (uh HR4).keeps (Keeps.drewN (λ_=>False) w4 nq) (λh=>h));have HP5:=hide ((uh HP4).trans (Keeps.drewN (λ_=>False) w4 nq) (λ_ h _=>h.elim));generalize w4.drewN nq=w5 at *
 case' inr.inl =>
  clear HG1;go_quiet (first | (go_at_call 135;refine Calls.quiet_of_same (uh HC w4 _)))
  have HB5:=hide (show Blk (w4.drewN nq) d (qDc c q e) 201 from uh HB4);have HK5:=hide ((uh HK4).keeps (Keeps.drewN (λ_=>False) w4 nq) (λh=>h));have HR5:=hide (show RdS (w4.drewN nq) r st3 from(uh HS3 gb) ▸ (uh HR4).keeps (Keeps.drewN (λ_=>False) w4 nq) (λh=>h));have HP5:=hide ((uh HP4).trans (Keeps.drewN (λ_=>False) w4 nq) (λ_ h _=>h.elim));generalize w4.drewN nq=w5 at *
 case' inr.inr =>
  clear HG1;have HGB:=hide gb;clear gb;go_region_held3 (λw'=>w'.cell? ⟨d,20,none⟩=some (.int .i64 q)/\w'.cell? ⟨d,21,none⟩=some (.int .i64 e)/\w'.cell? ⟨kn,2,none⟩=some (.int .i64 rel))
   (first | (simp[*];done) | (go_split_ands;exact⟨hk5.cell (by assumption) (λh=>hdr h),hk5.cell (by assumption) (λh=>hdr h),hk5.cell (by assumption) (λh=>hkr h)⟩))
   (first | (go_at_call 135;refine(uh HCK _ _ (uh HGB) (by exact(uh HR4).keeps (Keeps.refl (λ_=>False) w4).drew (λh=>h))).mono ?_;rintro x w5 ⟨rfl,hr5,hk5⟩))
  rename_i hHeld;clear hHeld;have HB5:=hide (((uh HB4).keeps (Keeps.refl (λ_=>False) w4).drew (λh=>h)).keeps hk5 (λh=>hdr h));have HK5:=hide (((uh HK4).keeps (Keeps.refl (λ_=>False) w4).drew (λh=>h)).keeps hk5 (λh=>hkr h));have HR5:=hide hr5;have HP5:=hide (((uh HP4).trans (Keeps.refl (λ_=>False) w4).drew (λ_ h _=>h.elim)).trans hk5 (λ_ h _=>.inl h));clear hr5 hk5
 all_goals
  clear a1 a2 a3 HB4 HK4 HR4 HP4 g1 HCK HS3;have a1:w5.cell? ⟨d,20,none⟩=some (.int .i64 q):=(uh HB5).cell rfl;have a2:w5.cell? ⟨d,21,none⟩=some (.int .i64 e):=(uh HB5).cell rfl;have a3:w5.cell? ⟨kn,2,none⟩=some (.int .i64 rel):=(uh HK5).cell rfl;go_wp2_with fail
  rcases uh HG2 with ⟨g2,gb⟩ | ⟨g2,g2',gb⟩ | ⟨g2,g2',gb⟩
  case inl =>
   go_quiet (first | (go_at_call 135;refine Calls.quiet_of_same (uh HC w5 _)))
   go_wp2
   go_end0
   exact⟨rfl,uh HB5,by rw[<-uh H4,gb];exact(uh HR5).keeps (Keeps.drewN (λ_=>False) w5 _) (λh=>h),(uh HP5).trans (Keeps.drewN (λ_=>False) w5 _) (λ_ h _=>h.elim)⟩
  case inr.inl =>
   go_quiet (first | (go_at_call 135;refine Calls.quiet_of_same (uh HC w5 _)))
   go_wp2
   go_end0
   exact⟨rfl,uh HB5,by rw[<-uh H4,gb];exact(uh HR5).keeps (Keeps.drewN (λ_=>False) w5 _) (λh=>h),(uh HP5).trans (Keeps.drewN (λ_=>False) w5 _) (λ_ h _=>h.elim)⟩
  case inr.inr =>
   have HGB2:=hide gb;clear gb;go_region_held3 (λw'=>w'.cell? ⟨d,20,none⟩=some (.int .i64 q)/\w'.cell? ⟨d,21,none⟩=some (.int .i64 e)/\w'.cell? ⟨kn,2,none⟩=some (.int .i64 rel))
    (first | (simp[*];done) | (go_split_ands;exact⟨hk6.cell (by assumption) (λh=>hdr h),hk6.cell (by assumption) (λh=>hdr h),hk6.cell (by assumption) (λh=>hkr h)⟩))
    (first | (go_at_call 135;refine(qDi r _ _ _ (by exact(uh HR5).keeps (Keeps.refl (λ_=>False) w5).drew (λh=>h))).mono ?_;rintro x w6 ⟨rfl,hr6,hk6⟩))
   rename_i hHeld;clear hHeld;have HB6:=hide (((uh HB5).keeps (Keeps.refl (λ_=>False) w5).drew (λh=>h)).keeps hk6 (λh=>hdr h));have HP6:=hide (((uh HP5).trans (Keeps.refl (λ_=>False) w5).drew (λ_ h _=>h.elim)).trans hk6 (λ_ h _=>.inl h));have HR6:=hide hr6;clear hr6 hk6 a1 a2 a3;go_wp2
   go_end0
   exact⟨rfl,uh HB6,by rw[<-uh H4,uh HGB2];exact uh HR6,uh HP6⟩
structure CR where
 tm:Int
 it:Int
 l:List Bk
 st:Option (List Nat)
def bkR(m rel P:Int): Nat->CR->CR
 | 0,s=>s
 | q+1,s=>bkR m rel P q ⟨(qAs s.tm m s.st).1,IntKind.i64.wrap (s.it+P),s.l++[⟨P,(qAs s.tm m s.st).1⟩],qEm (decide (IntKind.i64.wrap (s.it+P)<=rel)) (qAs s.tm m s.st).2⟩
def szR(K m rel:Int): Nat->Int->CR->CR
 | 0,_,s=>s
 | b+1,le,s=>szR K m rel b K (bkR m rel (2 ^ b) (qAs le (K+1) s.st).1.toNat ⟨s.tm,s.it,s.l,(qAs le (K+1) s.st).2⟩)
def qUh(K m rel:Int)(st:Option (List Nat)): List Bk×Option (List Nat) :=
 let s:=szR K m rel (qAs 0 62 st).1.toNat 1 ⟨0,0,[],(qAs 0 62 st).2⟩
 (s.l,s.st)
structure CG (w:World) (d rr r:Nat) (og:Option Nat) (c:Cfg) (l:List Bk) (st:Option (List Nat)) (og2:Option Nat) (wr:World):Prop where
 cr:CRep wr d rr og2 c l
 rd:RdS wr r st
 kp:Keeps (λi=>i=r\/i=rr\/og=some i) w wr
 fo:og2=og\/∃k,og2=some k/\w.heap.size<=k
 ap:d≠r/\rr≠r/\og≠some r/\r<w.heap.size
theorem CG.g{w:World}{d rr r:Nat}{og:Option Nat}{c:Cfg}{l:List Bk}{st:Option (List Nat)}{og2:Option Nat}{wr:World}(h:CG w d rr r og c l st og2 wr)(g:Nat)(hg:og2=some g): g≠r:=λe=>by
 rcases h.fo with f | ⟨k,f,hz⟩
 ·exact h.ap.2.2.1 (by rw[<-f,hg,e])
 ·rw[hg]at f
  have:=Option.some.inj f;have:=h.ap.2.2.2;omega
theorem CG.still{w:World}{d rr r:Nat}{og:Option Nat}{c:Cfg}{l:List Bk}{st:Option (List Nat)}{og2:Option Nat}{wr w2:World}(h:CG w d rr r og c l st og2 wr)(hk:Keeps (λ_=>False) wr w2): CG w d rr r og c l st og2 w2 :=
 ⟨h.cr.still hk,h.rd.keeps hk (λh=>h),h.kp.trans hk (λ_ h _=>h.elim),h.fo,h.ap⟩
theorem CG.reads{w:World}{d rr r:Nat}{og:Option Nat}{c:Cfg}{l:List Bk}{st st2:Option (List Nat)}{og2:Option Nat}{wr w2:World}(h:CG w d rr r og c l st og2 wr)(hr:RdS w2 r st2)(hk:Keeps (λi=>i=r) wr w2): CG w d rr r og c l st2 og2 w2 :=
 ⟨h.cr.keeps hk h.ap.1 h.ap.2.1 (λg hg=>h.g g hg),hr,h.kp.trans hk (λ_ h _=>.inl h),h.fo,h.ap⟩
theorem CG.number{w:World}{d rr r:Nat}{og:Option Nat}{c:Cfg}{l:List Bk}{st:Option (List Nat)}{og2:Option Nat}{wr:World}(h:CG w d rr r og c l st og2 wr)(lo hi n:Int)(st2:Option (List Nat))(he:qAs lo hi st=(n,st2)):
  Calls Tryz.prog 88 #[.pointer (some ⟨r,0,none⟩),.int .i64 lo,.int .i64 hi] wr λe w2=>e=.returned (.int .i64 n)/\CG w d rr r og c l st2 og2 w2:=by
 refine(qCd r lo hi st wr h.rd).mono ?_;rintro e w2 ⟨rfl,hr,hk⟩;rw[he]at hr ⊢;exact⟨rfl,h.reads hr hk⟩
theorem CG.check{w:World}{d rr r:Nat}{og:Option Nat}{c:Cfg}{l:List Bk}{st:Option (List Nat)}{og2:Option Nat}{wr:World}(h:CG w d rr r og c l st og2 wr)(b:Bool):
  Calls Tryz.prog 135 #[.pointer (some ⟨r,0,none⟩),.bool b] wr λe w2=>e=.returned (.tuple #[])/\CG w d rr r og c l (qEm b st) og2 w2:=by
 refine(qDi r b st wr h.rd).mono ?_;rintro e w2 ⟨rfl,hr,hk⟩;exact⟨rfl,h.reads hr hk⟩
theorem CG.put{w:World}{d rr r:Nat}{og:Option Nat}{c:Cfg}{l:List Bk}{st:Option (List Nat)}{og2 og3:Option Nat}{wr w2:World}{x:Bk}(h:CG w d rr r og c l st og2 wr)(hr:RowRep w2 rr og3 (l++[x]))(hk:Keeps (λk=>k=rr\/og2=some k) wr w2)(hog:og3=og2\/∃k,og3=some k/\wr.heap.size<=k): CG w d rr r og c (l++[x]) st og3 w2:=by
 have hsz:=h.kp.size;refine⟨⟨h.cr.blk.keeps hk (λe=>e.elim h.cr.dr (λe=>h.cr.dg d e rfl)),hr,h.cr.dr,λg hg=>?_⟩,h.rd.keeps hk (λe=>e.elim (λe=>h.ap.2.1 e.symm) (λe=>h.g r e rfl)),h.kp.trans hk (λi hi hlt=>?_),?_,h.ap⟩
 ·rcases hog with f | ⟨k,f,hz⟩
  ·exact h.cr.dg g (by rw[<-f,hg])
  ·rw[hg]at f
   have:=Option.some.inj f;have:=h.cr.blk.lt;omega
 ·rcases hi with e | e
  ·exact .inr (.inl e)
  ·rcases h.fo with f | ⟨k,f,hz⟩
   ·exact .inr (.inr (by rw[<-f];exact e))
   ·have e2:og2=some i:=e
    rw[f]at e2;have:=Option.some.inj e2;omega
 ·rcases hog with f | ⟨k,f,hz⟩
  ·rw[f];exact h.fo
  ·exact .inr ⟨k,f,by omega⟩
theorem qTo(d rr r kn:Nat)(og:Option Nat)(c:Cfg)(m acc rel:Int)(nv:Value)(st:Option (List Nat))(w:World)(h:CRep w d rr og c [])(hr:RdS w r st)(hk:Blk w kn (qGb m acc rel nv) 184)(hap:d≠r/\rr≠r/\og≠some r)(hkn:kn≠r/\kn≠rr/\og≠some kn)(k1:1<=c.k)(k10:c.k<=10):
  Calls Tryz.prog 149 #[.pointer (some ⟨d,0,none⟩),.pointer (some ⟨r,0,none⟩),.pointer (some ⟨kn,0,none⟩)] w λe w'=>e=.returned (.tuple #[])/\∃og2,CG w d rr r og c (qUh c.k m rel st).1 (qUh c.k m rel st).2 og2 w':=by
 have hrl:=hr.lt
 have HCK:=hide (show ∀w',Keeps (λi=>i=r\/i=rr\/og=some i) w w'->w'.cell? ⟨kn,0,none⟩=some (.int .i64 m)/\w'.cell? ⟨kn,2,none⟩=some (.int .i64 rel) from λw' hkp=>by
    have hn:¬(kn=r\/kn=rr\/og=some kn):=λe=>e.elim hkn.1 (λe=>e.elim hkn.2.1 hkn.2.2)
    exact⟨(hk.keeps hkp hn).cell rfl,(hk.keeps hkp hn).cell rfl⟩)
 have HCL:=hide (show CG w d rr r og c [] st og w from⟨h,hr,Keeps.refl _ _,.inl rfl,⟨hap.1,hap.2.1,hap.2.2,hrl⟩⟩);obtain⟨K,hK⟩:∃K,c.k=K:=⟨_,rfl⟩;have HK:=hide hK;rw[hK]at k1 k10 ⊢;clear h hr hk hap hkn hK;unfold qUh;have hb:=qB4 0 62 st;obtain⟨s0,hs0⟩:∃s0,qAs 0 62 st=s0:=⟨_,rfl⟩;obtain⟨S,st1⟩:=s0;rw[hs0]at hb ⊢;have HN:=hide hs0;simp only at hb ⊢;obtain⟨s1,hs1⟩:∃s1,szR K m rel S.toNat 1 ⟨0,0,[],st1⟩=s1:=⟨_,rfl⟩;rw[hs1];have HR:=hide hs1;obtain⟨S0,S1⟩:0<=S/\S<=62:=by omega
 clear hb hs0 hs1;obtain⟨f0,rfl⟩:∃f0:Nat,S=(f0:Int):=⟨S.toNat,by omega⟩;have hwS:IntKind.i64.wrap ((f0:Int)-1)=(f0:Int)-1:=by rw[IntKind.wrap_i64];omega
 go_enter Tryz.func149,Tryz.ntmps149
 go_wp2_with fail
 refine((uh HCL).number 0 62 _ _ (uh HN)).mono ?_;rintro e w1 ⟨rfl,hl1⟩;have HC1:=hide hl1;clear hl1 HCL HN;go_wp2_with fail
 go_loopw [6,7,8,9] (λa b t f wr=>∃(le:Int) (fn:Nat) (s:CR) (og2:Option Nat),a=.int .i64 le/\b=.int .i64 s.it/\t=.int .i64 s.tm/\f=.int .i64 ((fn:Int)-1)/\1<=le/\le<=K/\fn<=62/\s.l.length+11*fn<=682/\Hid (szR K m rel fn le s=s1)/\Hid (CG w d rr r og c s.l s.st og2 wr)) (λ_ _ _ f _=>(intOf f+1).toNat)
 case atStart =>
  exact⟨1,f0,⟨0,0,[],st1⟩,og,rfl,rfl,rfl,rfl,by omega,k1,by omega,by simp;omega,HR,HC1⟩
 case round =>
  obtain⟨le,fn,s,og2,rfl,rfl,rfl,rfl,le1,leK,hf62,hln,HSZ,HL⟩:=hrel;obtain⟨tm,it,l,sg⟩:=s;simp only at hln HSZ HL;cases fn with
  | zero =>
   go_wp2
   go_end0
   refine⟨rfl,og2,?_⟩;have e:s1=⟨tm,it,l,sg⟩:=(uh HSZ).symm;rw[e];exact uh HL
  | succ f =>
   have e1:(((f+1:Nat)):Int)-1=(f:Int):=by omega
   rw[e1];have HSZ2:=hide (show szR K m rel f K (bkR m rel (2 ^ f) (qAs le (K+1) sg).1.toNat ⟨tm,it,l,(qAs le (K+1) sg).2⟩)=s1 from uh HSZ);have hb:=qB4 le (K+1) sg;obtain⟨q0,hq0⟩:∃q0,qAs le (K+1) sg=q0:=⟨_,rfl⟩;obtain⟨Q,st2⟩:=q0;rw[hq0]at hb HSZ2;have HN:=hide hq0;simp only at hb HSZ2;obtain⟨Q0,Q1⟩:1<=Q/\Q<=11:=by omega
   clear hb hq0;obtain⟨q,rfl⟩:∃q:Nat,Q=(q:Int):=⟨Q.toNat,by omega⟩;rw[Int.toNat_natCast]at HSZ2;have hck:wr.cell? ⟨d,4,none⟩=some (.int .i64 K):=by rw[<-uh HK];exact(uh HL).cr.blk.cell rfl
   have hwK:IntKind.i64.wrap (K+1)=K+1:=by rw[IntKind.wrap_i64];omega
   clear e1 HSZ;have hk0:(0:Int)<=(f:Int):=by omega
   have hf61:f<=61:=by omega
   go_wp2_with fail
   refine((uh HL).number le (K+1) _ _ (uh HN)).mono ?_;rintro e w2 ⟨rfl,hl2⟩;have HL2:=hide hl2;clear hl2 HL hck hwK HN;go_wp2_with fail
   have p2:=qJ6 f hf61;obtain⟨P,hP⟩:∃P,(2:Int) ^ f=P:=⟨_,rfl⟩;rw[hP]at p2 HSZ2;obtain⟨p21,p22⟩:=p2;have hwP:IntKind.i64.wrap P=P:=by rw[IntKind.wrap_i64];omega
   obtain⟨s2,hs2⟩:∃s2,bkR m rel P q ⟨tm,it,l,st2⟩=s2:=⟨_,rfl⟩;rw[hs2]at HSZ2;have HB2:=hide hs2;clear hs2;go_loopw [7,8,26] (λb t i wr=>∃(s:CR) (j:Nat) (og2:Option Nat),b=.int .i64 s.it/\t=.int .i64 s.tm/\i=.int .i64 (j:Int)/\j<=q/\s.l.length+(q-j)+11*f<=682/\Hid (bkR m rel P (q-j) s=s2)/\Hid (CG w d rr r og c s.l s.st og2 wr)) (λ_ _ i _=>q-(intOf i).toNat)
   case atStart =>
    exact⟨⟨tm,it,l,st2⟩,0,og2,rfl,rfl,rfl,Nat.zero_le _,by simp only;omega,HB2,HL2⟩
   case round =>
    clear HL2 HB2 hln;obtain⟨s,j,og2,rfl,rfl,rfl,hj,hln,HB,HL⟩:=hrel;obtain⟨tm,it,l,sg⟩:=s;simp only at hln HB HL
    by_cases hjq:j<q
    ·obtain⟨n,hn⟩:∃n,q-j=n+1:=⟨q-j-1,by omega⟩
     have HBn:=hide (show bkR m rel P n ⟨(qAs tm m sg).1,IntKind.i64.wrap (it+P),l++[⟨P,(qAs tm m sg).1⟩],qEm (decide (IntKind.i64.wrap (it+P)<=rel)) (qAs tm m sg).2⟩=s2 by
        have:=uh HB;rw[hn]at this
        exact this)
     obtain⟨t0,ht0⟩:∃t0,qAs tm m sg=t0:=⟨_,rfl⟩;obtain⟨t,st3⟩:=t0;rw[ht0]at HBn;have HN:=hide ht0;obtain⟨IT,hIT⟩:∃IT,IntKind.i64.wrap (it+P)=IT:=⟨_,rfl⟩;rw[hIT]at HBn;obtain⟨B,hB⟩:∃B,decide (IT<=rel)=B:=⟨_,rfl⟩;rw[hB]at HBn;have HIT:=hide hIT;have HBB:=hide hB;clear HB ht0 hIT hB;simp only at HBn;have hlen:l.length<=4398046511104:=by omega
     obtain⟨ck0,ck2⟩:=uh HCK wr (uh HL).kp;have hjI:(j:Int)<(q:Int):=by omega
     go_wp2_with fail
     refine((uh HL).number tm m _ _ (uh HN)).mono ?_;rintro e w3 ⟨rfl,hl3⟩;have HL3:=hide hl3;clear hl3 HL ck0 ck2 HN;have hc20:w3.cell? ⟨d,20,none⟩=some (.pointer (some ⟨rr,0,none⟩)):=(uh HL3).cr.blk.cell rfl;have hx:=show(⟨P,t⟩:Bk).val=.agg #[.int .i64 P,.int .i64 t] from rfl
     have HX:=hide hx;clear hx;go_wp2_with fail
     go_region_with (go_at_call 184;rw[<-uh HX];refine(rowPut_any rr og2 l ⟨P,t⟩ _ (by exact(uh HL3).cr.row.still (Keeps.refl _ _).drew) hlen).mono ?_;rintro e w4 ⟨rfl,og3,hr4,hk4,hog⟩)
     have HL4:=hide (((uh HL3).still ((Keeps.refl _ _).drew)).put hr4 hk4 hog);clear hr4 hk4 hog HL3 hc20 HX;obtain⟨ck0,ck2⟩:=uh HCK w4 (uh HL4).kp;have hwi:=uh HIT;have hle:=uh HBB;go_wp2_with fail
     refine((uh HL4).check _).mono ?_;rintro e w5 ⟨rfl,hl5⟩;have HL5:=hide hl5;clear hl5 HL4 ck0 ck2 hwi hle;go_wp2
     go_roundw
     case rel=>exact⟨⟨t,IT,l++[⟨P,t⟩],qEm B st3⟩,j+1,og3,rfl,rfl,by go_num,by omega,by simp only[List.length_append,List.length_singleton];omega,by rw[show q-(j+1)=n by omega];exact HBn,HL5⟩
     case measure=>simp[intOf];omega
    ·have hjE:j=q:=by omega
     subst hjE;have hf':decide ((j:Int)<(j:Int))=false:=by simp
     have hE:(⟨tm,it,l,sg⟩:CR)=s2:=by
      have:=uh HB;rw[Nat.sub_self]at this;exact this
     have hck:wr.cell? ⟨d,4,none⟩=some (.int .i64 K):=by rw[<-uh HK];exact(uh HL).cr.blk.cell rfl
     have HE:=hide hE;clear hE;go_wp2
     go_roundw
     case rel=>exact⟨K,f,⟨tm,it,l,sg⟩,og2,rfl,rfl,rfl,rfl,k1,Int.le_refl _,by omega,by simp only;omega,by show _=_;rw[uh HE];exact uh HSZ2,HL⟩
     case measure=>simp[intOf]
def mkR(m:Int): Nat->Int->Int->List Bk->Option (List Nat)->List Bk×Option (List Nat)
 | 0,_,_,l,st=>(l,st)
 | q+1,lt,lr,l,st=>mkR m q (qAs (lt+1) m st).1 (qAs 1 (lr-1) (qAs (lt+1) m st).2).1 (l++[⟨(qAs (lt+1) m st).1,(qAs 1 (lr-1) (qAs (lt+1) m st).2).1⟩]) (qAs 1 (lr-1) (qAs (lt+1) m st).2).2
def qQf(ls:Nat->List Bk)(i:Nat)(l:List Bk): Nat->List Bk:=λj=>if j=i then l else ls j
def updG(ls:Nat->List Bk)(i:Nat)(x:Bk): Nat->List Bk:=λj=>if j=i then ls i++[x] else ls j
theorem zCa(ls:Nat->List Bk)(i:Nat)(l:List Bk)(x:Bk): updG (qQf ls i l) i x=qQf ls i (l++[x]):=by
 funext j
 unfold updG qQf
 by_cases h:j=i <;> simp[h]
theorem zBr(ls:Nat->List Bk)(i:Nat)(h:ls i=[]): qQf ls i []=ls:=by
 funext j
 unfold qQf
 by_cases e:j=i
 ·rw[if_pos e,e,h]
 ·rw[if_neg e]
structure RR where
 it:Nat
 ls:Nat->List Bk
 st:Option (List Nat)
def qTb(m:Int): Nat->Nat->RR->RR
 | 0,_,s=>s
 | k+1,i,s=>qTb m k (i+1) ⟨s.it+(qAs 0 40 s.st).1.toNat,qQf s.ls i (mkR m (qAs 0 40 s.st).1.toNat (-1) 41 [] (qAs 0 40 s.st).2).1,(mkR m (qAs 0 40 s.st).1.toNat (-1) 41 [] (qAs 0 40 s.st).2).2⟩
def qYe(m rel:Int)(n:Nat)(st:Option (List Nat)): (Nat->List Bk)×Option (List Nat) :=
 let s:=qTb m n 0 ⟨0,λ_=>[],st⟩
 (s.ls,qEm (decide ((s.it:Int)<=rel)) s.st)
structure DLg (w:World) (d rg r:Nat) (qs0:List (Nat×Option Nat)) (c:Cfg) (ls:Nat->List Bk) (st:Option (List Nat)) (qs:List (Nat×Option Nat)) (wr:World):Prop where
 dr:DRep wr d rg qs c ls
 rd:RdS wr r st
 ln:qs.length=qs0.length
 fo:∀i a,i<qs.length->qf (qAt qs i) a->(∃j,j<qs0.length/\qf (qAt qs0 j) a)\/w.heap.size<=a
 kp:Keeps (λa=>a=r\/∃j,j<qs0.length/\qf (qAt qs0 j) a) w wr
 ap:d≠r/\rg≠r/\(∀j,j<qs0.length->¬qf (qAt qs0 j) r)/\r<w.heap.size
theorem DLg.apart{w:World}{d rg r:Nat}{qs0:List (Nat×Option Nat)}{c:Cfg}{ls:Nat->List Bk}{st:Option (List Nat)}{qs:List (Nat×Option Nat)}{wr:World}(h:DLg w d rg r qs0 c ls st qs wr)(i a:Nat)(hi:i<qs.length)(hq:qf (qAt qs i) a): a≠r:=λe=>by
 rcases h.fo i a hi hq with ⟨j,hj,f⟩ | f
 ·exact h.ap.2.2.1 j hj (by rw[<-e];exact f)
 ·have:=h.ap.2.2.2;omega
theorem DLg.still{w:World}{d rg r:Nat}{qs0:List (Nat×Option Nat)}{c:Cfg}{ls:Nat->List Bk}{st:Option (List Nat)}{qs:List (Nat×Option Nat)}{wr w2:World}(h:DLg w d rg r qs0 c ls st qs wr)(hk:Keeps (λ_=>False) wr w2): DLg w d rg r qs0 c ls st qs w2 :=
 ⟨h.dr.still hk,h.rd.keeps hk (λh=>h),h.ln,h.fo,h.kp.trans hk (λ_ h _=>h.elim),h.ap⟩
theorem DLg.new{w:World}{d rg r:Nat}{qs0:List (Nat×Option Nat)}{c:Cfg}{ls:Nat->List Bk}{st:Option (List Nat)}{qs:List (Nat×Option Nat)}{wr w2:World}{bx:Nat}(h:DLg w d rg r qs0 c ls st qs wr)(hk:Keeps (λi=>i=bx) wr w2)(hb:bx≠d/\bx≠rg/\bx≠r/\w.heap.size<=bx)(hq:∀i,i<qs.length->¬qf (qAt qs i) bx): DLg w d rg r qs0 c ls st qs w2 :=
 ⟨h.dr.keeps hk (λe=>hb.1 e.symm) (λe=>hb.2.1 e.symm) (λi a hi hf e=>hq i hi (by rw[<-show a=bx from e];exact hf)),h.rd.keeps hk (λe=>hb.2.2.1 e.symm),h.ln,h.fo,h.kp.trans hk (λi hi hlt=>by have hi2:i=bx:=hi;omega),h.ap⟩
theorem DLg.reads{w:World}{d rg r:Nat}{qs0:List (Nat×Option Nat)}{c:Cfg}{ls:Nat->List Bk}{st st2:Option (List Nat)}{qs:List (Nat×Option Nat)}{wr w2:World}(h:DLg w d rg r qs0 c ls st qs wr)(hr:RdS w2 r st2)(hk:Keeps (λi=>i=r) wr w2): DLg w d rg r qs0 c ls st2 qs w2 :=
 ⟨h.dr.keeps hk h.ap.1 h.ap.2.1 (λi a hi hf=>h.apart i a hi hf),hr,h.ln,h.fo,h.kp.trans hk (λ_ h _=>.inl h),h.ap⟩
theorem DLg.number{w:World}{d rg r:Nat}{qs0:List (Nat×Option Nat)}{c:Cfg}{ls:Nat->List Bk}{st:Option (List Nat)}{qs:List (Nat×Option Nat)}{wr:World}(h:DLg w d rg r qs0 c ls st qs wr)(lo hi n:Int)(st2:Option (List Nat))(he:qAs lo hi st=(n,st2)):
  Calls Tryz.prog 88 #[.pointer (some ⟨r,0,none⟩),.int .i64 lo,.int .i64 hi] wr λe w2=>e=.returned (.int .i64 n)/\DLg w d rg r qs0 c ls st2 qs w2/\Keeps (λi=>i=r) wr w2:=by
 refine(qCd r lo hi st wr h.rd).mono ?_;rintro e w2 ⟨rfl,hr,hk⟩;rw[he]at hr ⊢;exact⟨rfl,h.reads hr hk,hk⟩
theorem DLg.put{w:World}{d rg r:Nat}{qs0:List (Nat×Option Nat)}{c:Cfg}{ls:Nat->List Bk}{st:Option (List Nat)}{qs:List (Nat×Option Nat)}{wr w2:World}{i:Nat}{x:Bk}{og:Option Nat}(h:DLg w d rg r qs0 c ls st qs wr)(hIQ:i<qs.length)(hr:Mk.RowRep w2 (qAt qs i).1 og (ls i++[x]))(hk:Keeps (λk=>k=(qAt qs i).1\/(qAt qs i).2=some k) wr w2)(hog:og=(qAt qs i).2\/∃k,og=some k/\wr.heap.size<=k):
  DLg w d rg r qs0 c (updG ls i x) st (qs.set i ((qAt qs i).1,og)) w2:=by
 have hsz:=h.kp.size;have hset:∀j,j<qs.length->qAt (qs.set i ((qAt qs i).1,og)) j=if j=i then((qAt qs i).1,og) else qAt qs j:=λj hj=>by
  unfold qAt;simp only[List.getD_eq_getElem?_getD,List.getElem?_set]
  by_cases h:i=j
  ·subst h;simp[hj]
  ·simp[h,Ne.symm h]
 have hD1:=h.dr;have hfoot:∀a,qf ((qAt qs i).1,og) a->qf (qAt qs i) a\/wr.heap.size<=a:=λa ha=>by
  rcases ha with ha | ha
  ·exact .inl (.inl ha)
  ·rcases hog with h | ⟨k,h,hk⟩
   ·exact .inl (.inr (by rw[<-h];exact ha))
   ·have ha':og=some a:=ha
    rw[h]at ha';injection ha' with ha';exact .inr (by omega)
 have hfresh:∀a,wr.heap.size<=a->a≠d/\a≠rg/\∀j,j<qs.length->¬qf (qAt qs j) a:=λa ha=>by
  refine⟨λh=>?_,λh=>?_,λj hj h=>?_⟩
  ·have:=hD1.blk.lt;omega
  ·have:=hD1.reg.lt;omega
  ·rcases h with h | h
   ·have:=(hD1.row j hj).lt.1;omega
   ·have:=((hD1.row j hj).lt.2 a h).1;omega
 refine⟨⟨?_,?_,?_,?_,?_,hD1.dr⟩,h.rd.keeps hk (λe=>h.apart i r hIQ e rfl),by rw[List.length_set];exact h.ln,?_,h.kp.trans hk (λa ha hlt=>?_),h.ap⟩
 ·rw[List.length_set]
  exact hD1.blk.keeps hk (λe=>(hD1.nd i hIQ).1 e)
 ·have:qFv (qs.set i ((qAt qs i).1,og))=qFv qs:=by
   unfold qFv;rw[List.map_set];apply List.ext_getElem?;intro j;rw[List.getElem?_set]
   split
   ·rename_i h;subst h
    split
    ·rename_i h2
     have:=qF3 hIQ;unfold qFv at this;rw[this]
    ·rename_i h2;simp at h2;omega
   ·rfl
  rw[this];exact hD1.reg.keeps hk (λe=>(hD1.nd i hIQ).2 e)
 ·intro j hj
  rw[List.length_set]at hj;rw[hset j hj];unfold updG
  by_cases hji:j=i
  ·subst hji
   rw[if_pos rfl,if_pos rfl];exact hr
  ·rw[if_neg hji,if_neg hji]
   exact(hD1.row j hj).keeps hk (λh=>hji (hD1.dj j i _ hj hIQ (.inl rfl) h)) (λg hg h=>hji (hD1.dj j i g hj hIQ (.inr hg) h))
 ·intro j1 j2 a h1 h2 f1 f2
  rw[List.length_set]at h1 h2;rw[hset j1 h1]at f1;rw[hset j2 h2]at f2
  by_cases e1:j1=i <;> by_cases e2:j2=i
  ·omega
  ·rw[if_pos e1]at f1;rw[if_neg e2]at f2
   rcases hfoot a f1 with h | h
   ·exact e1.trans (hD1.dj i j2 a hIQ h2 h f2)
   ·exact((hfresh a h).2.2 j2 h2 f2).elim
  ·rw[if_neg e1]at f1;rw[if_pos e2]at f2
   rcases hfoot a f2 with h | h
   ·exact(hD1.dj j1 i a h1 hIQ f1 h).trans e2.symm
   ·exact((hfresh a h).2.2 j1 h1 f1).elim
  ·rw[if_neg e1]at f1;rw[if_neg e2]at f2
   exact hD1.dj j1 j2 a h1 h2 f1 f2
 ·intro j hj
  rw[List.length_set]at hj;rw[hset j hj]
  by_cases e1:j=i
  ·rw[if_pos e1]
   refine⟨λf=>?_,λf=>?_⟩
   ·rcases hfoot _ f with h | h
    ·exact(hD1.nd i hIQ).1 h
    ·exact(hfresh _ h).1 rfl
   ·rcases hfoot _ f with h | h
    ·exact(hD1.nd i hIQ).2 h
    ·exact(hfresh _ h).2.1 rfl
  ·rw[if_neg e1]
   exact hD1.nd j hj
 ·intro j a hj f
  rw[List.length_set]at hj;rw[hset j hj]at f
  by_cases e1:j=i
  ·rw[if_pos e1]at f
   rcases hfoot a f with g | g
   ·exact h.fo i a hIQ g
   ·exact .inr (by omega)
  ·rw[if_neg e1]at f
   exact h.fo j a hj f
 ·rcases h.fo i a hIQ ha with g | g
  ·exact .inr g
  ·omega
theorem zH8{qs:List (Nat×Option Nat)}{wr:World}{i bx:Nat}{og:Option Nat}(hog:og=(qAt qs i).2\/∃k,og=some k/\wr.heap.size<=k)(hbx:bx<wr.heap.size)(hq:∀j,j<qs.length->¬qf (qAt qs j) bx): ∀j,j<(qs.set i ((qAt qs i).1,og)).length->¬qf (qAt (qs.set i ((qAt qs i).1,og)) j) bx:=by
 intro j hj f;rw[List.length_set]at hj;unfold qAt at f;simp only[List.getD_eq_getElem?_getD,List.getElem?_set]at f
 by_cases e:i=j
 ·subst e
  simp only[hj,if_pos]at f;rcases f with f | f
  ·exact hq i hj (.inl f)
  ·rcases hog with g | ⟨k,g,hz⟩
   ·exact hq i hj (.inr (g ▸ f))
   ·have f2:og=some bx:=f
    rw[g]at f2;have:=Option.some.inj f2;omega
 ·rw[if_neg e]at f
  exact hq j hj (by unfold qAt;rw[List.getD_eq_getElem?_getD];exact f)
end
end Go.Proofs.YtahnliehdjncdabGreatDoor
