import Derived.Test.YtahnliehdjncdabGreatDoorXBH
import Derived.Test.YtahnliehdjncdabGreatDoorXAY
import Derived.Test.YtahnliehdjncdabGreatDoorXBI
import Derived.Test.YtahnliehdjncdabGreatDoorXBK
import Derived.Test.YtahnliehdjncdabGreatDoorXBC
import Derived.Test.YtahnliehdjncdabGreatDoorXBJ
import Derived.Test.YtahnliehdjncdabGreatDoorXBF
set_option maxRecDepth 100000
set_option maxHeartbeats 16000000
namespace Go.Proofs.YtahnliehdjncdabGreatDoor
section
open Go.RowKit
def qV5(p:Pa.Pn)(i:Nat)(x:Int): Pa.Pn:=⟨p.no,p.cs.set i x,by rw[List.length_set];exact p.len⟩
structure FR where
 sm:Int
 p:Pa.Pn
 st:Option (List Nat)
def qFy(most:Int)(k:Nat): Nat->Nat->FR->FR
 | 0,_,s=>s
 | n+1,j,s=>qFy most k n (j+1) ⟨s.sm+(qAs 0 (most-s.sm) s.st).1,qV5 s.p (k*16+j) (qAs 0 (most-s.sm) s.st).1,(qAs 0 (most-s.sm) s.st).2⟩
def qCn(most:Int)(W:Nat): Nat->Nat->FR->FR
 | 0,_,s=>s
 | n+1,k,s =>
  let t:=qFy most k W 0 ⟨0,s.p,s.st⟩
  qCn most W n (k+1) ⟨t.sm,t.p,qEm (decide (0<t.sm)&&((k:Int)==0||t.sm==s.sm)) t.st⟩
def qI3(most:Int)(R W:Nat)(p:Pa.Pn)(st:Option (List Nat)): FR:=qCn most W R 0 ⟨0,p,st⟩
theorem zId(most:Int)(k:Nat): ∀n j s,0<=s.sm->s.sm<=most->0<=(qFy most k n j s).sm/\(qFy most k n j s).sm<=most:=by
 intro n
 induction n with
 | zero=>intro j s h1 h2;exact⟨h1,h2⟩
 | succ n ih =>
  intro j s h1 h2;have hb:=qB4 0 (most-s.sm) s.st;exact ih _ _ (by simp only;omega) (by simp only;omega)
theorem qRl(most:Int)(W:Nat)(m0:0<=most): ∀n k s,0<=s.sm->s.sm<=most->0<=(qCn most W n k s).sm/\(qCn most W n k s).sm<=most:=by
 intro n
 induction n with
 | zero=>intro k s h1 h2;exact⟨h1,h2⟩
 | succ n ih =>
  intro k s h1 h2;have hb:=zId most k W 0 ⟨0,s.p,s.st⟩ (Int.le_refl _) m0;exact ih _ _ hb.1 hb.2
theorem zDt{w:World}{d q:Nat}{c:Cfg}{p:Pa.Pn}(i:Nat)(x:Int)(hi:i<48)(h:Blk w d (qA4 c p q) 240):
  Blk (w.setCell ⟨d,21+i,none⟩ (.int .i64 x)) d (qA4 c (qV5 p i x) q) 240:=by
 have h1:=h.setCell (21+i) (.int .i64 x);rw[show 21+i=20+(i+1) by omega,qWx c p q (i+1) _ (by omega)]at h1;have e:p.cells.set (i+1) (.int .i64 x)=(qV5 p i x).cells:=by
  unfold Pa.Pn.cells qV5;rw[List.set_cons_succ,List.map_set]
 rw[e]at h1;rw[show 21+i=20+(i+1) by omega];exact h1
theorem zAg{w:World}{d q:Nat}{c:Cfg}{p:Pa.Pn}(i:Nat)(hi:i<48)(h:Blk w d (qA4 c p q) 240): w.cell? ⟨d,21+i,none⟩=some (.int .i64 (p.cs.getD i 0)):=by
 rw[show 21+i=20+(i+1) by omega];refine h.cell ((qJq c _ q (i+1) (by omega)).trans ?_);show((.int .i64 p.no::p.cs.map (.int .i64 ·):List Value))[i+1]?=_;rw[List.getElem?_cons_succ,List.getElem?_map,List.getD_eq_getElem?_getD,List.getElem?_eq_getElem (by rw[p.len];exact hi)];rfl
theorem zHg(a b c:Bool): (a=false/\(a&&(b||c))=false)\/(a=true/\b=true/\(a&&(b||c))=true)\/(a=true/\b=false/\c=true/\(a&&(b||c))=true)\/(a=true/\b=false/\c=false/\(a&&(b||c))=false):=by
 cases a <;> cases b <;> cases c <;> simp
theorem zC9(d q r R W:Nat)(c:Cfg)(p0:Pa.Pn)(most:Int)(st:Option (List Nat))(w:World)(hb:Blk w d (qA4 c p0 q) 240)(hr:RdS w r st)(hdr:d≠r)(hR:c.rows=(R:Int))(hW:c.width=(W:Int))(R3:R<=3)(W16:W<=16)(m0:0<=most)(hm:most<=4611686018427387904):
  Calls Tryz.prog 210 #[.pointer (some ⟨d,0,none⟩),.pointer (some ⟨r,0,none⟩),.int .i64 most] w λe w'=>e=.returned (.int .i64 (qI3 most R W p0 st).sm)/\Blk w' d (qA4 c (qI3 most R W p0 st).p q) 240/\RdS w' r (qI3 most R W p0 st).st/\Keeps (λi=>i=r\/i=d) w w':=by
 have c7:w.cell? ⟨d,7,none⟩=some (.int .i64 (R:Int)):=hR ▸ hb.cell (qB2 c _ q 7 (by omega));have HB:=hide hb;have HR:=hide hr;have HW:=hide hW;unfold qI3;obtain⟨S,hS⟩:∃S,qCn most W R 0 ⟨0,p0,st⟩=S:=⟨_,rfl⟩;rw[hS];have HS:=hide hS;clear hb hr hR hW hS;go_enter Tryz.func210,Tryz.ntmps210
 go_wp2_with fail
 clear c7;go_loopw [7,17] (λa iv wr=>∃(k n:Nat) (s:FR),a=.int .i64 s.sm/\iv=.int .i64 (k:Int)/\k+n=R/\Hid (qCn most W n k s=S)/\Hid (Blk wr d (qA4 c s.p q) 240)/\Hid (RdS wr r s.st)/\Hid (Keeps (λi=>i=r\/i=d) w wr)) (λ_ iv _=>R-(intOf iv).toNat)
 case atStart=>exact⟨0,R,⟨0,p0,st⟩,rfl,rfl,by omega,HS,HB,HR,Keeps.refl _ _⟩
 case round =>
  clear HR HB HS;obtain⟨k,n,s,rfl,rfl,hkn,HSk,HB,HR,HK⟩:=hrel;obtain⟨it,p,sg⟩:=s;simp only at HSk HB HR;cases n with
  | zero =>
   have hkR:k=R:=by omega
   subst hkR;have hf':decide ((k:Int)<(k:Int))=false:=by simp
   have HE:=hide (show(⟨it,p,sg⟩:FR)=S from uh HSk);clear HSk;go_wp2
   go_ret
   rw[<-uh HE];exact⟨rfl,uh HB,uh HR,uh HK⟩
  | succ n =>
   have hkR:k<R:=by omega
   have hkI:(k:Int)<(R:Int):=by omega
   have hk0:(0:Int)<=(k:Int):=by omega
   have hk3:(k:Int)<3:=by omega
   have c8:wr.cell? ⟨d,8,none⟩=some (.int .i64 (W:Int)):=(uh HW) ▸ (uh HB).cell (qB2 c _ q 8 (by omega));obtain⟨T,hT⟩:∃T,qFy most k W 0 ⟨0,p,sg⟩=T:=⟨_,rfl⟩
   have HSn:=hide (show qCn most W n (k+1) ⟨T.sm,T.p,qEm (decide (0<T.sm)&&((k:Int)==0||T.sm==it)) T.st⟩=S by
      have h:=uh HSk;rw[qCn]at h;simp only at h;rw[hT]at h
      exact h)
   have HT:=hide hT;clear HSk hT;go_wp2_with fail
   clear c8;go_loopw [9,25] (λa iv wr=>∃(j n2:Nat) (s:FR),a=.int .i64 s.sm/\iv=.int .i64 (j:Int)/\j+n2=W/\0<=s.sm/\s.sm<=most/\Hid (qFy most k n2 j s=T)/\Hid (Blk wr d (qA4 c s.p q) 240)/\Hid (RdS wr r s.st)/\Hid (Keeps (λi=>i=r\/i=d) w wr)) (λ_ iv _=>W-(intOf iv).toNat)
   case atStart=>exact⟨0,W,⟨0,p,sg⟩,rfl,rfl,by omega,Int.le_refl _,m0,HT,HB,HR,HK⟩
   case round =>
    clear HB HR HK HT;obtain⟨j,n2,s,rfl,rfl,hjn,sm0,sm1,HTj,HB,HR,HK⟩:=hrel;obtain⟨sm,p,sg⟩:=s;simp only at sm0 sm1 HTj HB HR;cases n2 with
    | zero =>
     have hjW:j=W:=by omega
     subst hjW;have hf':decide ((j:Int)<(j:Int))=false:=by simp
     have hE:(⟨sm,p,sg⟩:FR)=T:=uh HTj;subst hE;clear HTj;have HAO:=hide (zHg (decide (0<sm)) ((k:Int)==0) (sm==it));have HSm:=hide (show qCn most j n (k+1) ⟨sm,p,qEm (decide (0<sm)&&((k:Int)==0||sm==it)) sg⟩=S from uh HSn);clear HSn;obtain⟨BB,hBB⟩:∃BB,(decide (0<sm)&&((k:Int)==0||sm==it))=BB:=⟨_,rfl⟩;rw[hBB]at HAO HSm;clear hBB;have HCK:=hide (λw (h:RdS w r sg)=>qDi r BB sg w h);rcases uh HAO with ⟨g,gb⟩ | ⟨g,g2,gb⟩ | ⟨g,g2,g3,gb⟩ | ⟨g,g2,g3,gb⟩
     all_goals
      clear HAO;subst gb;go_wp2_with fail
      refine(uh HCK _ (uh HR)).mono ?_;rintro e w5 ⟨rfl,hr5,hk5⟩;have HB5:=hide ((uh HB).keeps hk5 hdr);have HK5:=hide ((uh HK).trans hk5 (λ_ h _=>.inl h));have HR5:=hide hr5;clear hr5 hk5 HB HR HK g HCK;go_wp2
      go_roundw
      case rel=>exact⟨k+1,n,⟨sm,p,_⟩,rfl,by go_num,by omega,HSm,HB5,HR5,HK5⟩
      case measure=>simp[intOf];omega
    | succ n2 =>
     have HTn:=hide (show qFy most k n2 (j+1) ⟨sm+(qAs 0 (most-sm) sg).1,qV5 p (k*16+j) (qAs 0 (most-sm) sg).1,(qAs 0 (most-sm) sg).2⟩=T from uh HTj);have hbd:=qB4 0 (most-sm) sg;have HNG:=hide (qCd r 0 (most-sm) sg wr (uh HR));generalize qAs 0 (most-sm) sg=x0 at *;obtain⟨x,sg2⟩:=x0;simp only at hbd HTn HNG;obtain⟨x0,x1⟩:0<=x/\x<=most-sm:=by omega
     clear hbd;have hjI:(j:Int)<(W:Int):=by omega
     have hj0:(0:Int)<=(j:Int):=by omega
     have hj16:(j:Int)<16:=by omega
     have hij:k*16+j<48:=by omega
     have wm:IntKind.i64.wrap (most-sm)=most-sm:=by rw[IntKind.wrap_i64];omega
     have ws:IntKind.i64.wrap (sm+x)=sm+x:=by rw[IntKind.wrap_i64];omega
     clear HR HTj;go_wp2_with fail
     refine(uh HNG).mono ?_;rintro e w1 ⟨rfl,hr1,hk1⟩;have HB1:=hide ((uh HB).keeps hk1 hdr);have cx:w1.cell? ⟨d,21+k*16+j,none⟩=some (.int .i64 (p.cs.getD (k*16+j) 0)):=by rw[show 21+k*16+j=21+(k*16+j) by omega];exact zAg (k*16+j) hij (uh HB1)
     have cf:=(uh HB1).frozen;have hkd:Keeps (λi=>i=d) w1 (w1.setCell ⟨d,21+k*16+j,none⟩ (.int .i64 x)):=(Keeps.refl (λi=>i=d) w1).setCell (p:=⟨d,21+k*16+j,none⟩) (Or.inl rfl) _;have HR2:=hide (hr1.keeps hkd (λh=>hdr h.symm));have HK2:=hide (((uh HK).trans hk1 (λ_ h _=>.inl h)).trans hkd (λ_ h _=>.inr h))
     have HB2:=hide (show Blk (w1.setCell ⟨d,21+k*16+j,none⟩ (.int .i64 x)) d (qA4 c (qV5 p (k*16+j) x) q) 240 by
        rw[show 21+k*16+j=21+(k*16+j) by omega]
        exact zDt (k*16+j) x hij (uh HB1))
     clear hr1 hk1 hkd HB HB1 HNG;go_wp2
     go_roundw
     case rel=>exact⟨j+1,n2,⟨sm+x,qV5 p (k*16+j) x,sg2⟩,rfl,by go_num,by omega,by simp only;omega,by simp only;omega,HTn,HB2,HR2,HK2⟩
     case measure=>simp[intOf];omega
structure OR where
 lf:Int
 le:Int
 s:Pa.Pn×List Pa.Pn
 st:Option (List Nat)
def qIc(R W:Nat)(M:Int): Nat->OR->OR
 | 0,s=>s
 | n+1,s =>
  let x:=qAs s.le M s.st
  let t:=qBp s.s.1 s.s.2 x.1
  let f:=qI3 s.lf R W t.1 x.2
  qIc R W M n ⟨s.lf-f.sm,x.1+1,(f.p,t.2),f.st⟩
def qPi(c:Cfg)(m rel:Int)(st:Option (List Nat)): OR :=
 qIc c.rows.toNat c.width.toNat (m.tdiv (qBd c)) (qAs 0 (c.panes+1) st).1.toNat ⟨rel,0,(Pa.pn0,[]),(qAs 0 (c.panes+1) st).2⟩
theorem zCh(m L:Int)(h1:1<=L)(m0:-4611686018427387904<=m)(m1:m<=4611686018427387904): -4611686018427387904<=m.tdiv L/\m.tdiv L<=4611686018427387904:=by
 by_cases h:0<=m
 ·rw[Int.tdiv_eq_ediv_of_nonneg h]
  have:=Int.ediv_nonneg h (show 0<=L by omega);have:=Int.ediv_le_self L h;omega
 ·have e:m.tdiv L=-((-m).tdiv L):=by rw[Int.neg_tdiv];omega
  rw[e,Int.tdiv_eq_ediv_of_nonneg (show 0<=-m by omega)];have:=Int.ediv_nonneg (show 0<=-m by omega) (show 0<=L by omega);have:=Int.ediv_le_self L (show 0<=-m by omega);omega
structure OLg (w:World) (d q r:Nat) (og:Option Nat) (c:Cfg) (s:Pa.Pn×List Pa.Pn) (st:Option (List Nat)) (og2:Option Nat) (wr:World):Prop where
 orr:ORep wr d q og2 c s.1 s.2
 rd:RdS wr r st
 kp:Keeps (λi=>i=r\/i=d\/i=q\/og=some i) w wr
 fo:og2=og\/∃k,og2=some k/\w.heap.size<=k
 ap:d≠r/\q≠r/\og≠some r/\r<w.heap.size
theorem OLg.g{w:World}{d q r:Nat}{og:Option Nat}{c:Cfg}{s:Pa.Pn×List Pa.Pn}{st:Option (List Nat)}{og2:Option Nat}{wr:World}(h:OLg w d q r og c s st og2 wr)(g:Nat)(hg:og2=some g): g≠r:=λe=>by
 rcases h.fo with f | ⟨k,f,hz⟩
 ·exact h.ap.2.2.1 (by rw[<-f,hg,e])
 ·rw[hg]at f
  have:=Option.some.inj f;have:=h.ap.2.2.2;omega
theorem OLg.still{w:World}{d q r:Nat}{og:Option Nat}{c:Cfg}{s:Pa.Pn×List Pa.Pn}{st:Option (List Nat)}{og2:Option Nat}{wr w2:World}(h:OLg w d q r og c s st og2 wr)(hk:Keeps (λ_=>False) wr w2): OLg w d q r og c s st og2 w2 :=
 ⟨h.orr.still hk,h.rd.keeps hk (λh=>h),h.kp.trans hk (λ_ h _=>h.elim),h.fo,h.ap⟩
theorem OLg.number{w:World}{d q r:Nat}{og:Option Nat}{c:Cfg}{s:Pa.Pn×List Pa.Pn}{st:Option (List Nat)}{og2:Option Nat}{wr:World}(h:OLg w d q r og c s st og2 wr)(lo hi n:Int)(st2:Option (List Nat))(he:qAs lo hi st=(n,st2)):
  Calls Tryz.prog 88 #[.pointer (some ⟨r,0,none⟩),.int .i64 lo,.int .i64 hi] wr λe w2=>e=.returned (.int .i64 n)/\OLg w d q r og c s st2 og2 w2/\Keeps (λi=>i=r) wr w2:=by
 refine(qCd r lo hi st wr h.rd).mono ?_;rintro e w2 ⟨rfl,hr,hk⟩;rw[he]at hr ⊢;exact⟨rfl,⟨h.orr.keeps hk h.ap.1 h.ap.2.1 (λg hg=>h.g g hg),hr,h.kp.trans hk (λ_ h _=>.inl h),h.fo,h.ap⟩,hk⟩
theorem OLg.turn{w:World}{d q r:Nat}{og:Option Nat}{c:Cfg}{s s2:Pa.Pn×List Pa.Pn}{st:Option (List Nat)}{og2 og3:Option Nat}{wr w2:World}(h:OLg w d q r og c s st og2 wr)(hb:Blk w2 d (qA4 c s2.1 q) 240)(hr:Pa.RowRep w2 d q og3 s2.2)(hk:Keeps (λk=>k=d\/k=q\/og2=some k) wr w2)(hog:og3=og2\/∃k,og3=some k/\wr.heap.size<=k): OLg w d q r og c s2 st og3 w2:=by
 have hsz:=h.kp.size;refine⟨⟨hb,hr,h.orr.dq,λg hg=>?_⟩,h.rd.keeps hk (λe=>?_),h.kp.trans hk (λi hi hlt=>?_),?_,h.ap⟩
 ·rcases hog with f | ⟨k,f,hz⟩
  ·exact h.orr.dg g (by rw[<-f,hg])
  ·rw[hg]at f
   have:=Option.some.inj f;have:=h.orr.blk.lt;omega
 ·rcases e with e | e | e
  ·exact h.ap.1 e.symm
  ·exact h.ap.2.1 e.symm
  ·exact h.g r e rfl
 ·rcases hi with e | e | e
  ·exact .inr (.inl e)
  ·exact .inr (.inr (.inl e))
  ·rcases h.fo with f | ⟨k,f,hz⟩
   ·exact .inr (.inr (.inr (by rw[<-f];exact e)))
   ·have e2:og2=some i:=e
    rw[f]at e2;have:=Option.some.inj e2;omega
 ·rcases hog with f | ⟨k,f,hz⟩
  ·rw[f];exact h.fo
  ·exact .inr ⟨k,f,by omega⟩
theorem OLg.fill{w:World}{d q r:Nat}{og:Option Nat}{c:Cfg}{o p:Pa.Pn}{cl:List Pa.Pn}{st st2:Option (List Nat)}{og2:Option Nat}{wr w2:World}(h:OLg w d q r og c (o,cl) st og2 wr)(hb:Blk w2 d (qA4 c p q) 240)(hr:RdS w2 r st2)(hk:Keeps (λi=>i=r\/i=d) wr w2): OLg w d q r og c (p,cl) st2 og2 w2:=by
 refine⟨⟨hb,h.orr.row.keeps hk (λe=>e.elim h.ap.2.1 (λe=>h.orr.dq e.symm)) (λg hg e=>e.elim (h.g g hg) (λe=>h.orr.dg g hg e.symm)),h.orr.dq,h.orr.dg⟩,hr,h.kp.trans hk (λi hi hlt=>?_),h.fo,h.ap⟩;rcases hi with e | e
 ·exact .inl e
 ·exact .inr (.inl e)
theorem qTx(d q r kn:Nat)(og:Option Nat)(c:Cfg)(m acc rel:Int)(nv:Value)(st:Option (List Nat))(w:World)(h:ORep w d q og c Pa.pn0 [])(hr:RdS w r st)(hk:Blk w kn (qGb m acc rel nv) 184)(hap:d≠r/\q≠r/\og≠some r)(hkn:kn≠r/\kn≠d/\kn≠q/\og≠some kn)(hpn:c.paned)(hrw:c.rowed)(hL:1<=qBd c)(m0:-4611686018427387904<=m)(m1:m<=4611686018427387904)(r1:rel<=4611686018427387904)(r0:0<=rel):
  Calls Tryz.prog 162 #[.pointer (some ⟨d,0,none⟩),.pointer (some ⟨r,0,none⟩),.pointer (some ⟨kn,0,none⟩)] w λe w'=>e=.returned (.tuple #[])/\∃og2,OLg w d q r og c (qPi c m rel st).s (qPi c m rel st).st og2 w':=by
 have hrl:=hr.lt
 have HCK:=hide (show ∀w',Keeps (λi=>i=r\/i=d\/i=q\/og=some i) w w'->w'.cell? ⟨kn,0,none⟩=some (.int .i64 m)/\w'.cell? ⟨kn,2,none⟩=some (.int .i64 rel) from λw' hkp=>by
    have hn:¬(kn=r\/kn=d\/kn=q\/og=some kn):=λe=>e.elim hkn.1 (λe=>e.elim hkn.2.1 (λe=>e.elim hkn.2.2.1 hkn.2.2.2))
    exact⟨(hk.keeps hkp hn).cell rfl,(hk.keeps hkp hn).cell rfl⟩)
 have HKR:=hide hkn.1;have HLEN:=hide (λW' h5' h9'=>qKk d c W' h5' h9' (by have:=hpn.w0;omega) hpn.w1 hpn.p0);have HOL:=hide (show OLg w d q r og c (Pa.pn0,[]) st og w from⟨h,hr,Keeps.refl _ _,.inl rfl,⟨hap.1,hap.2.1,hap.2.2,hrl⟩⟩);have hp1:=hpn.p1;have hp0:=hpn.p0;obtain⟨R,hR⟩:∃R:Nat,c.rows=(R:Int):=⟨c.rows.toNat,by have:=hrw.r0;omega⟩;obtain⟨W,hW⟩:∃W:Nat,c.width=(W:Int):=⟨c.width.toNat,by have:=hrw.w0;omega⟩;have R3:R<=3:=by have:=hrw.r1;omega
 have W16:W<=16:=by have:=hrw.w1;omega
 have HRR:=hide hR;have HWW:=hide hW;obtain⟨k0,k2⟩:=uh HCK w (Keeps.refl _ _);have c9:w.cell? ⟨d,9,none⟩=some (.int .i64 c.panes):=h.blk.cell (qB2 c _ q 9 (by omega));have wp:IntKind.i64.wrap (c.panes+1)=c.panes+1:=by rw[IntKind.wrap_i64];omega
 unfold qPi;rw[hR,hW,Int.toNat_natCast,Int.toNat_natCast];obtain⟨L,hLe⟩:∃L,qBd c=L:=⟨_,rfl⟩;rw[hLe]at hL ⊢;obtain⟨hM0,hM1⟩:=zCh m L hL m0 m1;have hwd:IntKind.i64.wrap (m.tdiv L)=m.tdiv L:=by rw[IntKind.wrap_i64];omega
 obtain⟨M,hM⟩:∃M,m.tdiv L=M:=⟨_,rfl⟩;rw[hM]at hM0 hM1 ⊢;have HWD:=hide (show IntKind.i64.wrap (m.tdiv L)=M by rw[hwd,hM]);rw[hLe]at HLEN;have hb:=qB4 0 (c.panes+1) st;obtain⟨s0,hs0⟩:∃s0,qAs 0 (c.panes+1) st=s0:=⟨_,rfl⟩;obtain⟨N0,st1⟩:=s0;rw[hs0]at hb ⊢;have HN:=hide hs0;simp only at hb ⊢;obtain⟨hN0,hN1⟩:0<=N0/\N0<=9:=by omega
 obtain⟨N,rfl⟩:∃N:Nat,N0=(N:Int):=⟨N0.toNat,by omega⟩;rw[Int.toNat_natCast];obtain⟨S,hS⟩:∃S,qIc R W M N ⟨rel,0,(Pa.pn0,[]),st1⟩=S:=⟨_,rfl⟩;rw[hS];have HS:=hide hS;clear h hr hk hap hkn hR hW hpn hrw hLe hwd hM hb hs0 hS;go_enter Tryz.func162,Tryz.ntmps162
 go_wp2_with fail
 refine((uh HOL).number 0 (c.panes+1) _ _ (uh HN)).mono ?_;rintro e w1 ⟨rfl,hl1,_⟩;have HO1:=hide hl1;clear hl1 HOL k0 k2 c9 wp HN;go_wp2_with fail
 go_loopw [6,7,21] (λa b iv wr=>∃(i:Nat) (s:OR) (og2:Option Nat),a=.int .i64 s.lf/\b=.int .i64 s.le/\iv=.int .i64 (i:Int)/\i<=N/\0<=s.lf/\s.lf<=rel/\0<=s.le/\s.le<=4611686018427387904+i/\s.s.2.length<=i/\Hid (qIc R W M (N-i) s=S)/\Hid (OLg w d q r og c s.s s.st og2 wr)) (λ_ _ iv _=>N-(intOf iv).toNat)
 case atStart=>exact⟨0,⟨rel,0,(Pa.pn0,[]),st1⟩,og,rfl,rfl,rfl,Nat.zero_le _,r0,Int.le_refl _,Int.le_refl _,by simp only;omega,Nat.le_refl _,HS,HO1⟩
 case round =>
  clear HO1;obtain⟨i,s,og2,rfl,rfl,rfl,hi,lf0,lf1,le0,le1,hcl,HST,HL⟩:=hrel;obtain⟨lf,le,os,sg⟩:=s;obtain⟨o,cl⟩:=os;simp only at lf0 lf1 le0 le1 hcl HST HL
  by_cases hiN:i<N
  ·obtain⟨nn,hnn⟩:∃nn,N-i=nn+1:=⟨N-i-1,by omega⟩
   have hb1:=qB4 le M sg;obtain⟨x0,hx0⟩:∃x0,qAs le M sg=x0:=⟨_,rfl⟩;obtain⟨no,sg2⟩:=x0;have HX:=hide hx0;rw[hx0]at hb1;simp only at hb1;obtain⟨hno0,hno1⟩:0<=no/\no<=4611686018427387904+i:=by omega
   obtain⟨F,hF⟩:∃F,qI3 lf R W (qBp o cl no).1 sg2=F:=⟨_,rfl⟩;have hfb:=qRl lf W lf0 R 0 ⟨0,(qBp o cl no).1,sg2⟩ (Int.le_refl _) lf0;rw[show qCn lf W R 0 ⟨0,(qBp o cl no).1,sg2⟩=F from hF]at hfb;obtain⟨hf0,hf1⟩:=hfb
   have HSn:=hide (show qIc R W M nn ⟨lf-F.sm,no+1,(F.p,(qBp o cl no).2),F.st⟩=S by
      have h:=uh HST;rw[hnn,qIc]at h;simp only at h;rw[hx0]at h;simp only at h;rw[hF]at h
      exact h)
   have HF:=hide hF;clear HST hb1 hx0 hF;have hiI:(i:Int)<(N:Int):=by omega
   obtain⟨ck0,ck2⟩:=uh HCK wr (uh HL).kp;have c5:wr.cell? ⟨d,5,none⟩=some (.int .i64 c.window):=(uh HL).orr.blk.cell (qB2 c _ q 5 (by omega));have c9:wr.cell? ⟨d,9,none⟩=some (.int .i64 c.panes):=(uh HL).orr.blk.cell (qB2 c _ q 9 (by omega));have hLz:¬L=0:=by omega
   have hLz2:(L==0)=false:=by simp;exact hLz
   have hwd:=uh HWD;have HAP:=hide (show ¬(kn=r)/\¬(d=r) from⟨uh HKR,(uh HL).ap.1⟩);go_wp2_with fail
   go_region_held3 (λw'=>w'.cell? ⟨kn,0,none⟩=some (.int .i64 m)/\w'.cell? ⟨d,5,none⟩=some (.int .i64 c.window)/\w'.cell? ⟨d,9,none⟩=some (.int .i64 c.panes))
    (first | (go_split_ands;exact⟨by assumption,by assumption,by assumption⟩) | (go_split_ands;exact⟨hka.cell (by assumption) (λh=>h),hka.cell (by assumption) (λh=>h),hka.cell (by assumption) (λh=>h)⟩) | (go_split_ands;exact⟨hkb.cell (by assumption) (uh HAP).1,hkb.cell (by assumption) (uh HAP).2,hkb.cell (by assumption) (uh HAP).2⟩))
    (first | (go_at_call 204;refine(uh HLEN _ (by first | assumption | simpa using c5) (by first | assumption | simpa using c9)).mono ?_;rintro e W1 ⟨rfl,hka⟩) | (go_at_call 88;refine(((uh HL).still (((Keeps.refl (λ_=>False) wr).drew).then hka)).number le M _ _ (uh HX)).mono ?_;rintro e W2 ⟨rfl,hl2,hkb⟩))
   have HL2:=hide hl2;clear hl2 hka hkb HL ck0 ck2 c5 c9 hwd HX;go_wp2_with fail
   refine(qWj d q og2 c o cl no W2 (uh HL2).orr.blk (uh HL2).orr.row (uh HL2).orr.dq (uh HL2).orr.dg (by omega)).mono ?_;rintro e W3 ⟨rfl,og3,hb3,hr3,hk3,hog3⟩;have HL3:=hide ((uh HL2).turn (s2:=qBp o cl no) hb3 hr3 hk3 hog3);clear hb3 hr3 hk3 hog3 HL2;have hws:IntKind.i64.wrap (lf-F.sm)=lf-F.sm:=by rw[IntKind.wrap_i64];omega
   have hwn:IntKind.i64.wrap (no+1)=no+1:=by rw[IntKind.wrap_i64];omega
   have HFG:=hide (zC9 d q r R W c (qBp o cl no).1 lf sg2 W3 (uh HL3).orr.blk (uh HL3).rd (uh HL3).ap.1 (uh HRR) (uh HWW) R3 W16 lf0 (by omega));rw[uh HF]at HFG;go_wp2_with fail
   refine(uh HFG).mono ?_;rintro e W4 ⟨rfl,hb4,hr4,hk4⟩;have HL4:=hide (OLg.fill (o:=(qBp o cl no).1) (cl:=(qBp o cl no).2) (uh HL3) hb4 hr4 hk4);clear hb4 hr4 hk4 HL3 HFG HF;have htl:=qR5 o cl no;generalize(qBp o cl no).2=cl2 at *;go_wp2
   go_roundw
   case rel=>exact⟨i+1,⟨lf-F.sm,no+1,(F.p,cl2),F.st⟩,og3,rfl,rfl,by go_num,by omega,by simp only;omega,by simp only;omega,by simp only;omega,by simp only;omega,by simp only;omega,by rw[show N-(i+1)=nn by omega];exact HSn,HL4⟩
   case measure=>simp[intOf];omega
  ·have hie:i=N:=by omega
   subst hie;have hf':decide ((i:Int)<(i:Int))=false:=by simp
   have HE:=hide (show(⟨lf,le,(o,cl),sg⟩:OR)=S by
      have h:=uh HST;rw[Nat.sub_self]at h
      exact h)
   clear HST;go_wp2
   go_end0
   refine⟨rfl,og2,?_⟩;rw[<-uh HE];exact uh HL
def ldN(k:Nat)(c:Cfg)(m acc rel:Int)(ns:List Int)(st:Option (List Nat)): Note×Option (List Nat) :=
 match k with
 | 1=>({ qC9 with bs:=(qUh c.k m rel st).1 },(qUh c.k m rel st).2)
 | 2=>({ qC9 with rg:=(qYe m rel (qFx c) st).1 },(qYe m rel (qFx c) st).2)
 | 3=>({ qC9 with op:=(qPi c m rel st).s.1,cl:=(qPi c m rel st).s.2 },(qPi c m rel st).st)
 | 4=>({ qC9 with q:=(qXc rel st).1.1,r:=(qXc rel st).1.2 },(qXc rel st).2)
 | _=>({ qC9 with tk:=(qWr c m acc rel ns st).tk },(qWr c m acc rel ns st).st)
structure LodS (k r kn:Nat) (nb:NB) (nv:Value) (ck:Cfg) (m acc rel:Int) (ns:List Int) (st:Option (List Nat)) (w1:World):Prop where
 n:NRep w1 k nb ck qC9
 rd:RdS w1 r st
 kr:KnRep w1 kn m acc rel nv ns
 fr:¬qEn k nb r
 fk:¬qEn k nb kn
 fv:∀i,nv.ownBlock=some i->¬qEn k nb i
 rk:r<kn
 m0:-4611686018427387904<=m
 m1:m<=4611686018427387904
 r0:0<=rel
 r1:rel<=4611686018427387904
 nl:ns.length<=800
theorem zBg{w:World}{d r:Nat}{og og2:Option Nat}(hfo:og2=og\/∃k,og2=some k/\w.heap.size<=k){i:Nat}(h:i=d\/i=r\/og2=some i): (i=d\/i=r\/og=some i)\/w.heap.size<=i:=by
 rcases h with h | h | h
 ·exact .inl (.inl h)
 ·exact .inl (.inr (.inl h))
 ·rcases hfo with f | ⟨k,f,hz⟩
  ·exact .inl (.inr (.inr (by rw[<-f];exact h)))
  ·rw[h]at f
   have:=Option.some.inj f;exact .inr (by omega)
theorem zGu{k r kn:Nat}{nb:NB}{nv:Value}{ck:Cfg}{m acc rel:Int}{ns:List Int}{st:Option (List Nat)}{w1:World}(h:LodS k r kn nb nv ck m acc rel ns st w1)(hv:qA5 ck=true)(hk:ck.kind=(k:Int))(k1:1<=k)(k5:k<=5):
  Calls Tryz.prog (zIu k) (qJt nb.d++#[.pointer (some ⟨r,0,none⟩),.pointer (some ⟨kn,0,none⟩)]) w1 λe w2=>e=.returned (.tuple #[])/\∃nb':NB,nb'.d=nb.d/\NRep w2 k nb' ck (ldN k ck m acc rel ns st).1/\(∀i,qEn k nb' i->qEn k nb i\/w1.heap.size<=i)/\RdS w2 r (ldN k ck m acc rel ns st).2/\Keeps (λi=>i=r\/i=kn\/nv.ownBlock=some i\/qEn k nb i) w1 w2:=by
 rcases five k1 k5 with e | e | e | e | e
 ·subst e
  have hc:=qBy hv hk rfl;have fr:nb.d≠r/\nb.r≠r/\nb.g≠some r:=⟨λe=>h.fr (.inl ⟨rfl,.inl e.symm⟩),λe=>h.fr (.inl ⟨rfl,.inr (.inl e.symm)⟩),λe=>h.fr (.inl ⟨rfl,.inr (.inr e)⟩)⟩;have fk:kn≠r/\kn≠nb.r/\nb.g≠some kn:=⟨by have:=h.rk;omega,λe=>h.fk (.inl ⟨rfl,.inr (.inl e)⟩),λe=>h.fk (.inl ⟨rfl,.inr (.inr e)⟩)⟩;refine(qTo nb.d nb.r r kn nb.g ck m acc rel nv st w1 (h.n.cnt rfl) h.rd h.kr.blk fr fk hc.1 hc.2.1).mono ?_;rintro e w2 ⟨rfl,og2,hl⟩;refine⟨rfl,{ nb with g:=og2 },rfl,⟨λe=>(by cases e),λ_=>hl.cr,λe=>(by cases e),λe=>(by cases e),λe=>(by cases e)⟩,λi hi=>?_,hl.rd,hl.kp.mono (λi _ hi=>?_)⟩
  ·rcases hi with ⟨_,hi⟩ | ⟨e,_⟩ | ⟨e,_⟩ | ⟨e,_⟩ | ⟨e,_⟩
   ·rcases zBg hl.fo hi with f | f
    ·exact .inl (.inl ⟨rfl,f⟩)
    ·exact .inr f
   ·cases e
   ·cases e
   ·cases e
   ·cases e
  ·rcases hi with f | f | f
   ·exact .inl f
   ·exact .inr (.inr (.inr (.inl ⟨rfl,.inr (.inl f)⟩)))
   ·exact .inr (.inr (.inr (.inl ⟨rfl,.inr (.inr f)⟩)))
 ·subst e
  have hb:=qCa hv hk rfl;have h16:qFx ck<=16:=by
   unfold qFx;have:ck.bits.toNat<=4:=by omega
   exact Nat.le_trans (Nat.pow_le_pow_right (by omega) this) (by decide)
  have fr:nb.d≠r/\nb.r≠r/\(∀j,j<nb.qs.length->¬qf (qAt nb.qs j) r):=⟨λe=>h.fr (.inr (.inr (.inl ⟨rfl,.inl e.symm⟩))),λe=>h.fr (.inr (.inr (.inl ⟨rfl,.inr (.inl e.symm)⟩))),λj hj e=>h.fr (.inr (.inr (.inl ⟨rfl,.inr (.inr ⟨j,hj,e⟩)⟩)))⟩;have fk:kn≠r/\(∀j,j<nb.qs.length->¬qf (qAt nb.qs j) kn):=⟨by have:=h.rk;omega,λj hj e=>h.fk (.inr (.inr (.inl ⟨rfl,.inr (.inr ⟨j,hj,e⟩)⟩)))⟩;have hq:=(h.n.dis rfl).2;refine(qUb nb.d nb.r r kn (qFx ck) nb.qs ck m acc rel nv st w1 (h.n.dis rfl).1 hq h.rd h.kr.blk fr fk h16 h.m1).mono ?_;rintro e w2 ⟨rfl,qs,hl⟩;refine⟨rfl,{ nb with qs:=qs },rfl,⟨λe=>(by cases e),λe=>(by cases e),λ_=>⟨hl.dr,by show qs.length=qFx ck;rw[hl.ln,hq]⟩,λe=>(by cases e),λe=>(by cases e)⟩,λi hi=>?_,hl.rd,hl.kp.mono (λi _ hi=>?_)⟩
  ·rcases hi with ⟨e,_⟩ | ⟨e,_⟩ | ⟨_,hi⟩ | ⟨e,_⟩ | ⟨e,_⟩
   ·cases e
   ·cases e
   ·rcases hi with f | f | ⟨j,hj,f⟩
    ·exact .inl (.inr (.inr (.inl ⟨rfl,.inl f⟩)))
    ·exact .inl (.inr (.inr (.inl ⟨rfl,.inr (.inl f)⟩)))
    ·rcases hl.fo j i hj f with ⟨j2,h2,f2⟩ | f2
     ·exact .inl (.inr (.inr (.inl ⟨rfl,.inr (.inr ⟨j2,h2,f2⟩)⟩)))
     ·exact .inr f2
   ·cases e
   ·cases e
  ·rcases hi with f | f
   ·exact .inl f
   ·exact .inr (.inr (.inr (.inr (.inr (.inl ⟨rfl,.inr (.inr f)⟩)))))
 ·subst e
  obtain⟨hp,hr,hL,_,_⟩:=qBr hv hk rfl;have fr:nb.d≠r/\nb.r≠r/\nb.g≠some r:=⟨λe=>h.fr (.inr (.inr (.inr (.inl ⟨rfl,.inl e.symm⟩)))),λe=>h.fr (.inr (.inr (.inr (.inl ⟨rfl,.inr (.inl e.symm)⟩)))),λe=>h.fr (.inr (.inr (.inr (.inl ⟨rfl,.inr (.inr e)⟩))))⟩;have fk:kn≠r/\kn≠nb.d/\kn≠nb.r/\nb.g≠some kn:=⟨by have:=h.rk;omega,λe=>h.fk (.inr (.inr (.inr (.inl ⟨rfl,.inl e⟩)))),λe=>h.fk (.inr (.inr (.inr (.inl ⟨rfl,.inr (.inl e)⟩)))),λe=>h.fk (.inr (.inr (.inr (.inl ⟨rfl,.inr (.inr e)⟩))))⟩;refine(qTx nb.d nb.r r kn nb.g ck m acc rel nv st w1 (h.n.oft rfl) h.rd h.kr.blk fr fk hp hr hL h.m0 h.m1 h.r1 h.r0).mono ?_;rintro e w2 ⟨rfl,og2,hl⟩;refine⟨rfl,{ nb with g:=og2 },rfl,⟨λe=>(by cases e),λe=>(by cases e),λe=>(by cases e),λ_=>hl.orr,λe=>(by cases e)⟩,λi hi=>?_,hl.rd,hl.kp.mono (λi _ hi=>?_)⟩
  ·rcases hi with ⟨e,_⟩ | ⟨e,_⟩ | ⟨e,_⟩ | ⟨_,hi⟩ | ⟨e,_⟩
   ·cases e
   ·cases e
   ·cases e
   ·rcases zBg hl.fo hi with f | f
    ·exact .inl (.inr (.inr (.inr (.inl ⟨rfl,f⟩))))
    ·exact .inr f
   ·cases e
  ·rcases hi with f | f
   ·exact .inl f
   ·exact .inr (.inr (.inr (.inr (.inr (.inr (.inl ⟨rfl,f⟩))))))
 ·subst e
  have hd:nb.d≠r:=λe=>h.fr (.inr (.inl ⟨rfl,e.symm⟩))
  have hkd:kn≠nb.d:=λe=>h.fk (.inr (.inl ⟨rfl,e⟩))
  refine(qU0 nb.d r kn ck m acc rel nv st w1 (h.n.dec rfl) h.rd h.kr.blk hd (by have:=h.rk;omega) hkd).mono ?_;rintro x w2 ⟨rfl,hb,hr2,hk2⟩
  exact⟨rfl,nb,rfl,⟨λ_=>hb,λe=>(by cases e),λe=>(by cases e),λe=>(by cases e),λe=>(by cases e)⟩,λi hi=>.inl hi,hr2,hk2.mono (λi _ h=>by
       rcases h with h | h
       ·exact .inl h
       ·exact .inr (.inr (.inr (.inr (.inl ⟨rfl,h⟩)))))⟩
 ·subst e
  have hs:=qC4 hv hk rfl;have hw:=qEb hv hk (by omega) k5;have nf:∀i,(i=nb.d\/i=nb.r\/nb.g=some i)->qEn 5 nb i:=λi hi=>.inr (.inr (.inr (.inr ⟨rfl,hi⟩)))
  have hL:TLg w1 nb.d nb.r r kn ck m acc rel nb.g nv [] st ns nb.g nv w1 :=
   ⟨h.n.drw rfl,h.rd,h.kr,Keeps.refl _ _,.inl rfl,λi hi=>.inl hi,λi hi=>⟨λe=>h.fv i hi (nf i (.inl e)),λe=>h.fv i hi (nf i (.inr (.inl e))),λe=>h.fv i hi (nf i (.inr (.inr e)))⟩,
      ⟨λe=>h.fr (nf r (.inl e.symm)),λe=>h.fr (nf r (.inr (.inl e.symm))),λe=>h.fk (nf kn (.inl e.symm)),λe=>h.fk (nf kn (.inr (.inl e.symm))),h.rk,h.rd.lt⟩,
      λg hg=>⟨λe=>h.fr (nf r (.inr (.inr (by rw[<-e];exact hg)))),λe=>h.fk (nf kn (.inr (.inr (by rw[<-e];exact hg))))⟩⟩
  refine(qTv nb.d nb.r r kn nb.g ck m acc rel nv ns st w1 hL hw hs.1 hs.2 h.r0 h.m1 h.nl).mono ?_;rintro e w2 ⟨rfl,og2,nv2,hl⟩;refine⟨rfl,{ nb with g:=og2 },rfl,⟨λe=>(by cases e),λe=>(by cases e),λe=>(by cases e),λe=>(by cases e),λ_=>hl.tr⟩,λi hi=>?_,hl.rd,hl.kp.mono (λi _ hi=>?_)⟩
  ·rcases hi with ⟨e,_⟩ | ⟨e,_⟩ | ⟨e,_⟩ | ⟨e,_⟩ | ⟨_,hi⟩
   ·cases e
   ·cases e
   ·cases e
   ·cases e
   ·rcases zBg hl.fo hi with f | f
    ·exact .inl (nf i f)
    ·exact .inr f
  ·rcases hi with f | f | f | f
   ·exact .inl f
   ·exact .inr (.inl f)
   ·exact .inr (.inr (.inl f))
   ·exact .inr (.inr (.inr (nf i (.inr f))))
def itK(k:Nat)(y:It): It:=match k with
 | 1=>⟨y.t,0,0,y.n⟩
 | 2=>⟨y.t,y.k,0,y.n⟩
 | 3=>⟨y.t,y.k,0,y.n⟩
 | 4=>⟨y.t,0,0,y.n⟩
 | _=>⟨y.t,y.k,y.d,y.n⟩
def itL(y:It): List Value:=[.int .i64 y.t,.int .i64 y.k,.int .i64 y.d,.int .i64 y.n]
def qQ5(l:List It)(y:It): List It:=riseL (l.length+1) (l++[y]) l.length
def qI5(k:Nat)(its:List It): List It:=its.foldl (λl y=>qQ5 l (itK k y)) []
theorem qZi(k:Nat)(its:List It)(y:It): qI5 k (its++[y])=qQ5 (qI5 k its) (itK k y):=by
 unfold qI5;rw[List.foldl_append];rfl
theorem qUm(k:Nat)(its:List It): (qI5 k its).length=its.length:=by
 have:∀(a:List It) (l:List It),(a.foldl (λl y=>qQ5 l (itK k y)) l).length=l.length+a.length:=by
  intro a
  induction a with
  | nil=>intro l;rfl
  | cons y a ih=>intro l;rw[List.foldl_cons,ih];unfold qQ5;rw[riseL_length];simp;omega
 have h:=this its [];simpa[qI5] using h
def serB(x:Ser)(ck:Cfg)(its:List It): Ser:=⟨x.id,ck,x.k,0,x.rel,qIe x.ref 7,qI5 x.k its,qC9,0⟩
def zHe(k:Nat): List Value:=[.func (.func (qBw k)) #[] #[],.func (.func (qA7 k)) #[] #[],.func (.func (qA8 k)) #[] #[],.func (.func (qAr k)) #[] #[],.func (.func (qA6 k)) #[] #[],.func (.func (qA9 k)) #[] #[]]
def qJ3: Nat->Nat->List Int->Option (List Nat)->List Int×Option (List Nat)
 | 0,_,f,st=>(f,st)
 | n+1,k,f,st=>qJ3 n (k+1) (f.set (qCp.getD k 0) (qAs 0 4611686018427387904 st).1) (qAs 0 4611686018427387904 st).2
structure IR where
 l:List It
 ns:List Int
 st:Option (List Nat)
def itR(x:Ser)(clock A:Int)(s:IR): IR :=
 let a:=knR A s.ns s.st
 let p:=qAy (qB9 x.k).length a.2
 let y:=itD a.1 p.1
 ⟨qQ5 s.l y,s.ns++[a.1],qEm (qIw { x with l:=s.l } clock y==0) p.2⟩
def qV7(x:Ser)(clock A:Int): Nat->IR->IR
 | 0,s=>s
 | n+1,s=>qV7 x clock A n (itR x clock A s)
def qVu(id clock:Int)(C:CfgD): Option Ser×Option (List Nat) :=
 let f:=qJ3 7 0 [0,0,0,0,0,0,0,0,0,0,0,0] C.st
 let rl:=qAs 0 (qEg C.c clock) f.2
 let wt:=qAs 0 (qPh C.c.cap (4611686018427387904-rl.1)) rl.2
 let s:=qV7 ⟨id,C.c,C.k,0,rl.1,f.1,[],qC9,0⟩ clock (rl.1+wt.1) wt.1.toNat ⟨[],[],wt.2⟩
 let n:=ldN C.k C.c (clock-C.c.lag) (rl.1+wt.1) rl.1 s.ns s.st
 (if n.2.isNone then none else some ⟨id,C.c,C.k,rl.1+wt.1,rl.1,f.1,s.l,n.1,0⟩,n.2)
def qO2(clock:Int)(st:Option (List Nat)): Option Ser×Option (List Nat) :=
 let i:=qAs 0 99 st
 let C:=qMl i.2
 if C.good then qVu i.1 clock C else(none,C.st)
theorem qVz(c:Cfg)(clock:Int)(p0:1<=c.cap): 0<=qEg c clock/\qEg c clock<=4611686018427387904:=by
 unfold qEg;simp only;obtain⟨t,ht,ht0⟩:∃t,(if 0<(if clock-c.lag+1<clock then clock-c.lag+1 else clock) then(if clock-c.lag+1<clock then clock-c.lag+1 else clock) else 0)=t/\0<=t:=⟨_,rfl,by split <;> omega⟩;rw[ht]
 split
 ·omega
 ·rename_i h
  have h2:t<=4611686018427387904/c.cap:=by omega
  have h3:=Int.mul_le_mul_of_nonneg_left h2 (show 0<=c.cap by omega);have h4:=Int.mul_ediv_self_le (x:=4611686018427387904) (k:=c.cap) (by omega);exact⟨Int.mul_nonneg (by omega) ht0,by omega⟩
theorem zEm(k:Nat)(n:Int)(p:List Int)(h1:1<=k)(h5:k<=5)(hp:p.length=(qB9 k).length): qLj [.int .i64 0,.int .i64 0,.int .i64 0,.int .i64 n] (qB9 k) p=itL (itD n p):=by
 rcases five h1 h5 with e | e | e | e | e
 ·subst e;match p,hp with | [a],_=>rfl
 ·subst e;match p,hp with | [a,b],_=>rfl
 ·subst e;match p,hp with | [a,b],_=>rfl
 ·subst e;match p,hp with | [a],_=>rfl
 ·subst e;match p,hp with | [a,b,c],_=>rfl
structure LSs (w:World) (r:Nat) (sb:SB) (x:Ser) (st:Option (List Nat)) (w':World):Prop where
 ser:SRep w' sb x
 rd:RdS w' r st
 kp:Keeps (λi=>i=r) w w'
 new:∀i,sb.foot x.k i->w.heap.size<=i
 rl:r<w.heap.size
theorem LSs.apart{w:World}{r:Nat}{sb:SB}{x:Ser}{st:Option (List Nat)}{w':World}(h:LSs w r sb x st w')(i:Nat)(hi:sb.foot x.k i): ¬i=r:=λe=>by
 have h1:=h.new i hi;have h2:=h.rl;omega
theorem LSs.still{w:World}{r:Nat}{sb:SB}{x:Ser}{st:Option (List Nat)}{w' w'':World}(h:LSs w r sb x st w')(hk:Keeps (λ_=>False) w' w''): LSs w r sb x st w'' :=
 ⟨h.ser.still hk,h.rd.keeps hk (λh=>h),h.kp.trans hk (λ_ h _=>h.elim),h.new,h.rl⟩
theorem LSs.reads{w:World}{r:Nat}{sb:SB}{x:Ser}{st st2:Option (List Nat)}{w' w'':World}(h:LSs w r sb x st w')(hr:RdS w'' r st2)(hk:Keeps (λi=>i=r) w' w''): LSs w r sb x st2 w'' :=
 ⟨h.ser.keeps hk (λi hi=>h.apart i hi),hr,h.kp.then hk,h.new,h.rl⟩
theorem LSs.number{w:World}{r:Nat}{sb:SB}{x:Ser}{st:Option (List Nat)}{w':World}(h:LSs w r sb x st w')(lo hi n:Int)(st2:Option (List Nat))(he:qAs lo hi st=(n,st2)):
  Calls Tryz.prog 88 #[.pointer (some ⟨r,0,none⟩),.int .i64 lo,.int .i64 hi] w' λe w''=>e=.returned (.int .i64 n)/\LSs w r sb x st2 w''/\Keeps (λi=>i=r) w' w'':=by
 refine(qCd r lo hi st w' h.rd).mono ?_;rintro e w2 ⟨rfl,hr,hk⟩;rw[he]at hr ⊢;exact⟨rfl,h.reads hr hk,hk⟩
theorem LSs.set{w:World}{r:Nat}{sb:SB}{x x2:Ser}{st:Option (List Nat)}{w':World}(h:LSs w r sb x st w')(o:Nat)(v:Value)(he:(qCi sb x).set o v=qCi sb x2)(hl:x2.l=x.l)(hk:x2.k=x.k)(hc:x2.c=x.c)(hn:x2.nt=x.nt): LSs w r sb x2 st (w'.setCell ⟨sb.s,o,none⟩ v):=by
 have hkp:Keeps (λi=>i=sb.s) w' (w'.setCell ⟨sb.s,o,none⟩ v):=(Keeps.refl (λi=>i=sb.s) w').setCell (p:=⟨sb.s,o,none⟩) (Or.inl rfl) v;have hsn:=h.new sb.s (.inl rfl);have hrl:=h.rl;refine⟨⟨?_,?_,?_,h.ser.sq,h.ser.sg,?_⟩,h.rd.keeps hkp (show ¬(r=sb.s) by omega),h.kp.trans hkp (λi hi hlt=>by have hi2:i=sb.s:=hi;omega),?_,h.rl⟩
 ·rw[<-he];exact h.ser.blk.setCell o v
 ·rw[hl];exact h.ser.que.keeps hkp (λe=>h.ser.sq e.symm) (λg hg e=>h.ser.sg g hg e.symm)
 ·rw[hk,hc,hn];exact h.ser.note.keeps hkp (λi hi=>(h.ser.sn i hi).1)
 ·rw[hk];exact h.ser.sn
 ·rw[hk];exact h.new
structure LIs (w:World) (r:Nat) (sb:SB) (x:Ser) (clock A:Int) (kn cb:Nat) (l:List It) (st:Option (List Nat)) (ns:List Int) (og:Option Nat) (nv:Value) (wr:World):Prop where
 ls:LSs w r { sb with g:=og } { x with l:=l } st wr
 kr:KnRep wr kn (clock-x.c.lag) A x.rel nv ns
 kd:Blk wr (cb+1) (zHe x.k) 83
 ap:∀j,({ sb with g:=og }:SB).foot x.k j->cb+1<j/\j≠kn/\nv.ownBlock≠some j
 rc:r<cb
 kc:cb+1<kn
 wk:w.heap.size<=kn
theorem LIs.nvlt{w:World}{r:Nat}{sb:SB}{x:Ser}{clock A:Int}{kn cb:Nat}{l:List It}{st:Option (List Nat)}{ns:List Int}{og:Option Nat}{nv:Value}{wr:World}(h:LIs w r sb x clock A kn cb l st ns og nv wr)(i:Nat)(hi:nv.ownBlock=some i): kn+1<=i:=(h.kr.row.lt i hi).1
theorem LIs.still{w:World}{r:Nat}{sb:SB}{x:Ser}{clock A:Int}{kn cb:Nat}{l:List It}{st:Option (List Nat)}{ns:List Int}{og:Option Nat}{nv:Value}{wr w2:World}(h:LIs w r sb x clock A kn cb l st ns og nv wr)(hk:Keeps (λ_=>False) wr w2): LIs w r sb x clock A kn cb l st ns og nv w2 :=
 ⟨h.ls.still hk,h.kr.keeps hk (λh=>h) (λ_ _ h=>h),h.kd.keeps hk (λh=>h),h.ap,h.rc,h.kc,h.wk⟩
theorem LIs.rd{w:World}{r:Nat}{sb:SB}{x:Ser}{clock A:Int}{kn cb:Nat}{l:List It}{st st2:Option (List Nat)}{ns:List Int}{og:Option Nat}{nv:Value}{wr w2:World}{bx:Nat}(h:LIs w r sb x clock A kn cb l st ns og nv wr)(hk:Keeps (λi=>i=r\/i=bx) wr w2)(hr:RdS w2 r st2)(hb:∀j,({ sb with g:=og }:SB).foot x.k j->j≠bx)(hkb:kn≠bx)(hnb:nv.ownBlock≠some bx)(hcb:cb+1≠bx)(hwb:w.heap.size<=bx): LIs w r sb x clock A kn cb l st2 ns og nv w2:=by
 have hrl:=h.ls.rl;have h1:=h.rc;have h2:=h.kc;have h3:=h.wk;refine⟨⟨h.ls.ser.keeps hk (λi hi e=>?_),hr,h.ls.kp.trans hk (λi hi hlt=>?_),h.ls.new,h.ls.rl⟩,h.kr.keeps hk (λe=>?_) (λi hi e=>?_),h.kd.keeps hk (λe=>?_),h.ap,h.rc,h.kc,h.wk⟩
 ·rcases e with e | e
  ·exact h.ls.apart i hi e
  ·exact hb i hi e
 ·rcases hi with e | e
  ·exact e
  ·omega
 ·rcases e with e | e
  ·omega
  ·exact hkb e
 ·rcases e with e | e
  ·have:=h.nvlt i hi;omega
  ·exact hnb (by rw[<-e];exact hi)
 ·rcases e with e | e
  ·omega
  ·exact hcb e
theorem LIs.num{w:World}{r:Nat}{sb:SB}{x:Ser}{clock A:Int}{kn cb:Nat}{l:List It}{st:Option (List Nat)}{ns:List Int}{og:Option Nat}{nv:Value}{wr:World}(h:LIs w r sb x clock A kn cb l st ns og nv wr)(hl:ns.length<=900)(n:Int)(st2:Option (List Nat))(he:knR A ns st=(n,st2)):
  Calls Tryz.prog 138 #[.pointer (some ⟨kn,0,none⟩),.pointer (some ⟨r,0,none⟩)] wr λe w'=>e=.returned (.int .i64 n)/\∃nv',LIs w r sb x clock A kn cb l st2 (ns++[n]) og nv' w':=by
 have hrc:=h.rc;have hck:=h.kc;have hwk:=h.wk;refine(qKw r kn _ A x.rel nv ns st wr h.ls.rd h.kr (by omega) hl).mono ?_;rintro e w2 ⟨rfl,hr,⟨nv',hkn,hnv⟩,hk⟩;rw[he]at hr hkn ⊢;refine⟨rfl,nv',⟨⟨h.ls.ser.keeps hk (λi hi e=>?_),hr,h.ls.kp.trans hk (λi hi hlt=>?_),h.ls.new,h.ls.rl⟩,hkn,h.kd.keeps hk (λe=>?_),λj hj=>⟨(h.ap j hj).1,(h.ap j hj).2.1,λe=>?_⟩,h.rc,h.kc,h.wk⟩⟩
 ·rcases e with e | e | e
  ·exact h.ls.apart i hi e
  ·exact(h.ap i hi).2.1 e
  ·exact(h.ap i hi).2.2 e
 ·rcases hi with e | e | e
  ·exact e
  ·omega
  ·have:=h.nvlt i e;omega
 ·rcases e with e | e | e
  ·omega
  ·omega
  ·have:=h.nvlt _ e;omega
 ·rcases hnv j e with e | e
  ·exact(h.ap j hj).2.2 e
  ·have:=h.ls.ser.lt j hj;omega
theorem LIs.put{w:World}{r:Nat}{sb:SB}{x:Ser}{clock A:Int}{kn cb:Nat}{l:List It}{st:Option (List Nat)}{ns:List Int}{og og2:Option Nat}{nv:Value}{wr w2:World}{y:It}(h:LIs w r sb x clock A kn cb l st ns og nv wr)(hq:QRep w2 sb.q og2 (qQ5 l y))(hk:Keeps (λk=>k=sb.q\/og=some k) wr w2)(hog:og2=og\/∃k,og2=some k/\wr.heap.size<=k): LIs w r sb x clock A kn cb (qQ5 l y) st ns og2 nv w2:=by
 have hrl:=h.ls.rl;have hnew:=h.ls.new;have hs:=h.ls.ser;have hsz:=h.ls.kp.size;have hM:∀i,(i=sb.q\/og=some i)->({ sb with g:=og }:SB).foot x.k i:=λi hi=>hi.elim (λe=>.inr (.inl e)) (λe=>.inr (.inr (.inl e)))
 have hf2:∀j,({ sb with g:=og2 }:SB).foot x.k j->({ sb with g:=og }:SB).foot x.k j\/wr.heap.size<=j:=λj hj=>by
  rcases hj with e | e | e | e
  ·exact .inl (.inl e)
  ·exact .inl (.inr (.inl e))
  ·rcases hog with g | ⟨k,g,hz⟩
   ·exact .inl (.inr (.inr (.inl (g ▸ e))))
   ·have e2:og2=some j:=e
    rw[g]at e2;have:=Option.some.inj e2;exact .inr (by omega)
  ·exact .inl (.inr (.inr (.inr e)))
 refine⟨⟨⟨?_,?_,?_,hs.sq,λg hg=>?_,λi hi=>⟨(hs.sn i hi).1,(hs.sn i hi).2.1,λe=>?_⟩⟩,h.ls.rd.keeps hk (λe=>h.ls.apart r (hM r e) rfl),h.ls.kp.trans hk (λi hi hlt=>?_),λi hi=>?_,h.ls.rl⟩,h.kr.keeps hk (λe=>(h.ap kn (hM kn e)).2.1 rfl) (λi hi e=>(h.ap i (hM i e)).2.2 hi),h.kd.keeps hk (λe=>by have:=(h.ap _ (hM _ e)).1;omega),λj hj=>?_,h.rc,h.kc,h.wk⟩
 ·exact hs.blk.keeps hk (λe=>by
     rcases e with e | e
     ·exact hs.sq e
     ·exact hs.sg _ e rfl)
 ·exact hq
 ·exact hs.note.keeps hk (λi hi e=>by
     rcases e with e | e
     ·exact(hs.sn i hi).2.1 e
     ·exact(hs.sn i hi).2.2 e)
 ·rcases hog with e | ⟨k,e,hz⟩
  ·exact hs.sg g (e ▸ hg)
  ·have e2:og2=some g:=hg
   rw[e]at e2;have:=Option.some.inj e2;have h2:=hs.lt sb.s (.inl rfl);show sb.s≠g;omega
 ·have e2:og2=some i:=e
  rcases hog with g | ⟨k,g,hz⟩
  ·exact(hs.sn i hi).2.2 (g ▸ e2)
  ·rw[g]at e2
   have:=Option.some.inj e2;have h2:=hs.lt i (.inr (.inr (.inr hi)));omega
 ·have:=hnew i (hM i hi)
  omega
 ·rcases hf2 i hi with e | e
  ·exact hnew i e
  ·omega
 ·rcases hf2 j hj with e | e
  ·exact h.ap j e
  ·have h1:=h.kr.blk.lt
   have h2:=h.kc;refine⟨by omega,by omega,λe2=>?_⟩;have:=(h.kr.row.lt j e2).2;omega
end
section
open Go.RowKit
attribute [local go_sem ↓] qAd qCs
attribute [local go_sem] qAf qAc qAb qAm qAn qAi qAj qAh qAk
theorem qRc{st:Option (List Nat)}(h:(qMl st).good=true): qA5 (qMl st).c=true/\(qMl st).c.kind=((qMl st).k:Int)/\1<=(qMl st).k/\(qMl st).k<=5:=by
 unfold qMl at h ⊢;simp only at h ⊢;generalize qAs 0 9223372036854775807 st=q at *;obtain⟨q,s⟩:=q;simp only at h ⊢
 split at h
 ·rename_i hb
  rw[if_pos hb];obtain⟨q1,q5⟩:=qCq hb;obtain⟨k,rfl⟩:∃k:Nat,q=(k:Int):=⟨q.toNat,by omega⟩;rw[Int.toNat_natCast]at h ⊢;refine⟨h,?_,by show 1<=k;omega,by show k<=5;omega⟩;rcases five (k:=k) (by omega) (by omega) with e | e | e | e | e <;> subst e <;> rfl
 ·simp at h
def zFz(w w':World)(o:Option Ser)(e:Ending): Prop:=match o with
 | none=>e=.returned (.pointer none)
 | some y=>∃sb:SB,e=.returned (.pointer (some ⟨sb.s,0,none⟩))/\SRep w' sb y/\(∀i,sb.foot y.k i->w.heap.size<=i)
theorem qY5(r:Nat)(clock id:Int)(C:CfgD)(st st1:Option (List Nat))(w:World)(h:RdS w r st)(hN:qAs 0 99 st=(id,st1))(hC:qMl st1=C)(hg:C.good=false):
  Calls Tryz.prog 89 #[.pointer (some ⟨r,0,none⟩),.int .i64 clock] w λe w'=>e=.returned (.pointer none)/\RdS w' r C.st/\Keeps (λi=>i=r) w w':=by
 have HN:=hide (qCd r 0 99 st w h);rw[hN]at HN;have HLC:=hide (λw h=>qIn r st1 w h);rw[hC]at HLC;have HG:=hide hg;clear h hN hC hg;go_enter Tryz.func89,Tryz.ntmps89
 go_wp2_with fail
 refine(uh HN).mono ?_;rintro e w1 ⟨rfl,hr1,hk1⟩;have HR1:=hide hr1;have HK1:=hide hk1;clear hr1 hk1 HN;go_wp2_with fail
 refine(uh HLC _ (uh HR1)).mono ?_;rintro e w2 ⟨ho,hr2,hk2⟩;unfold qMv at ho;rw[uh HG,if_neg (by simp)]at ho;subst ho;have HR2:=hide hr2;have HK2:=hide ((uh HK1).then hk2);have hs2:=(uh HK2).size;clear hr2 hk2 HK1 HR1 HLC;obtain⟨ck,hck⟩:∃ck,C.c=ck:=⟨_,rfl⟩;rw[hck];have hval:ck.val=.agg ck.cells.toArray:=rfl;rw[hval];clear hck hval;have HC0:=hide (show Blk ((w2.alloc (.cells #[.int .i64 0,.int .i64 0,.int .i64 0,.int .i64 0,.int .i64 0,.int .i64 0,.int .i64 0,.int .i64 0,.int .i64 0,.int .i64 0,.int .i64 0,.int .i64 0,.int .i64 0,.int .i64 0,.int .i64 0,.int .i64 0,.int .i64 0,.int .i64 0,.int .i64 0,.int .i64 0] 32)).alloc (.cells #[.nilFunc,.nilFunc,.nilFunc,.nilFunc,.nilFunc,.nilFunc] 83)) w2.heap.size qKz.cells 32 from(Blk.new w2 _ _).alloc _);have HN0:=hide (show Blk ((w2.alloc (.cells #[.int .i64 0,.int .i64 0,.int .i64 0,.int .i64 0,.int .i64 0,.int .i64 0,.int .i64 0,.int .i64 0,.int .i64 0,.int .i64 0,.int .i64 0,.int .i64 0,.int .i64 0,.int .i64 0,.int .i64 0,.int .i64 0,.int .i64 0,.int .i64 0,.int .i64 0,.int .i64 0] 32)).alloc (.cells #[.nilFunc,.nilFunc,.nilFunc,.nilFunc,.nilFunc,.nilFunc] 83)) (w2.heap.size+1) [.nilFunc,.nilFunc,.nilFunc,.nilFunc,.nilFunc,.nilFunc] 83 from Blk.newAt (by simp) _ _);have HKW:=hide (show Keeps (λ_=>False) w2 ((w2.alloc (.cells #[.int .i64 0,.int .i64 0,.int .i64 0,.int .i64 0,.int .i64 0,.int .i64 0,.int .i64 0,.int .i64 0,.int .i64 0,.int .i64 0,.int .i64 0,.int .i64 0,.int .i64 0,.int .i64 0,.int .i64 0,.int .i64 0,.int .i64 0,.int .i64 0,.int .i64 0,.int .i64 0] 32)).alloc (.cells #[.nilFunc,.nilFunc,.nilFunc,.nilFunc,.nilFunc,.nilFunc] 83)) from((Keeps.refl _ _).alloc _).alloc _);obtain⟨WA,hWA⟩:∃WA,WA=((w2.alloc (.cells #[.int .i64 0,.int .i64 0,.int .i64 0,.int .i64 0,.int .i64 0,.int .i64 0,.int .i64 0,.int .i64 0,.int .i64 0,.int .i64 0,.int .i64 0,.int .i64 0,.int .i64 0,.int .i64 0,.int .i64 0,.int .i64 0,.int .i64 0,.int .i64 0,.int .i64 0,.int .i64 0] 32)).alloc (.cells #[.nilFunc,.nilFunc,.nilFunc,.nilFunc,.nilFunc,.nilFunc] 83)).setCells w2.heap.size 0 ck.cells:=⟨_,rfl⟩;have hst:(qDr 32 (.pointer (some ⟨w2.heap.size,0,none⟩)) (.agg ck.cells.toArray)).run Tryz.prog ((w2.alloc (.cells #[.int .i64 0,.int .i64 0,.int .i64 0,.int .i64 0,.int .i64 0,.int .i64 0,.int .i64 0,.int .i64 0,.int .i64 0,.int .i64 0,.int .i64 0,.int .i64 0,.int .i64 0,.int .i64 0,.int .i64 0,.int .i64 0,.int .i64 0,.int .i64 0,.int .i64 0,.int .i64 0] 32)).alloc (.cells #[.nilFunc,.nilFunc,.nilFunc,.nilFunc,.nilFunc,.nilFunc] 83))=.ok .skip WA:=by
  rw[hWA];exact qEz ck (uh HC0) rfl
 have HCA:=hide (show Blk WA w2.heap.size ck.cells 32 by
    have:=Blk.setCells ck.cells 0 _ _ (uh HC0) (by show 0+20<=20;omega);rw[qJa _ _ (by rfl),<-hWA]at this
    exact this)
 have hkA:Keeps (λi=>i=w2.heap.size) ((w2.alloc (.cells #[.int .i64 0,.int .i64 0,.int .i64 0,.int .i64 0,.int .i64 0,.int .i64 0,.int .i64 0,.int .i64 0,.int .i64 0,.int .i64 0,.int .i64 0,.int .i64 0,.int .i64 0,.int .i64 0,.int .i64 0,.int .i64 0,.int .i64 0,.int .i64 0,.int .i64 0,.int .i64 0] 32)).alloc (.cells #[.nilFunc,.nilFunc,.nilFunc,.nilFunc,.nilFunc,.nilFunc] 83)) WA:=by
  rw[hWA];exact Keeps.setCells (M:=λi=>i=w2.heap.size) (b:=w2.heap.size) (Or.inl rfl) _ _ _ (Keeps.refl _ _)
 have HKA:=hide ((uh HN0).keeps hkA (show ¬(w2.heap.size+1=w2.heap.size) by omega));have HPA:=hide (show Keeps (λ_=>False) w2 WA from(uh HKW).trans hkA (λi hi hlt=>by have hi2:i=w2.heap.size:=hi;omega));have n0:=(uh HKA).cell (i:=0) rfl;have n1:=(uh HKA).cell (i:=1) rfl;have n2:=(uh HKA).cell (i:=2) rfl;have n3:=(uh HKA).cell (i:=3) rfl;have n4:=(uh HKA).cell (i:=4) rfl;have n5:=(uh HKA).cell (i:=5) rfl;have nf:=(uh HKA).frozen;have HTB:=hide (show Blk _ (w2.heap.size+1) [.nilFunc,.nilFunc,.nilFunc,.nilFunc,.nilFunc,.nilFunc] 83 from(((((((uh HKA).setCell 0 (.nilFunc)).setCell 1 .nilFunc).setCell 2 .nilFunc).setCell 3 .nilFunc).setCell 4 .nilFunc).setCell 5 .nilFunc));have HPB:=hide (show Keeps (λi=>i=w2.heap.size+1) WA _ from(((((((Keeps.refl (λi=>i=w2.heap.size+1) WA).setCell (p:=⟨w2.heap.size+1,0,none⟩) (Or.inl rfl) .nilFunc).setCell (p:=⟨w2.heap.size+1,1,none⟩) (Or.inl rfl) .nilFunc).setCell (p:=⟨w2.heap.size+1,2,none⟩) (Or.inl rfl) .nilFunc).setCell (p:=⟨w2.heap.size+1,3,none⟩) (Or.inl rfl) .nilFunc).setCell (p:=⟨w2.heap.size+1,4,none⟩) (Or.inl rfl) .nilFunc).setCell (p:=⟨w2.heap.size+1,5,none⟩) (Or.inl rfl) .nilFunc));clear hWA hkA HC0 HN0 HKW;obtain⟨WB,hWB⟩:∃WB,WB=((((((WA.setCell ⟨w2.heap.size+1,0,none⟩ .nilFunc).setCell ⟨w2.heap.size+1,1,none⟩ .nilFunc).setCell ⟨w2.heap.size+1,2,none⟩ .nilFunc).setCell ⟨w2.heap.size+1,3,none⟩ .nilFunc).setCell ⟨w2.heap.size+1,4,none⟩ .nilFunc).setCell ⟨w2.heap.size+1,5,none⟩ .nilFunc):=⟨_,rfl⟩;rw[<-hWB]at HTB HPB;have HCB:=hide ((uh HCA).keeps (uh HPB) (show ¬(w2.heap.size=w2.heap.size+1) by omega));have HPC:=hide (show Keeps (λ_=>False) w2 WB from(uh HPA).trans (uh HPB) (λi hi hlt=>by have hi2:i=w2.heap.size+1:=hi;omega));have hWB':=hWB.symm;clear hWB HPA HPB HCA HKA;have t0:=(uh HTB).cell (i:=0) rfl;have t1:=(uh HTB).cell (i:=1) rfl;have t2:=(uh HTB).cell (i:=2) rfl;have t3:=(uh HTB).cell (i:=3) rfl;have t4:=(uh HTB).cell (i:=4) rfl;have t5:=(uh HTB).cell (i:=5) rfl;go_wp2
 go_ret
 exact⟨rfl,(uh HR2).keeps (uh HPC) (λh=>h),(uh HK2).trans (uh HPC) (λ_ h _=>h.elim)⟩
end
end Go.Proofs.YtahnliehdjncdabGreatDoor
