import Derived.Test.YtahnliehdjncdabGreatDoorXAE
import Derived.Test.YtahnliehdjncdabGreatDoorXBG
import Derived.Test.YtahnliehdjncdabGreatDoorXAU
import Derived.Test.YtahnliehdjncdabGreatDoorXAQ
import Derived.Test.YtahnliehdjncdabGreatDoorXBH
import Derived.Test.YtahnliehdjncdabGreatDoorXAY
set_option maxRecDepth 100000
set_option maxHeartbeats 16000000
namespace Go.Proofs.YtahnliehdjncdabGreatDoor
section
open Go.RowKit
attribute [local go_sem ↓] qAd qAe
attribute [local go_sem] qAf qAl qAc qAb qAm qAn qAi qAj qAh qAk
theorem qG8{c:Cfg}(h:qA5 c=true): 0<=c.lag/\c.lag<=100/\0<=c.skew/\c.skew<=100/\1<=c.cap/\c.cap<=8:=by
 simp only[qA5,qDm,inB,Bool.and_eq_true,decide_eq_true_eq]at h;omega
theorem qZq(b:SB)(x:Ser)(y:It)(clock:Int)(w:World)(hs:SRep w b x)(hv:qA5 x.c=true)(hkd:x.c.kind=x.k)(k1:1<=x.k)(k5:x.k<=5)(c0:0<=clock)(c1:clock<=4611686018427387904):
  Calls Tryz.prog 49 #[.pointer (some ⟨b.s,0,none⟩),y.val,.int .i64 clock] w λe w'=>e=.returned (.int .i64 (qIw x clock y))/\Keeps (λ_=>False) w w':=by
 obtain⟨l0,l1,s0,s1,p1,p8⟩:=qG8 hv;have hlt:=hs.blk.lt;have HS:=hide hs;have HWG:=hide (show 4<=x.k->x.c.weighs from λh4=>qEb hv hkd h4 k5);have HB:=hide (show Blk (w.alloc (.cells y.cells 88)) w.heap.size [.int .i64 y.t,.int .i64 y.k,.int .i64 y.d,.int .i64 y.n] 88 from Blk.new w [_,_,_,_] 88);have HK:=hide ((Keeps.refl (λ_=>False) w).alloc (.cells y.cells 88));have HE:=hide (show qIw x clock y=if inB y.t 0 4611686018427387904 then(if y.t<=clock-x.c.lag then 6 else if clock+x.c.skew<y.t then 7 else if qCy x.c x.k y≠0 then qCy x.c x.k y else if x.c.cap<=x.l.length then 11 else if 4611686018427387904<=x.acc then 11 else 0) else 5 from rfl);clear hs hv hkd;unfold It.val;cases h1:inB y.t 0 4611686018427387904
 ·go_enter Tryz.func49,Tryz.ntmps49
  go_wp2_with (go_at_call 52;refine(qFs _ _).mono ?_;rintro e w' ⟨rfl,rfl⟩)
  go_ret
  exact⟨qBa (by rw[uh HE,h1];rfl),uh HK⟩
 ·obtain⟨t0,t1⟩:=qCq h1
  rw[h1,if_pos rfl]at HE;have hc2:w.cell? ⟨b.s,2,none⟩=some (.int .i64 x.c.lag):=(uh HS).blk.cell rfl;go_enter Tryz.func49,Tryz.ntmps49
  go_wp2_with fail
  refine(qFs _ _).mono ?_;rintro e w' ⟨rfl,rfl⟩;rw[h1];go_wp2_with fail
  go_region_held3 (λw'=>w'.cell? ⟨w.heap.size,0,none⟩=some (.int .i64 y.t)/\w'.cell? ⟨b.s,2,none⟩=some (.int .i64 x.c.lag)) (go_keep)
   (first | (go_at_call 54;refine(qK8 b.s x.c.lag clock _ (by go_keep) l0 l1 c0 c1).mono ?_;rintro e w' ⟨rfl,rfl⟩))
  have HB1:=hide ((uh HB).drew);have HK1:=hide ((uh HK).drew);clear HB HK;have e1:(w.alloc (.cells #[.int .i64 y.t,.int .i64 y.k,.int .i64 y.d,.int .i64 y.n] 88)).drew=(w.alloc (.cells y.cells 88)).drew:=rfl;rw[e1];clear e1;generalize(w.alloc (.cells y.cells 88)).drew=w1 at *;generalize hbx:w.heap.size=bx at *;have HS1:=hide ((uh HS).still (uh HK1));clear hc2 hlt hbx;have hlt:=(uh HS1).blk.lt;have hltx:=(uh HB1).lt;have hb0:w1.cell? ⟨bx,0,none⟩=some (.int .i64 y.t):=(uh HB1).cell rfl;have hb1:w1.cell? ⟨bx,1,none⟩=some (.int .i64 y.k):=(uh HB1).cell rfl;have hb2:w1.cell? ⟨bx,2,none⟩=some (.int .i64 y.d):=(uh HB1).cell rfl;have hb3:w1.cell? ⟨bx,3,none⟩=some (.int .i64 y.n):=(uh HB1).cell rfl;have hc3:w1.cell? ⟨b.s,3,none⟩=some (.int .i64 x.c.skew):=(uh HS1).blk.cell rfl
  by_cases h6:y.t<=clock-x.c.lag
  ·rw[if_pos h6]at HE
   go_wp2
   go_ret
   exact⟨qBa (uh HE).symm,uh HK1⟩
  ·rw[if_neg h6]at HE
   have h6':decide (y.t<=clock-x.c.lag)=false:=by simpa using h6
   go_wp2_with fail
   go_quiet (fail)
   by_cases h7:clock+x.c.skew<y.t
   ·rw[if_pos h7]at HE
    go_wp2
    go_ret
    exact⟨qBa (uh HE).symm,(uh HK1).then (Keeps.drewN _ _ _)⟩
   ·rw[if_neg h7]at HE
    have h7':decide (clock+x.c.skew<y.t)=false:=by simpa using h7
    go_wp2_with fail
    have hkd:Keeps (λ_=>False) w1 (w1.drewN nq):=Keeps.drewN (λ_=>False) w1 nq;have HS2:=hide ((uh HS1).still hkd);have HB2:=hide ((uh HB1).keeps hkd (λh=>h));have HK2:=hide ((uh HK1).then hkd);clear hkd;generalize w1.drewN nq=w2 at *;clear HS1 HB1 HK1 hb0 hb1 hb2 hb3 hc3 hlt hltx h6 h6' h7 h7';have hlt:=(uh HS2).blk.lt;have hltx:=(uh HB2).lt;have hb0:w2.cell? ⟨bx,0,none⟩=some (.int .i64 y.t):=(uh HB2).cell rfl;have hb1:w2.cell? ⟨bx,1,none⟩=some (.int .i64 y.k):=(uh HB2).cell rfl;have hb2:w2.cell? ⟨bx,2,none⟩=some (.int .i64 y.d):=(uh HB2).cell rfl;have hb3:w2.cell? ⟨bx,3,none⟩=some (.int .i64 y.n):=(uh HB2).cell rfl;have hc22:w2.cell? ⟨b.s,24,none⟩=some (.func (.func (qAr x.k)) #[] #[]):=(uh HS2).blk.cell rfl;obtain⟨hv,hh⟩:=qBh (uh HS2).blk 1 20 x.c.cells rfl rfl;have hown:=qOl x.k k1 k5
    go_region_held3 (λw'=>w'.cell? ⟨b.s,24,none⟩=some (.func (.func (qAr x.k)) #[] #[])/\qAu w' b.s 1 20=.agg x.c.cells.toArray/\qA2 w' b.s 1 20=true /\
        w'.cell? ⟨bx,0,none⟩=some (.int .i64 y.t)/\w'.cell? ⟨bx,1,none⟩=some (.int .i64 y.k)/\w'.cell? ⟨bx,2,none⟩=some (.int .i64 y.d)/\w'.cell? ⟨bx,3,none⟩=some (.int .i64 y.n))
     (first | (simp[*,qAc,qAb];done) | (go_split_ands;refine⟨hk.cell (by assumption) (λh=>h),(qBm hk (λh=>h) (by simpa using hlt)).1.trans (by assumption),(qBm hk (λh=>h) (by simpa using hlt)).2.trans (by assumption),hk.cell (by assumption) (λh=>h),hk.cell (by assumption) (λh=>h),hk.cell (by assumption) (λh=>h),hk.cell (by assumption) (λh=>h)⟩))
     (first | (refine(qIa x.c x.k y _ k1 k5 (uh HWG) t0 t1).mono ?_;rintro e w' ⟨rfl,hk⟩))
    have hk3:Keeps (λ_=>False) w2 w':=((Keeps.refl (λ_=>False) w2).drew).then hk;have HS3:=hide ((uh HS2).still hk3);have HK3:=hide ((uh HK2).then hk3);clear hk hk3 HS2 HB2 HK2 hb0 hb1 hb2 hb3 hc22 hv hh hown hlt hltx;have hlt:=(uh HS3).blk.lt;generalize he:qCy x.c x.k y=e at *
    by_cases h8:e=0
    ·have h8':(e !=0)=false:=by simp[h8]
     rw[if_neg (by simpa using h8)]at HE;have HN8:=hide h8;clear h8;have hc26:w'.cell? ⟨b.s,32,none⟩=some (.pointer (some ⟨b.q,0,none⟩)):=(uh HS3).blk.cell rfl;have hc4:w'.cell? ⟨b.s,4,none⟩=some (.int .i64 x.c.cap):=(uh HS3).blk.cell rfl;have hc33:w'.cell? ⟨b.s,33,none⟩=some (.int .i64 x.acc):=(uh HS3).blk.cell rfl
     by_cases h9:x.c.cap<=(x.l.length:Int)
     ·rw[if_pos h9]at HE
      have h9':decide (x.c.cap<=(x.l.length:Int))=true:=by simpa using h9
      go_wp2_with fail
      go_quiet (first | (go_at_call 78;refine Calls.quiet_of_same (len_any b.q b.g x.l _ (by exact(uh HS3).que.keeps (Keeps.drewN (λ_=>False) _ _) (λh=>h) (λ_ _ h=>h)))))
      go_wp2
      go_ret
      exact⟨qBa (uh HE).symm,(uh HK3).then (Keeps.drewN _ _ _)⟩
     ·rw[if_neg h9]at HE
      have h9':decide (x.c.cap<=(x.l.length:Int))=false:=by simpa using h9
      by_cases h10:4611686018427387904<=x.acc
      ·rw[if_pos h10]at HE
       have h10':decide (4611686018427387904<=x.acc)=true:=by simpa using h10
       go_wp2_with fail
       go_quiet (first | (go_at_call 78;refine Calls.quiet_of_same (len_any b.q b.g x.l _ (by exact(uh HS3).que.keeps (Keeps.drewN (λ_=>False) _ _) (λh=>h) (λ_ _ h=>h)))))
       go_wp2
       go_ret
       exact⟨qBa (uh HE).symm,(uh HK3).then (Keeps.drewN _ _ _)⟩
      ·rw[if_neg h10]at HE
       have h10':decide (4611686018427387904<=x.acc)=false:=by simpa using h10
       go_wp2_with fail
       go_quiet (first | (go_at_call 78;refine Calls.quiet_of_same (len_any b.q b.g x.l _ (by exact(uh HS3).que.keeps (Keeps.drewN (λ_=>False) _ _) (λh=>h) (λ_ _ h=>h)))))
       go_wp2
       go_ret
       exact⟨qBa (uh HE).symm,(uh HK3).then (Keeps.drewN _ _ _)⟩
    ·have h8':(e !=0)=true:=by simp[h8]
     rw[if_pos (by simpa using h8)]at HE;have HN8:=hide h8;clear h8;go_wp2
     go_ret
     exact⟨qBa (uh HE).symm,uh HK3⟩
end
section
open Go.RowKit
def itD(n:Int)(p:List Int): It:=⟨p.getD 0 0,p.getD 1 0,p.getD 2 0,n⟩
structure TR where
 tk:List Dr.It
 ns:List Int
 st:Option (List Nat)
def qGr(c:Cfg)(m acc:Int)(s:TR): TR :=
 let a:=knR acc s.ns s.st
 let p:=qAy 3 a.2
 let y:=itD a.1 p.1
 let e:=qEm (inB y.t 0 m&&qCy c 5 y==0) p.2
 ⟨if e.isNone then s.tk else qG1 c s.tk y,s.ns++[a.1],e⟩
def qId(c:Cfg)(m acc:Int): Nat->TR->TR
 | 0,s=>s
 | n+1,s=>if (qGr c m acc s).st.isNone then qGr c m acc s else qId c m acc n (qGr c m acc s)
def qPh(rel k:Int): Int:=if k<rel then k else rel
def qWr(c:Cfg)(m acc rel:Int)(ns:List Int)(st:Option (List Nat)): TR:=qId c m acc (qPh rel (c.size+1)).toNat ⟨[],ns,st⟩
structure TLg (w:World) (d q r kn:Nat) (c:Cfg) (m acc rel:Int) (og:Option Nat) (nv:Value) (tk:List Dr.It) (st:Option (List Nat)) (ns:List Int) (og2:Option Nat) (nv2:Value) (wr:World):Prop where
 tr:TRep wr d q og2 c tk
 rd:RdS wr r st
 kr:KnRep wr kn m acc rel nv2 ns
 kp:Keeps (λi=>i=r\/i=kn\/nv.ownBlock=some i\/i=q\/og=some i) w wr
 fo:og2=og\/∃k,og2=some k/\w.heap.size<=k
 fn:∀i,nv2.ownBlock=some i->nv.ownBlock=some i\/w.heap.size<=i
 sp:∀i,nv2.ownBlock=some i->i≠d/\i≠q/\og2≠some i
 ap:d≠r/\q≠r/\d≠kn/\q≠kn/\r<kn/\r<w.heap.size
 ag:∀g,og2=some g->g≠r/\g≠kn
theorem TLg.nvlt{w:World}{d q r kn:Nat}{c:Cfg}{m acc rel:Int}{og:Option Nat}{nv:Value}{tk:List Dr.It}{st:Option (List Nat)}{ns:List Int}{og2:Option Nat}{nv2:Value}{wr:World}(h:TLg w d q r kn c m acc rel og nv tk st ns og2 nv2 wr)(i:Nat)(hi:nv2.ownBlock=some i): kn+1<=i/\i<wr.heap.size:=h.kr.row.lt i hi
theorem TLg.still{w:World}{d q r kn:Nat}{c:Cfg}{m acc rel:Int}{og:Option Nat}{nv:Value}{tk:List Dr.It}{st:Option (List Nat)}{ns:List Int}{og2:Option Nat}{nv2:Value}{wr w2:World}(h:TLg w d q r kn c m acc rel og nv tk st ns og2 nv2 wr)(hk:Keeps (λ_=>False) wr w2): TLg w d q r kn c m acc rel og nv tk st ns og2 nv2 w2 :=
 ⟨h.tr.still hk,h.rd.keeps hk (λh=>h),h.kr.keeps hk (λh=>h) (λ_ _ h=>h),h.kp.trans hk (λ_ h _=>h.elim),h.fo,h.fn,h.sp,h.ap,h.ag⟩
theorem TLg.num{w:World}{d q r kn:Nat}{c:Cfg}{m acc rel:Int}{og:Option Nat}{nv:Value}{tk:List Dr.It}{st:Option (List Nat)}{ns:List Int}{og2:Option Nat}{nv2:Value}{wr:World}(h:TLg w d q r kn c m acc rel og nv tk st ns og2 nv2 wr)(hl:ns.length<=900)(n:Int)(st2:Option (List Nat))(he:knR acc ns st=(n,st2)):
  Calls Tryz.prog 138 #[.pointer (some ⟨kn,0,none⟩),.pointer (some ⟨r,0,none⟩)] wr λe w'=>e=.returned (.int .i64 n)/\∃nv',TLg w d q r kn c m acc rel og nv tk st2 (ns++[n]) og2 nv' w':=by
 obtain⟨a1',a2,a3,a4,a5,a6⟩:=h.ap;have hsz:=h.kp.size;refine(qKw r kn m acc rel nv2 ns st wr h.rd h.kr a5 hl).mono ?_;rintro e w2 ⟨rfl,hr,⟨nv',hkn,hnv⟩,hk⟩;rw[he]at hr hkn ⊢;refine⟨rfl,nv',⟨h.tr.keeps hk (λe=>?_) (λe=>?_) (λg hg e=>?_),hr,hkn,h.kp.trans hk (λi hi hlt=>?_),h.fo,λi hi=>?_,λi hi=>?_,h.ap,h.ag⟩⟩
 ·rcases e with e | e | e
  ·exact a1' e
  ·exact a3 e
  ·exact(h.sp d e).1 rfl
 ·rcases e with e | e | e
  ·exact a2 e
  ·exact a4 e
  ·exact(h.sp q e).2.1 rfl
 ·rcases e with e | e | e
  ·exact(h.ag g hg).1 e
  ·exact(h.ag g hg).2 e
  ·exact(h.sp g e).2.2 hg
 ·rcases hi with e | e | e
  ·exact .inl e
  ·exact .inr (.inl e)
  ·rcases h.fn i e with f | f
   ·exact .inr (.inr (.inl f))
   ·omega
 ·rcases hnv i hi with f | f
  ·exact h.fn i f
  ·exact .inr (by omega)
 ·rcases hnv i hi with f | f
  ·exact h.sp i f
  ·have h1:=h.tr.blk.lt
   have h2:=h.tr.que.lt;exact⟨by omega,by have:=h2.1;omega,λe=>by have:=(h2.2 i e).1;omega⟩
theorem TLg.rdw{w:World}{d q r kn:Nat}{c:Cfg}{m acc rel:Int}{og:Option Nat}{nv:Value}{tk:List Dr.It}{st st2:Option (List Nat)}{ns:List Int}{og2:Option Nat}{nv2:Value}{wr w2:World}{bx:Nat}(h:TLg w d q r kn c m acc rel og nv tk st ns og2 nv2 wr)(hk:Keeps (λi=>i=r\/i=bx) wr w2)(hr:RdS w2 r st2)(hb:d≠bx/\q≠bx/\og2≠some bx/\kn≠bx/\nv2.ownBlock≠some bx/\w.heap.size<=bx): TLg w d q r kn c m acc rel og nv tk st2 ns og2 nv2 w2:=by
 obtain⟨b1,b2,b3,b4,b5,b6⟩:=hb;obtain⟨a1',a2,a3,a4,a5,a6⟩:=h.ap;refine⟨h.tr.keeps hk (λe=>e.elim a1' b1) (λe=>e.elim a2 b2) (λg hg e=>e.elim (h.ag g hg).1 (λe=>b3 (by rw[<-e];exact hg))),hr,h.kr.keeps hk (λe=>e.elim (by omega) b4) (λi hi e=>e.elim (λe=>by have:=(h.nvlt i hi).1;omega) (λe=>b5 (by rw[<-e];exact hi))),h.kp.trans hk (λi hi hlt=>?_),h.fo,h.fn,h.sp,h.ap,h.ag⟩;rcases hi with e | e
 ·exact .inl e
 ·omega
theorem TLg.rel{w:World}{d q r kn:Nat}{c:Cfg}{m acc rel:Int}{og:Option Nat}{nv:Value}{tk tk2:List Dr.It}{st:Option (List Nat)}{ns:List Int}{og2 og3:Option Nat}{nv2:Value}{wr w2:World}(h:TLg w d q r kn c m acc rel og nv tk st ns og2 nv2 wr)(ht:TRep w2 d q og3 c tk2)(hk:Keeps (λk=>k=q\/og2=some k) wr w2)(hog:og3=og2\/∃k,og3=some k/\wr.heap.size<=k): TLg w d q r kn c m acc rel og nv tk2 st ns og3 nv2 w2:=by
 obtain⟨a1',a2,a3,a4,a5,a6⟩:=h.ap;have hsz:=h.kp.size;have hrl:=h.rd.lt;have hkl:=h.kr.blk.lt;refine⟨ht,h.rd.keeps hk (λe=>e.elim (λe=>a2 e.symm) (λe=>(h.ag r e).1 rfl)),h.kr.keeps hk (λe=>e.elim (λe=>a4 e.symm) (λe=>(h.ag kn e).2 rfl)) (λi hi e=>e.elim (h.sp i hi).2.1 (h.sp i hi).2.2),h.kp.trans hk (λi hi hlt=>?_),?_,h.fn,λi hi=>⟨(h.sp i hi).1,(h.sp i hi).2.1,λe=>?_⟩,h.ap,λg hg=>?_⟩
 ·rcases hi with e | e
  ·exact .inr (.inr (.inr (.inl e)))
  ·rcases h.fo with f | ⟨k,f,hz⟩
   ·exact .inr (.inr (.inr (.inr (by rw[<-f];exact e))))
   ·have e2:og2=some i:=e
    rw[f]at e2;have:=Option.some.inj e2;omega
 ·rcases hog with f | ⟨k,f,hz⟩
  ·rw[f];exact h.fo
  ·exact .inr ⟨k,f,by omega⟩
 ·rcases hog with f | ⟨k,f,hz⟩
  ·exact(h.sp i hi).2.2 (by rw[<-f];exact e)
  ·rw[f]at e
   have:=Option.some.inj e;have:=(h.nvlt i hi).2;omega
 ·rcases hog with f | ⟨k,f,hz⟩
  ·exact h.ag g (by rw[<-f];exact hg)
  ·rw[f]at hg
   have:=Option.some.inj hg;omega
end
end Go.Proofs.YtahnliehdjncdabGreatDoor
