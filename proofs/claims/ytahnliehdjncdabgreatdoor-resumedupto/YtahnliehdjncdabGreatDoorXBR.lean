import Derived.Test.YtahnliehdjncdabGreatDoorXAU
import Derived.Test.YtahnliehdjncdabGreatDoorXBN
import Derived.Test.YtahnliehdjncdabGreatDoorXBD
import Derived.Test.YtahnliehdjncdabGreatDoorXBP
import Derived.Test.YtahnliehdjncdabGreatDoorXBQ
import Derived.Test.YtahnliehdjncdabGreatDoorXBO
import Derived.Test.YtahnliehdjncdabGreatDoorXBK
import Derived.Test.YtahnliehdjncdabGreatDoorXBL
import Derived.Test.YtahnliehdjncdabGreatDoorXBM
import Derived.Test.YtahnliehdjncdabGreatDoorXBJ
import Derived.Test.YtahnliehdjncdabGreatDoorXBG
set_option maxRecDepth 100000
set_option maxHeartbeats 16000000
namespace Go.Proofs.YtahnliehdjncdabGreatDoor
section
open Go.RowKit
def qNl(ys:List It): List Int:=ys.flatMap λy=>[y.n,y.t,y.k,y.d]
structure LdT (c:Cfg) (m acc rel:Int) (ns:List Int) (ys:List It):Prop where
 len:(ys.length:Int)=if c.size+1<rel then c.size+1 else rel
 num:∀y,y∈ys->1<=y.n/\y.n<=acc
 nod:(ns++ys.map (·.n)).Nodup
 rng:∀y,y∈ys->0<=y.t/\y.t<=m/\0<=y.k/\y.k<=9223372036854775807/\0<=y.d/\y.d<=9223372036854775807
 ref:∀y,y∈ys->qDb c 5 y=0
structure TL (w:World) (d q r kn:Nat) (c:Cfg) (m acc rel:Int) (og:Option Nat) (nv:Value) (tk:List Dr.It) (tl:List Nat) (ns:List Int) (og2:Option Nat) (nv2:Value) (wr:World):Prop where
 tr:TRep wr d q og2 c tk
 rd:RdRep wr r tl
 kr:KnRep wr kn m acc rel nv2 ns
 kp:Keeps (λi=>i=r\/i=kn\/nv.ownBlock=some i\/i=q\/og=some i) w wr
 fo:og2=og\/∃k,og2=some k/\w.heap.size<=k
 fn:∀i,nv2.ownBlock=some i->nv.ownBlock=some i\/w.heap.size<=i
 sp:∀i,nv2.ownBlock=some i->i≠d/\i≠q/\og2≠some i
 ap:d≠r/\q≠r/\d≠kn/\q≠kn/\r<kn/\r<w.heap.size
 ag:∀g,og2=some g->g≠r/\g≠kn
theorem TL.nvlt{w:World}{d q r kn:Nat}{c:Cfg}{m acc rel:Int}{og:Option Nat}{nv:Value}{tk:List Dr.It}{tl:List Nat}{ns:List Int}{og2:Option Nat}{nv2:Value}{wr:World}(h:TL w d q r kn c m acc rel og nv tk tl ns og2 nv2 wr)(i:Nat)(hi:nv2.ownBlock=some i): kn+1<=i/\i<wr.heap.size:=h.kr.row.lt i hi
theorem TL.still{w:World}{d q r kn:Nat}{c:Cfg}{m acc rel:Int}{og:Option Nat}{nv:Value}{tk:List Dr.It}{tl:List Nat}{ns:List Int}{og2:Option Nat}{nv2:Value}{wr w2:World}(h:TL w d q r kn c m acc rel og nv tk tl ns og2 nv2 wr)(hk:Keeps (λ_=>False) wr w2): TL w d q r kn c m acc rel og nv tk tl ns og2 nv2 w2 :=
 ⟨h.tr.still hk,h.rd.keeps hk (λh=>h),h.kr.keeps hk (λh=>h) (λ_ _ h=>h),h.kp.trans hk (λ_ h _=>h.elim),h.fo,h.fn,h.sp,h.ap,h.ag⟩
theorem TL.num{w:World}{d q r kn:Nat}{c:Cfg}{m acc rel n:Int}{og:Option Nat}{nv:Value}{tk:List Dr.It}{tl:List Nat}{ns:List Int}{og2:Option Nat}{nv2:Value}{wr:World}(h:TL w d q r kn c m acc rel og nv tk (enc n++tl) ns og2 nv2 wr)(n1:1<=n)(n2:n<=acc)(a1:acc<=4611686018427387904)(hns:n ∉ ns)(hl:ns.length<=900):
  Calls Tryz.prog 138 #[.pointer (some ⟨kn,0,none⟩),.pointer (some ⟨r,0,none⟩)] wr λe w'=>e=.returned (.int .i64 n)/\∃nv',TL w d q r kn c m acc rel og nv tk tl (ns++[n]) og2 nv' w':=by
 obtain⟨a1',a2,a3,a4,a5,a6⟩:=h.ap
 have hsz:=h.kp.size
 refine(qKv r kn m acc rel n nv2 ns tl wr h.rd h.kr a5 n1 n2 a1 hns hl).mono ?_
 rintro e w2 ⟨rfl,hr,⟨nv',hkn,hnv⟩,hk⟩
 refine⟨rfl,nv',⟨h.tr.keeps hk (λe=>?_) (λe=>?_) (λg hg e=>?_),hr,hkn,h.kp.trans hk (λi hi hlt=>?_),h.fo,λi hi=>?_,λi hi=>?_,h.ap,h.ag⟩⟩
 ·rcases e with e | e | e
  ·exact a1' e
  ·exact a3 e
  ·exact(h.sp d e).1 rfl
 ·rcases e with e | e | e
  ·exact a2 e
  ·exact a4 e
  ·exact(h.sp q e).2.1 rfl
 ·rcases e with e | e | e
  ·exact(h.ag g hg).1 e
  ·exact(h.ag g hg).2 e
  ·exact(h.sp g e).2.2 hg
 ·rcases hi with e | e | e
  ·exact .inl e
  ·exact .inr (.inl e)
  ·rcases h.fn i e with f | f
   ·exact .inr (.inr (.inl f))
   ·omega
 ·rcases hnv i hi with f | f
  ·exact h.fn i f
  ·exact .inr (by omega)
 ·rcases hnv i hi with f | f
  ·exact h.sp i f
  ·have h1:=h.tr.blk.lt
   have h2:=h.tr.que.lt
   exact⟨by omega,by have:=h2.1;omega,λe=>by have:=(h2.2 i e).1;omega⟩
theorem TL.rdw{w:World}{d q r kn:Nat}{c:Cfg}{m acc rel:Int}{og:Option Nat}{nv:Value}{tk:List Dr.It}{tl tl2:List Nat}{ns:List Int}{og2:Option Nat}{nv2:Value}{wr w2:World}{bx:Nat}(h:TL w d q r kn c m acc rel og nv tk tl ns og2 nv2 wr)(hk:Keeps (λi=>i=r\/i=bx) wr w2)(hr:RdRep w2 r tl2)(hb:d≠bx/\q≠bx/\og2≠some bx/\kn≠bx/\nv2.ownBlock≠some bx/\w.heap.size<=bx): TL w d q r kn c m acc rel og nv tk tl2 ns og2 nv2 w2:=by
 obtain⟨b1,b2,b3,b4,b5,b6⟩:=hb
 obtain⟨a1',a2,a3,a4,a5,a6⟩:=h.ap
 refine⟨h.tr.keeps hk (λe=>e.elim a1' b1) (λe=>e.elim a2 b2) (λg hg e=>e.elim (h.ag g hg).1 (λe=>b3 (by rw[<-e];exact hg))),hr,h.kr.keeps hk (λe=>e.elim (by omega) b4) (λi hi e=>e.elim (λe=>by have:=(h.nvlt i hi).1;omega) (λe=>b5 (by rw[<-e];exact hi))),h.kp.trans hk (λi hi hlt=>?_),h.fo,h.fn,h.sp,h.ap,h.ag⟩
 rcases hi with e | e
 ·exact .inl e
 ·omega
theorem TL.rel{w:World}{d q r kn:Nat}{c:Cfg}{m acc rel:Int}{og:Option Nat}{nv:Value}{tk tk2:List Dr.It}{tl:List Nat}{ns:List Int}{og2 og3:Option Nat}{nv2:Value}{wr w2:World}(h:TL w d q r kn c m acc rel og nv tk tl ns og2 nv2 wr)(ht:TRep w2 d q og3 c tk2)(hk:Keeps (λk=>k=q\/og2=some k) wr w2)(hog:og3=og2\/∃k,og3=some k/\wr.heap.size<=k): TL w d q r kn c m acc rel og nv tk2 tl ns og3 nv2 w2:=by
 obtain⟨a1',a2,a3,a4,a5,a6⟩:=h.ap
 have hsz:=h.kp.size
 have hrl:=h.rd.blk.lt
 have hkl:=h.kr.blk.lt
 refine⟨ht,h.rd.keeps hk (λe=>e.elim (λe=>a2 e.symm) (λe=>(h.ag r e).1 rfl)),h.kr.keeps hk (λe=>e.elim (λe=>a4 e.symm) (λe=>(h.ag kn e).2 rfl)) (λi hi e=>e.elim (h.sp i hi).2.1 (h.sp i hi).2.2),h.kp.trans hk (λi hi hlt=>?_),?_,h.fn,λi hi=>⟨(h.sp i hi).1,(h.sp i hi).2.1,λe=>?_⟩,h.ap,λg hg=>?_⟩
 ·rcases hi with e | e
  ·exact .inr (.inr (.inr (.inl e)))
  ·rcases h.fo with f | ⟨k,f,hz⟩
   ·exact .inr (.inr (.inr (.inr (by rw[<-f];exact e))))
   ·have e2:og2=some i:=e
    rw[f]at e2
    have:=Option.some.inj e2
    omega
 ·rcases hog with f | ⟨k,f,hz⟩
  ·rw[f];exact h.fo
  ·exact .inr ⟨k,f,by omega⟩
 ·rcases hog with f | ⟨k,f,hz⟩
  ·exact(h.sp i hi).2.2 (by rw[<-f];exact e)
  ·rw[f]at e
   have:=Option.some.inj e
   have:=(h.nvlt i hi).2
   omega
 ·rcases hog with f | ⟨k,f,hz⟩
  ·exact h.ag g (by rw[<-f];exact hg)
  ·rw[f]at hg
   have:=Option.some.inj hg
   omega
end
section
open Go.RowKit
attribute [local go_sem ↓] qAd
attribute [local go_sem] qAg qAb qAc qAn qAo qAi qAh qAf qAl
theorem zB7(c:Cfg)(l:List Dr.It)(y:It): (qGm c l y).length<=l.length+1:=by
 unfold qGm
 split
 ·rw[Dr.takeL_length,Dr.riseL_length,List.length_append,List.length_singleton];omega
 ·rw[Dr.riseL_length,List.length_append,List.length_singleton];omega
theorem qUt(d q r kn:Nat)(og:Option Nat)(c:Cfg)(m acc rel:Int)(nv:Value)(ns:List Int)(ys:List It)(tl:List Nat)(w:World)(hL:TL w d q r kn c m acc rel og nv [] (qBe (qNl ys)++tl) ns og nv w)(hc:LdT c m acc rel ns ys)(hw:c.weighs)(s0:1<=c.size)(s1:c.size<=5)(m1:m<=4611686018427387904)(a1:acc<=4611686018427387904)(hnl:ns.length<=800):
  Calls Tryz.prog 173 #[.pointer (some ⟨d,0,none⟩),.pointer (some ⟨r,0,none⟩),.pointer (some ⟨kn,0,none⟩)] w λe w'=>e=.returned (.tuple #[])/\∃og2 nv2,TL w d q r kn c m acc rel og nv (ys.foldl (qGm c) []) tl (ns++ys.map (·.n)) og2 nv2 w':=by
 have HL:=hide hL
 have HC:=hide hc
 have HW:=hide hw
 have k2:w.cell? ⟨kn,2,none⟩=some (.int .i64 rel):=hL.kr.blk.cell rfl
 have d10:w.cell? ⟨d,10,none⟩=some (.int .i64 c.size):=hL.tr.blk.cell rfl
 obtain⟨N,hN⟩:∃N,ys.length=N:=⟨_,rfl⟩
 have hlen:=hc.len
 rw[hN]at hlen
 have HN:=hide hN
 clear hL hc hw hN
 have hN6:N<=6:=by split at hlen <;> omega
 have ws:IntKind.i64.wrap (c.size+1)=c.size+1:=by rw[IntKind.wrap_i64];omega
 have hcs:(c.size+1<rel/\c.size+1=(N:Int))\/(¬c.size+1<rel/\rel=(N:Int)):=by
  split at hlen
  ·rename_i h;exact .inl ⟨h,hlen.symm⟩
  ·rename_i h;exact .inr ⟨h,hlen.symm⟩
 clear hlen
 go_enter Tryz.func173,Tryz.ntmps173
 rcases hcs with ⟨h1,h2⟩ | ⟨h1,h2⟩
 all_goals
  go_wp2_with fail
  go_quiet (fail)
  go_wp2_with fail
  have HL0:=hide ((uh HL).still (Keeps.drewN (λ_=>False) w nq))
  generalize w.drewN nq=w0 at *
  clear k2 d10
  go_loopw [18] (λiv wr=>∃(i:Nat) (og2:Option Nat) (nv2:Value),i<=N/\iv=.int .i64 (i:Int)/\Hid (TL w d q r kn c m acc rel og nv ((ys.take i).foldl (qGm c) []) (qBe (qNl (ys.drop i))++tl) (ns++(ys.take i).map (·.n)) og2 nv2 wr)/\Hid (((ys.take i).foldl (qGm c) []).length<=i)) (λiv _=>N-(intOf iv).toNat)
  case atStart=>exact⟨0,og,nv,Nat.zero_le _,rfl,by show TL _ _ _ _ _ _ _ _ _ _ _ _ _ _ _ _ _;rw[List.take_zero,List.drop_zero,List.map_nil,List.append_nil];exact uh HL0,by show _<=_;rw[List.take_zero];exact Nat.le_refl _⟩
  case round =>
   clear HL0
   obtain⟨i,og2,nv2,hi,rfl,HLr,HLE⟩:=hrel
   by_cases hiN:i<N
   ·obtain⟨y,hy⟩:∃y,ys[i]?=some y:=⟨_,List.getElem?_eq_getElem (by rw[uh HN];exact hiN)⟩
    have hiI:(i:Int)<(N:Int):=by omega
    have HTK:=hide (show ys.take (i+1)=ys.take i++[y] by rw[List.take_add_one,hy];rfl)
    have HDR:=hide (show ys.drop i=y::ys.drop (i+1) by
       have hlt:=List.getElem?_eq_some_iff.1 hy
       rw[List.drop_eq_getElem_cons hlt.1,hlt.2])
    have hym:=List.mem_of_getElem? hy
    obtain⟨yn1,yn2⟩:=(uh HC).num y hym
    obtain⟨t0,tm,k0,k1,e0,e1⟩:=(uh HC).rng y hym
    have HKE:=hide ((uh HC).ref y hym)
    have HNI:=hide (show y.n ∉ ns++(ys.take i).map (·.n) by
       have h:=(uh HC).nod
       rw[show ys=ys.take i++ys.drop i from(List.take_append_drop i ys).symm,List.map_append,uh HDR,<-List.append_assoc]at h
       intro hm
       exact(List.nodup_append.1 h).2.2 _ hm _ (by simp) rfl)
    have HLa:=hide (show TL w d q r kn c m acc rel og nv ((ys.take i).foldl (qGm c) []) (enc y.n++(qBe [y.t,y.k,y.d]++(qBe (qNl (ys.drop (i+1)))++tl))) (ns++(ys.take i).map (·.n)) og2 nv2 wr by
       have h:=uh HLr
       rw[uh HDR]at h
       simpa only[qNl,List.flatMap_cons,qAy,qAk,qB8,List.nil_append,List.append_assoc,List.cons_append] using h)
    have HTL:=hide (show(ys.take (i+1)).foldl (qGm c) []=qGm c ((ys.take i).foldl (qGm c) []) y by rw[uh HTK,List.foldl_append];rfl)
    obtain⟨tk,htk⟩:∃tk,(ys.take i).foldl (qGm c) []=tk:=⟨_,rfl⟩
    rw[htk]at HLa HTL HLE
    have hle:tk.length<=i:=uh HLE
    clear HLr htk hym hy
    go_wp2_with fail
    refine((uh HLa).num yn1 yn2 a1 (uh HNI) (by simp;omega)).mono ?_
    rintro e w10 ⟨rfl,nv3,hI⟩
    have HIb:=hide hI
    clear hI HLa HNI
    go_wp2_with fail
    have HBX:=hide (show Blk (w10.alloc (.cells #[.int .i64 0,.int .i64 0,.int .i64 0,.int .i64 y.n] 88)) w10.heap.size [.int .i64 0,.int .i64 0,.int .i64 0,.int .i64 y.n] 88 from Blk.new w10 [_,_,_,_] _)
    have HIc:=hide ((uh HIb).still ((Keeps.refl (λ_=>False) w10).alloc (.cells #[.int .i64 0,.int .i64 0,.int .i64 0,.int .i64 y.n] 88)))
    have HZX:=hide (show d≠w10.heap.size/\q≠w10.heap.size/\og2≠some w10.heap.size/\kn≠w10.heap.size/\nv3.ownBlock≠some w10.heap.size/\w.heap.size<=w10.heap.size/\r<w10.heap.size from by
       have h:=uh HIb
       have q1:=h.tr.que.lt
       exact⟨by have:=h.tr.blk.lt;omega,by have:=q1.1;omega,λe=>by have:=(q1.2 _ e).1;omega,by have:=h.kr.blk.lt;omega,λe=>by have:=(h.nvlt _ e).2;omega,h.kp.size,h.rd.blk.lt⟩)
    clear HIb
    generalize(w10.alloc (.cells #[.int .i64 0,.int .i64 0,.int .i64 0,.int .i64 y.n] 88))=w11 at *
    generalize w10.heap.size=bx at *
    refine(qQa bx w11).mono ?_
    rintro e w12 ⟨pv,rfl,hp,hk12⟩
    have HP:=hide hp
    have HId:=hide ((uh HIc).still hk12)
    have HBd:=hide ((uh HBX).keeps hk12 (λh=>h))
    have HPV:=hide (show ∀i,pv.ownBlock=some i->i≠r/\i≠bx from λi hi=>by
       have h1:=(hp.lt i hi).1
       have h2:=(uh HBX).lt
       have h3:=(uh HZX).2.2.2.2.2.2
       omega)
    clear hp hk12 HIc HBX
    go_wp2_with fail
    refine(qJx r bx [0,1,2] [y.t,y.k,y.d] [.int .i64 0,.int .i64 0,.int .i64 0,.int .i64 y.n] 88 pv _ _ w12 (uh HId).rd (by have:=uh HP;unfold at' at this ⊢;rw[List.length_map]at this;exact this) (uh HBd) rfl (λo hm=>by simp at hm ⊢;omega) (by have:=(uh HZX).2.2.2.2.2.2;omega) (uh HPV) (λn hn=>by simp at hn;omega) (by simp)).mono ?_
    rintro e w13 ⟨rfl,hr13,hb13,hk13⟩
    have HIe:=hide ((uh HId).rdw (bx:=bx) hk13 hr13 ⟨(uh HZX).1,(uh HZX).2.1,(uh HZX).2.2.1,(uh HZX).2.2.2.1,(uh HZX).2.2.2.2.1,(uh HZX).2.2.2.2.2.1⟩)
    have HBe:=hide (show Blk w13 bx [.int .i64 y.t,.int .i64 y.k,.int .i64 y.d,.int .i64 y.n] 88 from hb13)
    clear hr13 hb13 hk13 HId HBd HP HPV
    have b0:w13.cell? ⟨bx,0,none⟩=some (.int .i64 y.t):=(uh HBe).cell rfl
    have b1:w13.cell? ⟨bx,1,none⟩=some (.int .i64 y.k):=(uh HBe).cell rfl
    have b2:w13.cell? ⟨bx,2,none⟩=some (.int .i64 y.d):=(uh HBe).cell rfl
    have b3:w13.cell? ⟨bx,3,none⟩=some (.int .i64 y.n):=(uh HBe).cell rfl
    have kk:w13.cell? ⟨kn,0,none⟩=some (.int .i64 m):=(uh HIe).kr.blk.cell rfl
    obtain⟨hv,hh⟩:=qBg (uh HIe).tr.blk 0 20 c.cells rfl rfl
    have hdl:=(uh HIe).tr.blk.lt
    have hib:inB y.t 0 m=true:=by simp[inB,t0,tm]
    go_wp2_with fail
    have HKs:=hide (Keeps.refl (λ_=>False) w13)
    go_region_held3 (λw'=>w'.cell? ⟨bx,0,none⟩=some (.int .i64 y.t)/\w'.cell? ⟨bx,1,none⟩=some (.int .i64 y.k)/\w'.cell? ⟨bx,2,none⟩=some (.int .i64 y.d)/\w'.cell? ⟨bx,3,none⟩=some (.int .i64 y.n)/\w'.cell? ⟨kn,0,none⟩=some (.int .i64 m)/\qAv w' d 0 20=.agg c.cells.toArray/\qA3 w' d 0 20=true)
     (first | (simp[*,qAb,qAc];done) | (go_split_ands;refine⟨hk.cell (by assumption) (λh=>h),hk.cell (by assumption) (λh=>h),hk.cell (by assumption) (λh=>h),hk.cell (by assumption) (λh=>h),hk.cell (by assumption) (λh=>h),(qB0 hk (λh=>h) (by simpa using hdl)).1.trans (by assumption),(qB0 hk (λh=>h) (by simpa using hdl)).2.trans (by assumption)⟩))
     (first | (go_at_call 45;refine(qAj _ _ _ _).mono ?_;rintro e w' ⟨rfl,rfl⟩;rw[hib]) | (go_at_call 124;refine(qJ9 c 5 y _ (by omega) (by omega) (λ_=>uh HW) t0 (by omega)).mono ?_;rintro e w' ⟨rfl,hk⟩;rw[uh HKE]) | (go_at_call 135;refine(qEr r _).mono ?_;rintro e w'' ⟨rfl,rfl⟩))
    have hk14:Keeps (λ_=>False) w13 w'':=((Keeps.refl (λ_=>False) w13).drew).then hk
    have HIf:=hide ((uh HIe).still hk14)
    have HBf:=hide ((uh HBe).keeps hk14 (λh=>h))
    clear hk hk14 HIe HBe b0 b1 b2 b3 kk hv hh hdl HKs
    generalize w''=w14 at *
    go_wp2_with fail
    refine(qJg r _ w14 (uh HIf).rd).mono ?_
    rintro e w15 ⟨rfl,hw15⟩
    rw[hw15]
    clear hw15 w15
    have b0:w14.cell? ⟨bx,0,none⟩=some (.int .i64 y.t):=(uh HBf).cell rfl
    have b1:w14.cell? ⟨bx,1,none⟩=some (.int .i64 y.k):=(uh HBf).cell rfl
    have b2:w14.cell? ⟨bx,2,none⟩=some (.int .i64 y.d):=(uh HBf).cell rfl
    have b3:w14.cell? ⟨bx,3,none⟩=some (.int .i64 y.n):=(uh HBf).cell rfl
    have kk:w14.cell? ⟨kn,0,none⟩=some (.int .i64 m):=(uh HIf).kr.blk.cell rfl
    have HNX:=hide (show ¬(bx=q\/og2=some bx) from λh=>h.elim (λh=>(uh HZX).2.1 h.symm) (uh HZX).2.2.1)
    have HNK:=hide (show ¬(kn=q\/og2=some kn) from λh=>h.elim (λh=>(uh HIf).ap.2.2.2.1 h.symm) (λh=>((uh HIf).ag kn h).2 rfl))
    go_wp2_with fail
    go_region_held3 (λw'=>w'.cell? ⟨bx,0,none⟩=some (.int .i64 y.t)/\w'.cell? ⟨bx,1,none⟩=some (.int .i64 y.k)/\w'.cell? ⟨bx,2,none⟩=some (.int .i64 y.d)/\w'.cell? ⟨bx,3,none⟩=some (.int .i64 y.n)/\w'.cell? ⟨kn,0,none⟩=some (.int .i64 m))
     (first | (simp[*];done) | (go_split_ands;exact⟨hk.cell (by assumption) (uh HNX),hk.cell (by assumption) (uh HNX),hk.cell (by assumption) (uh HNX),hk.cell (by assumption) (uh HNX),hk.cell (by assumption) (uh HNK)⟩))
     (first | (go_at_call 170;refine(qIi d q og2 c tk y m _ (by exact(uh HIf).tr.still ((Keeps.refl (λ_=>False) w14).drew)) (uh HW) t0 (by omega) s0 s1 (by omega)).mono ?_;rintro e w' ⟨rfl,og3,ht,hk,hog⟩))
    have HIg:=hide (show TL w d q r kn c m acc rel og nv ((ys.take (i+1)).foldl (qGm c) []) (qBe (qNl (ys.drop (i+1)))++tl) (ns++(ys.take (i+1)).map (·.n)) og3 nv3 w' by
       rw[uh HTL,uh HTK,List.map_append,List.map_singleton,<-List.append_assoc]
       exact((uh HIf).still ((Keeps.refl (λ_=>False) w14).drew)).rel ht hk hog)
    have HLg:=hide (show((ys.take (i+1)).foldl (qGm c) []).length<=i+1 by
       rw[uh HTL]
       have:=zB7 c tk y
       omega)
    clear ht hk hog b0 b1 b2 b3 kk HIf HBf
    go_wp2
    go_roundw
    case rel=>exact⟨i+1,og3,nv3,by omega,by go_num,HIg,HLg⟩
    case measure=>simp[intOf];omega
   ·have hie:i=N:=by omega
    subst hie
    have hf':decide ((i:Int)<(i:Int))=false:=by simp
    have HZ:=hide (show TL w d q r kn c m acc rel og nv (ys.foldl (qGm c) []) tl (ns++ys.map (·.n)) og2 nv2 wr by
       have h:=uh HLr
       rw[show ys.take i=ys from by rw[<-uh HN];exact List.take_length,show ys.drop i=[] from by rw[<-uh HN];exact List.drop_length]at h
       exact h)
    clear HLr
    go_wp2
    go_end0
    exact⟨rfl,og2,nv2,uh HZ⟩
end
section
open Go.RowKit
structure Good (n clock:Int) (x:Ser):Prop where
 i:SInv n x
 sx:SX x
 z:SZ clock x
 c0:0<=clock
 c1:clock<=4611686018427387904
 n1:n<=1000000000000
theorem Good.rel{n clock:Int}{x:Ser}(h:Good n clock x): 0<=x.rel/\x.rel<=1000000000000:=by
 have h1:=h.i.rel0;have h2:=h.i.rela;have h3:=h.i.accn;have h4:=h.n1
 omega
theorem Good.ok{n clock:Int}{x:Ser}(h:Good n clock x): SerOk x:=qJd h.sx h.i h.rel.2
theorem Good.ld{n clock:Int}{x:Ser}(h:Good n clock x): LdOk x clock:=by
 have hh:=qIb x.k x.c h.i.k1 h.i.k5
 have hc:=h.i.common
 have hr:=h.rel
 have hok:=h.ok
 refine⟨h.sx.id0,hok.cfg,hok.p0,hok.p3,h.i.kind,h.i.k1,h.i.k5,qPk x.k x.c h.i.k1 h.i.k5 h.i.valid h.i.kind,λj=>?_,hr.1,?_,by omega,h.c0,h.c1,by rw[hh.2.1];omega,by rw[hh.2.2.2];omega⟩
 ·unfold qAs
  rw[List.getD_eq_getElem?_getD]
  cases hj:x.ref[j]? with
  | none=>simp
  | some v=>exact⟨(h.i.refn v (List.mem_of_getElem? hj)).1,h.sx.refm v (List.mem_of_getElem? hj)⟩
 ·have:qGg (qCd x.k x.c) clock=qGg x.c clock:=by unfold qGg;rw[hh.2.1,hh.2.2.2]
  rw[this];exact h.z.most
theorem Good.its{n clock:Int}{x:Ser}(h:Good n clock x): LdIt x (Qi.allL (x.l.length+1) x.l) clock:=by
 have hh:=qIb x.k x.c h.i.k1 h.i.k5
 have hp:=qF7 (x.l.length+1) x.l (by omega) h.i.heap
 have hlen:=hp.length_eq
 refine⟨hlen,by rw[hlen,hh.2.2.2];exact h.i.cap,λy hy=>?_,(hp.map (·.n)).nodup_iff.2 (List.nodup_append.1 h.z.nod).1,h.ok.buf,λi y hy=>?_⟩
 ·have:=h.z.num y (hp.subset hy)
  rw[hlen,h.i.rela];exact this
 ·have hm:y∈x.l:=hp.subset (List.mem_of_getElem? hy)
  have hi:i<(Qi.allL (x.l.length+1) x.l).length:=(List.getElem?_eq_some_iff.1 hy).1
  have hd:=h.z.due y hm
  have ht:=h.i.times y hm
  have hcap:=h.i.cap
  have hbl:(qKt x.k ((Qi.allL (x.l.length+1) x.l).take i)).length=i:=by rw[qL8,List.length_take];omega
  unfold refE
  show(if inB (itK x.k y).t 0 4611686018427387904=true then if (itK x.k y).t<=clock-(qCd x.k x.c).lag then 6 else if clock+(qCd x.k x.c).skew<(itK x.k y).t then 7 else if qDb (qCd x.k x.c) x.k (itK x.k y)≠0 then qDb (qCd x.k x.c) x.k (itK x.k y) else if (qCd x.k x.c).cap<=((qKt x.k ((Qi.allL (x.l.length+1) x.l).take i)).length:Int) then 11 else if (4611686018427387904:Int)<=0 then 11 else 0 else 5)=0
  rw[qMg,hh.2.1,hh.2.2.1,hh.2.2.2,hbl,qTt x.k x.c y h.i.k1 h.i.k5,h.i.fits y hm]
  rw[if_pos (by simp only[inB,Bool.and_eq_true,decide_eq_true_eq];exact ht),if_neg (by omega),if_neg (by omega),if_neg (by simp),if_neg (by omega),if_neg (by omega)]
theorem Good.dec{n clock:Int}{x:Ser}(h:Good n clock x)(e:x.k=4): (x.nt.q<x.rel\/x.nt.r=0)/\(0<x.nt.q\/x.rel<=x.nt.r):=by
 have h1:=h.z.note.dec e
 have h2:=h.i.note.r0
 have h3:=h.i.note.q0
 have h4:=h.i.note.qn
 omega
theorem Good.cnt{n clock:Int}{x:Ser}(h:Good n clock x)(e:x.k=1): ∃gs,x.nt.bs=qEt gs/\zCe x.nt.bs=(gs.length:Int)::qH7 gs/\LdC x.c.k (clock-x.c.lag) x.rel gs:=by
 obtain⟨⟨gs,hb,hg⟩,h2,h3⟩:=h.z.note.cnt e
 rw[qR2]at hb
 have hv:=qC3 h.i.valid h.i.kind e
 have hsum:=h.i.note.sum
 have hone:=h.i.note.one
 have hr:=h.rel
 rw[hb]at hsum hone
 have hlen:gs.length<=62:=by
  cases gs with
  | nil=>simp
  | cons g gs =>
   cases g with
   | nil=>exact absurd hg.1 (by simp)
   | cons t g =>
    have h4:qDx (qEt ((t::g)::gs))=2 ^ gs.length+qDx (g.map (λt=>(⟨2 ^ gs.length,t⟩:Bk))++qEt gs):=rfl
    have h5:=qB2 (l:=g.map (λt=>(⟨2 ^ gs.length,t⟩:Bk))++qEt gs) (λb hb=>hone b (List.mem_cons_of_mem _ hb))
    have h6:(2:Int) ^ gs.length<=1000000000000:=by omega
    rw[List.length_cons]
    refine Nat.le_of_not_lt (λhn=>?_)
    have h7:(2:Nat) ^ 62<=2 ^ gs.length:=Nat.pow_le_pow_right (by omega) (by omega)
    have h8:(2:Int) ^ gs.length=((2 ^ gs.length:Nat):Int):=by simp
    rw[h8]at h6
    have h9:(2:Nat) ^ 62=4611686018427387904:=by decide
    omega
 refine⟨gs,hb,by rw[hb];exact zDq hg,hlen,λg hgm=>?_,λg hgm=>?_,λg hgm=>?_,λb hbm=>?_,?_,hsum,?_⟩
 ·cases gs with
  | nil=>cases hgm
  | cons g0 gs =>
   rcases List.mem_cons.1 hgm with e | e
   ·subst e;have:=hg.2.1;omega
   ·have:=(hg.2.2 g e).2;omega
 ·cases gs with
  | nil=>cases hgm
  | cons g0 gs =>
   have:g0=g:=by simpa using hgm
   subst this;exact hg.1
 ·cases gs with
  | nil=>cases hgm
  | cons g0 gs=>have:=(hg.2.2 g hgm).1;omega
 ·have h4:=h3 b.t (by rw[hb];exact List.mem_map_of_mem hbm)
  have h5:0<x.rel:=by
   obtain⟨a,c,hac⟩:=List.append_of_mem hbm
   have h6:=qB2 (l:=qEt gs) hone
   have h7:1<=qDx (qEt gs):=by
    cases hbk:qEt gs with
    | nil=>rw[hbk]at hbm;cases hbm
    | cons u us =>
     have h8:=qB2 (l:=us) (λb hb=>hone b (by rw[hbk];exact List.mem_cons_of_mem _ hb))
     have h9:=hone u (by rw[hbk];simp)
     show 1<=u.sz+qDx us
     omega
   omega
  have h6:=h.z.mark h5
  omega
 ·rw[hb,List.pairwise_map]at h2
  exact h2
 ·have:=zBb gs hg
  have h5:gs.length*(x.c.k.toNat+1)<=62*11:=Nat.mul_le_mul hlen (by omega)
  omega
theorem zEj(c:Cfg)(m:Int)(ls:Nat->List Bk)(n:Nat): qQj ls n (m-c.window)=qKi (λj=>qCq c m (ls j)) n 0:=by
 have h:∀l:List Bk,qWb l (m-c.window)=((qCq c m l).length:Int)::qDm (qCq c m l):=λl=>by
  unfold qWb qCq;rw[List.length_drop]
 have:∀n s,(List.range' s n).flatMap (λi=>qWb (ls i) (m-c.window))=qKi (λj=>qCq c m (ls j)) n s:=by
  intro n
  induction n with
  | zero=>intro s;rfl
  | succ n ih =>
   intro s
   rw[List.range'_succ,List.flatMap_cons,ih (s+1),h]
   rfl
 unfold qQj
 rw[List.range_eq_range']
 exact this n 0
theorem Good.dis{n clock:Int}{x:Ser}(h:Good n clock x)(e:x.k=2): LdD (clock-x.c.lag) x.rel (qG6 x.c) (λj=>qCq x.c (clock-x.c.lag) (x.nt.rg j)):=by
 obtain⟨z1,z2,z3⟩:=h.z.note.dis e
 have hmem:∀i b,b∈qCq x.c (clock-x.c.lag) (x.nt.rg i)->b∈x.nt.rg i:=λi b hb=>List.mem_of_mem_drop hb
 have hlen:∀i,(qCq x.c (clock-x.c.lag) (x.nt.rg i)).length<=(x.nt.rg i).length:=λi=>by unfold qCq;rw[List.length_drop];omega
 refine⟨λi=>?_,λi b hb=>?_,λi=>(z1 i).drop _,?_⟩
 ·have h1:=qIl (x.nt.rg i) 40 (h.sx.note.rf i) (h.i.note.rk i)
  have h2:=hlen i
  omega
 ·have h1:=z2 i b (hmem i b hb)
  have h2:=h.i.note.rk i b (hmem i b hb)
  have h3:0<x.rel:=by
   have h4:=h.i.note.rl i
   have h5:=List.length_pos_of_mem (hmem i b hb)
   omega
  have h4:=h.z.mark h3
  omega
 ·have:=qRs (a:=λj=>qCq x.c (clock-x.c.lag) (x.nt.rg j)) (b:=x.nt.rg) hlen (qG6 x.c) 0
  omega
theorem Good.oft{n clock:Int}{x:Ser}(h:Good n clock x)(e:x.k=3): LdO x.c x.c.rows.toNat x.c.width.toNat (clock-x.c.lag) x.rel (qA8 x.c x.nt.op x.nt.cl (clock-x.c.lag-x.c.window))/\(0<=clock-x.c.lag\/qA8 x.c x.nt.op x.nt.cl (clock-x.c.lag-x.c.window)=[]):=by
 have hL:=(qBp h.i.valid h.i.kind e).2.2.1
 have hi:=h.i.note.oi e
 obtain⟨f1,f2,f3⟩:=qIs (t:=clock-x.c.lag-x.c.window) (h.z.note.oft e) hi (by omega)
 have hpos:∀p,p∈qA8 x.c x.nt.op x.nt.cl (clock-x.c.lag-x.c.window)->x.last<=clock-x.c.lag:=λp hp=>by
  refine h.z.mark ?_
  have h1:=(f2 p hp).2.2.1.s0
  have h2:sP x.c.width.toNat p<=qG0 ((qA8 x.c x.nt.op x.nt.cl (clock-x.c.lag-x.c.window)).map (sP x.c.width.toNat)):=by
   obtain⟨a,b,hab⟩:=List.append_of_mem hp
   have hnn:∀q,q∈a++p::b->0<=sP x.c.width.toNat q:=λq hq=>by have:=(f2 q (by rw[hab];exact hq)).2.2.1.s0;omega
   rw[hab,List.map_append,qFs,List.map_cons,qEs]
   have g1:=qQf (a.map (sP x.c.width.toNat)) (λv hv=>by obtain⟨q,hq,rfl⟩:=List.mem_map.1 hv;exact hnn q (by simp[hq]))
   have g2:=qQf (b.map (sP x.c.width.toNat)) (λv hv=>by obtain⟨q,hq,rfl⟩:=List.mem_map.1 hv;exact hnn q (by simp[hq]))
   omega
  omega
 refine⟨⟨?_,f1,λp hp=>?_,λp hp=>(f2 p hp).2.2.1,f3⟩,?_⟩
 ·have:=hi.len
  unfold qA8
  rw[List.length_append,List.length_drop]
  split
  ·simp;omega
  ·simp;omega
 ·have h1:=hpos p hp
  have h2:0<=p.no/\p.no*qA6 x.c<=x.last:=by
   rcases(f2 p hp).2.2.2 with e | e
   ·have h3:=hi.lt p e
    have h4:=Int.mul_le_mul_of_nonneg_right (show p.no<=x.nt.op.no by omega) (show 0<=qA6 x.c by omega)
    have h5:=hi.onT
    exact⟨h3.1,by omega⟩
   ·rw[e];exact⟨hi.on0,hi.onT⟩
  exact⟨h2.1,Int.le_ediv_of_mul_le (by omega) (by omega)⟩
 ·cases hP:qA8 x.c x.nt.op x.nt.cl (clock-x.c.lag-x.c.window) with
  | nil=>exact .inr rfl
  | cons p ps =>
   have h1:=hpos p (by rw[hP];simp)
   have h2:=h.i.last0
   exact .inl (by omega)
theorem zB6(l:List Dr.It): qNl (l.map unT)=qK6 l:=by
 unfold qNl qK6
 rw[List.flatMap_map];rfl
theorem Good.drw{n clock:Int}{x:Ser}(h:Good n clock x)(e:x.k=5): LdT x.c (clock-x.c.lag) x.acc x.rel ((Qi.allL (x.l.length+1) x.l).map (·.n)) ((Dr.allL (x.nt.tk.length+1) x.nt.tk).map unT):=by
 obtain⟨z1,z2,z3⟩:=h.z.note.drw e
 have hp:=(Dr.allL_spec (x.nt.tk.length+1) x.nt.tk (by omega) z1).1
 have hq:=qF7 (x.l.length+1) x.l (by omega) h.i.heap
 have hn:((Dr.allL (x.nt.tk.length+1) x.nt.tk).map unT).map (·.n)=(Dr.allL (x.nt.tk.length+1) x.nt.tk).map (·.n):=by rw[List.map_map];rfl
 refine⟨by rw[List.length_map,hp.length_eq];exact z2,λy hy=>?_,?_,λy hy=>?_,λy hy=>?_⟩
 ·obtain⟨z,hz,rfl⟩:=List.mem_map.1 hy
  exact h.z.tkn z (hp.subset hz)
 ·rw[hn]
  exact((hq.map _).append (hp.map _)).nodup_iff.2 h.z.nod
 ·obtain⟨z,hz,rfl⟩:=List.mem_map.1 hy
  have h1:=z3 z (hp.subset hz)
  have h2:=qOc h1.2.1
  have h3:0<x.rel:=by
   have h4:=List.length_pos_of_mem (hp.subset hz)
   have h5:=h.rel
   split at z2 <;> omega
  have h4:=h.z.mark h3
  have h5:(unT z).t=z.t:=rfl
  refine⟨h1.2.2.1,by rw[h5];omega,h2.1.1,by omega,by omega,by omega⟩
 ·obtain⟨z,hz,rfl⟩:=List.mem_map.1 hy
  exact(z3 z (hp.subset hz)).2.1
def zFm(k r kn:Nat)(nb:NB)(nv:Value)(ck:Cfg)(nt':Note)(tl:List Nat)(w1:World): Prop :=
 Calls Tryz.prog (zCz k) (qHa nb.d++#[.pointer (some ⟨r,0,none⟩),.pointer (some ⟨kn,0,none⟩)]) w1 λe w2=>e=.returned (.tuple #[])/\∃nb':NB,nb'.d=nb.d/\NRep w2 k nb' ck nt'/\(∀i,qCz k nb' i->qCz k nb i\/w1.heap.size<=i)/\RdRep w2 r tl/\Keeps (λi=>i=r\/i=kn\/nv.ownBlock=some i\/qCz k nb i) w1 w2
structure LodH (k r kn:Nat) (nb:NB) (nv:Value) (ck:Cfg) (m acc rel:Int) (ns nn:List Int) (tl:List Nat) (w1:World):Prop where
 n:NRep w1 k nb ck qFy
 rd:RdRep w1 r (qBe nn++tl)
 kr:KnRep w1 kn m acc rel nv ns
 fr:¬qCz k nb r
 fk:¬qCz k nb kn
 fv:∀i,nv.ownBlock=some i->¬qCz k nb i
 rk:r<kn
 m1:m<=4611686018427387904
 r0:0<=rel
 r1:rel<=4611686018427387904
theorem zD6{w:World}{d r:Nat}{og og2:Option Nat}(hfo:og2=og\/∃k,og2=some k/\w.heap.size<=k){i:Nat}(h:i=d\/i=r\/og2=some i): (i=d\/i=r\/og=some i)\/w.heap.size<=i:=by
 rcases h with h | h | h
 ·exact .inl (.inl h)
 ·exact .inl (.inr (.inl h))
 ·rcases hfo with f | ⟨k,f,hz⟩
  ·exact .inl (.inr (.inr (by rw[<-f];exact h)))
  ·rw[h]at f
   have:=Option.some.inj f
   exact .inr (by omega)
theorem lod_1{r kn:Nat}{nb:NB}{nv:Value}{ck:Cfg}{m acc rel:Int}{ns:List Int}{gs:List (List Int)}{tl:List Nat}{w1:World}(h:LodH 1 r kn nb nv ck m acc rel ns ((gs.length:Int)::qH7 gs) tl w1)(hc:LdC ck.k m rel gs)(k1:1<=ck.k)(k10:ck.k<=10): zFm 1 r kn nb nv ck { qFy with bs:=qEt gs } tl w1:=by
 have fr:nb.d≠r/\nb.r≠r/\nb.g≠some r:=⟨λe=>h.fr (.inl ⟨rfl,.inl e.symm⟩),λe=>h.fr (.inl ⟨rfl,.inr (.inl e.symm)⟩),λe=>h.fr (.inl ⟨rfl,.inr (.inr e)⟩)⟩
 have fk:kn≠r/\kn≠nb.r/\nb.g≠some kn:=⟨by have:=h.rk;omega,λe=>h.fk (.inl ⟨rfl,.inr (.inl e)⟩),λe=>h.fk (.inl ⟨rfl,.inr (.inr e)⟩)⟩
 refine(qS6 nb.d nb.r r kn nb.g ck m acc rel nv gs tl w1 (h.n.cnt rfl) h.rd h.kr.blk fr fk hc k1 k10 h.m1 h.r1).mono ?_
 rintro e w2 ⟨rfl,og2,hl⟩
 refine⟨rfl,{ nb with g:=og2 },rfl,⟨λe=>(by cases e),λ_=>hl.cr,λe=>(by cases e),λe=>(by cases e),λe=>(by cases e)⟩,λi hi=>?_,hl.rd,hl.kp.mono (λi _ hi=>?_)⟩
 ·rcases hi with ⟨_,hi⟩ | ⟨e,_⟩ | ⟨e,_⟩ | ⟨e,_⟩ | ⟨e,_⟩
  ·rcases zD6 hl.fo hi with f | f
   ·exact .inl (.inl ⟨rfl,f⟩)
   ·exact .inr f
  ·cases e
  ·cases e
  ·cases e
  ·cases e
 ·rcases hi with f | f | f
  ·exact .inl f
  ·exact .inr (.inr (.inr (.inl ⟨rfl,.inr (.inl f)⟩)))
  ·exact .inr (.inr (.inr (.inl ⟨rfl,.inr (.inr f)⟩)))
theorem lod_2{r kn n:Nat}{nb:NB}{nv:Value}{ck:Cfg}{m acc rel:Int}{ns:List Int}{lv:Nat->List Bk}{tl:List Nat}{w1:World}(hn:qG6 ck=n)(h:LodH 2 r kn nb nv ck m acc rel ns (qKi lv n 0) tl w1)(hc:LdD m rel n lv)(n16:n<=16): zFm 2 r kn nb nv ck { qFy with rg:=lv } tl w1:=by
 have fr:nb.d≠r/\nb.r≠r/\(∀j,j<nb.qs.length->¬qf (qAt nb.qs j) r):=⟨λe=>h.fr (.inr (.inr (.inl ⟨rfl,.inl e.symm⟩))),λe=>h.fr (.inr (.inr (.inl ⟨rfl,.inr (.inl e.symm)⟩))),λj hj e=>h.fr (.inr (.inr (.inl ⟨rfl,.inr (.inr ⟨j,hj,e⟩)⟩)))⟩
 have fk:kn≠r/\(∀j,j<nb.qs.length->¬qf (qAt nb.qs j) kn):=⟨by have:=h.rk;omega,λj hj e=>h.fk (.inr (.inr (.inl ⟨rfl,.inr (.inr ⟨j,hj,e⟩)⟩)))⟩
 have hq:=(h.n.dis rfl).2
 refine(qTj nb.d nb.r r kn n nb.qs ck m acc rel nv lv tl w1 (h.n.dis rfl).1 (by rw[hq,hn]) h.rd h.kr.blk fr fk hc n16 h.m1).mono ?_
 rintro e w2 ⟨rfl,ls,qs,he,hl⟩
 have hql:qs.length=n:=by rw[hl.ln,hq,hn]
 refine⟨rfl,{ nb with qs:=qs },rfl,⟨λe=>(by cases e),λe=>(by cases e),λ_=>⟨⟨hl.dr.blk,hl.dr.reg,λi hi=>?_,hl.dr.dj,hl.dr.nd,hl.dr.dr⟩,by rw[hn];exact hql⟩,λe=>(by cases e),λe=>(by cases e)⟩,λi hi=>?_,hl.rd,hl.kp.mono (λi _ hi=>?_)⟩
 ·have:=hl.dr.row i hi
  rw[he i (by rw[<-hql];exact hi)]at this
  exact this
 ·rcases hi with ⟨e,_⟩ | ⟨e,_⟩ | ⟨_,hi⟩ | ⟨e,_⟩ | ⟨e,_⟩
  ·cases e
  ·cases e
  ·rcases hi with f | f | ⟨j,hj,f⟩
   ·exact .inl (.inr (.inr (.inl ⟨rfl,.inl f⟩)))
   ·exact .inl (.inr (.inr (.inl ⟨rfl,.inr (.inl f)⟩)))
   ·rcases hl.fo j i hj f with ⟨j2,h2,f2⟩ | f2
    ·exact .inl (.inr (.inr (.inl ⟨rfl,.inr (.inr ⟨j2,h2,f2⟩)⟩)))
    ·exact .inr f2
  ·cases e
  ·cases e
 ·rcases hi with f | f
  ·exact .inl f
  ·exact .inr (.inr (.inr (.inr (.inr (.inl ⟨rfl,.inr (.inr f)⟩)))))
theorem lod_3{r kn R W:Nat}{nb:NB}{nv:Value}{ck:Cfg}{m acc rel:Int}{ns:List Int}{ps:List Pa.Pn}{tl:List Nat}{w1:World}(h:LodH 3 r kn nb nv ck m acc rel ns ((ps.length:Int)::qCy ck ps) tl w1)(hc:LdO ck R W m rel ps)(hR:ck.rows=(R:Int))(hW:ck.width=(W:Int))(hpn:ck.paned)(hrw:ck.rowed)(hL:1<=qA6 ck)(m0:0<=m\/ps=[]): zFm 3 r kn nb nv ck { qFy with op:=(qSr ps).1,cl:=(qSr ps).2 } tl w1:=by
 have fr:nb.d≠r/\nb.r≠r/\nb.g≠some r:=⟨λe=>h.fr (.inr (.inr (.inr (.inl ⟨rfl,.inl e.symm⟩)))),λe=>h.fr (.inr (.inr (.inr (.inl ⟨rfl,.inr (.inl e.symm)⟩)))),λe=>h.fr (.inr (.inr (.inr (.inl ⟨rfl,.inr (.inr e)⟩))))⟩
 have fk:kn≠r/\kn≠nb.d/\kn≠nb.r/\nb.g≠some kn:=⟨by have:=h.rk;omega,λe=>h.fk (.inr (.inr (.inr (.inl ⟨rfl,.inl e⟩)))),λe=>h.fk (.inr (.inr (.inr (.inl ⟨rfl,.inr (.inl e)⟩)))),λe=>h.fk (.inr (.inr (.inr (.inl ⟨rfl,.inr (.inr e)⟩))))⟩
 refine(qUq nb.d nb.r r kn R W nb.g ck m acc rel nv ps tl w1 (h.n.oft rfl) h.rd h.kr.blk fr fk hc hR hW hpn hrw hL m0 h.m1 h.r1 h.r0).mono ?_
 rintro e w2 ⟨rfl,og2,hl⟩
 refine⟨rfl,{ nb with g:=og2 },rfl,⟨λe=>(by cases e),λe=>(by cases e),λe=>(by cases e),λ_=>hl.orr,λe=>(by cases e)⟩,λi hi=>?_,hl.rd,hl.kp.mono (λi _ hi=>?_)⟩
 ·rcases hi with ⟨e,_⟩ | ⟨e,_⟩ | ⟨e,_⟩ | ⟨_,hi⟩ | ⟨e,_⟩
  ·cases e
  ·cases e
  ·cases e
  ·rcases zD6 hl.fo hi with f | f
   ·exact .inl (.inr (.inr (.inr (.inl ⟨rfl,f⟩))))
   ·exact .inr f
  ·cases e
 ·rcases hi with f | f
  ·exact .inl f
  ·exact .inr (.inr (.inr (.inr (.inr (.inr (.inl ⟨rfl,f⟩))))))
theorem lod_4{r kn:Nat}{nb:NB}{nv:Value}{ck:Cfg}{m acc rel q e:Int}{ns:List Int}{tl:List Nat}{w1:World}(h:LodH 4 r kn nb nv ck m acc rel ns [q,e] tl w1)(q0:0<=q)(q1:q<=rel)(e0:0<=e)(e1:e<=2305843009213693951)(hc1:q<rel\/e=0)(hc2:0<q\/rel<=e): zFm 4 r kn nb nv ck { qFy with q:=q,r:=e } tl w1:=by
 have hd:nb.d≠r:=λe=>h.fr (.inr (.inl ⟨rfl,e.symm⟩))
 have hkd:kn≠nb.d:=λe=>h.fk (.inr (.inl ⟨rfl,e⟩))
 refine(qMz nb.d r kn ck q e m acc rel nv tl w1 (h.n.dec rfl) h.rd h.kr.blk hd (by have:=h.rk;omega) hkd q0 q1 e0 e1 h.r1 hc1 hc2).mono ?_
 rintro x w2 ⟨rfl,hb,hr2,hk2⟩
 exact⟨rfl,nb,rfl,⟨λ_=>hb,λe=>(by cases e),λe=>(by cases e),λe=>(by cases e),λe=>(by cases e)⟩,λi hi=>.inl hi,hr2,hk2.mono (λi _ h=>by
      rcases h with h | h
      ·exact .inl h
      ·exact .inr (.inr (.inr (.inr (.inl ⟨rfl,h⟩)))))⟩
theorem lod_5{r kn:Nat}{nb:NB}{nv:Value}{ck:Cfg}{m acc rel:Int}{ns:List Int}{ys:List It}{tl:List Nat}{w1:World}(h:LodH 5 r kn nb nv ck m acc rel ns (qNl ys) tl w1)(hc:LdT ck m acc rel ns ys)(hw:ck.weighs)(s0:1<=ck.size)(s1:ck.size<=5)(a1:acc<=4611686018427387904)(hnl:ns.length<=800): zFm 5 r kn nb nv ck { qFy with tk:=ys.foldl (qGm ck) [] } tl w1:=by
 have nf:∀i,(i=nb.d\/i=nb.r\/nb.g=some i)->qCz 5 nb i:=λi hi=>.inr (.inr (.inr (.inr ⟨rfl,hi⟩)))
 have hL:TL w1 nb.d nb.r r kn ck m acc rel nb.g nv [] (qBe (qNl ys)++tl) ns nb.g nv w1 :=
  ⟨h.n.drw rfl,h.rd,h.kr,Keeps.refl _ _,.inl rfl,λi hi=>.inl hi,λi hi=>⟨λe=>h.fv i hi (nf i (.inl e)),λe=>h.fv i hi (nf i (.inr (.inl e))),λe=>h.fv i hi (nf i (.inr (.inr e)))⟩,
     ⟨λe=>h.fr (nf r (.inl e.symm)),λe=>h.fr (nf r (.inr (.inl e.symm))),λe=>h.fk (nf kn (.inl e.symm)),λe=>h.fk (nf kn (.inr (.inl e.symm))),h.rk,h.rd.blk.lt⟩,
     λg hg=>⟨λe=>h.fr (nf r (.inr (.inr (by rw[<-e];exact hg)))),λe=>h.fk (nf kn (.inr (.inr (by rw[<-e];exact hg))))⟩⟩
 refine(qUt nb.d nb.r r kn nb.g ck m acc rel nv ns ys tl w1 hL hc hw s0 s1 h.m1 a1 hnl).mono ?_
 rintro e w2 ⟨rfl,og2,nv2,hl⟩
 refine⟨rfl,{ nb with g:=og2 },rfl,⟨λe=>(by cases e),λe=>(by cases e),λe=>(by cases e),λe=>(by cases e),λ_=>hl.tr⟩,λi hi=>?_,hl.rd,hl.kp.mono (λi _ hi=>?_)⟩
 ·rcases hi with ⟨e,_⟩ | ⟨e,_⟩ | ⟨e,_⟩ | ⟨e,_⟩ | ⟨_,hi⟩
  ·cases e
  ·cases e
  ·cases e
  ·cases e
  ·rcases zD6 hl.fo hi with f | f
   ·exact .inl (nf i f)
   ·exact .inr f
 ·rcases hi with f | f | f | f
  ·exact .inl f
  ·exact .inr (.inl f)
  ·exact .inr (.inr (.inl f))
  ·exact .inr (.inr (.inr (nf i (.inr f))))
theorem zE8{n clock:Int}{x:Ser}(h:Good n clock x){r kn:Nat}{nb:NB}{nv:Value}{tl:List Nat}{w1:World}(H:LodH x.k r kn nb nv (qCd x.k x.c) (clock-x.c.lag) x.acc x.rel ((Qi.allL (x.l.length+1) x.l).map (·.n)) (qQq x.k x.c x.nt (clock-x.c.lag)) tl w1):
  zFm x.k r kn nb nv (qCd x.k x.c) (zC9 x.k (qCd x.k x.c) (clock-x.c.lag) x.nt) tl w1:=by
 have hv:=h.i.valid
 have hk:=h.i.kind
 rcases five h.i.k1 h.i.k5 with e | e | e | e | e
 ·obtain⟨gs,h1,h2,h3⟩:=h.cnt e
  have hc:=qC3 hv hk e
  rw[e]at H ⊢
  have h4:qQq 1 x.c x.nt (clock-x.c.lag)=(gs.length:Int)::qH7 gs:=h2
  rw[h4]at H
  have:=lod_1 (ck:=qCd 1 x.c) H h3 hc.1 hc.2.1
  rw[<-h1]at this
  exact this
 ·have h3:=h.dis e
  have hb:=qCa hv hk e
  rw[e]at H ⊢
  have h4:qQq 2 x.c x.nt (clock-x.c.lag)=qKi (λj=>qCq x.c (clock-x.c.lag) (x.nt.rg j)) (qG6 x.c) 0:=zEj x.c (clock-x.c.lag) x.nt.rg (qG6 x.c)
  rw[h4]at H
  have h16:qG6 x.c<=16:=by
   unfold qG6
   have:x.c.bits.toNat<=4:=by omega
   exact Nat.le_trans (Nat.pow_le_pow_right (by omega) this) (by decide)
  exact lod_2 (ck:=qCd 2 x.c) (n:=qG6 x.c) rfl H h3 h16
 ·obtain⟨h3,h5⟩:=h.oft e
  obtain⟨hp,hr,hL,hL1,hpl⟩:=qBp (qPk x.k x.c h.i.k1 h.i.k5 hv hk) (by rw[(qIb x.k x.c h.i.k1 h.i.k5).1];exact hk) e
  rw[e]at H hp hr hL ⊢
  have hr0:=hr.r0
  have hw0:=hr.w0
  exact lod_3 (ck:=qCd 3 x.c) (R:=x.c.rows.toNat) (W:=x.c.width.toNat) (ps:=qA8 x.c x.nt.op x.nt.cl (clock-x.c.lag-x.c.window)) H ⟨h3.len,h3.asc,h3.rng,h3.pan,h3.sum⟩ (by show x.c.rows=_;have h9:1<=x.c.rows:=hr0;omega) (by show x.c.width=_;have h9:1<=x.c.width:=hw0;omega) hp hr hL h5
 ·have h3:=h.dec e
  have q0:=h.i.note.q0
  have q1:=h.i.note.qn
  have r0:=h.i.note.r0
  have r1:=h.i.note.r1
  rw[e]at H ⊢
  exact lod_4 (ck:=qCd 4 x.c) H q0 q1 r0 (by omega) h3.1 h3.2
 ·have h3:=h.drw e
  have hs:=qDf hv hk e
  have hw:=qEa hv hk (by omega) h.i.k5
  have hcap:=h.i.cap
  have hcm:=h.i.common
  have hln:=(qF7 (x.l.length+1) x.l (by omega) h.i.heap).length_eq
  have hax:=h.sx.accm
  rw[e]at H ⊢
  have h4:qQq 5 x.c x.nt (clock-x.c.lag)=qNl ((Dr.allL (x.nt.tk.length+1) x.nt.tk).map unT):=(zB6 _).symm
  rw[h4]at H
  exact lod_5 (ck:=qCd 5 x.c) H ⟨h3.len,h3.num,h3.nod,h3.rng,h3.ref⟩ ⟨hw.d0,hw.d1,hw.h0,hw.h1,hw.m0,hw.m1⟩ hs.1 hs.2 hax (by rw[List.length_map,hln];omega)
end
section
theorem zBx(s:WS)(o:OpM)(h:o.kind=2\/o.kind=3): (qBq s o).1.xs.map (·.id)=s.xs.map (·.id):=by
 rcases h with h2 | h3
 ·have hs:qBq s o=qSp s o:=by unfold qBq;rw[if_neg (by omega),if_pos h2]
  rw[hs]
  cases hf:qFd s.xs o.id with
  | none=>unfold qSp;rw[hf]
  | some x =>
   obtain⟨l1,l2,he,hx,hu⟩:=qV1 hf
   unfold qSp
   rw[hf]
   simp only
   split
   ·show(qKs s.xs o.id (accS x o.item)).map (·.id)=_
    rw[hu,he];simp[accS]
   ·show(qKs s.xs o.id (refS x _)).map (·.id)=_
    rw[hu,he];simp[refS]
 ·have hs:qBq s o=qIt s o:=by unfold qBq;rw[if_neg (by omega),if_neg (by omega),if_pos h3]
  rw[hs]
  unfold qIt
  split
  ·split
   ·show(qCj _ _ _).1.map (·.id)=_
    rw[qW7,List.map_map]
    refine List.map_congr_left λx _=>?_
    exact(qVh _ _ _).2.2
   ·rfl
  ·rfl
end
section
open Go.RowKit
structure Fit (n:Int) (s:WS):Prop where
 i:EInv n s.clock s.xs
 x:EX s
 z:EZ s
 d:(s.xs.map (·.id)).Nodup
theorem Fit.ok{n:Int}{s:WS}(h:Fit n s): Ok n s:=⟨h.i,h.z⟩
theorem Fit.zero: Fit 0 ws0:=⟨inv0,λx hx=>(by cases hx),λx hx=>(by cases hx),List.Pairwise.nil⟩
theorem zAq{s:WS}(o:OpM)(h:(s.xs.map (·.id)).Nodup)(h7:o.kind≠7): ((qBq s o).1.xs.map (·.id)).Nodup:=by
 by_cases h23:o.kind=2\/o.kind=3
 ·rw[zBx s o h23];exact h
 ·have h2:o.kind≠2:=λe=>h23 (.inl e)
  have h3:o.kind≠3:=λe=>h23 (.inr e)
  unfold qBq
  split
  ·unfold qDa
   split
   ·rename_i hf
    split
    ·split
     ·show((s.xs++[qBk o.id o.cfg o.cfg.kind.toNat]).map (·.id)).Nodup
      rw[List.map_append]
      refine List.nodup_append.2 ⟨h,by simp,λa ha b hb=>?_⟩
      obtain⟨x,hx,rfl⟩:=List.mem_map.1 ha
      have hb':b=o.id:=by simpa[qBk] using hb
      have h9:=List.find?_eq_none.1 (Option.isNone_iff_eq_none.1 hf.2) x hx
      rw[hb']
      simpa using h9
     ·exact h
    ·exact h
   ·exact h
  ·split
   ·unfold qG2
    split <;> exact h
   ·split
    ·unfold qG3
     split <;> exact h
    ·split <;> exact h
theorem Fit.step{n:Int}{s:WS}(h:Fit n s)(hn0:0<=n)(hn:n<=1000000000000)(o:OpM)(h7:o.kind≠7): Fit (n+1) (qBq s o).1 :=
 ⟨qHv o h.i hn0 (qFe h7),qLc o h.x h.i (λe=>absurd e h7),zAw o h.z h.i (by omega) h7,zAq o h.d h7⟩
theorem Fit.mono{n m:Int}{s:WS}(h:Fit n s)(hm:n<=m): Fit m s:=⟨h.i.mono hm,h.x,h.z,h.d⟩
theorem Fit.end'(l:List OpM): ∀ {n:Int} {s:WS},Fit n s->0<=n->n+l.length<=1000000000000->qG8 l->Fit (n+l.length) (qG4 s l):=by
 induction l with
 | nil=>intro n s h _ _ _;exact h.mono (by simp)
 | cons o l ih =>
  intro n s h hn0 hn hok
  rw[List.length_cons]at hn
  have:=ih (h.step hn0 (by omega) o (hok o (by simp))) (by omega) (by omega) (λo ho=>hok o (by simp[ho]))
  rw[List.length_cons]
  exact this.mono (by omega)
def qXu(s:WS): WS:=⟨s.clock,s.xs.map (qN0 s.clock)⟩
theorem SimL.can{n clock:Int}(xs:List Ser)(h:∀x,x∈xs->SInv n x/\SX x/\SZ clock x): SimL clock xs (xs.map (qN0 clock)):=by
 induction xs with
 | nil=>exact .nil
 | cons x xs ih =>
  obtain⟨a,b,c⟩:=h x (by simp)
  exact .cons (qLg a b c).2.2.2 (ih (λy hy=>h y (by simp[hy])))
theorem Fit.can{n:Int}{s:WS}(h:Fit n s): Fit n (qXu s)/\SimW s (qXu s):=by
 have hc:∀x,x∈s.xs->SInv n (qN0 s.clock x)/\SX (qN0 s.clock x)/\SZ s.clock (qN0 s.clock x)/\Sim s.clock x (qN0 s.clock x):=λx hx=>qLg (h.i.sers x hx) (h.x x hx) (h.z x hx)
 refine⟨⟨⟨h.i.c0,h.i.c1,?_,λy hy=>?_,λy hy=>?_⟩,λy hy=>?_,λy hy=>?_,?_⟩,⟨rfl,SimL.can s.xs (λx hx=>⟨h.i.sers x hx,h.x x hx,h.z x hx⟩)⟩⟩
 ·show(s.xs.map _).length<=6;rw[List.length_map];exact h.i.six
 ·obtain⟨x,hx,rfl⟩:=List.mem_map.1 hy;exact(hc x hx).1
 ·obtain⟨x,hx,rfl⟩:=List.mem_map.1 hy
  have hl:=(qIb x.k x.c (h.i.sers x hx).k1 (h.i.sers x hx).k5).2.1
  show x.last=0\/x.last<=s.clock-(qCd x.k x.c).lag
  rw[hl];exact h.i.marks x hx
 ·obtain⟨x,hx,rfl⟩:=List.mem_map.1 hy;exact(hc x hx).2.1
 ·obtain⟨x,hx,rfl⟩:=List.mem_map.1 hy;exact(hc x hx).2.2.1
 ·show((s.xs.map (qN0 s.clock)).map (·.id)).Nodup
  rw[List.map_map];exact h.d
theorem zEe(l:List OpM): ∀ {n1 n2:Int} {s t:WS},SimW s t->Fit n1 s->Fit n2 t->0<=n1->0<=n2->n1+l.length<=1000000000000->n2+l.length<=1000000000000->qG8 l->qG7 t l=qG7 s l/\qIo t l=qIo s l:=by
 induction l with
 | nil=>intros;exact⟨rfl,rfl⟩
 | cons o l ih =>
  intro n1 n2 s t h h1 h2 a1 a2 b1 b2 hok
  rw[List.length_cons]at b1 b2
  have h7:=hok o (by simp)
  obtain⟨g1,g2,g3⟩:=h.step h1.ok h2.ok o h7
  obtain⟨i1,i2⟩:=ih g1 (h1.step a1 (by omega) o h7) (h2.step a2 (by omega) o h7) (by omega) (by omega) (by omega) (by omega) (λo ho=>hok o (by simp[ho]))
  exact⟨by unfold qG7;rw[i1,g2],by unfold qIo;rw[i2,g3]⟩
theorem qY9(ld:ByteArray->Option WS)(l:List OpM): ∀s:WS,qG8 l->qN4 ld s l=qG7 s l/\qH9 ld s l=qIo s l/\qIw ld s l=qG4 s l:=by
 induction l with
 | nil=>intro s _;exact⟨rfl,rfl,rfl⟩
 | cons o l ih =>
  intro s hok
  have hs:stepG ld s o=qBq s o:=by unfold stepG;rw[if_neg (hok o (by simp))]
  obtain⟨i1,i2,i3⟩:=ih (qBq s o).1 (λo ho=>hok o (by simp[ho]))
  refine⟨?_,?_,?_⟩
  ·unfold qN4 qG7;rw[hs,i1]
  ·unfold qH9 qIo;rw[hs,i2]
  ·unfold qIw qG4;rw[hs,i3]
def ldB(S:WS)(b:ByteArray): Option WS:=if b=qFj S then some (qXu S) else none
theorem qZ4(S:WS): ldB S (qFj S)=some (qXu S):=by unfold ldB;rw[if_pos rfl]
def qXm(S:WS)(z s:List OpM): List OpM:=z++(l7 (qFj S)::o6::s)
theorem qTd{S:WS}{z s:List OpM}{n:Int}(hS:Fit n S)(n0:0<=n)(hz:qG8 z)(hs:qG8 s)(hl:n+s.length<=1000000000000):
  qN4 (ldB S) ws0 (qXm S z s)=qG7 ws0 z++((0,[])::(0,[])::qG7 S s)/\qH9 (ldB S) ws0 (qXm S z s)=qIo ws0 z++(qAa::qFj S::qIo S s):=by
 obtain⟨c1,c2⟩:=hS.can
 obtain⟨z1,z2,z3⟩:=qY9 (ldB S) z ws0 hz
 obtain⟨r1,r2,r3⟩:=qY9 (ldB S) s (qXu S) hs
 obtain⟨q1,q2⟩:=zEe s c2 hS c1 n0 n0 hl hl hs
 have e7:∀W,stepG (ldB S) W (l7 (qFj S))=(qXu S,0,[]):=λW=>by
  unfold stepG
  rw[if_pos (show(l7 (qFj S)).kind=7 from rfl),show ldB S (l7 (qFj S)).bytes=some (qXu S) from qZ4 S]
 have e6:stepG (ldB S) (qXu S) o6=(qXu S,0,[]):=by unfold stepG;rw[if_neg (by decide)];rfl
 have b7:∀W,qCu W (l7 (qFj S))=qAa:=λW=>by unfold qCu;rw[if_neg (by show ¬((7:Int)=6);decide)]
 have b6:qCu (qXu S) o6=qFj S:=by
  unfold qCu
  rw[if_pos (show o6.kind=6 from rfl)]
  exact c2.saved hS.ok c1.ok
 unfold qXm
 rw[qSy,qSg,z1,z2]
 refine⟨?_,?_⟩
 ·congr 1
  simp only[qN4,e7,e6,r1,q1]
 ·congr 1
  simp only[qH9,e7,e6,b7,b6,r2,q2]
theorem zEg(ld:ByteArray->Option WS)(hL:∀b s',ld b=some s'->EX s')(l:List OpM): ∀ {n:Int} {s:WS},EX s->EInv n s.clock s.xs->0<=n->(∀(i:Nat) o,l[i]?=some o->qMs ld (n+i+1) o)->EX (qIw ld s l):=by
 induction l with
 | nil=>intro n s h _ _ _;exact h
 | cons o l ih =>
  intro n s h hi hn0 hLO
  have hx:EX (stepG ld s o).1:=by
   unfold stepG
   split
   ·split
    ·exact h
    ·rename_i s' hs';exact hL _ s' hs'
   ·rename_i h7
    exact qLc o h hi (λe=>absurd e h7)
  exact ih hx (qQ7 ld o hi hn0 (by have:=hLO 0 o rfl;simpa using this)) (by omega) (λi o ho=>by
     have:=hLO (i+1) o (by simpa using ho)
     rw[show n+1+(i:Int)+1=n+((i+1:Nat):Int)+1 by omega]
     exact this)
theorem zGr{n clock:Int}{x:Ser}(h:Good n clock x)(r:Nat)(tl:List Nat)(w:World)(hr:RdRep w r (qBe (qCx clock x)++tl)):
  Calls Tryz.prog 89 #[.pointer (some ⟨r,0,none⟩),.int .i64 clock] w λe w'=>∃sb:SB,e=.returned (.pointer (some ⟨sb.s,0,none⟩))/\SRep w' sb (qN0 clock x)/\RdRep w' r tl/\(∀i,sb.foot (qN0 clock x).k i->w.heap.size<=i)/\Keeps (λi=>i=r) w w':=by
 have hn:qCx clock x=qE7 x++(qGr x.k (Qi.allL (x.l.length+1) x.l)++qQq x.k x.c x.nt (clock-x.c.lag)):=rfl
 rw[hn,qAk,qAk,List.append_assoc,List.append_assoc]at hr
 have hh:=qIb x.k x.c h.i.k1 h.i.k5
 have hlen:=(qF7 (x.l.length+1) x.l (by omega) h.i.heap).length_eq
 have hcm:=h.i.common
 have hc1:=h.c1
 have hrl:=h.rel
 refine(qUc r x clock (Qi.allL (x.l.length+1) x.l) (zC9 x.k (qCd x.k x.c) (clock-x.c.lag) x.nt) (qBe (qQq x.k x.c x.nt (clock-x.c.lag))) tl w hr h.ld h.its ?_).mono ?_
 ·intro nb kn nv w1 hN hR hK h1 h2 h3 h4
  rw[hh.2.1,hlen,h.i.rela]at hK
  exact zE8 h ⟨hN,hR,hK,h1,h2,h3,h4,by omega,by omega,by omega⟩
 ·rintro e w' ⟨sb,rfl,hs,hr2,hf,hk⟩
  rw[hlen]at hs
  exact⟨sb,rfl,⟨hs.blk,hs.que,hs.note,hs.sq,hs.sg,hs.sn⟩,hr2,hf,hk⟩
theorem Fit.good{n:Int}{s:WS}(h:Fit n s)(hn:n<=1000000000000){x:Ser}(hx:x∈s.xs): Good n s.clock x:=⟨h.i.sers x hx,h.x x hx,h.z x hx,h.i.c0,h.i.c1,hn⟩
theorem zDr{l:List Bk}(h:∀b∈l,1<=b.sz): (l.length:Int)<=qDx l:=by
 induction l with
 | nil=>exact Int.le_refl _
 | cons b l ih =>
  have h1:=ih (λc hc=>h c (by simp[hc]))
  have h2:=h b (by simp)
  rw[List.length_cons]
  show((l.length+1:Nat):Int)<=b.sz+qDx l
  omega
theorem Fit.all{n:Int}{s:WS}(h:Fit n s)(hn:n<=1000000000000): LdAll s.xs (qN0 s.clock) s.clock where
 six:=h.i.six
 c0:=h.i.c0
 c1:=h.i.c1
 ids:=h.d
 cid:=λ_ _=>rfl
 nums:=λx hx=>by
  have hc:=qLg (h.i.sers x hx) (h.x x hx) (h.z x hx)
  exact hc.2.2.2.nums (h.i.sers x hx) hc.1 (h.z x hx) hc.2.2.1
 ok:=λx hx=>by
  have hc:=qLg (h.i.sers x hx) (h.x x hx) (h.z x hx)
  have hg:=(h.good hn hx).rel
  exact qJd hc.2.1 hc.1 hg.2
 len:=by
  have h1:∀xs:List Ser,(∀x,x∈xs->x∈s.xs)->(qC5 s.clock xs).length<=xs.length*1000000051000:=by
   intro xs
   induction xs with
   | nil=>intro _;simp[qC5]
   | cons x xs ih =>
    intro hm
    have hx:=hm x (by simp)
    have g1:=ih (λy hy=>hm y (by simp[hy]))
    have g2:=qFx (h.good hn hx).ok s.clock
    have g3:=zDr (h.i.sers x hx).note.one
    have g4:=(h.i.sers x hx).note.sum
    have g5:=(h.good hn hx).rel
    unfold qC5 at g1 ⊢
    rw[List.flatMap_cons,List.length_append,List.length_cons,Nat.succ_mul]
    omega
  have h2:=h1 s.xs (λ_ h=>h)
  have h3:=qAx (qCs s.clock s.xs)
  have h4:=qBj (qLb (qF2 s.clock s.xs))
  have h5:(qCs s.clock s.xs).length=2+(qC5 s.clock s.xs).length:=by simp[qCs];omega
  have h6:qC0.length=8:=rfl
  have h7:(qF2 s.clock s.xs).length=8+(qBe (qCs s.clock s.xs)).length:=by unfold qF2;rw[List.length_append,h6]
  have h8:=h.i.six
  have h9:s.xs.length*1000000051000<=6*1000000051000:=Nat.mul_le_mul_right _ h8
  unfold qHc
  rw[List.length_append]
  omega
 sum:=by have:=qOm (qF2 s.clock s.xs);omega
 ld:=λx hx r tl w hr=>zGr (h.good hn hx) r tl w hr
theorem qTu(v:Value)(S:WS)(K:Nat)(z s:List OpM)(w:World)(h:ScriptW w v (qXm S z s))(hS:Fit (K:Int) S)(hz:qG8 z)(hs:qG8 s)(hlen:(qXm S z s).length+K<=600000000000)(hT:Tab w):
  Calls Tryz.prog 11 #[v] w λr w'=>∃v l,r=.returned v/\ARep w' w.heap.size v l/\l.map (λx=>(x.code,x.nums))=qG7 ws0 z++((0,[])::(0,[])::qG7 S s)/\l.map (·.bs)=qIo ws0 z++(qAa::qFj S::qIo S s)/\Keeps (λ_=>False) w w':=by
 have hl2:(qXm S z s).length=z.length+s.length+2:=by unfold qXm;simp;omega
 rcases h with ⟨_,h2⟩ | ⟨sb,so,cap,rfl,h2,h3,h4⟩
 ·rw[h2]at hl2;simp at hl2
 ·obtain⟨c1,c2⟩:=hS.can
  have hrun:=qTd (z:=z) (s:=s) hS (by omega) hz hs (by omega)
  have hld:∀b s',ldB S b=some s'->s'=qXu S:=λb s' hb=>by
   unfold ldB at hb
   split at hb
   ·exact(Option.some.inj hb).symm
   ·cases hb
  have hLO:∀(i:Nat) o,(qXm S z s)[i]?=some o->qMs (ldB S) ((K:Int)+i+1) o:=λi o ho h7 s' hs'=>by
   rw[hld _ s' hs'];exact c1.i.mono (by omega)
  have hmem:∀o,o∈qXm S z s->o.kind=7->qTi (ldB S) o.bytes:=λo ho h7=>by
   unfold qXm at ho
   rcases List.mem_append.1 ho with ho | ho
   ·exact absurd h7 (hz o ho)
   ·rcases List.mem_cons.1 ho with e | ho
    ·subst e
     exact .inr ⟨S.xs,qN0 S.clock,S.clock,qZ4 S,rfl,hS.all (by omega)⟩
    ·rcases List.mem_cons.1 ho with e | ho
     ·subst e;cases h7
     ·exact absurd h7 (hs o ho)
  have:=qVo (ldB S) K sb so cap (qXm S z s) w h3 h4 (by omega) hT hLO (λi e v clock ps o w0 ho hst hE hi hn hT0 hT1=>qRw (ldB S) _ e v clock ps o w0 hE hi hn hT0 hT1 (λ_ x hx=>by
       have hex:EX (qIw (ldB S) ws0 ((qXm S z s).take i)):=zEg (ldB S) (λb s' hb=>by rw[hld b s' hb];exact c1.x) _ (n:=(K:Int)) (λx hx=>by simp[ws0]at hx) (inv0.mono (by omega)) (by omega) (λj o ho=>hLO j o (by rw[List.getElem?_take]at ho;split at ho;exact ho;cases ho))
       rw[<-hst]at hex
       have hsi:=hi.sers x hx
       exact qJd (hex x hx) hsi (by have h1:=hsi.rela;have h2:=hsi.accn;omega)) (hmem o (List.mem_of_getElem? ho)))
  rw[hrun.1,hrun.2]at this
  exact this
end
end Go.Proofs.YtahnliehdjncdabGreatDoor
